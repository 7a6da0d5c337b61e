/- The walk of StrOnce. -/
import Derived.Test.YtlklngkgkfdfeaaStrOnceW
namespace Go.Proofs.Ytlklngkgkfdfeaa
open Go.RowKit Go.Maps
set_option linter.unusedVariables false

set_option maxHeartbeats 12800000 in
set_option maxRecDepth 20000 in
theorem once_walk (a : Option Addr) (len cap : Nat) (ns : List (List UInt8)) (a1 : Option Addr) (len1 cap1 : Nat) (zs : List Int) (w : World) (r : Rs w a len cap ns) (hz : ∀ n ∈ ns, n.length ≤ 9223372036854775807) (r1 : Rd w a1 len1 cap1 zs) :
    Calls Try.prog 5 #[.slice a len cap, .slice a1 len1 cap1] w fun e w' => e = .returned (.bool true) ∧ Below w.heap.size w w' := by
  have hl := r.length
  have hle := r.le
  have hmx := r.max
  have hl1 := r1.length
  have hle1 := r1.le
  have hmx1 := r1.max
  have HR := hide r
  have HR1 := hide r1
  have HZ := hide hz
  clear r hz r1
  by_cases h10 : 10 < len
  · have h10' : (10 : Int) < (len : Int) := by omega
    go_enter Try.func5, Try.ntmps5
    go_wp2_with fail
    refine (known_9 _).mono ?_
    rintro e W1 ⟨rfl, hb⟩
    have HB := hide hb
    clear hb
    go_wp2
    go_ret
    exact ⟨rfl, HB.out⟩
  have h10' : (len : Int) ≤ 10 := by omega
  by_cases h11 : 10 < len1
  · have h11' : (10 : Int) < (len1 : Int) := by omega
    go_enter Try.func5, Try.ntmps5
    go_wp2_with fail
    refine (known_9 _).mono ?_
    rintro e W1 ⟨rfl, hb⟩
    have HB := hide hb
    clear hb
    go_wp2
    go_ret
    exact ⟨rfl, HB.out⟩
  have h11' : (len1 : Int) ≤ 10 := by omega
  obtain ⟨iS, hiS, hzS0, hzS1, hzS2⟩ := info_parts Try.infoS
  go_enter Try.func5, Try.ntmps5
  go_wp2_with fail
  refine (known_9 _).mono ?_
  rintro e W1 ⟨rfl, hb⟩
  have HB1 := hide hb
  have hzw1 := hb.size
  clear hb
  have H0 : Hid (∀ k, k < 0 → (ns.getD k []).length ≤ 60) := hide (fun k hk => by omega)
  go_wp2
  go_loopg [5] len (fun g kv wi => wi = W1 ∧ ∃ i : Nat, i ≤ len ∧ g = len - i ∧ kv = .int .i64 (i : Int) ∧ Hid (∀ k, k < i → (ns.getD k []).length ≤ 60))
  case atStart => exact ⟨rfl, 0, by omega, by omega, rfl, H0.out⟩
  case round =>
    obtain ⟨rfl, i, hi, rfl, rfl, HA⟩ := hrel
    clear H0
    by_cases hlt : i < len
    · obtain ⟨b, o, rfl, hc⟩ := (HR.out.below HB1.out).addr (by omega)
      have hcell := hc i hlt
      have hx := HZ.out (ns.getD i []) (by simp [show i < ns.length by omega])
      have hss := str_size (ns.getD i [])
      by_cases h60 : 60 < (ns.getD i []).length
      · generalize hxx : ns.getD i [] = x at *
        clear hxx hc
        have h60' : (60 : Int) < ((str x).size : Int) := by omega
        have hsz : (str x).size ≤ 9223372036854775807 := by omega
        generalize str x = S at *
        go_wp2
        go_ret
        exact ⟨rfl, HB1.out⟩
      · have HN : Hid (∀ k, k < i + 1 → (ns.getD k []).length ≤ 60) := hide (fun k hk => by
          rcases (show k < i ∨ k = i by omega) with h | rfl
          · exact HA.out k h
          · omega)
        generalize hxx : ns.getD i [] = x at *
        clear hxx hc HA
        have h60' : ((str x).size : Int) ≤ 60 := by omega
        generalize str x = S at *
        go_wp2
        go_roundg (len - (i + 1))
        case measure => omega
        case rel => exact ⟨rfl, i + 1, by omega, rfl, by go_num, HN.out⟩
    · have HAL : Hid (∀ k, k < ns.length → (ns.getD k []).length ≤ 60) := hide (fun k hk => HA.out k (by omega))
      clear HA
      go_upto_region 10 with fail
      have R1 := hide (HR.out.below HB1.out)
      go_wp2_with (at_builtin; refine wpList_append_rs rfl _ _ rfl w.heap.size (.slice none 0 0) 0 [] rfl (World.ownsRow_nil _ _ _ _) a len cap ns R1.out rfl (by omega) (by omega) ?_; intro v6 W2 r6 g6; refine Hid.out ?_)
      refine hide ?_
      have HB2 := hide (HB1.out.grown g6 hzw1 (fun j hj => by cases hj))
      rw [Nat.zero_add, List.nil_append] at r6
      have HO2 : Hid (W2.ownsRow w.heap.size 9 1 v6 (len + 0) (csN (ns ++ rep ns zs 0))) := hide (by rw [rep_zero, List.append_nil]; exact r6)
      clear r6 g6 R1 HB1 hzw1
      go_wp2
      go_loopg [6, 7] len1 (fun g lv kv wi => ∃ (i : Nat) (u6 : Value), i ≤ len1 ∧ g = len1 - i ∧ (0 < i → 0 < len) ∧ kv = .int .i64 (i : Int) ∧ u6 = lv ∧ Hid (wi.ownsRow w.heap.size 9 1 u6 (len + i) (csN (ns ++ rep ns zs i))) ∧ Hid (Below w.heap.size w wi))
      case atStart => exact ⟨0, _, by omega, by omega, by omega, rfl, rfl, HO2.out, HB2.out⟩
      case round =>
        obtain ⟨i, u6, hi, rfl, hpos, rfl, rfl, HO, HB⟩ := hrel
        clear HO2 HB2
        have hzB := HB.out.size
        by_cases hgo : i < len1 ∧ 0 < len
        · obtain ⟨hlt, hln⟩ := hgo
          have hlt' : (i : Int) < (len1 : Int) := by omega
          have hln' : (0 : Int) < (len : Int) := by omega
          obtain ⟨b, o, rfl, hc⟩ := (HR.out.below HB.out).addr (by omega)
          obtain ⟨b1, o1, rfl, hc1⟩ := (HR1.out.below HB.out).addr (by omega)
          have q1 := hc1 i hlt
          have hzb := HR1.out.bytes.at i
          have HSU := hide (rep_succ ns zs i (by omega))
          rw [← List.getD_eq_getElem?_getD] at hzb
          generalize zs.getD i 0 = z at *
          obtain ⟨t, ht⟩ : ∃ t : Nat, z.toNat % ns.length = t := ⟨_, rfl⟩
          have htl : t < len := by rw [← ht, hl]; exact Nat.mod_lt _ (by omega)
          have htz : z % (len : Int) = (t : Int) := by
            rw [← ht, hl]
            have : z = (z.toNat : Int) := by omega
            rw [this]
            simp
          have htz' : z.tmod (len : Int) = (t : Int) := by rw [Int.tmod_eq_emod_of_nonneg (by omega)]; exact htz
          have htl' : (t : Int) < (len : Int) := by omega
          have q0 := hc t htl
          rw [ht] at HSU
          generalize ns.getD t [] = x at *
          clear hc hc1 ht
          have HOX : Hid (csN (ns ++ rep ns zs (i + 1)) = csN (ns ++ rep ns zs i) ++ [.string (str x)]) := hide (by rw [HSU.out, ← List.append_assoc]; simp [csN])
          generalize str x = X at *
          clear HSU
          go_wp2_with (at_builtin; refine wpList_append_own _ rfl _ _ 28 rfl w.heap.size 9 iS (.string ⟨#[]⟩) 1 16 Try.underlying28 hiS hzS0 hzS1 hzS2 rfl (by decide) _ _ _ rfl (HO.out.alloc _) ⟨wr.heap.size, 0, none⟩ 1 1 [Value.string X] rfl rfl (by intro j u' hj; match j, hj with | 0, hj => simp at hj; subst hj; simp [Addr.add]) (by intro u' hu'; simp at hu'; subst hu'; rfl) (by unfold maxLen; omega) (by omega) (by simp; omega) ?_; intro v7 W7 r7 g7 n7; refine Hid.out ?_)
          refine hide ?_
          have HB7 := hide ((HB.out.alloc hzB (.cells #[.string X] 9)).grown g7 (by simp; omega) (own_lo HO.out))
          have HO7 : Hid (W7.ownsRow w.heap.size 9 1 v7 (len + (i + 1)) (csN (ns ++ rep ns zs (i + 1)))) := hide (by rw [HOX.out, ← Nat.add_assoc]; exact r7)
          clear r7 g7 n7 HO HB
          go_wp2
          go_roundg (len1 - (i + 1))
          case measure => omega
          case rel => exact ⟨i + 1, v7, by omega, rfl, by omega, by go_num, rfl, HO7.out, HB7.out⟩
        · have hstop : ¬ ((i : Int) < (len1 : Int)) ∨ ¬ ((0 : Int) < (len : Int)) := by omega
          obtain ⟨L, hL⟩ : ∃ L, ns ++ rep ns zs i = L := ⟨_, rfl⟩
          have hAgain := bld_again ns (rep ns zs i) (rep_found ns zs i (by omega))
          have hrl := rep_len ns zs i (by omega)
          have hrm1 := room_le (ns := ns) 60 HAL.out
          have hrm2 := room_le (ns := ns ++ rep ns zs i) 60 (rep_le ns zs i 60 HAL.out)
          have HAT : Hid (∀ k, k < i → (bld (ns ++ rep ns zs i)).at_.getD (len + k) 0 = (bld ns).at_.getD ((zs.getD k 0).toNat % len) 0) := hide (by
            intro k hk
            have e1 := rep_get ns zs i k hk (by omega)
            have e2 := (bld_ok ns).len
            have e3 := fnd_at ns ((zs.getD k 0).toNat % ns.length) (Nat.mod_lt _ (by omega))
            rw [← e1, ] at e3
            rw [hAgain]
            simp only []
            rw [List.getD_eq_getElem?_getD, List.getElem?_append_right (by omega), show len + k - (bld ns).at_.length = k by omega, List.getElem?_map]
            have e4 : (rep ns zs i)[k]? = some ((rep ns zs i).getD k []) := by simp [show k < (rep ns zs i).length by omega]
            rw [e4]
            simp only [Option.map_some, Option.getD_some]
            rw [e3, ← hl]
            rfl)
          have HAF : Hid (∀ k, k < len → (bld (ns ++ rep ns zs i)).at_.getD k 0 = (bld ns).at_.getD k 0) := hide (by
            intro k hk
            have e2 := (bld_ok ns).len
            rw [hAgain]
            simp only []
            rw [List.getD_eq_getElem?_getD, List.getD_eq_getElem?_getD, List.getElem?_append_left (by omega)])
          have HTB : Hid ((bld (ns ++ rep ns zs i)).tab = (bld ns).tab) := hide (by rw [hAgain])
          have HLN : Hid ((bld (ns ++ rep ns zs i)).at_.length = len + i) := hide (by rw [(bld_ok _).len, List.length_append, hrl, hl])
          have hrmL : room (ns ++ rep ns zs i) ≤ 10000 := by
            rw [List.length_append, hrl] at hrm2
            have : (ns.length + i) * 61 ≤ 20 * 61 := Nat.mul_le_mul_right _ (by omega)
            omega
          have hrmN : room ns ≤ 10000 := by
            have : ns.length * 61 ≤ 20 * 61 := Nat.mul_le_mul_right _ (by omega)
            omega
          clear hAgain hrl hrm1 hrm2 HAL
          rw [hL] at HO HAT HAF HTB HLN hrmL
          clear hL
          obtain ⟨a6, c6, rfl, r6⟩ := Rs.own HO.out
          have R6 := hide r6
          have hC1 := built_any _ _ _ ns _ (HR.out.below HB.out) (by omega)
          rw [(bld_ok ns).len, hl] at hC1
          obtain ⟨τ, hτ⟩ : ∃ τ, (bld ns).tab = τ := ⟨_, rfl⟩
          rw [hτ] at hC1 HTB
          obtain ⟨T, hT⟩ : ∃ T, τ.length = T := ⟨_, rfl⟩
          have hT0 : 1 ≤ T := by rw [← hT, ← hτ]; exact (bld_good ns).tab1
          have hTle : τ.length ≤ T ∧ T ≤ τ.length := by omega
          have hC1' := hC1
          rw [hT] at hC1'
          have HC1 := hide hC1'
          have HTB2 : Hid ((bld L).tab.length = T) := hide (by rw [HTB.out, hT])
          clear r6 hC1 hC1' hτ hT
          by_cases hi1 : i < len1
          · have hi1' : (i : Int) < (len1 : Int) := by omega
            have hln' : ¬ ((0 : Int) < (len : Int)) := by omega
            have hln0 : decide ((0 : Int) < (len : Int)) = false := by simp; omega
            clear hstop
            go_wp2_with fail
            refine HC1.out.mono ?_
            rintro e W3 ⟨a8, c8, a9, c9, rfl, r8, r9, hb3⟩
            have HB3 := hide (HB.out.trans (hb3.mono hzB))
            have R8 := hide r8
            have R9 := hide r9
            have O6 := hide (own_below HO.out hb3)
            have hC2 := built2_any _ _ _ L _ (R6.out.below hb3) (by omega)
            rw [HTB2.out, HTB.out, HLN.out] at hC2
            have HC2 := hide hC2
            clear r8 r9 hb3 hC2 HO HB HC1 R6
            go_wp2_with fail
            refine HC2.out.mono ?_
            rintro e W4 ⟨a10, c10, a11, c11, rfl, o10, r11, hb4⟩
            have HB4 := hide (HB3.out.trans (hb4.mono HB3.out.size))
            have R8' := hide (R8.out.below hb4)
            have R9' := hide (R9.out.below hb4)
            have O6' := hide (own_below O6.out hb4)
            have O10 := hide o10
            have R11 := hide r11
            have s8 := R8'.out.str
            have s10 := (Rd.cs8 o10).str
            have hS := bstr_yes (rfl : strOfNums (tabI τ) = strOfNums (tabI τ))
            have m8 := R8'.out.le
            have m9 := R9'.out.le
            have m9' := R9'.out.max
            have m11 := R11.out.le
            have m11' := R11.out.max
            generalize strOfNums (tabI τ) = S4 at s8 s10 hS
            clear o10 r11 hb4 HC2 R8 R9 O6 HB3
            go_wp2
            go_loopg [12] (len + i) (fun g kv wi => ∃ q : Nat, q ≤ len + i ∧ g = len + i - q ∧ kv = .int .i64 (q : Int) ∧ Hid (Below W4.heap.size W4 wi))
            case atStart => exact ⟨0, by omega, by omega, rfl, Below.refl _ _⟩
            case round =>
              obtain ⟨q, hq, rfl, rfl, HBi⟩ := hrel
              clear s8 s10 hS
              have HBw := hide (HB4.out.trans (HBi.out.mono HB4.out.size))
              have hzi := HBw.out.size
              have hz4 := HBi.out.size
              by_cases hlt : q < len + i
              · exact absurd hlt (by omega)
              · have hlt2 : ¬ ((q : Int) < ((len + i : Nat) : Int)) := by omega
                have P6 := hide (own_below O6'.out HBi.out)
                have P10 := hide (own_below O10.out HBi.out)
                clear O6' O10 R8' R9' R11 HAF HAT HR1
                go_upto_region 27 with fail
                go_wp2_with (at_builtin; refine wpList_append_own _ rfl _ _ 28 rfl w.heap.size 9 iS (.string ⟨#[]⟩) 1 16 Try.underlying28 hiS hzS0 hzS1 hzS2 rfl (by decide) _ _ _ rfl (P6.out.alloc _) ⟨wr.heap.size, 0, none⟩ 1 1 [Value.string ⟨#[97, 110, 100, 32, 111, 110, 101, 32, 109, 111, 114, 101]⟩] rfl rfl (by intro j u' hj; match j, hj with | 0, hj => simp at hj; subst hj; simp [Addr.add]) (by intro u' hu'; simp at hu'; subst hu'; rfl) (by unfold maxLen; omega) (by omega) (by simp; omega) ?_; intro v8 W8 r8 g8 n8; refine Hid.out ?_)
                refine hide ?_
                have HB8 := hide ((HBw.out.alloc hzi (.cells #[.string ⟨#[97, 110, 100, 32, 111, 110, 101, 32, 109, 111, 114, 101]⟩] 9)).grown g8 (by simp; omega) (own_lo P6.out))
                have Q10 := hide (row_kept (P6.out.alloc (.cells #[.string ⟨#[97, 110, 100, 32, 111, 110, 101, 32, 109, 111, 114, 101]⟩] 9)) (P10.out.alloc (.cells #[.string ⟨#[97, 110, 100, 32, 111, 110, 101, 32, 109, 111, 114, 101]⟩] 9)) (by decide) g8)
                have r8' : W8.ownsRow w.heap.size 9 1 v8 (len + i + 1) (csN (L ++ [[97, 110, 100, 32, 111, 110, 101, 32, 109, 111, 114, 101]])) := by
                  have e : csN (L ++ [[97, 110, 100, 32, 111, 110, 101, 32, 109, 111, 114, 101]]) = csN L ++ [Value.string ⟨#[97, 110, 100, 32, 111, 110, 101, 32, 109, 111, 114, 101]⟩] := by simp [csN]
                  rw [e]
                  exact r8
                obtain ⟨a14, c14, rfl, rs14⟩ := Rs.own r8'
                have hC3 := built_any _ _ _ (L ++ [[97, 110, 100, 32, 111, 110, 101, 32, 109, 111, 114, 101]]) _ rs14 (by rw [room_snoc]; simp; omega)
                obtain ⟨tt, htt⟩ := bld_prefix L [97, 110, 100, 32, 111, 110, 101, 32, 109, 111, 114, 101]
                rw [HTB.out] at htt
                rw [htt] at hC3
                have HC3 := hide hC3
                clear r8 g8 n8 r8' rs14 hC3 P6 P10 HBi HBw htt
                go_wp2_with fail
                refine HC3.out.mono ?_
                rintro e W9 ⟨a15, c15, a16, c16, rfl, r15, r16, hb9⟩
                have HB9 := hide (fun q => (HB8.out.trans (hb9.mono HB8.out.size)).trans ((bel_drewN' W9 q).mono (HB8.out.trans (hb9.mono HB8.out.size)).size))
                obtain ⟨b15, o15, rfl, _⟩ := r15.addr (by simp; omega)
                have rp : Rd W9 (some ⟨b15, o15, none⟩) T c15 (tabI τ) := by
                  have h1 := r15.part 0 T (by simp; omega)
                  have e1 : ((tabI (τ ++ tt)).drop 0).take T = tabI τ := by
                    rw [List.drop_zero]
                    unfold tabI
                    rw [List.map_append, List.take_left' (by simp; omega)]
                  rw [e1] at h1
                  simpa [Addr.add] using h1
                have s15 := fun q => (rp.below (bel_drewN' W9 q)).str
                have s10 := fun q => (((Rd.cs8 Q10.out).below hb9).below (bel_drewN' W9 q)).str
                have hS := bstr_yes (rfl : strOfNums (tabI τ) = strOfNums (tabI τ))
                have hl15 : T ≤ (τ ++ tt).length := by simp; omega
                have hm15 := r15.le
                have hm15' := r15.max
                generalize strOfNums (tabI τ) = S4 at s15 s10 hS
                obtain ⟨T15, hT15⟩ : ∃ T15, (τ ++ tt).length = T15 := ⟨_, rfl⟩
                rw [hT15] at hl15 hm15 ⊢
                clear hT15 r15 r16 hb9 HC3 Q10 HB8 rp
                go_upto_region 28 with fail
                go_quiet (fail)
                go_wp2
                go_ret
                exact ⟨rfl, HB9.out _⟩
          · have hi1' : ¬ ((i : Int) < (len1 : Int)) := by omega
            clear hstop
            go_wp2_with fail
            refine HC1.out.mono ?_
            rintro e W3 ⟨a8, c8, a9, c9, rfl, r8, r9, hb3⟩
            have HB3 := hide (HB.out.trans (hb3.mono hzB))
            have R8 := hide r8
            have R9 := hide r9
            have O6 := hide (own_below HO.out hb3)
            have hC2 := built2_any _ _ _ L _ (R6.out.below hb3) (by omega)
            rw [HTB2.out, HTB.out, HLN.out] at hC2
            have HC2 := hide hC2
            clear r8 r9 hb3 hC2 HO HB HC1 R6
            go_wp2_with fail
            refine HC2.out.mono ?_
            rintro e W4 ⟨a10, c10, a11, c11, rfl, o10, r11, hb4⟩
            have HB4 := hide (HB3.out.trans (hb4.mono HB3.out.size))
            have R8' := hide (R8.out.below hb4)
            have R9' := hide (R9.out.below hb4)
            have O6' := hide (own_below O6.out hb4)
            have O10 := hide o10
            have R11 := hide r11
            have s8 := R8'.out.str
            have s10 := (Rd.cs8 o10).str
            have hS := bstr_yes (rfl : strOfNums (tabI τ) = strOfNums (tabI τ))
            have m8 := R8'.out.le
            have m9 := R9'.out.le
            have m9' := R9'.out.max
            have m11 := R11.out.le
            have m11' := R11.out.max
            generalize strOfNums (tabI τ) = S4 at s8 s10 hS
            clear o10 r11 hb4 HC2 R8 R9 O6 HB3
            go_wp2
            go_loopg [12] (len + i) (fun g kv wi => ∃ q : Nat, q ≤ len + i ∧ g = len + i - q ∧ kv = .int .i64 (q : Int) ∧ Hid (Below W4.heap.size W4 wi))
            case atStart => exact ⟨0, by omega, by omega, rfl, Below.refl _ _⟩
            case round =>
              obtain ⟨q, hq, rfl, rfl, HBi⟩ := hrel
              clear s8 s10 hS
              have HBw := hide (HB4.out.trans (HBi.out.mono HB4.out.size))
              have hzi := HBw.out.size
              have hz4 := HBi.out.size
              by_cases hlt : q < len + i
              · have hlt' : (q : Int) < (len : Int) + (i : Int) := by omega
                have hlt2 : (q : Int) < ((len + i : Nat) : Int) := by omega
                obtain ⟨b11, o11, rfl, hc11⟩ := (R11.out.below HBi.out).addr (by omega)
                obtain ⟨b9, o9, rfl, hc9⟩ := (R9'.out.below HBi.out).addr (by omega)
                have q11 := hc11 q hlt
                have hat : ∀ (l : List Nat) (k : Nat), (atI l).getD k 0 = ((l.getD k 0 : Nat) : Int) := fun l k => by simp [atI, List.getD_eq_getElem?_getD]; cases l[k]? <;> rfl
                rw [hat] at q11
                by_cases hql : q < len
                · have hql' : (q : Int) < (len : Int) := by omega
                  have q9 := hc9 q hql
                  rw [hat] at q9
                  rw [HAF.out q hql] at q11
                  generalize (bld ns).at_.getD q 0 = y at *
                  have hge : decide ((len : Int) ≤ (q : Int)) = false := by simp; omega
                  clear hc11 hc9 hat
                  go_upto_region 25 with fail
                  go_quiet (fail)
                  have HB5 := hide (HBi.out.trans ((bel_drewN' wr nq).mono HBi.out.size))
                  clear q9 q11 HBi HBw
                  generalize wr.drewN nq = W5 at *
                  go_wp2
                  go_roundg (len + i - (q + 1))
                  case measure => omega
                  case rel => exact ⟨q + 1, by omega, rfl, by go_num, HB5.out⟩
                · have hql' : (len : Int) ≤ (q : Int) := by omega
                  obtain ⟨j, hj⟩ : ∃ j, q = len + j := ⟨q - len, by omega⟩
                  have hji : j < i := by omega
                  obtain ⟨b1, o1, rfl, hc1⟩ := (HR1.out.below HBw.out).addr (by omega)
                  have q1 := hc1 j (by omega)
                  have hzb := HR1.out.bytes.at j
                  rw [← List.getD_eq_getElem?_getD] at hzb
                  have hAT := HAT.out j hji
                  generalize zs.getD j 0 = z at *
                  obtain ⟨t, ht⟩ : ∃ t : Nat, z.toNat % len = t := ⟨_, rfl⟩
                  have htl : t < len := by rw [← ht]; exact Nat.mod_lt _ (by omega)
                  have htz : z % (len : Int) = (t : Int) := by
                    rw [← ht]
                    have : z = (z.toNat : Int) := by omega
                    rw [this]
                    simp
                  have htz' : z.tmod (len : Int) = (t : Int) := by rw [Int.tmod_eq_emod_of_nonneg (by omega)]; exact htz
                  have htl' : (t : Int) < (len : Int) := by omega
                  have q9 := hc9 t htl
                  rw [hat] at q9
                  rw [ht] at hAT
                  rw [hj, hAT, ← hj] at q11
                  generalize (bld ns).at_.getD t 0 = y at *
                  have hqj : (q : Int) - (len : Int) = (j : Int) := by omega
                  have hjl : (j : Int) < (len1 : Int) := by omega
                  have hqle : q ≤ len + j ∧ len + j ≤ q := by omega
                  clear hc11 hc9 hat hc1 ht hj hAT
                  go_upto_region 25 with fail
                  go_quiet (fail)
                  have HB5 := hide (HBi.out.trans ((bel_drewN' wr nq).mono HBi.out.size))
                  clear q9 q11 HBi HBw q1
                  generalize wr.drewN nq = W5 at *
                  go_wp2
                  go_roundg (len + i - (q + 1))
                  case measure => omega
                  case rel => exact ⟨q + 1, by omega, rfl, by go_num, HB5.out⟩
              · have hlt2 : ¬ ((q : Int) < ((len + i : Nat) : Int)) := by omega
                have P6 := hide (own_below O6'.out HBi.out)
                have P10 := hide (own_below O10.out HBi.out)
                clear O6' O10 R8' R9' R11 HAF HAT HR1
                go_upto_region 27 with fail
                go_wp2_with (at_builtin; refine wpList_append_own _ rfl _ _ 28 rfl w.heap.size 9 iS (.string ⟨#[]⟩) 1 16 Try.underlying28 hiS hzS0 hzS1 hzS2 rfl (by decide) _ _ _ rfl (P6.out.alloc _) ⟨wr.heap.size, 0, none⟩ 1 1 [Value.string ⟨#[97, 110, 100, 32, 111, 110, 101, 32, 109, 111, 114, 101]⟩] rfl rfl (by intro j u' hj; match j, hj with | 0, hj => simp at hj; subst hj; simp [Addr.add]) (by intro u' hu'; simp at hu'; subst hu'; rfl) (by unfold maxLen; omega) (by omega) (by simp; omega) ?_; intro v8 W8 r8 g8 n8; refine Hid.out ?_)
                refine hide ?_
                have HB8 := hide ((HBw.out.alloc hzi (.cells #[.string ⟨#[97, 110, 100, 32, 111, 110, 101, 32, 109, 111, 114, 101]⟩] 9)).grown g8 (by simp; omega) (own_lo P6.out))
                have Q10 := hide (row_kept (P6.out.alloc (.cells #[.string ⟨#[97, 110, 100, 32, 111, 110, 101, 32, 109, 111, 114, 101]⟩] 9)) (P10.out.alloc (.cells #[.string ⟨#[97, 110, 100, 32, 111, 110, 101, 32, 109, 111, 114, 101]⟩] 9)) (by decide) g8)
                have r8' : W8.ownsRow w.heap.size 9 1 v8 (len + i + 1) (csN (L ++ [[97, 110, 100, 32, 111, 110, 101, 32, 109, 111, 114, 101]])) := by
                  have e : csN (L ++ [[97, 110, 100, 32, 111, 110, 101, 32, 109, 111, 114, 101]]) = csN L ++ [Value.string ⟨#[97, 110, 100, 32, 111, 110, 101, 32, 109, 111, 114, 101]⟩] := by simp [csN]
                  rw [e]
                  exact r8
                obtain ⟨a14, c14, rfl, rs14⟩ := Rs.own r8'
                have hC3 := built_any _ _ _ (L ++ [[97, 110, 100, 32, 111, 110, 101, 32, 109, 111, 114, 101]]) _ rs14 (by rw [room_snoc]; simp; omega)
                obtain ⟨tt, htt⟩ := bld_prefix L [97, 110, 100, 32, 111, 110, 101, 32, 109, 111, 114, 101]
                rw [HTB.out] at htt
                rw [htt] at hC3
                have HC3 := hide hC3
                clear r8 g8 n8 r8' rs14 hC3 P6 P10 HBi HBw htt
                go_wp2_with fail
                refine HC3.out.mono ?_
                rintro e W9 ⟨a15, c15, a16, c16, rfl, r15, r16, hb9⟩
                have HB9 := hide (fun q => (HB8.out.trans (hb9.mono HB8.out.size)).trans ((bel_drewN' W9 q).mono (HB8.out.trans (hb9.mono HB8.out.size)).size))
                obtain ⟨b15, o15, rfl, _⟩ := r15.addr (by simp; omega)
                have rp : Rd W9 (some ⟨b15, o15, none⟩) T c15 (tabI τ) := by
                  have h1 := r15.part 0 T (by simp; omega)
                  have e1 : ((tabI (τ ++ tt)).drop 0).take T = tabI τ := by
                    rw [List.drop_zero]
                    unfold tabI
                    rw [List.map_append, List.take_left' (by simp; omega)]
                  rw [e1] at h1
                  simpa [Addr.add] using h1
                have s15 := fun q => (rp.below (bel_drewN' W9 q)).str
                have s10 := fun q => (((Rd.cs8 Q10.out).below hb9).below (bel_drewN' W9 q)).str
                have hS := bstr_yes (rfl : strOfNums (tabI τ) = strOfNums (tabI τ))
                have hl15 : T ≤ (τ ++ tt).length := by simp; omega
                have hm15 := r15.le
                have hm15' := r15.max
                generalize strOfNums (tabI τ) = S4 at s15 s10 hS
                obtain ⟨T15, hT15⟩ : ∃ T15, (τ ++ tt).length = T15 := ⟨_, rfl⟩
                rw [hT15] at hl15 hm15 ⊢
                clear hT15 r15 r16 hb9 HC3 Q10 HB8 rp
                go_upto_region 28 with fail
                go_quiet (fail)
                go_wp2
                go_ret
                exact ⟨rfl, HB9.out _⟩

end Go.Proofs.Ytlklngkgkfdfeaa
