/- The walk of StrBuilds: any names have just the document's table, and are got back. -/
import Derived.Test.YtlklngkgkfdfeaaStrFacts
namespace Go.Proofs.Ytlklngkgkfdfeaa
open Go.RowKit Go.Maps
set_option linter.unusedVariables false

theorem room_le {ns : List (List UInt8)} (c : Nat) (h : ∀ k, k < ns.length → (ns.getD k []).length ≤ c) : room ns ≤ 1 + ns.length * (c + 1) := by
  have : ∀ k, k ≤ ns.length → room (ns.take k) ≤ 1 + k * (c + 1) := by
    intro k
    induction k with
    | zero => intro _; simp [room]
    | succ k ih =>
      intro hk
      rw [room_take ns k (by omega), Nat.add_mul]
      have := ih (by omega)
      have := h k (by omega)
      omega
  have h := this ns.length (Nat.le_refl _)
  rwa [List.take_length] at h

set_option maxHeartbeats 12800000 in
set_option maxRecDepth 20000 in
theorem builds_walk (a : Option Addr) (len cap : Nat) (ns : List (List UInt8)) (w : World) (r : Rs w a len cap ns) (hz : ∀ n ∈ ns, n.length ≤ 9223372036854775807) :
    Calls Try.prog 4 #[.slice a len cap] w fun e w' => e = .returned (.bool true) ∧ Below w.heap.size w w' := by
  have hl := r.length
  have hle := r.le
  have hmx := r.max
  have HR := hide r
  have HZ := hide hz
  clear r hz
  by_cases h20 : 20 < len
  · have h20' : (20 : Int) < (len : Int) := by omega
    go_enter Try.func4, Try.ntmps4
    go_wp2_with fail
    refine (known_9 _).mono ?_
    rintro e W1 ⟨rfl, hb⟩
    have HB := hide hb
    clear hb
    go_wp2
    go_ret
    exact ⟨rfl, HB.out⟩
  · have h20' : (len : Int) ≤ 20 := by omega
    go_enter Try.func4, Try.ntmps4
    go_wp2_with fail
    refine (known_9 _).mono ?_
    rintro e W1 ⟨rfl, hb⟩
    have HB1 := hide hb
    clear hb
    have H0 : Hid (∀ k, k < 0 → (ns.getD k []).length ≤ 250) := hide (fun k hk => by omega)
    go_wp2
    go_loopg [3] len (fun g kv wi => wi = W1 ∧ ∃ i : Nat, i ≤ len ∧ g = len - i ∧ kv = .int .i64 (i : Int) ∧ Hid (∀ k, k < i → (ns.getD k []).length ≤ 250))
    case atStart => exact ⟨rfl, 0, by omega, by omega, rfl, H0.out⟩
    case round =>
      obtain ⟨rfl, i, hi, rfl, rfl, HA⟩ := hrel
      clear H0
      by_cases hlt : i < len
      · obtain ⟨b, o, rfl, hc⟩ := (HR.out.below HB1.out).addr (by omega)
        have hcell := hc i hlt
        have hx := HZ.out (ns.getD i []) (by simp [show i < ns.length by omega])
        have hss := str_size (ns.getD i [])
        by_cases h250 : 250 < (ns.getD i []).length
        · generalize hxx : ns.getD i [] = x at *
          clear hxx hc
          have h250' : (250 : Int) < ((str x).size : Int) := by omega
          have hsz : (str x).size ≤ 9223372036854775807 := by omega
          generalize str x = S at *
          go_wp2
          go_ret
          exact ⟨rfl, HB1.out⟩
        · have HN : Hid (∀ k, k < i + 1 → (ns.getD k []).length ≤ 250) := hide (fun k hk => by
            rcases (show k < i ∨ k = i by omega) with h | rfl
            · exact HA.out k h
            · omega)
          generalize hxx : ns.getD i [] = x at *
          clear hxx hc HA
          have h250' : ((str x).size : Int) ≤ 250 := by omega
          generalize str x = S at *
          go_wp2
          go_roundg (len - (i + 1))
          case measure => omega
          case rel => exact ⟨rfl, i + 1, by omega, rfl, by go_num, HN.out⟩
      · have hroom := room_le (ns := ns) 250 (fun k hk => HA.out k (by omega))
        have hr : room ns ≤ 1000000 := by omega
        have HRM := hide hr
        clear hroom hr HA
        go_wp2_with fail
        refine (built_any _ _ _ ns _ (HR.out.below HB1.out) HRM.out).mono ?_
        rintro e W2 ⟨a4, c4, a5, c5, rfl, r4, r5, hb2⟩
        have HB2 := hide (HB1.out.trans (hb2.mono HB1.out.size))
        have R4 := hide r4
        have R5 := hide r5
        clear r4 r5 hb2 HB1
        go_wp2_with fail
        refine (rnamed_any _ _ _ ns _ (HR.out.below HB2.out) HRM.out).mono ?_
        rintro e W3 ⟨a6, c6, a7, c7, rfl, r6, r7, hb3⟩
        have HB3 := hide (HB2.out.trans (hb3.mono HB2.out.size))
        have R4' := hide (R4.out.below hb3)
        have R5' := hide (R5.out.below hb3)
        have R7 := hide r7
        have s4 := R4'.out.str
        have s6 := r6.str
        have hS := bstr_yes (rfl : strOfNums (tabI (bld ns).tab) = strOfNums (tabI (bld ns).tab))
        have m4 := R4'.out.le
        have m5 := R5'.out.le
        have m5' := R5'.out.max
        have m7 := R7.out.le
        have m7' := R7.out.max
        have HOK := hide (bld_ok ns)
        have HGD := hide (bld_good ns)
        have hN : (bld ns).at_.length ≤ len ∧ len ≤ (bld ns).at_.length := by have := HOK.out.len; omega
        clear r6 r7 hb3 HB2 R4 R5
        generalize strOfNums (tabI (bld ns).tab) = S4 at *
        generalize hσ : bld ns = σ at *
        clear hσ
        obtain ⟨T, hT⟩ : ∃ T, σ.tab.length = T := ⟨_, rfl⟩
        obtain ⟨N, hNN⟩ : ∃ N, σ.at_.length = N := ⟨_, rfl⟩
        have HNN := hide hNN
        rw [hT] at s4 s6 m4 R4' ⊢
        rw [hNN] at m5 m7 R5' R7 hN ⊢
        clear hT hNN
        go_wp2
        go_loopg [8] N (fun g kv wi => ∃ q : Nat, q ≤ N ∧ g = N - q ∧ kv = .int .i64 (q : Int) ∧ Hid (Below W3.heap.size W3 wi))
        case atStart => exact ⟨0, by omega, by omega, rfl, Below.refl _ _⟩
        case round =>
          obtain ⟨q, hq, rfl, rfl, HBi⟩ := hrel
          clear s4 s6 hS
          have HBw := hide (HB3.out.trans (HBi.out.mono HB3.out.size))
          by_cases hlt : q < N
          · have hlt' : (q : Int) < (N : Int) := by omega
            obtain ⟨b5, o5, rfl, hc5⟩ := (R5'.out.below HBi.out).addr (by omega)
            obtain ⟨b7, o7, rfl, hc7⟩ := (R7.out.below HBi.out).addr (by omega)
            obtain ⟨b, o, rfl, hc⟩ := (HR.out.below HBw.out).addr (by omega)
            have q5 := hc5 q hlt
            have q7 := hc7 q hlt
            have q0 := hc q (by omega)
            have HG := hide (HOK.out.at_ q (by omega))
            obtain ⟨x, hx⟩ : ∃ x, ns.getD q [] = x := ⟨_, rfl⟩
            obtain ⟨y, hy⟩ : ∃ y, σ.at_.getD q 0 = y := ⟨_, rfl⟩
            have hy2 : (atI σ.at_).getD q 0 = (y : Int) := by
              rw [← hy]
              simp [atI, show q < σ.at_.length by have := HNN.out; omega]
            have hyl : y ≤ 1000000 := by
              have h1 : y ∈ σ.at_ := by
                rw [← hy]
                simp [show q < σ.at_.length by have := HNN.out; omega]
              have := HGD.out.ats y h1
              have := HRM.out
              omega
            have hxl : x.length ≤ 9223372036854775807 := by rw [← hx]; exact HZ.out _ (by simp [show q < ns.length by omega])
            rw [hy2] at q5 q7
            rw [hx] at q0 HG
            rw [hy] at HG
            have HG2 := hide (HG.out.get (nmO_clean x))
            have HX : Hid (∀ (n : Nat) (h : n < (str x).size), x[n]? = some ((str x)[n]'h)) := hide (str_get x)
            have HST := hide (Stp.start x)
            have hnl := nmO_le x
            clear hc5 hc7 hc hx hy hy2 HG
            generalize hXX : str x = X at q0 HST
            clear hXX
            go_upto_region 17 with fail
            go_quiet (fail)
            have HB5 := hide (HBi.out.trans ((bel_drewN' wr nq).mono HBi.out.size))
            have p5 : (wr.drewN nq).cell? ⟨b5, o5 + q, none⟩ = some (.int .u32 (y : Int)) := q5
            have p0 : (wr.drewN nq).cell? ⟨b, o + q, none⟩ = some (.string X) := q0
            clear q5 q7 q0 HBi HBw
            generalize wr.drewN nq = W5 at *
            go_wp2
            go_loopg [9, 10] (x.length + 1) (fun g sv kv wi => wi = W5 ∧ ∃ (k : Nat) (S : ByteArray), sv = .string S ∧ kv = .int .i64 (k : Int) ∧ k ≤ x.length + 1 ∧ Hid (Stp x k S g))
            case atStart => exact ⟨rfl, 0, X, rfl, rfl, by omega, HST.out⟩
            case round =>
              obtain ⟨rfl, k, S, rfl, rfl, hk, HP⟩ := hrel
              clear HST
              by_cases hkl : k < S.size
              · obtain ⟨p1, p2, p3, p4⟩ := HP.out.on hkl
                subst p3
                have hxk := HX.out k hkl
                obtain ⟨c, hcc⟩ : ∃ c, (str x)[k]'hkl = c := ⟨_, rfl⟩
                have hy : (((str x)[k]'hkl).toNat : Int) = (c.toNat : Int) := by rw [hcc]
                rw [hcc] at hxk
                have hz := u8_zero (c := c)
                have HH : Hid (c = 0 → Stp x (k + 1) ((str x).extract 0 k) 0) := hide (fun e => Stp.hit (by rw [hxk, e]) p4 0)
                have HM : Hid (c ≠ 0 → Stp x (k + 1) (str x) (x.length + 1 - (k + 1))) := hide (fun e => Stp.miss hxk e p4)
                have hk2 : (k : Int) < ((str x).size : Int) := by omega
                have hss := str_size x
                clear hcc hxk p4 HP HX HG2 HOK HGD R4' R5' R7 HR HZ HRM HNN
                generalize str x = S at *
                by_cases h0 : c = 0
                · rw [decide_eq_true h0] at hz
                  have HN := hide (HH.out h0)
                  clear HH HM h0
                  go_wp2
                  go_roundg 0
                  case measure => omega
                  case rel => exact ⟨rfl, k + 1, _, rfl, by go_num, by omega, HN.out⟩
                · rw [decide_eq_false h0] at hz
                  have HN := hide (HM.out h0)
                  clear HH HM h0
                  go_wp2
                  go_roundg (x.length + 1 - (k + 1))
                  case measure => omega
                  case rel => exact ⟨rfl, k + 1, _, rfl, by go_num, by omega, HN.out⟩
              · have hS := HP.out.done hkl
                have hk2 : ¬ ((k : Int) < (S.size : Int)) := by omega
                obtain ⟨s, hs⟩ : ∃ s, nmO x = s := ⟨_, rfl⟩
                rw [hs] at hS hnl HG2
                have hss : S.size = s.length := by rw [hS]; exact str_size s
                have hGG := get_any _ _ _ _ y _ (R4'.out.below HB5.out) (by omega)
                rw [HG2.out] at hGG
                have hcm := bstr_yes (rfl : S = S)
                clear hs HP HX hkl HG2 HOK HGD
                by_cases h2 : s.length ≤ 200
                · rw [if_pos h2, gtR_some, ← hS] at hGG
                  have HGG := hide hGG
                  have h2' : (S.size : Int) ≤ 200 := by omega
                  clear hGG hS
                  go_wp2_with fail
                  refine HGG.out.mono ?_
                  rintro e w' ⟨rfl, rfl⟩
                  clear HGG
                  go_wp2
                  go_roundg (N - (q + 1))
                  case measure => omega
                  case rel => exact ⟨q + 1, by omega, rfl, by go_num, HB5.out⟩
                · rw [if_neg h2, gtR_none] at hGG
                  have HGG := hide hGG
                  have h2' : decide ((S.size : Int) ≤ 200) = false := by simp; omega
                  clear hGG hS
                  go_wp2_with fail
                  refine HGG.out.mono ?_
                  rintro e w' ⟨rfl, rfl⟩
                  clear HGG
                  go_wp2
                  go_roundg (N - (q + 1))
                  case measure => omega
                  case rel => exact ⟨q + 1, by omega, rfl, by go_num, HB5.out⟩
          · go_wp2_with fail
            refine (strs_same _ _ _ ns _ (HR.out.below HBw.out)).mono ?_
            rintro e W9 ⟨rfl, hb9⟩
            have HB9 := hide (HBw.out.trans (hb9.mono HBw.out.size))
            clear hb9
            go_wp2
            go_ret
            exact ⟨rfl, HB9.out⟩

end Go.Proofs.Ytlklngkgkfdfeaa
