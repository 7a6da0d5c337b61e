/- The contract of the document's Names, walked. -/
import Derived.Test.YtlklngkgkfdfeaaStrRef
namespace Go.Proofs.Ytlklngkgkfdfeaa
open Go.RowKit Go.Maps
set_option linter.unusedVariables false

/-- A name on the way to what lies ahead of its first nought. -/
def Stp (x : List UInt8) (k : Nat) (S : ByteArray) (g : Nat) : Prop :=
  (k ≤ x.length ∧ g = x.length + 1 - k ∧ S = str x ∧ (0 : UInt8) ∉ x.take k) ∨ (S = str (nmO x) ∧ (nmO x).length < k)
theorem Stp.start (x : List UInt8) : Stp x 0 (str x) (x.length + 1) := .inl ⟨by omega, by omega, rfl, by simp⟩
theorem Stp.done {x : List UInt8} {k : Nat} {S : ByteArray} {g : Nat} (h : Stp x k S g) (hk : ¬ k < S.size) : S = str (nmO x) := by
  rcases h with ⟨h1, h2, h3, h4⟩ | ⟨h1, h2⟩
  · subst h3
    rw [str_size] at hk
    rw [List.take_of_length_le (by omega)] at h4
    rw [nmO_same h4]
  · exact h1
theorem Stp.on {x : List UInt8} {k : Nat} {S : ByteArray} {g : Nat} (h : Stp x k S g) (hk : k < S.size) : k < x.length ∧ g = x.length + 1 - k ∧ S = str x ∧ (0 : UInt8) ∉ x.take k := by
  rcases h with ⟨h1, h2, h3, h4⟩ | ⟨h1, h2⟩
  · subst h3
    rw [str_size] at hk
    exact ⟨hk, h2, rfl, h4⟩
  · subst h1
    rw [str_size] at hk
    omega
theorem Stp.hit {x : List UInt8} {k : Nat} (hk : x[k]? = some 0) (h4 : (0 : UInt8) ∉ x.take k) (g : Nat) : Stp x (k + 1) ((str x).extract 0 k) g := by
  have hlt := (List.getElem?_eq_some_iff.1 hk).1
  have e : nmO x = x.take k := by
    have h5 : x = x.take k ++ 0 :: x.drop (k + 1) := by
      have h3 : x[k] = 0 := (List.getElem?_eq_some_iff.1 hk).2
      rw [← h3, ← List.drop_eq_getElem_cons hlt, List.take_append_drop]
    conv => lhs; rw [h5]
    exact nmO_app _ h4
  refine .inr ⟨by rw [str_ext, e], ?_⟩
  rw [e]
  simp
  omega
theorem Stp.miss {x : List UInt8} {k : Nat} {c : UInt8} (hk : x[k]? = some c) (hc : c ≠ 0) (h4 : (0 : UInt8) ∉ x.take k) : Stp x (k + 1) (str x) (x.length + 1 - (k + 1)) := by
  obtain ⟨hlt, he⟩ := List.getElem?_eq_some_iff.1 hk
  refine .inl ⟨by omega, rfl, rfl, ?_⟩
  rw [List.take_succ_eq_append_getElem hlt, he]
  simp [h4, Ne.symm hc]

theorem u8_zero {c : UInt8} : ((c.toNat : Int) == 0) = decide (c = 0) := by
  rw [Bool.eq_iff_iff]
  simp only [beq_iff_eq, decide_eq_true_eq]
  constructor
  · intro h
    apply UInt8.toNat_inj.1
    have : c.toNat = 0 := by omega
    rw [this]; rfl
  · rintro rfl; rfl

theorem add_off0 (g i : Nat) : (⟨g, 0, none⟩ : Addr).add i = ⟨g, i, none⟩ := by unfold Addr.add; split <;> simp_all
theorem str_nil_emp : (str []).toList.isEmpty = true := by decide +kernel
theorem str_some_emp {l : List UInt8} (h : l ≠ []) : (str l).toList.isEmpty = false := by
  rw [ByteArray.toList_eq]
  cases l with
  | nil => exact absurd rfl h
  | cons a l => rfl

set_option maxHeartbeats 12800000 in
set_option maxRecDepth 20000 in
theorem rnames_any (a : Option Addr) (len cap : Nat) (ns : List (List UInt8)) (w : World) (r : Rs w a len cap ns) (hr : room ns ≤ 1000000) :
    Calls Try.prog 11 #[.slice a len cap] w fun e w' => ∃ v4 v5 v6 v7, e = .returned (.tuple #[v4, v5]) ∧ DSt w w.heap.size w' v4 v5 v6 v7 (bld ns) := by
  obtain ⟨i8, hi8, hz80, hz81, hz82⟩ := info_parts Try.info8
  obtain ⟨i0, hi, hz0, hz1, hz2⟩ := info_parts Try.info32
  obtain ⟨iS, hiS, hzS0, hzS1, hzS2⟩ := info_parts Try.infoS
  have hl := r.length
  have hle := r.le
  have hmx := r.max
  have HR := hide r
  have HRM := hide hr
  clear r hr
  go_enter Try.func11, Try.ntmps11
  go_upto_region 2 with fail
  have HO1 := hide (show (w.alloc (.cells #[.int .u8 0] 5)).ownsRow w.heap.size 5 1 (.slice (some ⟨w.heap.size, 0, none⟩) 1 1) 1 (cs8 [0]) from ⟨rfl, .inr ⟨w.heap.size, 1, _, rfl, Nat.le_refl _, heap_alloc_new w _, Nat.le_refl _, by unfold maxLen; omega, rfl, rfl⟩⟩)
  have HB1 := hide (show Below w.heap.size w (w.alloc (.cells #[.int .u8 0] 5)) from (Below.refl _ _).alloc (Nat.le_refl _) _)
  generalize hW1 : w.alloc (.cells #[.int .u8 0] 5) = W1 at *
  clear hW1
  go_wp2
  go_loopg [4, 5, 6, 7, 8] len (fun g t4 t5 t6 t7 i wr => ∃ (j : Nat) (v4 v5 v6 v7 : Value), j ≤ len ∧ g = len - j ∧ i = .int .i64 (j : Int) ∧ v4 = t4 ∧ v5 = t5 ∧ v6 = t6 ∧ v7 = t7 ∧ Hid (DSt w w.heap.size wr v4 v5 v6 v7 (bld (ns.take j))))
  case atStart => exact ⟨0, _, _, _, _, by omega, rfl, rfl, rfl, rfl, rfl, rfl, HO1.out, World.ownsRow_nil _ _ _ _, World.ownsRow_nil _ _ _ _, World.ownsRow_nil _ _ _ _, .inl rfl, HB1.out, Nat.le_refl _⟩
  case round =>
    obtain ⟨j, v4, v5, v6, v7, hj, hg, rfl, rfl, rfl, rfl, rfl, HS⟩ := hrel
    clear HO1 HB1
    by_cases hlt : j < len
    · obtain ⟨b, o, rfl, hc⟩ := (HR.out.below HS.out.bel).addr (by omega)
      have hcell := hc j hlt
      obtain ⟨x, hx⟩ : ∃ x, ns.getD j [] = x := ⟨_, rfl⟩
      rw [hx] at hcell
      have h1 := room_take ns j (by omega)
      have h2 := room_take_le ns (j + 1)
      have h3 := HRM.out
      have hgood := bld_good (ns.take j)
      have hT := bld_take ns j (by omega)
      rw [hx] at hT h1
      have ht1 := hgood.tab1
      have ht2 := hgood.tab
      have ht3 := hgood.at_
      have HG := hide hgood
      have hxl : x.length ≤ 1000000 := by omega
      have hnl := nmO_le x
      generalize hσ : bld (ns.take j) = σ at *
      have hrm : room (ns.take j) ≤ 1000000 := by omega
      generalize room (ns.take j) = rm at *
      generalize room (ns.take (j + 1)) = rm' at *
      have htl : σ.tab.length + x.length + 1 ≤ 1000000 := by omega
      have hal : σ.at_.length + 2 ≤ 1000000 := by omega
      obtain ⟨g4, c4, rfl, _, hlt4⟩ := HS.out.tab.form (by omega)
      have hsz := HS.out.size
      have HTS := hide hT
      clear hc h1 h2 h3 hgood hσ hx HRM hT ht1 ht2 ht3
      have HX : Hid (∀ (n : Nat) (h : n < (str x).size), x[n]? = some ((str x)[n]'h)) := hide (str_get x)
      have HST := hide (Stp.start x)
      generalize hX : str x = X at hcell HST
      clear hX
      go_wp2
      go_loopg [9, 10] (x.length + 1) (fun g sv kv wi => wi = wr ∧ ∃ (k : Nat) (S : ByteArray), sv = .string S ∧ kv = .int .i64 (k : Int) ∧ k ≤ x.length + 1 ∧ Hid (Stp x k S g))
      case atStart => exact ⟨rfl, 0, X, rfl, rfl, by omega, HST.out⟩
      case round =>
        obtain ⟨rfl, k, S, rfl, rfl, hk, HP⟩ := hrel
        clear HST
        by_cases hkl : k < S.size
        · obtain ⟨p1, p2, p3, p4⟩ := HP.out.on hkl
          subst p3
          have hxk := HX.out k hkl
          obtain ⟨c, hcc⟩ : ∃ c, (str x)[k]'hkl = c := ⟨_, rfl⟩
          have hy : (((str x)[k]'hkl).toNat : Int) = (c.toNat : Int) := by rw [hcc]
          rw [hcc] at hxk
          have hz := u8_zero (c := c)
          have HH : Hid (c = 0 → Stp x (k + 1) ((str x).extract 0 k) 0) := hide (fun e => Stp.hit (by rw [hxk, e]) p4 0)
          have HM : Hid (c ≠ 0 → Stp x (k + 1) (str x) (x.length + 1 - (k + 1))) := hide (fun e => Stp.miss hxk e p4)
          have hk2 : (k : Int) < ((str x).size : Int) := by omega
          have hss := str_size x
          clear hcc hxk p4 HP HX HS HG HTS
          generalize str x = S at *
          by_cases h0 : c = 0
          · rw [decide_eq_true h0] at hz
            have HN := hide (HH.out h0)
            clear HH HM h0
            go_wp2
            go_roundg 0
            case measure => omega
            case rel => exact ⟨rfl, k + 1, _, rfl, by go_num, by omega, HN.out⟩
          · rw [decide_eq_false h0] at hz
            have HN := hide (HM.out h0)
            clear HH HM h0
            go_wp2
            go_roundg (x.length + 1 - (k + 1))
            case measure => omega
            case rel => exact ⟨rfl, k + 1, _, rfl, by go_num, by omega, HN.out⟩
        · have hS := HP.out.done hkl
          have hk2 : ¬ ((k : Int) < (S.size : Int)) := by omega
          obtain ⟨s, hs⟩ : ∃ s, nmO x = s := ⟨_, rfl⟩
          rw [hs] at hS hnl
          have hss : S.size = s.length := by rw [hS]; exact str_size s
          have hhl : σ.had.length ≤ 1000000 := by have := HG.out.hadl; omega
          have HSE := hide hs
          clear hs HP HX hkl
          by_cases hs0 : s = []
          · subst hs0
            have HT : Hid (bld (ns.take (j + 1)) = ⟨σ.tab, σ.at_ ++ [0], σ.had⟩) := hide (by rw [HTS.out]; unfold St.step; rw [HSE.out]; rfl)
            have hE : S.toList.isEmpty = true := by rw [hS]; exact str_nil_emp
            clear hS HTS HSE HG hss
            go_upto_region 26 with fail
            go_wp2_with (at_builtin; refine wpList_append_own_at _ rfl _ _ 29 rfl w.heap.size 23 i0 (.int .u32 0) 1 4 Try.underlying29 hi hz0 hz1 hz2 rfl (by decide) _ _ _ rfl (HS.out.offs.alloc _) ⟨wr.heap.size, 0, none⟩ 1 1 [Value.int .u32 0] rfl rfl (by intro j u' hj; match j, hj with | 0, hj => simp at hj; subst hj; simp [Addr.add]) (by intro u' hu'; simp at hu'; subst hu'; rfl) (by unfold maxLen; (try simp only []); omega) (by (try simp only []); omega) (by simp; omega) ?_; intro v5' W5 r5 g5 n5 at5; refine Hid.out ?_)
            refine hide ?_
            have H5 := hide ((HS.out.grow0 ((Below.refl _ _).alloc (Nat.le_refl _) (.cells #[.int .u32 0] 23))).ofs (o := 0) r5 g5 at5)
            clear r5 g5 n5 at5 HS
            go_wp2
            go_roundg (len - (j + 1))
            case measure => omega
            case rel => exact ⟨j + 1, _, _, _, _, by omega, rfl, by go_num, rfl, rfl, rfl, rfl, by rw [HT.out]; exact H5.out⟩
          · have hE : S.toList.isEmpty = false := by rw [hS]; exact str_some_emp hs0
            have HCS : Hid (Lib.strCells S = cs8 s) := hide (by rw [hS]; exact cs8_str s)
            have HSS : Hid (str s = S) := hide hS.symm
            have HFL := hide (fnd_lst (had := σ.had) hs0)
            obtain ⟨tl, htl'⟩ : ∃ tl, σ.tab.length = tl := ⟨_, rfl⟩
            have HTN : Hid (fnd σ.had s = none → bld (ns.take (j + 1)) = ⟨σ.tab ++ (s ++ [0]), σ.at_ ++ [σ.tab.length], σ.had ++ [(s, σ.tab.length)]⟩) := hide (fun hf => by rw [HTS.out]; unfold St.step; rw [HSE.out, hf])
            have HTQ : Hid (∀ q, fnd σ.had s = some q → q ≤ 1000000 ∧ bld (ns.take (j + 1)) = ⟨σ.tab, σ.at_ ++ [q], σ.had⟩) := hide (fun q hf => ⟨by have := fnd_lt (by have := HG.out.tab1; have := HG.out.tab; omega) HG.out.had hf; omega, by rw [HTS.out]; unfold St.step; rw [HSE.out, hf]⟩)
            have HPO : Hid (∀ p ∈ σ.had, p.2 ≤ 1000000) := hide (fun p hp => by have := HG.out.had p hp; omega)
            clear hS HTS HSE HG hs0
            rcases Nat.eq_zero_or_pos σ.had.length with hh0 | hh0
            · obtain ⟨a6, c6, rfl⟩ := own_form HS.out.had
              have hh1 : σ.had = [] := List.eq_nil_of_length_eq_zero hh0
              have HT := hide (HTN.out (by rw [HFL.out, hh1]; rfl))
              have hh0' : ¬ ((0 : Int) < (σ.had.length : Int)) := by omega
              clear HTN HTQ HFL HPO hh1 hh0
              go_wp2
              go_loopg [11, 12, 13] 0 (fun g ov tv kv wi => wi = wr ∧ ov = .int .u32 0 ∧ tv = .bool false ∧ kv = .int .i64 0)
              case atStart => exact ⟨rfl, rfl, rfl, rfl⟩
              case round =>
                obtain ⟨rfl, rfl, rfl, rfl⟩ := hrel
                go_upto_region 24 with fail
                go_wp2_with (at_builtin; refine wpList_append_own _ rfl _ _ 28 rfl w.heap.size 9 iS (.string ⟨#[]⟩) 1 16 Try.underlying28 hiS hzS0 hzS1 hzS2 rfl (by decide) _ _ _ rfl (HS.out.had.alloc _) ⟨wr.heap.size, 0, none⟩ 1 1 [Value.string S] rfl rfl (by intro j u' hj; match j, hj with | 0, hj => simp at hj; subst hj; simp [Addr.add]) (by intro u' hu'; simp at hu'; subst hu'; rfl) (by unfold maxLen; (try simp only []); omega) (by (try simp only []); omega) (by simp; omega) ?_; intro u6 W6 r6 g6' n6; refine Hid.out ?_)
                refine hide ?_
                have R6 := hide r6
                have G6 := hide g6'
                have hz6 : w.heap.size ≤ W6.heap.size := by have := g6'.size; simp at this; omega
                have D1 := hide (HS.out.grow0 ((Below.refl _ _).alloc (Nat.le_refl _) (.cells #[.string S] 9)))
                have A7 := hide ((row_kept D1.out.had D1.out.at_ (by decide) g6').alloc (.cells #[.int .u32 (tl : Int)] 23))
                clear r6 g6' n6 HS
                go_wp2_with (at_builtin; refine wpList_append_own_at _ rfl _ _ 29 rfl w.heap.size 23 i0 (.int .u32 0) 1 4 Try.underlying29 hi hz0 hz1 hz2 rfl (by decide) _ _ _ rfl A7.out ⟨W6.heap.size, 0, none⟩ 1 1 [Value.int .u32 (tl : Int)] rfl rfl (by intro j u' hj; match j, hj with | 0, hj => simp at hj; subst hj; simp [Addr.add]) (by intro u' hu'; simp at hu'; subst hu'; rfl) (by unfold maxLen; (try simp only []); omega) (by (try simp only []); omega) (by simp; omega) ?_; intro u7 W8 r8 g8 n8 at8; refine Hid.out ?_)
                refine hide ?_
                have H8 := hide (D1.out.hads (s := s) (o := tl) (by rw [HSS.out]; exact R6.out) G6.out ((Below.refl _ _).alloc (Nat.le_refl _) (.cells #[.int .u32 (tl : Int)] 23)) r8 g8 at8)
                clear r8 g8 n8 at8 R6 G6 D1 A7
                have hz8 := H8.out.size
                go_upto_region 25 with fail
                go_wp2_with (at_builtin; refine Lib.wpList_append_own_string _ rfl _ _ 22 9 rfl w.heap.size 5 i8 Try.underlying22 Try.underlying9 hi8 hz80 hz81 hz82 _ _ _ rfl (show W8.ownsRow w.heap.size 5 1 (.slice (some ⟨g4, 0, none⟩) tl c4) tl (cs8 σ.tab) from htl' ▸ H8.out.tab) S rfl (by unfold maxLen; omega) (by omega) (by omega) ?_; intro v9 W9 r9 g9 n9; refine Hid.out ?_)
                refine hide ?_
                rw [HCS.out] at r9
                have H9 := hide (H8.out.tabs (l := s) r9 (htl'.symm ▸ g9))
                clear r9 g9 n9 H8
                have hz9 := H9.out.size
                go_wp2_with (at_builtin; refine wpList_append_own _ rfl _ _ 22 rfl w.heap.size 5 i8 (.int .u8 0) 1 1 Try.underlying22 hi8 hz80 hz81 hz82 rfl (by decide) _ _ _ rfl (H9.out.tab.alloc _) ⟨W9.heap.size, 0, none⟩ 1 1 [Value.int .u8 0] rfl rfl (by intro j u' hj; match j, hj with | 0, hj => simp at hj; subst hj; simp [Addr.add]) (by intro u' hu'; simp at hu'; subst hu'; rfl) (by unfold maxLen; simp; omega) (by simp; omega) (by simp; omega) ?_; intro v10 W10 r10 g10 n10; refine Hid.out ?_)
                refine hide ?_
                have H10 := hide ((H9.out.grow0 ((Below.refl _ _).alloc (Nat.le_refl _) (.cells #[.int .u8 0] 5))).tabs (l := [0]) r10 g10)
                clear r10 g10 n10 H9
                have hz10 := H10.out.size
                go_upto_region 26 with fail
                go_wp2_with (at_builtin; refine wpList_append_own_at _ rfl _ _ 29 rfl w.heap.size 23 i0 (.int .u32 0) 1 4 Try.underlying29 hi hz0 hz1 hz2 rfl (by decide) _ _ _ rfl (H10.out.offs.alloc _) ⟨W10.heap.size, 0, none⟩ 1 1 [Value.int .u32 (tl : Int)] rfl rfl (by intro j u' hj; match j, hj with | 0, hj => simp at hj; subst hj; simp [Addr.add]) (by intro u' hu'; simp at hu'; subst hu'; rfl) (by unfold maxLen; (try simp only []); omega) (by (try simp only []); omega) (by simp; omega) ?_; intro v5' W5 r5 g5 n5 at5; refine Hid.out ?_)
                refine hide ?_
                have H5 := hide ((H10.out.grow0 ((Below.refl _ _).alloc (Nat.le_refl _) (.cells #[.int .u32 (tl : Int)] 23))).ofs (o := tl) r5 g5 at5)
                clear r5 g5 n5 at5 H10
                go_wp2
                go_roundg (len - (j + 1))
                case measure => omega
                case rel => exact ⟨j + 1, _, _, _, _, by omega, rfl, by go_num, rfl, rfl, rfl, rfl, by rw [HT.out, htl', ← List.append_assoc]; exact H5.out⟩
            · obtain ⟨g6, c6, rfl, _, _⟩ := HS.out.had.form hh0
              obtain ⟨g7, c7, rfl, _, _⟩ := HS.out.at_.form hh0
              go_wp2
              go_loopg [11, 12, 13] σ.had.length (fun g ov tv kv wi => wi = wr ∧ ∃ (i q : Nat) (bb : Bool), i ≤ σ.had.length ∧ g = σ.had.length - i ∧ kv = .int .i64 (i : Int) ∧ ov = .int .u32 (q : Int) ∧ tv = .bool bb ∧ Hid (q = (lst (σ.had.take i) s).getD 0 ∧ bb = (lst (σ.had.take i) s).isSome))
              case atStart => exact ⟨rfl, 0, 0, false, by omega, by omega, rfl, rfl, rfl, ⟨rfl, rfl⟩⟩
              case round =>
                obtain ⟨rfl, i, q, bb, hi', rfl, rfl, rfl, rfl, HQ⟩ := hrel
                by_cases hil : i < σ.had.length
                · have hil' : (i : Int) < (σ.had.length : Int) := by omega
                  obtain ⟨pn, po, hp⟩ : ∃ pn po, σ.had[i] = (pn, po) := ⟨_, _, rfl⟩
                  have hpo := HPO.out _ (List.getElem_mem hil)
                  rw [hp] at hpo
                  have hpo' : po ≤ 1000000 := hpo
                  have q6 := HS.out.had.cells (g := g6) rfl i (.string (str pn)) (by simp [hil, hp])
                  have q7 := HS.out.at_.cells (g := g7) rfl i (.int .u32 (po : Int)) (by simp [hil, hp])
                  rw [add_off0] at q6
                  rw [add_off0] at q7
                  have HL := hide (lst_take σ.had i hil s)
                  rw [hp] at HL
                  by_cases hps : pn = s
                  · have hcm := bstr_yes (a := str pn) (b := S) (by rw [hps]; exact HSS.out)
                    have HN : Hid (po = (lst (σ.had.take (i + 1)) s).getD 0 ∧ true = (lst (σ.had.take (i + 1)) s).isSome) := hide (by rw [HL.out, if_pos hps]; exact ⟨rfl, rfl⟩)
                    clear HL HQ HPO HTN HTQ HFL hp hpo hps HS HCS HSS HR
                    generalize str pn = P at *
                    go_wp2
                    go_roundg (σ.had.length - (i + 1))
                    case measure => omega
                    case rel => exact ⟨rfl, i + 1, po, true, by omega, rfl, by go_num, rfl, rfl, HN.out⟩
                  · have hcm := bstr_no (a := str pn) (b := S) (fun e => hps (str_inj (by rw [e, HSS.out])))
                    have HN : Hid (q = (lst (σ.had.take (i + 1)) s).getD 0 ∧ bb = (lst (σ.had.take (i + 1)) s).isSome) := hide (by rw [HL.out, if_neg hps]; exact HQ.out)
                    clear HL HQ HPO HTN HTQ HFL hp hpo hps HS HCS HSS HR
                    generalize str pn = P at *
                    go_wp2
                    go_roundg (σ.had.length - (i + 1))
                    case measure => omega
                    case rel => exact ⟨rfl, i + 1, q, bb, by omega, rfl, by go_num, rfl, rfl, HN.out⟩
                · have hil' : ¬ ((i : Int) < (σ.had.length : Int)) := by omega
                  obtain ⟨e1, e2⟩ := HQ.out
                  rw [List.take_of_length_le (by omega), ← HFL.out] at e1 e2
                  cases hf : fnd σ.had s with
                  | some q' =>
                    rw [hf] at e1 e2
                    obtain ⟨hq1, hT⟩ := HTQ.out q' hf
                    obtain rfl : q = q' := e1
                    obtain rfl : bb = true := e2
                    have HT := hide hT
                    clear hT HTQ HTN HFL HPO HQ hf
                    go_upto_region 26 with fail
                    go_wp2_with (at_builtin; refine wpList_append_own_at _ rfl _ _ 29 rfl w.heap.size 23 i0 (.int .u32 0) 1 4 Try.underlying29 hi hz0 hz1 hz2 rfl (by decide) _ _ _ rfl (HS.out.offs.alloc _) ⟨wr.heap.size, 0, none⟩ 1 1 [Value.int .u32 (q : Int)] rfl rfl (by intro j u' hj; match j, hj with | 0, hj => simp at hj; subst hj; simp [Addr.add]) (by intro u' hu'; simp at hu'; subst hu'; rfl) (by unfold maxLen; (try simp only []); omega) (by (try simp only []); omega) (by simp; omega) ?_; intro v5' W5 r5 g5 n5 at5; refine Hid.out ?_)
                    refine hide ?_
                    have H5 := hide ((HS.out.grow0 ((Below.refl _ _).alloc (Nat.le_refl _) (.cells #[.int .u32 (q : Int)] 23))).ofs (o := q) r5 g5 at5)
                    clear r5 g5 n5 at5 HS
                    go_wp2
                    go_roundg (len - (j + 1))
                    case measure => omega
                    case rel => exact ⟨j + 1, _, _, _, _, by omega, rfl, by go_num, rfl, rfl, rfl, rfl, by rw [HT.out]; exact htl' ▸ H5.out⟩
                  | none =>
                    rw [hf] at e1 e2
                    obtain rfl : q = 0 := e1
                    obtain rfl : bb = false := e2
                    have HT := hide (HTN.out hf)
                    clear HTQ HTN HFL HPO HQ hf
                    go_upto_region 24 with fail
                    go_wp2_with (at_builtin; refine wpList_append_own _ rfl _ _ 28 rfl w.heap.size 9 iS (.string ⟨#[]⟩) 1 16 Try.underlying28 hiS hzS0 hzS1 hzS2 rfl (by decide) _ _ _ rfl (HS.out.had.alloc _) ⟨wr.heap.size, 0, none⟩ 1 1 [Value.string S] rfl rfl (by intro j u' hj; match j, hj with | 0, hj => simp at hj; subst hj; simp [Addr.add]) (by intro u' hu'; simp at hu'; subst hu'; rfl) (by unfold maxLen; (try simp only []); omega) (by (try simp only []); omega) (by simp; omega) ?_; intro u6 W6 r6 g6' n6; refine Hid.out ?_)
                    refine hide ?_
                    have R6 := hide r6
                    have G6 := hide g6'
                    have hz6 : w.heap.size ≤ W6.heap.size := by have := g6'.size; simp at this; omega
                    have D1 := hide (HS.out.grow0 ((Below.refl _ _).alloc (Nat.le_refl _) (.cells #[.string S] 9)))
                    have A7 := hide ((row_kept D1.out.had D1.out.at_ (by decide) g6').alloc (.cells #[.int .u32 (tl : Int)] 23))
                    clear r6 g6' n6 HS
                    go_wp2_with (at_builtin; refine wpList_append_own_at _ rfl _ _ 29 rfl w.heap.size 23 i0 (.int .u32 0) 1 4 Try.underlying29 hi hz0 hz1 hz2 rfl (by decide) _ _ _ rfl A7.out ⟨W6.heap.size, 0, none⟩ 1 1 [Value.int .u32 (tl : Int)] rfl rfl (by intro j u' hj; match j, hj with | 0, hj => simp at hj; subst hj; simp [Addr.add]) (by intro u' hu'; simp at hu'; subst hu'; rfl) (by unfold maxLen; (try simp only []); omega) (by (try simp only []); omega) (by simp; omega) ?_; intro u7 W8 r8 g8 n8 at8; refine Hid.out ?_)
                    refine hide ?_
                    have H8 := hide (D1.out.hads (s := s) (o := tl) (by rw [HSS.out]; exact R6.out) G6.out ((Below.refl _ _).alloc (Nat.le_refl _) (.cells #[.int .u32 (tl : Int)] 23)) r8 g8 at8)
                    clear r8 g8 n8 at8 R6 G6 D1 A7
                    have hz8 := H8.out.size
                    go_upto_region 25 with fail
                    go_wp2_with (at_builtin; refine Lib.wpList_append_own_string _ rfl _ _ 22 9 rfl w.heap.size 5 i8 Try.underlying22 Try.underlying9 hi8 hz80 hz81 hz82 _ _ _ rfl (show W8.ownsRow w.heap.size 5 1 (.slice (some ⟨g4, 0, none⟩) tl c4) tl (cs8 σ.tab) from htl' ▸ H8.out.tab) S rfl (by unfold maxLen; omega) (by omega) (by omega) ?_; intro v9 W9 r9 g9 n9; refine Hid.out ?_)
                    refine hide ?_
                    rw [HCS.out] at r9
                    have H9 := hide (H8.out.tabs (l := s) r9 (htl'.symm ▸ g9))
                    clear r9 g9 n9 H8
                    have hz9 := H9.out.size
                    go_wp2_with (at_builtin; refine wpList_append_own _ rfl _ _ 22 rfl w.heap.size 5 i8 (.int .u8 0) 1 1 Try.underlying22 hi8 hz80 hz81 hz82 rfl (by decide) _ _ _ rfl (H9.out.tab.alloc _) ⟨W9.heap.size, 0, none⟩ 1 1 [Value.int .u8 0] rfl rfl (by intro j u' hj; match j, hj with | 0, hj => simp at hj; subst hj; simp [Addr.add]) (by intro u' hu'; simp at hu'; subst hu'; rfl) (by unfold maxLen; simp; omega) (by simp; omega) (by simp; omega) ?_; intro v10 W10 r10 g10 n10; refine Hid.out ?_)
                    refine hide ?_
                    have H10 := hide ((H9.out.grow0 ((Below.refl _ _).alloc (Nat.le_refl _) (.cells #[.int .u8 0] 5))).tabs (l := [0]) r10 g10)
                    clear r10 g10 n10 H9
                    have hz10 := H10.out.size
                    go_upto_region 26 with fail
                    go_wp2_with (at_builtin; refine wpList_append_own_at _ rfl _ _ 29 rfl w.heap.size 23 i0 (.int .u32 0) 1 4 Try.underlying29 hi hz0 hz1 hz2 rfl (by decide) _ _ _ rfl (H10.out.offs.alloc _) ⟨W10.heap.size, 0, none⟩ 1 1 [Value.int .u32 (tl : Int)] rfl rfl (by intro j u' hj; match j, hj with | 0, hj => simp at hj; subst hj; simp [Addr.add]) (by intro u' hu'; simp at hu'; subst hu'; rfl) (by unfold maxLen; (try simp only []); omega) (by (try simp only []); omega) (by simp; omega) ?_; intro v5' W5 r5 g5 n5 at5; refine Hid.out ?_)
                    refine hide ?_
                    have H5 := hide ((H10.out.grow0 ((Below.refl _ _).alloc (Nat.le_refl _) (.cells #[.int .u32 (tl : Int)] 23))).ofs (o := tl) r5 g5 at5)
                    clear r5 g5 n5 at5 H10
                    go_wp2
                    go_roundg (len - (j + 1))
                    case measure => omega
                    case rel => exact ⟨j + 1, _, _, _, _, by omega, rfl, by go_num, rfl, rfl, rfl, rfl, by rw [HT.out, htl', ← List.append_assoc]; exact H5.out⟩
    · obtain rfl : j = len := by omega
      have HE := hide (show bld (ns.take j) = bld ns by rw [List.take_of_length_le (by omega)])
      go_wp2
      go_ret2
      exact ⟨_, _, _, _, rfl, by rw [← HE.out]; exact HS.out⟩

end Go.Proofs.Ytlklngkgkfdfeaa
