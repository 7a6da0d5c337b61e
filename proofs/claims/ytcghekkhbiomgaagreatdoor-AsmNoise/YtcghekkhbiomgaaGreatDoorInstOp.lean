/- The contract of package inst's operation: which operation a word is, found by a map of keys. -/
import Derived.Test.YtcghekkhbiomgaaGreatDoorInstKey
namespace Go.Proofs.YtcghekkhbiomgaaGreatDoor
open Go.RowKit Go.Maps
set_option linter.unusedVariables false
set_option maxRecDepth 100000

theorem kl_inj {a b c a' b' c' : Int} (ha : 0 ≤ a ∧ a ≤ 4294967295) (hb : 0 ≤ b ∧ b ≤ 4294967295) (hc : 0 ≤ c ∧ c ≤ 4294967295) (ha' : 0 ≤ a' ∧ a' ≤ 4294967295) (hb' : 0 ≤ b' ∧ b' ≤ 4294967295) (hc' : 0 ≤ c' ∧ c' ≤ 4294967295)
    (h : kl a b c = kl a' b' c') : a = a' ∧ b = b' ∧ c = c' := by
  have h1 := kl_of ha.1 ha.2 hb.1 hb.2 hc.1 hc.2
  have h2 := kl_of ha'.1 ha'.2 hb'.1 hb'.2 hc'.1 hc'.2
  rw [← h] at h2
  have := lawKey.inj h1 h2
  simpa [kv] using this

noncomputable def kx (x : Int) : Lit := kl (cd x) (ke2 x) (ke3 x)
theorem kx_of {x : Int} (h0 : 0 ≤ x) (h1 : x ≤ 4294967295) : keyOf Tryz.prog 105 (kv (cd x) (ke2 x) (ke3 x)) = some (kx x) := by
  have b1 := cd_bd x
  have b2 := ke2_bd x
  have b3 := ke3_bd h0 h1
  exact kl_of b1.1 (by omega) b2.1 (by omega) b3.1 (by omega)
theorem kx_inj {x y : Int} (h0 : 0 ≤ x) (h1 : x ≤ 4294967295) (g0 : 0 ≤ y) (g1 : y ≤ 4294967295) (h : kx x = kx y) : cd x = cd y ∧ ke2 x = ke2 y ∧ ke3 x = ke3 y := by
  have b1 := cd_bd x
  have b2 := ke2_bd x
  have b3 := ke3_bd h0 h1
  have c1 := cd_bd y
  have c2 := ke2_bd y
  have c3 := ke3_bd g0 g1
  exact kl_inj ⟨b1.1, by omega⟩ ⟨b2.1, by omega⟩ ⟨b3.1, by omega⟩ ⟨c1.1, by omega⟩ ⟨c2.1, by omega⟩ ⟨c3.1, by omega⟩ h

/-- The map behind the first n operations. -/
noncomputable def Cm (x : Int) : Nat → DataW Unit
  | 0 => .map []
  | n + 1 => if cd (wd (n + 1)) = cd x ∧ ke3 (wd (n + 1)) = ke3 x then (Cm x n).put (kx (wd (n + 1))) (.lit (.int .i64 ((n + 1 : Nat) : Int))) else Cm x n

theorem Cm_map (x : Int) : ∀ n, IsMap (Cm x n)
  | 0 => isMap_empty
  | n + 1 => by unfold Cm; split; exact (Cm_map x n).put _ _; exact Cm_map x n

theorem keys_apart : ∀ j, j < 66 → ∀ k, k < 66 → (cd (wd j) = cd (wd k) ∧ ke2 (wd j) = ke2 (wd k) ∧ ke3 (wd j) = ke3 (wd k) ∧ 1 ≤ j ∧ 1 ≤ k) → j = k := by decide +kernel
theorem Mt_one {x : Int} {j k : Nat} (hj : 1 ≤ j) (hj' : j < 66) (hk : 1 ≤ k) (hk' : k < 66) (h : Mt j x) (h' : Mt k x) : j = k :=
  keys_apart j hj' k hk' ⟨h.1.trans h'.1.symm, h.2.1.trans h'.2.1.symm, h.2.2.trans h'.2.2.symm, hj, hk⟩

theorem kx_key {x : Int} (h0 : 0 ≤ x) (h1 : x ≤ 4294967295) : WideAt.IsKeyLit (kx x) := lawKey.key (kx_of h0 h1)

theorem Cm_none {x : Int} (h0 : 0 ≤ x) (h1 : x ≤ 4294967295) : ∀ n, (∀ j, 1 ≤ j → j ≤ n → ¬ Mt j x) → Maps.has (Cm x n) (kx x) = false
  | 0, _ => rfl
  | n + 1, h => by
    have ih := Cm_none h0 h1 n (fun j h2 h3 => h j h2 (by omega))
    unfold Cm
    split
    · rename_i hc
      rw [has_put_other, ih]
      intro he
      have := kx_inj (wd_bd (n + 1)).1 (wd_bd (n + 1)).2 h0 h1 he.symm
      exact h (n + 1) (by omega) (by omega) this
    · exact ih
theorem Cm_one {x : Int} (h0 : 0 ≤ x) (h1 : x ≤ 4294967295) {k : Nat} (hk : 1 ≤ k) (hM : Mt k x) : ∀ n, k ≤ n → n < 66 → Maps.has (Cm x n) (kx x) = true ∧ (Cm x n).atKey (kx x) (.lit (.int .i64 0)) = .lit (.int .i64 k)
  | 0, h, _ => by omega
  | n + 1, h, h' => by
    by_cases he : k = n + 1
    · subst he
      have e : kx (wd (n + 1)) = kx x := by unfold kx; rw [hM.1, hM.2.1, hM.2.2]
      unfold Cm
      rw [if_pos ⟨hM.1, hM.2.2⟩, e]
      exact ⟨has_put_same (Cm_map x n) (kx_key h0 h1) _, atKey_put_same (Cm_map x n) (kx_key h0 h1) _ _⟩
    · have ih := Cm_one h0 h1 hk hM n (by omega) (by omega)
      unfold Cm
      split
      · have hne : kx x ≠ kx (wd (n + 1)) := fun e => by
          have := kx_inj (wd_bd (n + 1)).1 (wd_bd (n + 1)).2 h0 h1 e.symm
          exact he (Mt_one hk (by omega) (by omega) (by omega) hM this)
        rw [has_put_other hne, atKey_put_other hne]
        exact ih
      · exact ih

/-- Which operation a word is; 0: none. -/
def IsOp (x : Int) (o : Nat) : Prop := (o = 0 ∧ ∀ j, 1 ≤ j → j < 66 → ¬ Mt j x) ∨ (1 ≤ o ∧ o < 66 ∧ Mt o x)
theorem isOp_ex (x : Int) : ∃ o, IsOp x o := by
  by_cases h : ∃ j, 1 ≤ j ∧ j < 66 ∧ Mt j x
  · obtain ⟨j, h1, h2, h3⟩ := h
    exact ⟨j, Or.inr ⟨h1, h2, h3⟩⟩
  · exact ⟨0, Or.inl ⟨rfl, fun j h1 h2 h3 => h ⟨j, h1, h2, h3⟩⟩⟩
theorem IsOp.has {x : Int} (h0 : 0 ≤ x) (h1 : x ≤ 4294967295) {o : Nat} (h : IsOp x o) : Maps.has (Cm x 65) (kx x) = decide (o ≠ 0) ∧ (Cm x 65).atKey (kx x) (.lit (.int .i64 0)) = .lit (.int .i64 o) := by
  rcases h with ⟨rfl, h⟩ | ⟨h2, h3, h4⟩
  · have := Cm_none h0 h1 65 (fun j h2 h3 => h j h2 (by omega))
    exact ⟨by rw [this]; rfl, atKey_of_not_has this _⟩
  · have := Cm_one h0 h1 h2 h4 65 (by omega) (by omega)
    exact ⟨by rw [this.1]; simp; omega, this.2⟩

theorem cell_alloc {W : World} {o : Obj} {p : Addr} {v : Value} (h : W.cell? p = some v) : (W.alloc o).cell? p = some v := (World.cell?_alloc_lt _ _ _ (World.block_lt_of_cell? _ _ h)).trans h
theorem cell_grown {W W' : World} {b : Nat} (hg : W.grownBy W' (some b)) {p : Addr} {v : Value} (h : W.cell? p = some v) (hp : p.block ≠ b) : W'.cell? p = some v :=
  (World.cell?_of_block (w := W) (hg.block p.block (World.block_lt_of_cell? _ _ h) (fun e => hp (Option.some.inj e)))).trans h

set_option maxHeartbeats 1600000 in
theorem op_any (x : Int) (o : Nat) (w : World) (h0 : 0 ≤ x) (h1 : x ≤ 4294967295) (ho : IsOp x o) (hL : Laid w) :
    Calls Tryz.prog 61 #[.int .u32 x] w fun e w' => e = .returned (.tuple #[.int .i64 o, .bool (decide (o ≠ 0))]) ∧ Below w.heap.size w w' := by
  have hmm := @run_makeMap Tryz.prog
  have HK := hide (fun w => key_any x w h0 h1)
  have HKX := hide (kx_of h0 h1)
  have HH := hide (ho.has h0 h1)
  have HCM := hide (show ∀ n, Cm x (n + 1) = if cd (wd (n + 1)) = cd x ∧ ke3 (wd (n + 1)) = ke3 x then (Cm x n).put (kx (wd (n + 1))) (.lit (.int .i64 ((n + 1 : Nat) : Int))) else Cm x n from fun n => rfl)
  have HC0 := hide (show Cm x 0 = .map [] from rfl)
  have b1 := cd_bd x
  have b2 := ke2_bd x
  have b3 := ke3_bd h0 h1
  have HL := hide hL
  clear hL ho
  generalize Cm x = C at *
  generalize kx x = l at *
  generalize cd x = c at *
  generalize ke2 x = f at *
  generalize ke3 x = u at *
  go_enter Tryz.func61, Tryz.ntmps61
  go_wp2_with fail
  refine (HK.out _).mono ?_
  rintro e W1 ⟨rfl, hB1⟩
  have HB1 := hide hB1
  clear hB1 HK
  go_wp2
  go_loopw [6] (fun i wr => ∃ k : Nat, 1 ≤ k ∧ k ≤ 66 ∧ i = .int .i64 k ∧ wr.ownsMap Tryz.prog 105 (plainElem Tryz.prog 3) (W1.heap.size + 1) (k - 1) (C (k - 1)) ∧ wr.cell? ⟨W1.heap.size, 0, none⟩ = some (.int .u32 c) ∧
      wr.cell? ⟨W1.heap.size, 1, none⟩ = some (.int .u32 f) ∧ wr.cell? ⟨W1.heap.size, 2, none⟩ = some (.int .u32 u) ∧ Below w.heap.size w wr ∧ W1.heap.size + 1 < wr.heap.size)
    (fun i _ => 66 - (intOf i).toNat)
  case atStart =>
    refine ⟨1, by decide, by decide, rfl, ?_, by go_simp, by go_simp, by go_simp, ?_, by simp⟩
    · rw [HC0.out]
      have := World.ownsMap_made (H := Unit) (W1.alloc (.cells #[.int .u32 c, .int .u32 f, .int .u32 u] 105)) Tryz.prog 105 (plainElem Tryz.prog 3)
      simpa using this
    · exact (HB1.out.alloc HB1.out.size _).alloc (by have := HB1.out.size; simp; omega) _
  case round =>
    obtain ⟨k, hk1, hk, rfl, hown, q0, q1, q2, hbel, hsz⟩ := hrel
    have HO := hide hown
    have HB := hide hbel
    have HW := hide (HL.out.below hbel HL.out.1)
    clear hown hbel
    by_cases hlt : k < 66
    · have hlt' : (k : Int) < 66 := by omega
      have hcell := HW.out.2.1 k hlt
      obtain ⟨y, hy⟩ : ∃ y, y = wd k := ⟨_, rfl⟩
      have bw := wd_bd k
      rw [← hy] at hcell bw
      have HY := hide hy
      clear hy
      have HC := hide (fun w => code_any y w bw.1 bw.2)
      have HK := hide (fun w => key_any y w bw.1 bw.2)
      have HKY := hide (kx_of bw.1 bw.2)
      have c1 := cd_bd y
      have c2 := ke2_bd y
      have c3 := ke3_bd bw.1 bw.2
      have HN : Hid (C k = if cd y = c ∧ ke3 y = u then (C (k - 1)).put (kx y) (.lit (.int .i64 (k : Int))) else C (k - 1)) := by
        have := HCM.out (k - 1)
        rw [show k - 1 + 1 = k by omega, ← HY.out] at this
        exact this
      generalize kx y = ly at *
      generalize cd y = cy at *
      generalize ke2 y = fy at *
      generalize ke3 y = uy at *
      by_cases he : cy = c
      · have he' : (cy == c) = true := by simp [he]
        have HE := hide he
        clear he
        go_wp2_with fail
        go_quiet (first | (go_at_call 71; refine Calls.quiet_of_same (HC.out _)))
        clear HC
        go_wp2_with fail
        refine (HK.out _).mono ?_
        rintro e W2 ⟨rfl, hB2⟩
        have hB3 : Below wr.heap.size wr W2 := Below.trans (b := wr.drewN nq) ⟨rfl, rfl, rfl, Nat.le_refl _, fun _ _ => rfl⟩ hB2
        have hs2 := hB3.size
        have p0 := (hB3.cell (p := ⟨W1.heap.size, 0, none⟩) (by show W1.heap.size < _; omega)).trans q0
        have p1 := (hB3.cell (p := ⟨W1.heap.size, 1, none⟩) (by show W1.heap.size < _; omega)).trans q1
        have p2 := (hB3.cell (p := ⟨W1.heap.size, 2, none⟩) (by show W1.heap.size < _; omega)).trans q2
        have hm : W1.heap.size < W2.heap.size := by omega
        have HB2 := hide hB3
        clear hB2 hB3 HK
        have hown2 : (W2.alloc (.cells #[.int .u32 cy, .int .u32 fy, .int .u32 uy] 105)).ownsMap Tryz.prog 105 (plainElem Tryz.prog 3) (W1.heap.size + 1) (k - 1) (C (k - 1)) :=
          (HO.out.kept (row := none) (w' := W2) ⟨HB2.out.os, HB2.out.tape, HB2.out.output, HB2.out.size, fun i hi _ => HB2.out.block i hi⟩ (by simp)).alloc _
        have HO2 := hide hown2
        clear hown2
        by_cases hu : uy = u
        · have hu' : (uy == u) = true := by simp [hu]
          have HU := hide hu
          clear hu
          go_wp2_with (first
            | (at_mapUpdate; refine wpList_mapUpdate_own _ rfl _ _ _ 107 rfl 105 3 lawKey Tryz.underlying107 _ (W1.heap.size + 1) (k - 1) _ rfl HO2.out (by unfold maxLen; omega) _ _ ly rfl rfl HKY.out _ [] (plainElem_int Tryz.underlying3 (WalkArith.wf_i64 (by omega))) ?_; intro w1 hown1 hgrow1)
            | go_in)
          have g2 := hgrow1.size
          simp at g2
          have s1 := HB1.out.size
          go_roundw
          case rel =>
            refine ⟨k + 1, by omega, by omega, by go_num, ?_, cell_grown hgrow1 (cell_alloc p0) (by simp), cell_grown hgrow1 (cell_alloc p1) (by simp), cell_grown hgrow1 (cell_alloc p2) (by simp), ?_, by omega⟩
            · rw [show k + 1 - 1 = k by omega, HN.out, if_pos ⟨HE.out, HU.out⟩]
              rw [show k - 1 + 1 = k by omega] at hown1
              exact hown1
            · have hb := HB.out
              have := hb.size
              exact (((hb.trans (HB2.out.mono this)).alloc (by omega) _).grown hgrow1 (by simp; omega) (fun j hj => by cases hj; omega))
          case measure => simp [intOf]; omega
        · have hu' : (uy == u) = false := by simp [hu]
          have HU := hide hu
          clear hu
          go_wp2
          go_roundw
          case rel =>
            refine ⟨k + 1, by omega, by omega, by go_num, ?_, cell_alloc p0, cell_alloc p1, cell_alloc p2, ?_, by simp; omega⟩
            · rw [show k + 1 - 1 = k by omega, HN.out, if_neg (fun h => HU.out h.2)]
              exact HO2.out.mono (by omega)
            · have hb := HB.out
              have := hb.size
              exact (hb.trans (HB2.out.mono this)).alloc (by omega) _
          case measure => simp [intOf]; omega
      · have he' : (cy == c) = false := by simp [he]
        have HE := hide he
        clear he
        go_wp2_with fail
        go_quiet (first | (go_at_call 71; refine Calls.quiet_of_same (HC.out _)))
        go_wp2
        go_roundw
        case rel =>
          refine ⟨k + 1, by omega, by omega, by go_num, ?_, q0, q1, q2, HB.out.trans ⟨rfl, rfl, rfl, Nat.le_refl _, fun _ _ => rfl⟩, hsz⟩
          rw [show k + 1 - 1 = k by omega, HN.out, if_neg (fun h => HE.out h.1)]
          exact HO.out.mono (by omega)
        case measure => simp [intOf]; omega
    · have : k = 66 := by omega
      subst this
      go_wp2_with (first
        | (at_lookup; refine wpList_lookup_own_ok_int _ rfl _ _ 107 rfl 105 3 .i64 lawKey Tryz.underlying107 Tryz.underlying3 (zeroInt _) (W1.heap.size + 1) 65 (C 65) rfl HO.out (kv c f u) l rfl HKX.out ?_; intro c' hat hwc)
        | go_in)
      go_ret2
      have hh := HH.out
      rw [hat] at hh
      have hc : c' = (o : Int) := by
        have := hh.2
        injection this with this
        injection this
      rw [hc, hh.1]
      exact ⟨rfl, HB.out⟩

end Go.Proofs.YtcghekkhbiomgaaGreatDoor
