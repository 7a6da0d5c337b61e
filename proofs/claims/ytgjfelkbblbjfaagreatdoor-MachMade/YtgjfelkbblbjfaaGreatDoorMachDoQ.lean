/- The contract of package mach's call, and of do at the other operations. -/
import Derived.Test.YtgjfelkbblbjfaaGreatDoorJ13
import Derived.Test.YtgjfelkbblbjfaaGreatDoorMachLoad
import Derived.Test.YtgjfelkbblbjfaaGreatDoorMachDoP
namespace Go.Proofs.YtgjfelkbblbjfaaGreatDoor
open Go.RowKit Go.Maps
set_option linter.unusedVariables false
set_option maxRecDepth 100000

section
variable {w0 w w' : World} {m mm me : Nat} {M : Mc} {l : List (World → (Nat → Prop) → Prop)}

theorem stset_head {b pc : Nat} {k c t k' c' t' : Int} (h : w.heap[m]? = some (.cells #[.pointer (some ⟨mm, 0, none⟩), .pointer (some ⟨me, 0, none⟩), .map (some b), .int .u64 (pc : Int), .int .i64 k, .int .i64 c, .int .i64 t] 95 (0, 0))) :
    (((w.setCell ⟨m, 4, none⟩ (.int .i64 k')).setCell ⟨m, 5, none⟩ (.int .i64 c')).setCell ⟨m, 6, none⟩ (.int .i64 t')).heap[m]? = some (.cells #[.pointer (some ⟨mm, 0, none⟩), .pointer (some ⟨me, 0, none⟩), .map (some b), .int .u64 (pc : Int), .int .i64 k', .int .i64 c', .int .i64 t'] 95 (0, 0)) := by
  unfold World.setCell
  simp [Array.getElem?_modify, h]

/-- The machine's status is set. -/
theorem HD.ended {x : Nat → Int} {pc : Nat} {k c t : Int} {F : Nat → Prop} (h : HD m mm me x pc k c t w F) {k' c' t' : Int} (hk : InI k') (hc : InI c') (ht : InI t') :
    HD m mm me x pc k' c' t' (((w.setCell ⟨m, 4, none⟩ (.int .i64 k')).setCell ⟨m, 5, none⟩ (.int .i64 c')).setCell ⟨m, 6, none⟩ (.int .i64 t')) F ∧ Went F w F (((w.setCell ⟨m, 4, none⟩ (.int .i64 k')).setCell ⟨m, 5, none⟩ (.int .i64 c')).setCell ⟨m, 6, none⟩ (.int .i64 t')) := by
  obtain ⟨b, n, f, h⟩ := h
  have hK : Kept (fun k => k = m) w (((w.setCell ⟨m, 4, none⟩ (.int .i64 k')).setCell ⟨m, 5, none⟩ (.int .i64 c')).setCell ⟨m, 6, none⟩ (.int .i64 t')) :=
    (((Kept.refl (fun k => k = m) w).setCell ⟨m, 4, none⟩ (.int .i64 k') (Or.inl rfl)).setCell ⟨m, 5, none⟩ (.int .i64 c') (Or.inl rfl)).setCell ⟨m, 6, none⟩ (.int .i64 t') (Or.inl rfl)
  refine ⟨⟨b, n, f, ⟨stset_head h.head, h.map.kept (hK.block b (h.flt b h.fb) (fun e => h.mb e.symm)), h.cnt, h.val, ⟨h.fits.reg, h.fits.zero, h.fits.top, h.fits.place, hk, hc, ht⟩, h.fm, h.fb, fun k hk => Nat.lt_of_lt_of_le (h.flt k hk) hK.size⟩⟩, hK.mono (fun k hk => by subst hk; exact h.fm), fun k hk => Or.inl hk⟩
theorem MH.ended (h : MH w0 w m mm me M l) {k' c' t' : Int} (hk : InI k') (hc : InI c') (ht : InI t') : MH w0 (((w.setCell ⟨m, 4, none⟩ (.int .i64 k')).setCell ⟨m, 5, none⟩ (.int .i64 c')).setCell ⟨m, 6, none⟩ (.int .i64 t')) m mm me { M with kind := k', code := c', trap := t' } l := by
  obtain ⟨F, h1, h2⟩ := h.head
  have h3 := h1.ended hk hc ht
  exact h2 _ _ _ _ _ _ h3.1 h3.2
theorem MH.st (h : MH w0 w m mm me M l) : (w.cell? ⟨m, 4, none⟩ = some (.int .i64 M.kind) ∧ w.cell? ⟨m, 5, none⟩ = some (.int .i64 M.code) ∧ w.cell? ⟨m, 6, none⟩ = some (.int .i64 M.trap)) ∧ ∀ i, w.frozen? ⟨m, i, none⟩ = false := by
  obtain ⟨F, b, n, f, h1⟩ := h.hd
  exact ⟨⟨h1.cell 4, h1.cell 5, h1.cell 6⟩, h1.frozen⟩
theorem MH.lt (h : MH w0 w m mm me M l) : m < w.heap.size := by
  obtain ⟨F, h1⟩ := h.hd
  exact h1.flt m h1.fm

theorem call_exit (w : World) (h : MH w0 w m mm me M l) (hx : M.x 17 = 93) :
    Calls Tryz.prog 86 #[.pointer (some ⟨m, 0, none⟩)] w fun e w' => e = .returned (.int .i64 0) ∧ MH w0 w' m mm me { M with kind := 1, code := s64 (M.x 10), trap := 0 } l := by
  have HR17 := hide (mh_rg h 17 (by decide) 93 hx)
  obtain ⟨fd, hfd⟩ : ∃ fd, M.x 10 = fd := ⟨_, rfl⟩
  rw [hfd]
  have HR := hide (mh_rg h 10 (by decide) fd hfd)
  obtain ⟨⟨c4, c5, c6⟩, hz⟩ := h.st
  have z4 := hz 4
  have z5 := hz 5
  have z6 := hz 6
  have hw : wrap64 fd = s64 fd := wrap64_is fd
  have hb := s64_bd fd
  generalize s64 fd = g at *
  have H := hide (h.ended (k' := 1) (c' := g) (t' := 0) (by unfold InI; omega) hb (by unfold InI; omega))
  clear h hfd hz hb hx
  go_enter Tryz.func86, Tryz.ntmps86
  go_wp2_with fail
  refine HR17.out.mono ?_
  rintro e W ⟨rfl, hW⟩
  rw [hW]
  clear hW W
  go_wp2_with fail
  refine HR.out.mono ?_
  rintro e W ⟨rfl, hW⟩
  rw [hW]
  clear hW W
  go_wp2
  go_ret
  exact ⟨rfl, H.out⟩

theorem call_none (w : World) (h : MH w0 w m mm me M l) (h1 : M.x 17 ≠ 93) (h2 : M.x 17 ≠ 64) (h3 : M.x 17 ≠ 63) :
    Calls Tryz.prog 86 #[.pointer (some ⟨m, 0, none⟩)] w fun e w' => e = .returned (.int .i64 0) ∧ MH w0 w' m mm me (M.put 10 18446744073709551578) l := by
  obtain ⟨v, hv⟩ : ∃ v, M.x 17 = v := ⟨_, rfl⟩
  have HR17 := hide (mh_rg h 17 (by decide) v hv)
  rw [hv] at h1 h2 h3
  have e1 : (v == 93) = false := by simpa using h1
  have e2 : (v == 64) = false := by simpa using h2
  have e3 : (v == 63) = false := by simpa using h3
  have HA := hide (answer_any (-38) w h (by decide) (by decide))
  rw [show u64 (-38) = 18446744073709551578 by decide] at HA
  clear h hv h1 h2 h3
  go_enter Tryz.func86, Tryz.ntmps86
  go_wp2_with fail
  refine HR17.out.mono ?_
  rintro e W ⟨rfl, hW⟩
  rw [hW]
  clear hW W
  go_wp2_with fail
  refine HA.out.mono ?_
  rintro e W ⟨rfl, h4⟩
  have H4 := hide h4
  clear h4 HA
  go_wp2
  go_ret
  exact ⟨rfl, H4.out⟩

theorem call_write (v : Int) (M2 : Mc) (w : World) (h : MH w0 w m mm me M l) (hx : M.x 17 = 64) (v0 : -9223372036854775808 ≤ v) (v1 : v ≤ 9223372036854775807)
    (hc : Calls Tryz.prog 115 #[.pointer (some ⟨m, 0, none⟩)] w fun e w' => e = .returned (.int .i64 v) ∧ MH w0 w' m mm me M2 l) :
    Calls Tryz.prog 86 #[.pointer (some ⟨m, 0, none⟩)] w fun e w' => e = .returned (.int .i64 0) ∧ MH w0 w' m mm me (M2.put 10 (u64 v)) l := by
  have HR17 := hide (mh_rg h 17 (by decide) 64 hx)
  have HC := hide hc
  have HA := hide (fun W hW => answer_any (w0 := w0) (m := m) (mm := mm) (me := me) (M := M2) (l := l) v W hW v0 v1)
  clear h hc hx
  go_enter Tryz.func86, Tryz.ntmps86
  go_wp2_with fail
  refine HR17.out.mono ?_
  rintro e W ⟨rfl, hW⟩
  rw [hW]
  clear hW W
  go_wp2_with fail
  refine HC.out.mono ?_
  rintro e W1 ⟨rfl, h1⟩
  go_wp2_with fail
  refine (HA.out _ h1).mono ?_
  rintro e W2 ⟨rfl, h2⟩
  have H2 := hide h2
  clear h1 h2 HA HC
  go_wp2
  go_ret
  exact ⟨rfl, H2.out⟩

theorem call_read (v : Int) (M2 : Mc) (w : World) (h : MH w0 w m mm me M l) (hx : M.x 17 = 63) (v0 : -9223372036854775808 ≤ v) (v1 : v ≤ 9223372036854775807)
    (hc : Calls Tryz.prog 116 #[.pointer (some ⟨m, 0, none⟩)] w fun e w' => e = .returned (.int .i64 v) ∧ MH w0 w' m mm me M2 l) :
    Calls Tryz.prog 86 #[.pointer (some ⟨m, 0, none⟩)] w fun e w' => e = .returned (.int .i64 0) ∧ MH w0 w' m mm me (M2.put 10 (u64 v)) l := by
  have HR17 := hide (mh_rg h 17 (by decide) 63 hx)
  have HC := hide hc
  have HA := hide (fun W hW => answer_any (w0 := w0) (m := m) (mm := mm) (me := me) (M := M2) (l := l) v W hW v0 v1)
  clear h hc hx
  go_enter Tryz.func86, Tryz.ntmps86
  go_wp2_with fail
  refine HR17.out.mono ?_
  rintro e W ⟨rfl, hW⟩
  rw [hW]
  clear hW W
  go_wp2_with fail
  refine HC.out.mono ?_
  rintro e W1 ⟨rfl, h1⟩
  go_wp2_with fail
  refine (HA.out _ h1).mono ?_
  rintro e W2 ⟨rfl, h2⟩
  have H2 := hide h2
  clear h1 h2 HA HC
  go_wp2
  go_ret
  exact ⟨rfl, H2.out⟩

theorem call_any (w : World) (h : MH w0 w m mm me M l) (ht : M.tr.length < 1000000) (hi : M.ins.length ≤ 140737488355328) :
    Calls Tryz.prog 86 #[.pointer (some ⟨m, 0, none⟩)] w fun e w' => e = .returned (.int .i64 0) ∧ MH w0 w' m mm me M.call l := by
  have hr := h.fits.reg 12
  unfold Mc.call
  by_cases h1 : M.x 17 = 93
  · rw [if_pos h1]
    exact call_exit w h h1
  rw [if_neg h1]
  by_cases h2 : M.x 17 = 64
  · rw [if_pos h2]
    by_cases h3 : 65536 < M.x 12
    · rw [if_pos h3]
      exact call_write (-22) M w h h2 (by decide) (by decide) (write_long w h h3)
    rw [if_neg h3]
    cases h4 : mayB M.mem (M.x 11).toNat (M.x 12).toNat 4 with
    | true =>
      rw [if_pos rfl]
      have := call_write (M.x 12) _ w h h2 (by omega) (by omega) (write_ok w h (by omega) h4 ht)
      rw [u64_id hr.1 hr.2] at this
      exact this
    | false =>
      rw [if_neg (by decide)]
      exact call_write (-14) M w h h2 (by decide) (by decide) (write_no w h (by omega) h4)
  rw [if_neg h2]
  by_cases h2 : M.x 17 = 63
  · rw [if_pos h2]
    by_cases h3 : 65536 < M.x 12
    · rw [if_pos h3]
      exact call_read (-22) M w h h2 (by decide) (by decide) (read_long w h h3)
    rw [if_neg h3]
    cases h4 : mayB M.mem (M.x 11).toNat (M.x 12).toNat 2 with
    | true =>
      rw [if_pos rfl]
      have hL : (M.ins.take (M.x 12).toNat).length ≤ 65536 := by rw [List.length_take]; omega
      have := call_read _ _ w h h2 (by omega) (by omega) (read_ok w h (by omega) h4 ht hi)
      rw [u64_id (by omega) (by omega)] at this
      exact this
    | false =>
      rw [if_neg (by decide)]
      exact call_read (-14) M w h h2 (by decide) (by decide) (read_no w h (by omega) h4)
  rw [if_neg h2]
  exact call_none w h h1 (by assumption) h2

set_option maxHeartbeats 1600000 in
theorem do_5 (rd r1 r2 im : Int) (w : World) (h : MH w0 w m mm me M l) (hf : Fit5 rd r1 r2 im) (D : Mc) (hD : D = if takenF 5 (M.x r1.toNat) (M.x r2.toNat) = true then M.jump 0 (u64 (M.pc + im)) else M.next) :
    Calls Tryz.prog 57 #[.pointer (some ⟨m, 0, none⟩), inst 5 rd r1 r2 im] w fun e w' => ∃ r M', e = .returned (.int .i64 r) ∧ Did M (D) r M' ∧ MH w0 w' m mm me M' l := by
  have HB := hide (fun W (hW : MH w0 W m mm me M l) => mh_branch hW 5 rd r1 r2 im (by decide) (by decide) hf)
  rw [show ((5 : Nat) : Int) = 5 from rfl, ← hD] at HB
  clear hD
  have HM := hide h
  clear h
  unfold inst at *
  go_enter Tryz.func57, Tryz.ntmps57
  go_wp2_with fail
  refine (HB.out _ (HM.out.below (below_alloc _ _))).mono ?_
  rintro e W ⟨r, M', rfl, h1, h2⟩
  have H := hide (And.intro h1 h2)
  clear h1 h2 HB HM
  go_wp2
  go_ret
  exact ⟨r, M', rfl, H.out⟩

set_option maxHeartbeats 1600000 in
theorem do_6 (rd r1 r2 im : Int) (w : World) (h : MH w0 w m mm me M l) (hf : Fit5 rd r1 r2 im) (D : Mc) (hD : D = if takenF 6 (M.x r1.toNat) (M.x r2.toNat) = true then M.jump 0 (u64 (M.pc + im)) else M.next) :
    Calls Tryz.prog 57 #[.pointer (some ⟨m, 0, none⟩), inst 6 rd r1 r2 im] w fun e w' => ∃ r M', e = .returned (.int .i64 r) ∧ Did M (D) r M' ∧ MH w0 w' m mm me M' l := by
  have HB := hide (fun W (hW : MH w0 W m mm me M l) => mh_branch hW 6 rd r1 r2 im (by decide) (by decide) hf)
  rw [show ((6 : Nat) : Int) = 6 from rfl, ← hD] at HB
  clear hD
  have HM := hide h
  clear h
  unfold inst at *
  go_enter Tryz.func57, Tryz.ntmps57
  go_wp2_with fail
  refine (HB.out _ (HM.out.below (below_alloc _ _))).mono ?_
  rintro e W ⟨r, M', rfl, h1, h2⟩
  have H := hide (And.intro h1 h2)
  clear h1 h2 HB HM
  go_wp2
  go_ret
  exact ⟨r, M', rfl, H.out⟩

set_option maxHeartbeats 1600000 in
theorem do_7 (rd r1 r2 im : Int) (w : World) (h : MH w0 w m mm me M l) (hf : Fit5 rd r1 r2 im) (D : Mc) (hD : D = if takenF 7 (M.x r1.toNat) (M.x r2.toNat) = true then M.jump 0 (u64 (M.pc + im)) else M.next) :
    Calls Tryz.prog 57 #[.pointer (some ⟨m, 0, none⟩), inst 7 rd r1 r2 im] w fun e w' => ∃ r M', e = .returned (.int .i64 r) ∧ Did M (D) r M' ∧ MH w0 w' m mm me M' l := by
  have HB := hide (fun W (hW : MH w0 W m mm me M l) => mh_branch hW 7 rd r1 r2 im (by decide) (by decide) hf)
  rw [show ((7 : Nat) : Int) = 7 from rfl, ← hD] at HB
  clear hD
  have HM := hide h
  clear h
  unfold inst at *
  go_enter Tryz.func57, Tryz.ntmps57
  go_wp2_with fail
  refine (HB.out _ (HM.out.below (below_alloc _ _))).mono ?_
  rintro e W ⟨r, M', rfl, h1, h2⟩
  have H := hide (And.intro h1 h2)
  clear h1 h2 HB HM
  go_wp2
  go_ret
  exact ⟨r, M', rfl, H.out⟩

set_option maxHeartbeats 1600000 in
theorem do_8 (rd r1 r2 im : Int) (w : World) (h : MH w0 w m mm me M l) (hf : Fit5 rd r1 r2 im) (D : Mc) (hD : D = if takenF 8 (M.x r1.toNat) (M.x r2.toNat) = true then M.jump 0 (u64 (M.pc + im)) else M.next) :
    Calls Tryz.prog 57 #[.pointer (some ⟨m, 0, none⟩), inst 8 rd r1 r2 im] w fun e w' => ∃ r M', e = .returned (.int .i64 r) ∧ Did M (D) r M' ∧ MH w0 w' m mm me M' l := by
  have HB := hide (fun W (hW : MH w0 W m mm me M l) => mh_branch hW 8 rd r1 r2 im (by decide) (by decide) hf)
  rw [show ((8 : Nat) : Int) = 8 from rfl, ← hD] at HB
  clear hD
  have HM := hide h
  clear h
  unfold inst at *
  go_enter Tryz.func57, Tryz.ntmps57
  go_wp2_with fail
  refine (HB.out _ (HM.out.below (below_alloc _ _))).mono ?_
  rintro e W ⟨r, M', rfl, h1, h2⟩
  have H := hide (And.intro h1 h2)
  clear h1 h2 HB HM
  go_wp2
  go_ret
  exact ⟨r, M', rfl, H.out⟩

set_option maxHeartbeats 1600000 in
theorem do_9 (rd r1 r2 im : Int) (w : World) (h : MH w0 w m mm me M l) (hf : Fit5 rd r1 r2 im) (D : Mc) (hD : D = if takenF 9 (M.x r1.toNat) (M.x r2.toNat) = true then M.jump 0 (u64 (M.pc + im)) else M.next) :
    Calls Tryz.prog 57 #[.pointer (some ⟨m, 0, none⟩), inst 9 rd r1 r2 im] w fun e w' => ∃ r M', e = .returned (.int .i64 r) ∧ Did M (D) r M' ∧ MH w0 w' m mm me M' l := by
  have HB := hide (fun W (hW : MH w0 W m mm me M l) => mh_branch hW 9 rd r1 r2 im (by decide) (by decide) hf)
  rw [show ((9 : Nat) : Int) = 9 from rfl, ← hD] at HB
  clear hD
  have HM := hide h
  clear h
  unfold inst at *
  go_enter Tryz.func57, Tryz.ntmps57
  go_wp2_with fail
  refine (HB.out _ (HM.out.below (below_alloc _ _))).mono ?_
  rintro e W ⟨r, M', rfl, h1, h2⟩
  have H := hide (And.intro h1 h2)
  clear h1 h2 HB HM
  go_wp2
  go_ret
  exact ⟨r, M', rfl, H.out⟩

set_option maxHeartbeats 1600000 in
theorem do_10 (rd r1 r2 im : Int) (w : World) (h : MH w0 w m mm me M l) (hf : Fit5 rd r1 r2 im) (D : Mc) (hD : D = if takenF 10 (M.x r1.toNat) (M.x r2.toNat) = true then M.jump 0 (u64 (M.pc + im)) else M.next) :
    Calls Tryz.prog 57 #[.pointer (some ⟨m, 0, none⟩), inst 10 rd r1 r2 im] w fun e w' => ∃ r M', e = .returned (.int .i64 r) ∧ Did M (D) r M' ∧ MH w0 w' m mm me M' l := by
  have HB := hide (fun W (hW : MH w0 W m mm me M l) => mh_branch hW 10 rd r1 r2 im (by decide) (by decide) hf)
  rw [show ((10 : Nat) : Int) = 10 from rfl, ← hD] at HB
  clear hD
  have HM := hide h
  clear h
  unfold inst at *
  go_enter Tryz.func57, Tryz.ntmps57
  go_wp2_with fail
  refine (HB.out _ (HM.out.below (below_alloc _ _))).mono ?_
  rintro e W ⟨r, M', rfl, h1, h2⟩
  have H := hide (And.intro h1 h2)
  clear h1 h2 HB HM
  go_wp2
  go_ret
  exact ⟨r, M', rfl, H.out⟩

theorem mh_load (h : MH w0 w m mm me M l) (o : Nat) (rd r1 r2 im : Int) (h0 : 11 ≤ o) (h1 : o ≤ 17) (hf : Fit5 rd r1 r2 im) :
    Calls Tryz.prog 83 #[.pointer (some ⟨m, 0, none⟩), inst o rd r1 r2 im] w fun e w' => ∃ r M', e = .returned (.int .i64 r) ∧
      Did M (if numOk M.mem (u64 (M.x r1.toNat + im)).toNat (widthF o) 4 = true then M.put rd (loadS o (loadV M.mem (u64 (M.x r1.toNat + im)).toNat (widthF o))) else M.trapped 3) r M' ∧ MH w0 w' m mm me M' l := by
  obtain ⟨F, hd, h2⟩ := h.head
  obtain ⟨G, hP⟩ := h.pm
  refine (loads_any o rd r1 r2 im w hd hP h0 h1 hf).mono ?_
  rintro e w' ⟨g1, g2, g3⟩
  cases hk : numOk M.mem (u64 (M.x r1.toNat + im)).toNat (widthF o) 4 with
  | true =>
    obtain ⟨k1, k2⟩ := g1 hk
    exact ⟨0, _, k1, Or.inl ⟨rfl, by rw [if_pos rfl]; rfl⟩, h2 w' _ _ _ _ _ k2 g3⟩
  | false =>
    obtain ⟨k1, k2⟩ := g2 hk
    exact ⟨3, M, k1, Or.inr ⟨by decide, by unfold InI; omega, by rw [if_neg (by decide)], rfl⟩, h2 w' _ _ _ _ _ k2 g3⟩

set_option maxHeartbeats 1600000 in
theorem do_11 (rd r1 r2 im : Int) (w : World) (h : MH w0 w m mm me M l) (hf : Fit5 rd r1 r2 im) (D : Mc) (hD : D = if numOk M.mem (u64 (M.x r1.toNat + im)).toNat (widthF 11) 4 = true then M.put rd (loadS 11 (loadV M.mem (u64 (M.x r1.toNat + im)).toNat (widthF 11))) else M.trapped 3) :
    Calls Tryz.prog 57 #[.pointer (some ⟨m, 0, none⟩), inst 11 rd r1 r2 im] w fun e w' => ∃ r M', e = .returned (.int .i64 r) ∧ Did M (D) r M' ∧ MH w0 w' m mm me M' l := by
  have HB := hide (fun W (hW : MH w0 W m mm me M l) => mh_load hW 11 rd r1 r2 im (by decide) (by decide) hf)
  rw [show ((11 : Nat) : Int) = 11 from rfl, ← hD] at HB
  clear hD
  have HM := hide h
  clear h
  unfold inst at *
  go_enter Tryz.func57, Tryz.ntmps57
  go_wp2_with fail
  refine (HB.out _ (HM.out.below (below_alloc _ _))).mono ?_
  rintro e W ⟨r, M', rfl, h1, h2⟩
  have H := hide (And.intro h1 h2)
  clear h1 h2 HB HM
  go_wp2
  go_ret
  exact ⟨r, M', rfl, H.out⟩

set_option maxHeartbeats 1600000 in
theorem do_12 (rd r1 r2 im : Int) (w : World) (h : MH w0 w m mm me M l) (hf : Fit5 rd r1 r2 im) (D : Mc) (hD : D = if numOk M.mem (u64 (M.x r1.toNat + im)).toNat (widthF 12) 4 = true then M.put rd (loadS 12 (loadV M.mem (u64 (M.x r1.toNat + im)).toNat (widthF 12))) else M.trapped 3) :
    Calls Tryz.prog 57 #[.pointer (some ⟨m, 0, none⟩), inst 12 rd r1 r2 im] w fun e w' => ∃ r M', e = .returned (.int .i64 r) ∧ Did M (D) r M' ∧ MH w0 w' m mm me M' l := by
  have HB := hide (fun W (hW : MH w0 W m mm me M l) => mh_load hW 12 rd r1 r2 im (by decide) (by decide) hf)
  rw [show ((12 : Nat) : Int) = 12 from rfl, ← hD] at HB
  clear hD
  have HM := hide h
  clear h
  unfold inst at *
  go_enter Tryz.func57, Tryz.ntmps57
  go_wp2_with fail
  refine (HB.out _ (HM.out.below (below_alloc _ _))).mono ?_
  rintro e W ⟨r, M', rfl, h1, h2⟩
  have H := hide (And.intro h1 h2)
  clear h1 h2 HB HM
  go_wp2
  go_ret
  exact ⟨r, M', rfl, H.out⟩

set_option maxHeartbeats 1600000 in
theorem do_13 (rd r1 r2 im : Int) (w : World) (h : MH w0 w m mm me M l) (hf : Fit5 rd r1 r2 im) (D : Mc) (hD : D = if numOk M.mem (u64 (M.x r1.toNat + im)).toNat (widthF 13) 4 = true then M.put rd (loadS 13 (loadV M.mem (u64 (M.x r1.toNat + im)).toNat (widthF 13))) else M.trapped 3) :
    Calls Tryz.prog 57 #[.pointer (some ⟨m, 0, none⟩), inst 13 rd r1 r2 im] w fun e w' => ∃ r M', e = .returned (.int .i64 r) ∧ Did M (D) r M' ∧ MH w0 w' m mm me M' l := by
  have HB := hide (fun W (hW : MH w0 W m mm me M l) => mh_load hW 13 rd r1 r2 im (by decide) (by decide) hf)
  rw [show ((13 : Nat) : Int) = 13 from rfl, ← hD] at HB
  clear hD
  have HM := hide h
  clear h
  unfold inst at *
  go_enter Tryz.func57, Tryz.ntmps57
  go_wp2_with fail
  refine (HB.out _ (HM.out.below (below_alloc _ _))).mono ?_
  rintro e W ⟨r, M', rfl, h1, h2⟩
  have H := hide (And.intro h1 h2)
  clear h1 h2 HB HM
  go_wp2
  go_ret
  exact ⟨r, M', rfl, H.out⟩

set_option maxHeartbeats 1600000 in
theorem do_14 (rd r1 r2 im : Int) (w : World) (h : MH w0 w m mm me M l) (hf : Fit5 rd r1 r2 im) (D : Mc) (hD : D = if numOk M.mem (u64 (M.x r1.toNat + im)).toNat (widthF 14) 4 = true then M.put rd (loadS 14 (loadV M.mem (u64 (M.x r1.toNat + im)).toNat (widthF 14))) else M.trapped 3) :
    Calls Tryz.prog 57 #[.pointer (some ⟨m, 0, none⟩), inst 14 rd r1 r2 im] w fun e w' => ∃ r M', e = .returned (.int .i64 r) ∧ Did M (D) r M' ∧ MH w0 w' m mm me M' l := by
  have HB := hide (fun W (hW : MH w0 W m mm me M l) => mh_load hW 14 rd r1 r2 im (by decide) (by decide) hf)
  rw [show ((14 : Nat) : Int) = 14 from rfl, ← hD] at HB
  clear hD
  have HM := hide h
  clear h
  unfold inst at *
  go_enter Tryz.func57, Tryz.ntmps57
  go_wp2_with fail
  refine (HB.out _ (HM.out.below (below_alloc _ _))).mono ?_
  rintro e W ⟨r, M', rfl, h1, h2⟩
  have H := hide (And.intro h1 h2)
  clear h1 h2 HB HM
  go_wp2
  go_ret
  exact ⟨r, M', rfl, H.out⟩

set_option maxHeartbeats 1600000 in
theorem do_15 (rd r1 r2 im : Int) (w : World) (h : MH w0 w m mm me M l) (hf : Fit5 rd r1 r2 im) (D : Mc) (hD : D = if numOk M.mem (u64 (M.x r1.toNat + im)).toNat (widthF 15) 4 = true then M.put rd (loadS 15 (loadV M.mem (u64 (M.x r1.toNat + im)).toNat (widthF 15))) else M.trapped 3) :
    Calls Tryz.prog 57 #[.pointer (some ⟨m, 0, none⟩), inst 15 rd r1 r2 im] w fun e w' => ∃ r M', e = .returned (.int .i64 r) ∧ Did M (D) r M' ∧ MH w0 w' m mm me M' l := by
  have HB := hide (fun W (hW : MH w0 W m mm me M l) => mh_load hW 15 rd r1 r2 im (by decide) (by decide) hf)
  rw [show ((15 : Nat) : Int) = 15 from rfl, ← hD] at HB
  clear hD
  have HM := hide h
  clear h
  unfold inst at *
  go_enter Tryz.func57, Tryz.ntmps57
  go_wp2_with fail
  refine (HB.out _ (HM.out.below (below_alloc _ _))).mono ?_
  rintro e W ⟨r, M', rfl, h1, h2⟩
  have H := hide (And.intro h1 h2)
  clear h1 h2 HB HM
  go_wp2
  go_ret
  exact ⟨r, M', rfl, H.out⟩

set_option maxHeartbeats 1600000 in
theorem do_16 (rd r1 r2 im : Int) (w : World) (h : MH w0 w m mm me M l) (hf : Fit5 rd r1 r2 im) (D : Mc) (hD : D = if numOk M.mem (u64 (M.x r1.toNat + im)).toNat (widthF 16) 4 = true then M.put rd (loadS 16 (loadV M.mem (u64 (M.x r1.toNat + im)).toNat (widthF 16))) else M.trapped 3) :
    Calls Tryz.prog 57 #[.pointer (some ⟨m, 0, none⟩), inst 16 rd r1 r2 im] w fun e w' => ∃ r M', e = .returned (.int .i64 r) ∧ Did M (D) r M' ∧ MH w0 w' m mm me M' l := by
  have HB := hide (fun W (hW : MH w0 W m mm me M l) => mh_load hW 16 rd r1 r2 im (by decide) (by decide) hf)
  rw [show ((16 : Nat) : Int) = 16 from rfl, ← hD] at HB
  clear hD
  have HM := hide h
  clear h
  unfold inst at *
  go_enter Tryz.func57, Tryz.ntmps57
  go_wp2_with fail
  refine (HB.out _ (HM.out.below (below_alloc _ _))).mono ?_
  rintro e W ⟨r, M', rfl, h1, h2⟩
  have H := hide (And.intro h1 h2)
  clear h1 h2 HB HM
  go_wp2
  go_ret
  exact ⟨r, M', rfl, H.out⟩

set_option maxHeartbeats 1600000 in
theorem do_17 (rd r1 r2 im : Int) (w : World) (h : MH w0 w m mm me M l) (hf : Fit5 rd r1 r2 im) (D : Mc) (hD : D = if numOk M.mem (u64 (M.x r1.toNat + im)).toNat (widthF 17) 4 = true then M.put rd (loadS 17 (loadV M.mem (u64 (M.x r1.toNat + im)).toNat (widthF 17))) else M.trapped 3) :
    Calls Tryz.prog 57 #[.pointer (some ⟨m, 0, none⟩), inst 17 rd r1 r2 im] w fun e w' => ∃ r M', e = .returned (.int .i64 r) ∧ Did M (D) r M' ∧ MH w0 w' m mm me M' l := by
  have HB := hide (fun W (hW : MH w0 W m mm me M l) => mh_load hW 17 rd r1 r2 im (by decide) (by decide) hf)
  rw [show ((17 : Nat) : Int) = 17 from rfl, ← hD] at HB
  clear hD
  have HM := hide h
  clear h
  unfold inst at *
  go_enter Tryz.func57, Tryz.ntmps57
  go_wp2_with fail
  refine (HB.out _ (HM.out.below (below_alloc _ _))).mono ?_
  rintro e W ⟨r, M', rfl, h1, h2⟩
  have H := hide (And.intro h1 h2)
  clear h1 h2 HB HM
  go_wp2
  go_ret
  exact ⟨r, M', rfl, H.out⟩

set_option maxHeartbeats 1600000 in
theorem do_18 (rd r1 r2 im : Int) (w : World) (h : MH w0 w m mm me M l) (hf : Fit5 rd r1 r2 im) (D : Mc) (hD : D = if numOk M.mem (u64 (M.x r1.toNat + im)).toNat (widthF 18) 2 = true then { M.next with mem := stored M.mem (u64 (M.x r1.toNat + im)).toNat (widthF 18) (M.x r2.toNat) } else M.trapped 4) :
    Calls Tryz.prog 57 #[.pointer (some ⟨m, 0, none⟩), inst 18 rd r1 r2 im] w fun e w' => ∃ r M', e = .returned (.int .i64 r) ∧ Did M (D) r M' ∧ MH w0 w' m mm me M' l := by
  have HB := hide (fun W (hW : MH w0 W m mm me M l) => mstore_any 18 rd r1 r2 im W hW (by decide) (by decide) hf)
  rw [show ((18 : Nat) : Int) = 18 from rfl, ← hD] at HB
  clear hD
  have HM := hide h
  clear h
  unfold inst at *
  go_enter Tryz.func57, Tryz.ntmps57
  go_wp2_with fail
  refine (HB.out _ (HM.out.below (below_alloc _ _))).mono ?_
  rintro e W ⟨r, M', rfl, h1, h2⟩
  have H := hide (And.intro h1 h2)
  clear h1 h2 HB HM
  go_wp2
  go_ret
  exact ⟨r, M', rfl, H.out⟩

set_option maxHeartbeats 1600000 in
theorem do_19 (rd r1 r2 im : Int) (w : World) (h : MH w0 w m mm me M l) (hf : Fit5 rd r1 r2 im) (D : Mc) (hD : D = if numOk M.mem (u64 (M.x r1.toNat + im)).toNat (widthF 19) 2 = true then { M.next with mem := stored M.mem (u64 (M.x r1.toNat + im)).toNat (widthF 19) (M.x r2.toNat) } else M.trapped 4) :
    Calls Tryz.prog 57 #[.pointer (some ⟨m, 0, none⟩), inst 19 rd r1 r2 im] w fun e w' => ∃ r M', e = .returned (.int .i64 r) ∧ Did M (D) r M' ∧ MH w0 w' m mm me M' l := by
  have HB := hide (fun W (hW : MH w0 W m mm me M l) => mstore_any 19 rd r1 r2 im W hW (by decide) (by decide) hf)
  rw [show ((19 : Nat) : Int) = 19 from rfl, ← hD] at HB
  clear hD
  have HM := hide h
  clear h
  unfold inst at *
  go_enter Tryz.func57, Tryz.ntmps57
  go_wp2_with fail
  refine (HB.out _ (HM.out.below (below_alloc _ _))).mono ?_
  rintro e W ⟨r, M', rfl, h1, h2⟩
  have H := hide (And.intro h1 h2)
  clear h1 h2 HB HM
  go_wp2
  go_ret
  exact ⟨r, M', rfl, H.out⟩

set_option maxHeartbeats 1600000 in
theorem do_20 (rd r1 r2 im : Int) (w : World) (h : MH w0 w m mm me M l) (hf : Fit5 rd r1 r2 im) (D : Mc) (hD : D = if numOk M.mem (u64 (M.x r1.toNat + im)).toNat (widthF 20) 2 = true then { M.next with mem := stored M.mem (u64 (M.x r1.toNat + im)).toNat (widthF 20) (M.x r2.toNat) } else M.trapped 4) :
    Calls Tryz.prog 57 #[.pointer (some ⟨m, 0, none⟩), inst 20 rd r1 r2 im] w fun e w' => ∃ r M', e = .returned (.int .i64 r) ∧ Did M (D) r M' ∧ MH w0 w' m mm me M' l := by
  have HB := hide (fun W (hW : MH w0 W m mm me M l) => mstore_any 20 rd r1 r2 im W hW (by decide) (by decide) hf)
  rw [show ((20 : Nat) : Int) = 20 from rfl, ← hD] at HB
  clear hD
  have HM := hide h
  clear h
  unfold inst at *
  go_enter Tryz.func57, Tryz.ntmps57
  go_wp2_with fail
  refine (HB.out _ (HM.out.below (below_alloc _ _))).mono ?_
  rintro e W ⟨r, M', rfl, h1, h2⟩
  have H := hide (And.intro h1 h2)
  clear h1 h2 HB HM
  go_wp2
  go_ret
  exact ⟨r, M', rfl, H.out⟩

set_option maxHeartbeats 1600000 in
theorem do_21 (rd r1 r2 im : Int) (w : World) (h : MH w0 w m mm me M l) (hf : Fit5 rd r1 r2 im) (D : Mc) (hD : D = if numOk M.mem (u64 (M.x r1.toNat + im)).toNat (widthF 21) 2 = true then { M.next with mem := stored M.mem (u64 (M.x r1.toNat + im)).toNat (widthF 21) (M.x r2.toNat) } else M.trapped 4) :
    Calls Tryz.prog 57 #[.pointer (some ⟨m, 0, none⟩), inst 21 rd r1 r2 im] w fun e w' => ∃ r M', e = .returned (.int .i64 r) ∧ Did M (D) r M' ∧ MH w0 w' m mm me M' l := by
  have HB := hide (fun W (hW : MH w0 W m mm me M l) => mstore_any 21 rd r1 r2 im W hW (by decide) (by decide) hf)
  rw [show ((21 : Nat) : Int) = 21 from rfl, ← hD] at HB
  clear hD
  have HM := hide h
  clear h
  unfold inst at *
  go_enter Tryz.func57, Tryz.ntmps57
  go_wp2_with fail
  refine (HB.out _ (HM.out.below (below_alloc _ _))).mono ?_
  rintro e W ⟨r, M', rfl, h1, h2⟩
  have H := hide (And.intro h1 h2)
  clear h1 h2 HB HM
  go_wp2
  go_ret
  exact ⟨r, M', rfl, H.out⟩

set_option maxHeartbeats 1600000 in
theorem do_63 (rd r1 r2 im : Int) (w : World) (h : MH w0 w m mm me M l)  :
    Calls Tryz.prog 57 #[.pointer (some ⟨m, 0, none⟩), inst 63 rd r1 r2 im] w fun e w' => e = .returned (.int .i64 0) ∧ MH w0 w' m mm me M.next l := by
  have HM := hide h
  clear h
  unfold inst at *
  go_enter Tryz.func57, Tryz.ntmps57
  go_wp2_with fail
  refine (mh_next (HM.out.below (below_alloc _ _))).mono ?_
  rintro e W ⟨rfl, h1⟩
  have H := hide h1
  clear h1 HM
  go_wp2
  go_ret
  exact ⟨rfl, H.out⟩

set_option maxHeartbeats 1600000 in
theorem do_64 (rd r1 r2 im : Int) (w : World) (h : MH w0 w m mm me M l) (ht : M.tr.length < 1000000) (hi : M.ins.length ≤ 140737488355328) :
    Calls Tryz.prog 57 #[.pointer (some ⟨m, 0, none⟩), inst 64 rd r1 r2 im] w fun e w' => e = .returned (.int .i64 0) ∧ MH w0 w' m mm me M.call l := by
  have HM := hide h
  clear h
  unfold inst at *
  go_enter Tryz.func57, Tryz.ntmps57
  go_wp2_with fail
  refine (call_any _ (HM.out.below (below_alloc _ _)) ht hi).mono ?_
  rintro e W ⟨rfl, h1⟩
  have H := hide h1
  clear h1 HM
  go_wp2
  go_ret
  exact ⟨rfl, H.out⟩

theorem do_65 (rd r1 r2 im : Int) (w : World) (h : MH w0 w m mm me M l) :
    Calls Tryz.prog 57 #[.pointer (some ⟨m, 0, none⟩), inst 65 rd r1 r2 im] w fun e w' => e = .returned (.int .i64 6) ∧ MH w0 w' m mm me M l := by
  have HM := hide (h.below (below_alloc _ (.cells #[.int .i64 65, .int .i64 rd, .int .i64 r1, .int .i64 r2, .int .i64 im] 28)))
  clear h
  unfold inst at *
  go_enter Tryz.func57, Tryz.ntmps57
  go_wp2
  go_ret
  exact ⟨rfl, HM.out⟩

theorem aluF_bd (o : Nat) (a b : Int) (a0 : 0 ≤ a) (a1 : a ≤ 18446744073709551615) (b0 : 0 ≤ b) (b1 : b ≤ 18446744073709551615) : 0 ≤ aluF o a b ∧ aluF o a b ≤ 18446744073709551615 := by
  have hbits : ∀ op, 0 ≤ bits op .u64 a b ∧ bits op .u64 a b ≤ 18446744073709551615 := fun op => by
    have h : ∀ n : Int, 0 ≤ IntKind.u64.wrap n ∧ IntKind.u64.wrap n ≤ 18446744073709551615 := fun n => by rw [wrap_u64]; exact u64_bd n
    unfold bits
    split <;> exact h _
  have hsh : ∀ k : Nat, 0 ≤ a / 2 ^ k ∧ a / 2 ^ k ≤ 18446744073709551615 := fun k => ediv_pow_bd a k 0 18446744073709551615 a0 a1 (by decide) (by decide)
  have hmul : 0 ≤ a * b / 18446744073709551616 ∧ a * b / 18446744073709551616 ≤ 18446744073709551615 := by
    obtain ⟨x, rfl⟩ := Int.eq_ofNat_of_zero_le a0
    obtain ⟨y, rfl⟩ := Int.eq_ofNat_of_zero_le b0
    have h1 := hi_bd (x := x) (y := y) (by omega) (by omega)
    rw [← Int.natCast_mul]
    omega
  have hdiv : 0 ≤ a / b ∧ a / b ≤ 18446744073709551615 := ⟨Int.ediv_nonneg a0 b0, Int.le_trans (Int.ediv_le_self b a0) a1⟩
  have hmod : b ≠ 0 → 0 ≤ a % b ∧ a % b ≤ 18446744073709551615 := fun h => ⟨Int.emod_nonneg _ h, by have := Int.emod_lt_of_pos a (show 0 < b by omega); omega⟩
  unfold aluF
  split
  all_goals first
    | exact u64_bd _
    | exact sx_bd _
    | exact hbits _
    | exact hsh _
    | exact hmul
    | (split <;> first | omega | exact u64_bd _ | exact sx_bd _ | exact hdiv | (apply hmod; assumption))
    | omega

set_option maxHeartbeats 3200000 in
theorem do_alu (o : Nat) (rd r1 r2 im : Int) (w : World) (h : MH w0 w m mm me M l) (hL : Laid w0) (h0 : 22 ≤ o) (h1 : o ≤ 62) (hf : Fit5 rd r1 r2 im) :
    Calls Tryz.prog 57 #[.pointer (some ⟨m, 0, none⟩), inst o rd r1 r2 im] w fun e w' => e = .returned (.int .i64 0) ∧ MH w0 w' m mm me (M.put rd (aluF o (M.x r1.toNat) (if fmo o = 1 then u64 im else M.x r2.toNat))) l := by
  have him := hf.im
  have hb1 := h.fits.reg r1.toNat
  have hb2 : 0 ≤ (if fmo o = 1 then u64 im else M.x r2.toNat) ∧ (if fmo o = 1 then u64 im else M.x r2.toNat) ≤ 18446744073709551615 := by
    split
    · exact u64_bd _
    · exact h.fits.reg _
  have HR : Hid (∀ W l, MH w0 W m mm me M l → Calls Tryz.prog 26 #[.pointer (some ⟨m, 0, none⟩), .int .i64 r1] W fun e w' => e = .returned (.int .u64 (M.x r1.toNat)) ∧ w' = W) := fun W l hW => by
    have := mh_reg hW r1 (ini_of hf.r1)
    rw [rg_in hf.r1] at this
    exact this
  have HO := hide (fun W l (hW : MH w0 W m mm me M l) => mh_operand hW hL o rd r1 r2 im hf.r2 (by omega) (by omega))
  have HA := hide (fun W => alu_any o (M.x r1.toNat) (if fmo o = 1 then u64 im else M.x r2.toNat) W h0 h1 hb1.1 hb1.2 hb2.1 hb2.2)
  have hvb := aluF_bd o (M.x r1.toNat) (if fmo o = 1 then u64 im else M.x r2.toNat) hb1.1 hb1.2 hb2.1 hb2.2
  generalize aluF o (M.x r1.toNat) (if fmo o = 1 then u64 im else M.x r2.toNat) = v at *
  generalize (if fmo o = 1 then u64 im else M.x r2.toNat) = y at *
  generalize M.x r1.toNat = a at *
  have hrd := ini_of hf.rd
  have t1 : ((o : Int) == 1) = false := by simp; omega
  have t2 : ((o : Int) == 2) = false := by simp; omega
  have t3 : ((o : Int) == 3) = false := by simp; omega
  have t4 : ((o : Int) == 4) = false := by simp; omega
  have t5 : ((o : Int) == 5) = false := by simp; omega
  have t6 : ((o : Int) == 6) = false := by simp; omega
  have t7 : ((o : Int) == 7) = false := by simp; omega
  have t8 : ((o : Int) == 8) = false := by simp; omega
  have t9 : ((o : Int) == 9) = false := by simp; omega
  have t10 : ((o : Int) == 10) = false := by simp; omega
  have t11 : ((o : Int) == 11) = false := by simp; omega
  have t12 : ((o : Int) == 12) = false := by simp; omega
  have t13 : ((o : Int) == 13) = false := by simp; omega
  have t14 : ((o : Int) == 14) = false := by simp; omega
  have t15 : ((o : Int) == 15) = false := by simp; omega
  have t16 : ((o : Int) == 16) = false := by simp; omega
  have t17 : ((o : Int) == 17) = false := by simp; omega
  have t18 : ((o : Int) == 18) = false := by simp; omega
  have t19 : ((o : Int) == 19) = false := by simp; omega
  have t20 : ((o : Int) == 20) = false := by simp; omega
  have t21 : ((o : Int) == 21) = false := by simp; omega
  have t63 : ((o : Int) == 63) = false := by simp; omega
  have t64 : ((o : Int) == 64) = false := by simp; omega
  have t65 : ((o : Int) == 65) = false := by simp; omega
  have HM := hide h
  clear h hf hL h0 h1
  unfold inst at *
  go_enter Tryz.func57, Tryz.ntmps57
  go_wp2_with fail
  obtain ⟨V, hV⟩ : ∃ V, V = w.alloc (.cells #[.int .i64 (o : Int), .int .i64 rd, .int .i64 r1, .int .i64 r2, .int .i64 im] 28) := ⟨_, rfl⟩
  rw [← hV]
  obtain ⟨X, hX⟩ : ∃ X, X = w.heap.size := ⟨_, rfl⟩
  rw [← hX]
  have hMV : MH w0 V m mm me M (InXT X o rd r1 r2 im :: l) := by rw [hV, hX]; exact HM.out.box _ _ _ _ _ _
  obtain ⟨i0, i1, i2, i3, i4⟩ := hMV.inx
  have HVD := hide (hMV.below ((Below.refl _ _).drew))
  clear hMV hV hX HM t1 t2 t3 t4 t5 t6 t7 t8 t9 t10 t11 t12 t13 t14 t15 t16 t17 t18 t19 t20 t21 t63 t64 t65
  go_region_held3 (fun w' => w'.cell? ⟨X, 0, none⟩ = some (.int .i64 (o : Int)) ∧ w'.cell? ⟨X, 1, none⟩ = some (.int .i64 rd) ∧ w'.cell? ⟨X, 2, none⟩ = some (.int .i64 r1) ∧ w'.cell? ⟨X, 3, none⟩ = some (.int .i64 r2) ∧ w'.cell? ⟨X, 4, none⟩ = some (.int .i64 im)) (go_keep)
    (first
      | (go_at_call 26; refine (HR.out _ _ HVD.out).mono ?_; rintro e W3 ⟨rfl, hW3⟩; rw [hW3]; clear hW3 W3)
      | (go_at_call 87; refine (HO.out _ _ HVD.out).mono ?_; rintro e W1 ⟨rfl, h5⟩; obtain ⟨j0, j1, j2, j3, j4⟩ := h5.inx; have H5 := hide h5; clear h5)
      | (go_at_call 27; refine (HA.out _).mono ?_; rintro e W3 ⟨rfl, hW3⟩; rw [hW3]; clear hW3 W3)
      | (go_at_call 78; refine (mh_put H5.out rd v hrd hvb).mono ?_; rintro e W2 ⟨rfl, h6⟩; obtain ⟨l0, l1, l2, l3, l4⟩ := h6.inx; have H6 := hide h6.unbox; clear h6))
  clear HR HO HA HVD H5
  go_wp2
  go_ret
  exact ⟨rfl, H6.out⟩

/-- What do does. -/
theorem do_any (o : Nat) (rd r1 r2 im : Int) (w : World) (h : MH w0 w m mm me M l) (hL : Laid w0) (h0 : 1 ≤ o) (h1 : o < 66) (hf : Fit5 rd r1 r2 im) (ht : M.tr.length < 1000000) (hi : M.ins.length ≤ 140737488355328) :
    Calls Tryz.prog 57 #[.pointer (some ⟨m, 0, none⟩), inst o rd r1 r2 im] w fun e w' => ∃ r M', e = .returned (.int .i64 r) ∧ Did M (M.doF o rd r1 r2 im) r M' ∧ MH w0 w' m mm me M' l := by
  have easy : ∀ {D : Mc} {fn : Nat} {args : Array Value}, (Calls Tryz.prog fn args w fun e w' => e = .returned (.int .i64 0) ∧ MH w0 w' m mm me D l) → Calls Tryz.prog fn args w fun e w' => ∃ r M', e = .returned (.int .i64 r) ∧ Did M (D) r M' ∧ MH w0 w' m mm me M' l :=
    fun h => h.mono (fun e w' ⟨g1, g2⟩ => ⟨0, _, g1, Or.inl ⟨rfl, rfl⟩, g2⟩)
  by_cases ha : 22 ≤ o ∧ o ≤ 62
  · have e : M.doF o rd r1 r2 im = M.put rd (aluF o (M.x r1.toNat) (if fmo o = 1 then u64 im else M.x r2.toNat)) := by
      unfold Mc.doF
      rw [if_neg (by omega), if_neg (by omega), if_neg (by omega), if_neg (by omega), if_neg (by omega), if_neg (by omega), if_neg (by omega), if_pos (by omega)]
    rw [e]
    exact easy (do_alu o rd r1 r2 im w h hL ha.1 ha.2 hf)
  rcases (show o = 1 ∨ o = 2 ∨ o = 3 ∨ o = 4 ∨ o = 5 ∨ o = 6 ∨ o = 7 ∨ o = 8 ∨ o = 9 ∨ o = 10 ∨ o = 11 ∨ o = 12 ∨ o = 13 ∨ o = 14 ∨ o = 15 ∨ o = 16 ∨ o = 17 ∨ o = 18 ∨ o = 19 ∨ o = 20 ∨ o = 21 ∨ o = 63 ∨ o = 64 ∨ o = 65 by omega) with rfl | rfl | rfl | rfl | rfl | rfl | rfl | rfl | rfl | rfl | rfl | rfl | rfl | rfl | rfl | rfl | rfl | rfl | rfl | rfl | rfl | rfl | rfl | rfl
  · exact easy (do_1 rd r1 r2 im w h hf)
  · exact easy (do_2 rd r1 r2 im w h hf)
  · exact do_3 rd r1 r2 im w h hf
  · exact do_4 rd r1 r2 im w h hf
  · exact do_5 rd r1 r2 im w h hf _ rfl
  · exact do_6 rd r1 r2 im w h hf _ rfl
  · exact do_7 rd r1 r2 im w h hf _ rfl
  · exact do_8 rd r1 r2 im w h hf _ rfl
  · exact do_9 rd r1 r2 im w h hf _ rfl
  · exact do_10 rd r1 r2 im w h hf _ rfl
  · exact do_11 rd r1 r2 im w h hf _ rfl
  · exact do_12 rd r1 r2 im w h hf _ rfl
  · exact do_13 rd r1 r2 im w h hf _ rfl
  · exact do_14 rd r1 r2 im w h hf _ rfl
  · exact do_15 rd r1 r2 im w h hf _ rfl
  · exact do_16 rd r1 r2 im w h hf _ rfl
  · exact do_17 rd r1 r2 im w h hf _ rfl
  · exact do_18 rd r1 r2 im w h hf _ rfl
  · exact do_19 rd r1 r2 im w h hf _ rfl
  · exact do_20 rd r1 r2 im w h hf _ rfl
  · exact do_21 rd r1 r2 im w h hf _ rfl
  · exact easy (do_63 rd r1 r2 im w h)
  · exact easy (do_64 rd r1 r2 im w h ht hi)
  · exact (do_65 rd r1 r2 im w h).mono (fun e w' ⟨g1, g2⟩ => ⟨6, M, g1, Or.inr ⟨by decide, by unfold InI; omega, rfl, rfl⟩, g2⟩)

end

end Go.Proofs.YtgjfelkbblbjfaaGreatDoor
