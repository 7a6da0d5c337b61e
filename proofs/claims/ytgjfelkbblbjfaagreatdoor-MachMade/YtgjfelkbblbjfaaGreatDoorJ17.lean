/- Texts of this claim, joined: MachStep, MachRun, MachMake. -/
import Derived.Test.YtgjfelkbblbjfaaGreatDoorMachDoQ
import Derived.Deep.LoopGhost
/- Contracts of package mach's fetch and Step. -/
namespace Go.Proofs.YtgjfelkbblbjfaaGreatDoor
open Go.RowKit Go.Maps
set_option linter.unusedVariables false
set_option maxRecDepth 100000

/-- Block X is o. -/
def BlkT (X : Nat) (o : Obj) (w : World) (F : Nat → Prop) : Prop := w.heap[X]? = some o ∧ F X ∧ ∀ k, F k → k < w.heap.size
theorem blk_stays (B X : Nat) (o : Obj) : Stays B (BlkT X o) :=
  ⟨fun ⟨h1, h2, h3⟩ hk hd hG => ⟨(hk.block X (h3 X h2) (hd X h2)).trans h1, h2, fun k hF => Nat.lt_of_lt_of_le (h3 k hF) hk.size⟩, fun ⟨h1, h2, h3⟩ => h3⟩

def stc5 (w : World) (X : Nat) (a b c d e : Value) : World := ((((w.setCell ⟨X, 0, none⟩ a).setCell ⟨X, 1, none⟩ b).setCell ⟨X, 2, none⟩ c).setCell ⟨X, 3, none⟩ d).setCell ⟨X, 4, none⟩ e
def stc3 (w : World) (X : Nat) (a b c : Value) : World := ((w.setCell ⟨X, 0, none⟩ a).setCell ⟨X, 1, none⟩ b).setCell ⟨X, 2, none⟩ c

theorem stc5_kept (w : World) (X : Nat) (a b c d e : Value) : Kept (fun k => k = X) w (stc5 w X a b c d e) :=
  (((((Kept.refl (fun k => k = X) w).setCell ⟨X, 0, none⟩ a (Or.inl rfl)).setCell ⟨X, 1, none⟩ b (Or.inl rfl)).setCell ⟨X, 2, none⟩ c (Or.inl rfl)).setCell ⟨X, 3, none⟩ d (Or.inl rfl)).setCell ⟨X, 4, none⟩ e (Or.inl rfl)
theorem stc3_kept (w : World) (X : Nat) (a b c : Value) : Kept (fun k => k = X) w (stc3 w X a b c) :=
  (((Kept.refl (fun k => k = X) w).setCell ⟨X, 0, none⟩ a (Or.inl rfl)).setCell ⟨X, 1, none⟩ b (Or.inl rfl)).setCell ⟨X, 2, none⟩ c (Or.inl rfl)
theorem stc5_blk {w : World} {X : Nat} {t : TypeId} {a0 b0 c0 d0 e0 : Value} (h : w.heap[X]? = some (.cells #[a0, b0, c0, d0, e0] t (0, 0))) (a b c d e : Value) : (stc5 w X a b c d e).heap[X]? = some (.cells #[a, b, c, d, e] t (0, 0)) := by
  unfold stc5 World.setCell
  simp [Array.getElem?_modify, h]
theorem stc3_blk {w : World} {X : Nat} {t : TypeId} {a0 b0 c0 : Value} (h : w.heap[X]? = some (.cells #[a0, b0, c0] t (0, 0))) (a b c : Value) : (stc3 w X a b c).heap[X]? = some (.cells #[a, b, c] t (0, 0)) := by
  unfold stc3 World.setCell
  simp [Array.getElem?_modify, h]
theorem blk_frozen {w : World} {X : Nat} {t : TypeId} {cs : Array Value} (h : w.heap[X]? = some (.cells cs t (0, 0))) (i : Nat) : w.frozen? ⟨X, i, none⟩ = false := by
  unfold World.frozen?
  simp only [h]
  simp
theorem blk_cell {w : World} {X : Nat} {t : TypeId} {cs : Array Value} (h : w.heap[X]? = some (.cells cs t (0, 0))) (i : Nat) : w.cell? ⟨X, i, none⟩ = cs[i]? := cell_of_row _ _ i _ _ _ h

section
variable {w0 w w' : World} {m mm me : Nat} {M : Mc} {l : List (World → (Nat → Prop) → Prop)} {X : Nat} {o o' : Obj}

theorem MH.blk (h : MH w0 w m mm me M (BlkT X o :: l)) : w.heap[X]? = some o := by
  obtain ⟨F, h1⟩ := Has.top h.less
  exact h1.1
theorem MH.newblk (h : MH w0 w m mm me M l) (cs : Array Value) (t : TypeId) : MH w0 (w.alloc (.cells cs t)) m mm me M (BlkT w.heap.size (.cells cs t (0, 0)) :: l) :=
  h.more (F := fun k => k = w.heap.size) (below_alloc _ _) ⟨heap_alloc_new w _, rfl, fun k hk => by subst hk; simp⟩ (fun k hk => by subst hk; exact Nat.le_refl _) (blk_stays _ _ _)
theorem MH.reblk (h : MH w0 w m mm me M (BlkT X o :: l)) (hk : Kept (fun k => k = X) w w') (ho : w'.heap[X]? = some o') : MH w0 w' m mm me M (BlkT X o' :: l) := by
  obtain ⟨F, ⟨h1, h2, h3⟩, h4, h5⟩ := h.less.step
  have h6 := h5 w' (BlkT X o') F ⟨ho, h2, fun k hF => Nat.lt_of_lt_of_le (h3 k hF) hk.size⟩ ⟨hk.mono (fun k hk => by subst hk; exact h2), fun k hk => Or.inl hk⟩ (blk_stays _ _ _)
  exact h6.perm ((List.Perm.swap ..).trans (List.Perm.cons _ ((List.Perm.swap ..).trans (List.Perm.cons _ (List.Perm.swap ..)))))

theorem fetch_align (w : World) (h : MH w0 w m mm me M l) (ha : M.pc % 4 ≠ 0) :
    Calls Tryz.prog 56 #[.pointer (some ⟨m, 0, none⟩)] w fun e w' => e = .returned (.tuple #[inst 0 0 0 0 0, .int .i64 5]) ∧ MH w0 w' m mm me M l := by
  have hc3 := h.c3
  have HA := hide (fun W => aligned_any M.pc W h.fits.place)
  rw [decide_eq_false ha] at HA
  have hml := h.lt
  have HM := hide (fun W (hW : Below w.heap.size w W) => h.below hW)
  clear h ha
  generalize M.pc = p at *
  go_enter Tryz.func56, Tryz.ntmps56
  go_wp2_with fail
  refine (HA.out _).mono ?_
  rintro e W ⟨rfl, hW⟩
  rw [hW]
  clear hW W
  go_wp2
  refine bodyPost_ret (v := .tuple #[inst 0 0 0 0 0, .int .i64 5]) (by simp [results, Tryz.results56, go_sem, inst]) rfl ⟨rfl, HM.out _ (below_alloc _ _)⟩

set_option maxHeartbeats 1600000 in
theorem fetch_no (w : World) (h : MH w0 w m mm me M l) (ha : M.pc % 4 = 0) (hk : mayB M.mem M.pc 4 1 = false) :
    Calls Tryz.prog 56 #[.pointer (some ⟨m, 0, none⟩)] w fun e w' => e = .returned (.tuple #[inst 0 0 0 0 0, .int .i64 1]) ∧ MH w0 w' m mm me M l := by
  have hc0 := h.c0
  have hc3 := h.c3
  have HA := hide (fun W => aligned_any M.pc W h.fits.place)
  rw [decide_eq_true ha] at HA
  have hml := h.lt
  obtain ⟨F, hP⟩ := h.pm
  have HF := hide (fun W (hW : Below w.heap.size w W) => fetch_any mm M.mem F M.pc W (hP.below hW) h.fits.place)
  rw [hk] at HF
  have HM := hide h
  clear h ha hP hk
  generalize fetchV M.mem M.pc = v at *
  obtain ⟨p, hp⟩ : ∃ p, M.pc = p := ⟨_, rfl⟩
  rw [hp] at HA HF hc3
  have HPC := hide hp
  clear hp
  go_enter Tryz.func56, Tryz.ntmps56
  go_wp2_with fail
  refine (HA.out _).mono ?_
  rintro e W ⟨rfl, hW⟩
  rw [hW]
  clear hW W HA
  go_wp2_with fail
  obtain ⟨R, hR⟩ : ∃ R, R = w.heap.size := ⟨_, rfl⟩
  rw [← hR]
  obtain ⟨V, hV⟩ : ∃ V, V = w.alloc (.cells #[.int .i64 0, .int .i64 0, .int .i64 0, .int .i64 0, .int .i64 0] 28) := ⟨_, rfl⟩
  rw [← hV]
  have hMV : MH w0 V m mm me M (BlkT R (.cells #[.int .i64 0, .int .i64 0, .int .i64 0, .int .i64 0, .int .i64 0] 28 (0, 0)) :: l) := by rw [hV, hR]; exact HM.out.newblk _ _
  have hBV : Below w.heap.size w V.drew := by rw [hV]; exact (below_alloc _ _).drew
  have d0 := hMV.c0
  have d3 := hMV.c3
  rw [HPC.out] at d3
  have HMV := hide (hMV.below ((Below.refl _ _).drew))
  have HF2 := hide (HF.out _ hBV)
  clear hMV hBV hV hR HF HM hc0 hc3
  go_region_held3 (fun w' => w'.cell? ⟨m, 0, none⟩ = some (.pointer (some ⟨mm, 0, none⟩)) ∧ w'.cell? ⟨m, 3, none⟩ = some (.int .u64 (p : Int))) (go_keep)
    (first | (go_at_call 76; refine HF2.out.mono ?_; rintro e W1 ⟨rfl, hb⟩; have h1 := HMV.out.below hb; have g0 := h1.c0; have g3 := h1.c3; rw [HPC.out] at g3; have H1 := hide h1; clear h1 hb))
  have hz := blk_frozen H1.out.blk
  have z0 := hz 0
  have z1 := hz 1
  have z2 := hz 2
  have z3 := hz 3
  have z4 := hz 4
  have hcl := blk_cell H1.out.blk
  have q0 := hcl 0
  have q1 := hcl 1
  have q2 := hcl 2
  have q3 := hcl 3
  have q4 := hcl 4
  clear hz hcl HF2 HMV
  go_wp2
  have H2 := hide (H1.out.reblk (stc5_kept W1 R (.int .i64 0) (.int .i64 0) (.int .i64 0) (.int .i64 0) (.int .i64 0)) (stc5_blk H1.out.blk _ _ _ _ _))
  unfold stc5 at H2
  have hcl := blk_cell H2.out.blk
  have r0 := hcl 0
  have r1 := hcl 1
  have r2 := hcl 2
  have r3 := hcl 3
  have r4 := hcl 4
  generalize ((((W1.setCell ⟨R, 0, none⟩ (.int .i64 0)).setCell ⟨R, 1, none⟩ (.int .i64 0)).setCell ⟨R, 2, none⟩ (.int .i64 0)).setCell ⟨R, 3, none⟩ (.int .i64 0)).setCell ⟨R, 4, none⟩ (.int .i64 0) = W2 at *
  refine bodyPost_ret (v := .tuple #[inst 0 0 0 0 0, .int .i64 1]) (by simp [results, Tryz.results56, go_sem, inst, r0, r1, r2, r3, r4]) rfl ⟨rfl, H2.out.unbox⟩

set_option maxHeartbeats 1600000 in
theorem fetch_true (a0 a1 a2 a3 a4 : Int) (w : World) (h : MH w0 w m mm me M l) (ha : M.pc % 4 = 0) (hk : mayB M.mem M.pc 4 1 = true) (hL : Laid w0)
    (hD : ∀ W, Laid W → Calls Tryz.prog 77 #[.int .u32 (fetchV M.mem M.pc)] W fun e w' => e = .returned (.tuple #[inst a0 a1 a2 a3 a4, .bool true]) ∧ Below W.heap.size W w') :
    Calls Tryz.prog 56 #[.pointer (some ⟨m, 0, none⟩)] w fun e w' => e = .returned (.tuple #[inst a0 a1 a2 a3 a4, .int .i64 0]) ∧ MH w0 w' m mm me M l := by
  have hc0 := h.c0
  have hc3 := h.c3
  have HA := hide (fun W => aligned_any M.pc W h.fits.place)
  rw [decide_eq_true ha] at HA
  have hml := h.lt
  obtain ⟨F, hP⟩ := h.pm
  have HF := hide (fun W (hW : Below w.heap.size w W) => fetch_any mm M.mem F M.pc W (hP.below hW) h.fits.place)
  rw [hk] at HF
  have HM := hide h
  have HD := hide hD
  have HL := hide hL
  clear h ha hP hk hD hL
  generalize fetchV M.mem M.pc = v at *
  obtain ⟨p, hp⟩ : ∃ p, M.pc = p := ⟨_, rfl⟩
  rw [hp] at HA HF hc3
  have HPC := hide hp
  clear hp
  go_enter Tryz.func56, Tryz.ntmps56
  go_wp2_with fail
  refine (HA.out _).mono ?_
  rintro e W ⟨rfl, hW⟩
  rw [hW]
  clear hW W HA
  go_wp2_with fail
  obtain ⟨R, hR⟩ : ∃ R, R = w.heap.size := ⟨_, rfl⟩
  rw [← hR]
  obtain ⟨V, hV⟩ : ∃ V, V = w.alloc (.cells #[.int .i64 0, .int .i64 0, .int .i64 0, .int .i64 0, .int .i64 0] 28) := ⟨_, rfl⟩
  rw [← hV]
  have hMV : MH w0 V m mm me M (BlkT R (.cells #[.int .i64 0, .int .i64 0, .int .i64 0, .int .i64 0, .int .i64 0] 28 (0, 0)) :: l) := by rw [hV, hR]; exact HM.out.newblk _ _
  have hBV : Below w.heap.size w V.drew := by rw [hV]; exact (below_alloc _ _).drew
  have d0 := hMV.c0
  have d3 := hMV.c3
  rw [HPC.out] at d3
  have HMV := hide (hMV.below ((Below.refl _ _).drew))
  have HF2 := hide (HF.out _ hBV)
  clear hMV hBV hV hR HF HM hc0 hc3
  go_region_held3 (fun w' => w'.cell? ⟨m, 0, none⟩ = some (.pointer (some ⟨mm, 0, none⟩)) ∧ w'.cell? ⟨m, 3, none⟩ = some (.int .u64 (p : Int))) (go_keep)
    (first | (go_at_call 76; refine HF2.out.mono ?_; rintro e W1 ⟨rfl, hb⟩; have h1 := HMV.out.below hb; have g0 := h1.c0; have g3 := h1.c3; rw [HPC.out] at g3; have H1 := hide h1; clear h1 hb))
  clear HF2 HMV
  go_wp2_with fail
  refine (HD.out _ (HL.out.below H1.out.bel HL.out.1)).mono ?_
  rintro e W2 ⟨rfl, hb⟩
  have H2 := hide (H1.out.below hb)
  unfold inst
  clear hb HD HL H1 g0 g3
  go_upto_region 7 with fail
  have H3 := hide (H2.out.below (below_alloc W2 (.cells #[.int .i64 a0, .int .i64 a1, .int .i64 a2, .int .i64 a3, .int .i64 a4] 28)))
  have hcn := cell_new W2 #[.int .i64 a0, .int .i64 a1, .int .i64 a2, .int .i64 a3, .int .i64 a4] 28
  obtain ⟨Y, hY⟩ : ∃ Y, Y = W2.heap.size := ⟨_, rfl⟩
  rw [← hY] at hcn ⊢
  generalize W2.alloc (.cells #[.int .i64 a0, .int .i64 a1, .int .i64 a2, .int .i64 a3, .int .i64 a4] 28) = W3 at *
  have y0 := hcn 0
  have y1 := hcn 1
  have y2 := hcn 2
  have y3 := hcn 3
  have y4 := hcn 4
  have hz := blk_frozen H3.out.blk
  have z0 := hz 0
  have z1 := hz 1
  have z2 := hz 2
  have z3 := hz 3
  have z4 := hz 4
  have hcl := blk_cell H3.out.blk
  have q0 := hcl 0
  have q1 := hcl 1
  have q2 := hcl 2
  have q3 := hcl 3
  have q4 := hcl 4
  clear hz hcl hcn H2 hY d0 d3
  go_wp2
  have H4 := hide (H3.out.reblk (stc5_kept W3 R (.int .i64 a0) (.int .i64 a1) (.int .i64 a2) (.int .i64 a3) (.int .i64 a4)) (stc5_blk H3.out.blk _ _ _ _ _))
  unfold stc5 at H4
  have hcl := blk_cell H4.out.blk
  have r0 := hcl 0
  have r1 := hcl 1
  have r2 := hcl 2
  have r3 := hcl 3
  have r4 := hcl 4
  generalize ((((W3.setCell ⟨R, 0, none⟩ (.int .i64 a0)).setCell ⟨R, 1, none⟩ (.int .i64 a1)).setCell ⟨R, 2, none⟩ (.int .i64 a2)).setCell ⟨R, 3, none⟩ (.int .i64 a3)).setCell ⟨R, 4, none⟩ (.int .i64 a4) = W4 at *
  refine bodyPost_ret (v := .tuple #[inst a0 a1 a2 a3 a4, .int .i64 0]) (by simp [results, Tryz.results56, go_sem, inst, r0, r1, r2, r3, r4]) rfl ⟨rfl, H4.out.unbox⟩

set_option maxHeartbeats 1600000 in
theorem fetch_false (a0 a1 a2 a3 a4 : Int) (w : World) (h : MH w0 w m mm me M l) (ha : M.pc % 4 = 0) (hk : mayB M.mem M.pc 4 1 = true) (hL : Laid w0)
    (hD : ∀ W, Laid W → Calls Tryz.prog 77 #[.int .u32 (fetchV M.mem M.pc)] W fun e w' => e = .returned (.tuple #[inst a0 a1 a2 a3 a4, .bool false]) ∧ Below W.heap.size W w') :
    Calls Tryz.prog 56 #[.pointer (some ⟨m, 0, none⟩)] w fun e w' => e = .returned (.tuple #[inst 0 0 0 0 0, .int .i64 2]) ∧ MH w0 w' m mm me M l := by
  have hc0 := h.c0
  have hc3 := h.c3
  have HA := hide (fun W => aligned_any M.pc W h.fits.place)
  rw [decide_eq_true ha] at HA
  have hml := h.lt
  obtain ⟨F, hP⟩ := h.pm
  have HF := hide (fun W (hW : Below w.heap.size w W) => fetch_any mm M.mem F M.pc W (hP.below hW) h.fits.place)
  rw [hk] at HF
  have HM := hide h
  have HD := hide hD
  have HL := hide hL
  clear h ha hP hk hD hL
  generalize fetchV M.mem M.pc = v at *
  obtain ⟨p, hp⟩ : ∃ p, M.pc = p := ⟨_, rfl⟩
  rw [hp] at HA HF hc3
  have HPC := hide hp
  clear hp
  go_enter Tryz.func56, Tryz.ntmps56
  go_wp2_with fail
  refine (HA.out _).mono ?_
  rintro e W ⟨rfl, hW⟩
  rw [hW]
  clear hW W HA
  go_wp2_with fail
  obtain ⟨R, hR⟩ : ∃ R, R = w.heap.size := ⟨_, rfl⟩
  rw [← hR]
  obtain ⟨V, hV⟩ : ∃ V, V = w.alloc (.cells #[.int .i64 0, .int .i64 0, .int .i64 0, .int .i64 0, .int .i64 0] 28) := ⟨_, rfl⟩
  rw [← hV]
  have hMV : MH w0 V m mm me M (BlkT R (.cells #[.int .i64 0, .int .i64 0, .int .i64 0, .int .i64 0, .int .i64 0] 28 (0, 0)) :: l) := by rw [hV, hR]; exact HM.out.newblk _ _
  have hBV : Below w.heap.size w V.drew := by rw [hV]; exact (below_alloc _ _).drew
  have d0 := hMV.c0
  have d3 := hMV.c3
  rw [HPC.out] at d3
  have HMV := hide (hMV.below ((Below.refl _ _).drew))
  have HF2 := hide (HF.out _ hBV)
  clear hMV hBV hV hR HF HM hc0 hc3
  go_region_held3 (fun w' => w'.cell? ⟨m, 0, none⟩ = some (.pointer (some ⟨mm, 0, none⟩)) ∧ w'.cell? ⟨m, 3, none⟩ = some (.int .u64 (p : Int))) (go_keep)
    (first | (go_at_call 76; refine HF2.out.mono ?_; rintro e W1 ⟨rfl, hb⟩; have h1 := HMV.out.below hb; have g0 := h1.c0; have g3 := h1.c3; rw [HPC.out] at g3; have H1 := hide h1; clear h1 hb))
  clear HF2 HMV
  go_wp2_with fail
  refine (HD.out _ (HL.out.below H1.out.bel HL.out.1)).mono ?_
  rintro e W2 ⟨rfl, hb⟩
  have H2 := hide (H1.out.below hb)
  unfold inst
  clear hb HD HL H1 g0 g3
  go_upto_region 7 with fail
  have H3 := hide (H2.out.below (below_alloc W2 (.cells #[.int .i64 a0, .int .i64 a1, .int .i64 a2, .int .i64 a3, .int .i64 a4] 28)))
  have hcn := cell_new W2 #[.int .i64 a0, .int .i64 a1, .int .i64 a2, .int .i64 a3, .int .i64 a4] 28
  obtain ⟨Y, hY⟩ : ∃ Y, Y = W2.heap.size := ⟨_, rfl⟩
  rw [← hY] at hcn ⊢
  generalize W2.alloc (.cells #[.int .i64 a0, .int .i64 a1, .int .i64 a2, .int .i64 a3, .int .i64 a4] 28) = W3 at *
  have y0 := hcn 0
  have y1 := hcn 1
  have y2 := hcn 2
  have y3 := hcn 3
  have y4 := hcn 4
  have hz := blk_frozen H3.out.blk
  have z0 := hz 0
  have z1 := hz 1
  have z2 := hz 2
  have z3 := hz 3
  have z4 := hz 4
  have hcl := blk_cell H3.out.blk
  have q0 := hcl 0
  have q1 := hcl 1
  have q2 := hcl 2
  have q3 := hcl 3
  have q4 := hcl 4
  clear hz hcl hcn H2 hY d0 d3
  go_wp2
  have H4 := hide (H3.out.reblk (stc5_kept W3 R (.int .i64 0) (.int .i64 0) (.int .i64 0) (.int .i64 0) (.int .i64 0)) (stc5_blk H3.out.blk _ _ _ _ _))
  unfold stc5 at H4
  have hcl := blk_cell H4.out.blk
  have r0 := hcl 0
  have r1 := hcl 1
  have r2 := hcl 2
  have r3 := hcl 3
  have r4 := hcl 4
  generalize ((((W3.setCell ⟨R, 0, none⟩ (.int .i64 0)).setCell ⟨R, 1, none⟩ (.int .i64 0)).setCell ⟨R, 2, none⟩ (.int .i64 0)).setCell ⟨R, 3, none⟩ (.int .i64 0)).setCell ⟨R, 4, none⟩ (.int .i64 0) = W4 at *
  refine bodyPost_ret (v := .tuple #[inst 0 0 0 0 0, .int .i64 2]) (by simp [results, Tryz.results56, go_sem, inst, r0, r1, r2, r3, r4]) rfl ⟨rfl, H4.out.unbox⟩

end

end Go.Proofs.YtgjfelkbblbjfaaGreatDoor

/- Contracts of package mach's Step, Run, New. -/
namespace Go.Proofs.YtgjfelkbblbjfaaGreatDoor
open Go.RowKit Go.Maps
set_option linter.unusedVariables false
set_option maxRecDepth 100000

def stV (k c t : Int) : Value := .agg #[.int .i64 k, .int .i64 c, .int .i64 t]

section
variable {w0 w w' : World} {m mm me : Nat} {M : Mc} {l : List (World → (Nat → Prop) → Prop)} {X : Nat} {o o' : Obj}

theorem step_ended (w : World) (h : MH w0 w m mm me M l) (hk : M.kind ≠ 0) :
    Calls Tryz.prog 39 #[.pointer (some ⟨m, 0, none⟩)] w fun e w' => e = .returned (stV M.kind M.code M.trap) ∧ MH w0 w' m mm me M l := by
  obtain ⟨⟨c4, c5, c6⟩, hz⟩ := h.st
  have hk' : (M.kind != 0) = true := by simpa using hk
  have hml := h.lt
  have HM := hide (h.below (below_alloc w (.cells #[.int .i64 M.kind, .int .i64 M.code, .int .i64 M.trap] 56)))
  clear h hk hz
  generalize M.kind = k at *
  generalize M.code = c at *
  generalize M.trap = t at *
  go_enter Tryz.func39, Tryz.ntmps39
  go_wp2
  refine bodyPost_ret (v := stV k c t) (by simp [results, Tryz.results39, go_sem, stV]) rfl ⟨rfl, HM.out⟩

set_option maxHeartbeats 1600000 in
theorem step_trap (T : Int) (a0 a1 a2 a3 a4 : Int) (w : World) (h : MH w0 w m mm me M l) (hk : M.kind = 0) (hT : T ≠ 0) (hTI : InI T)
    (hF : ∀ W l, MH w0 W m mm me M l → Calls Tryz.prog 56 #[.pointer (some ⟨m, 0, none⟩)] W fun e w' => e = .returned (.tuple #[inst a0 a1 a2 a3 a4, .int .i64 T]) ∧ MH w0 w' m mm me M l) :
    Calls Tryz.prog 39 #[.pointer (some ⟨m, 0, none⟩)] w fun e w' => e = .returned (stV 2 0 T) ∧ MH w0 w' m mm me (M.trapped T) l := by
  obtain ⟨⟨c4, c5, c6⟩, hz⟩ := h.st
  rw [hk] at c4
  have t1 : (T == 0) = false := by simpa using hT
  have t2 : (T != 0) = true := by simpa using hT
  have hml := h.lt
  have HF := hide hF
  have HM := hide h
  have HTI := hide hTI
  clear h hk hz hF hT hTI
  go_enter Tryz.func39, Tryz.ntmps39
  go_wp2_with fail
  obtain ⟨R, hR⟩ : ∃ R, R = w.heap.size := ⟨_, rfl⟩
  rw [← hR]
  obtain ⟨V, hV⟩ : ∃ V, V = w.alloc (.cells #[.int .i64 0, .int .i64 0, .int .i64 0] 56) := ⟨_, rfl⟩
  rw [← hV]
  have hMV : MH w0 V m mm me M (BlkT R (.cells #[.int .i64 0, .int .i64 0, .int .i64 0] 56 (0, 0)) :: l) := by rw [hV, hR]; exact HM.out.newblk _ _
  clear hV hR HM c4 c5 c6
  refine (HF.out _ _ hMV).mono ?_
  rintro e W1 ⟨rfl, h1⟩
  have H1 := hide h1
  clear h1 hMV HF
  unfold inst
  go_upto_region 4 with fail
  have H2 := hide (H1.out.below (below_alloc W1 (.cells #[.int .i64 a0, .int .i64 a1, .int .i64 a2, .int .i64 a3, .int .i64 a4] 28)))
  obtain ⟨Y, hY⟩ : ∃ Y, Y = W1.heap.size := ⟨_, rfl⟩
  rw [← hY]
  generalize W1.alloc (.cells #[.int .i64 a0, .int .i64 a1, .int .i64 a2, .int .i64 a3, .int .i64 a4] 28) = W2 at *
  obtain ⟨⟨c4, c5, c6⟩, hz⟩ := H2.out.st
  have z4 := hz 4
  have z5 := hz 5
  have z6 := hz 6
  clear hz H1 hY
  go_upto_region 8 with fail
  have H3 := hide (H2.out.ended (k' := 2) (c' := 0) (t' := T) (by unfold InI; omega) (by unfold InI; omega) HTI.out)
  generalize (((W2.setCell ⟨m, 4, none⟩ (.int .i64 2)).setCell ⟨m, 5, none⟩ (.int .i64 0)).setCell ⟨m, 6, none⟩ (.int .i64 T)) = W3 at *
  clear c4 c5 c6 z4 z5 z6 H2
  obtain ⟨⟨c4, c5, c6⟩, _⟩ := H3.out.st
  dsimp only at c4 c5 c6
  have hz := blk_frozen H3.out.blk
  have z0 := hz 0
  have z1 := hz 1
  have z2 := hz 2
  have hcl := blk_cell H3.out.blk
  have q0 := hcl 0
  have q1 := hcl 1
  have q2 := hcl 2
  clear hz hcl
  go_wp2
  have H4 := hide (H3.out.reblk (stc3_kept W3 R (.int .i64 2) (.int .i64 0) (.int .i64 T)) (stc3_blk H3.out.blk _ _ _))
  unfold stc3 at H4
  have hcl := blk_cell H4.out.blk
  have r0 := hcl 0
  have r1 := hcl 1
  have r2 := hcl 2
  generalize ((W3.setCell ⟨R, 0, none⟩ (.int .i64 2)).setCell ⟨R, 1, none⟩ (.int .i64 0)).setCell ⟨R, 2, none⟩ (.int .i64 T) = W4 at *
  refine bodyPost_ret (v := stV 2 0 T) (by simp [results, Tryz.results39, go_sem, stV, r0, r1, r2]) rfl ⟨rfl, H4.out.unbox⟩

theorem fit5_of (o : Nat) (v : Int) : Fit5 (rdO (fmo o) v) (r1O (fmo o) v) (r2O (fmo o) v) (imO (fmo o) v) := by
  have h := get_bd (fmo o) v
  refine ⟨?_, ?_, ?_, ?_⟩
  · unfold rdO; split <;> omega
  · unfold r1O; split <;> omega
  · unfold r2O; split <;> omega
  · unfold imO
    split
    · rw [show (2 : Int) ^ 6 = 64 by decide]; omega
    · split
      · rw [show (2 : Int) ^ 5 = 32 by decide]; omega
      · omega

set_option maxHeartbeats 1600000 in
theorem step_do (o : Nat) (a1 a2 a3 a4 : Int) (w : World) (h : MH w0 w m mm me M l) (hk : M.kind = 0) (hL : Laid w0) (h0 : 1 ≤ o) (h1 : o < 66) (hf : Fit5 a1 a2 a3 a4) (ht : M.tr.length < 1000000) (hi : M.ins.length ≤ 140737488355328)
    (hF : ∀ W l, MH w0 W m mm me M l → Calls Tryz.prog 56 #[.pointer (some ⟨m, 0, none⟩)] W fun e w' => e = .returned (.tuple #[inst o a1 a2 a3 a4, .int .i64 0]) ∧ MH w0 w' m mm me M l) :
    Calls Tryz.prog 39 #[.pointer (some ⟨m, 0, none⟩)] w fun e w' => e = .returned (stV (M.doF o a1 a2 a3 a4).kind (M.doF o a1 a2 a3 a4).code (M.doF o a1 a2 a3 a4).trap) ∧ MH w0 w' m mm me (M.doF o a1 a2 a3 a4) l := by
  obtain ⟨⟨c4, c5, c6⟩, hz⟩ := h.st
  rw [hk] at c4
  have hml := h.lt
  have HF := hide hF
  have HDo := hide (fun W l (hW : MH w0 W m mm me M l) => do_any o a1 a2 a3 a4 W hW hL h0 h1 hf ht hi)
  have HM := hide h
  generalize M.doF o a1 a2 a3 a4 = D at *
  clear h hk hz hF hL hf ht hi h0 h1
  go_enter Tryz.func39, Tryz.ntmps39
  go_wp2_with fail
  obtain ⟨R, hR⟩ : ∃ R, R = w.heap.size := ⟨_, rfl⟩
  rw [← hR]
  obtain ⟨V, hV⟩ : ∃ V, V = w.alloc (.cells #[.int .i64 0, .int .i64 0, .int .i64 0] 56) := ⟨_, rfl⟩
  rw [← hV]
  have hMV : MH w0 V m mm me M (BlkT R (.cells #[.int .i64 0, .int .i64 0, .int .i64 0] 56 (0, 0)) :: l) := by rw [hV, hR]; exact HM.out.newblk _ _
  clear hV hR HM c4 c5 c6
  refine (HF.out _ _ hMV).mono ?_
  rintro e W1 ⟨rfl, h1⟩
  have H1 := hide h1
  clear h1 hMV HF
  unfold inst at *
  go_upto_region 4 with fail
  have H2 := hide (H1.out.below (below_alloc W1 (.cells #[.int .i64 (o : Int), .int .i64 a1, .int .i64 a2, .int .i64 a3, .int .i64 a4] 28)))
  have hcn := cell_new W1 #[.int .i64 (o : Int), .int .i64 a1, .int .i64 a2, .int .i64 a3, .int .i64 a4] 28
  obtain ⟨Y, hY⟩ : ∃ Y, Y = W1.heap.size := ⟨_, rfl⟩
  rw [← hY] at hcn ⊢
  generalize W1.alloc (.cells #[.int .i64 (o : Int), .int .i64 a1, .int .i64 a2, .int .i64 a3, .int .i64 a4] 28) = W2 at *
  have y0 := hcn 0
  have y1 := hcn 1
  have y2 := hcn 2
  have y3 := hcn 3
  have y4 := hcn 4
  clear hcn H1 hY
  go_wp2_with fail
  refine (HDo.out _ _ H2.out).mono ?_
  rintro e W3 ⟨r, M', rfl, hd, h3⟩
  have H3 := hide h3
  clear h3 HDo H2 y0 y1 y2 y3 y4
  rcases hd with ⟨rfl, rfl⟩ | ⟨hr, hri, rfl, rfl⟩
  · go_upto_region 8 with fail
    obtain ⟨⟨c4, c5, c6⟩, _⟩ := H3.out.st
    have hz := blk_frozen H3.out.blk
    have z0 := hz 0
    have z1 := hz 1
    have z2 := hz 2
    have hcl := blk_cell H3.out.blk
    have q0 := hcl 0
    have q1 := hcl 1
    have q2 := hcl 2
    have H4 := hide (H3.out.reblk (stc3_kept W3 R (.int .i64 M'.kind) (.int .i64 M'.code) (.int .i64 M'.trap)) (stc3_blk H3.out.blk _ _ _))
    unfold stc3 at H4
    clear hz hcl
    go_wp2
    have hcl := blk_cell H4.out.blk
    have r0 := hcl 0
    have r1 := hcl 1
    have r2 := hcl 2
    generalize ((W3.setCell ⟨R, 0, none⟩ (.int .i64 M'.kind)).setCell ⟨R, 1, none⟩ (.int .i64 M'.code)).setCell ⟨R, 2, none⟩ (.int .i64 M'.trap) = W4 at *
    refine bodyPost_ret (v := stV M'.kind M'.code M'.trap) (by simp [results, Tryz.results39, go_sem, stV, r0, r1, r2]) rfl ⟨rfl, H4.out.unbox⟩
  · have t2 : (r != 0) = true := by simpa using hr
    obtain ⟨⟨c4, c5, c6⟩, hz⟩ := H3.out.st
    have z4 := hz 4
    have z5 := hz 5
    have z6 := hz 6
    have HRI := hide hri
    clear hz hr hri
    go_upto_region 8 with fail
    have H5 := hide (H3.out.ended (k' := 2) (c' := 0) (t' := r) (by unfold InI; omega) (by unfold InI; omega) HRI.out)
    generalize (((W3.setCell ⟨m, 4, none⟩ (.int .i64 2)).setCell ⟨m, 5, none⟩ (.int .i64 0)).setCell ⟨m, 6, none⟩ (.int .i64 r)) = W5 at *
    clear c4 c5 c6 z4 z5 z6 H3
    obtain ⟨⟨c4, c5, c6⟩, _⟩ := H5.out.st
    dsimp only at c4 c5 c6
    have hz := blk_frozen H5.out.blk
    have z0 := hz 0
    have z1 := hz 1
    have z2 := hz 2
    have hcl := blk_cell H5.out.blk
    have q0 := hcl 0
    have q1 := hcl 1
    have q2 := hcl 2
    clear hz hcl
    go_wp2
    have H4 := hide (H5.out.reblk (stc3_kept W5 R (.int .i64 2) (.int .i64 0) (.int .i64 r)) (stc3_blk H5.out.blk _ _ _))
    unfold stc3 at H4
    have hcl := blk_cell H4.out.blk
    have r0 := hcl 0
    have r1 := hcl 1
    have r2 := hcl 2
    generalize ((W5.setCell ⟨R, 0, none⟩ (.int .i64 2)).setCell ⟨R, 1, none⟩ (.int .i64 0)).setCell ⟨R, 2, none⟩ (.int .i64 r) = W4 at *
    refine bodyPost_ret (v := stV 2 0 r) (by simp [results, Tryz.results39, go_sem, stV, r0, r1, r2]) rfl ⟨rfl, H4.out.unbox⟩

/-- A step. -/
theorem step_any (w : World) (h : MH w0 w m mm me M l) (hL : Laid w0) (ht : M.tr.length < 1000000) (hi : M.ins.length ≤ 140737488355328) :
    Calls Tryz.prog 39 #[.pointer (some ⟨m, 0, none⟩)] w fun e w' => e = .returned (stV M.step.kind M.step.code M.step.trap) ∧ MH w0 w' m mm me M.step l := by
  unfold Mc.step
  by_cases hk : M.kind = 0
  · rw [if_pos hk]
    by_cases ha : M.pc % 4 = 0
    · rw [if_pos ha]
      cases hm : mayB M.mem M.pc 4 1 with
      | false =>
        rw [if_neg (by decide)]
        exact step_trap 1 0 0 0 0 0 w h hk (by decide) (by unfold InI; omega) (fun W l hW => fetch_no W hW ha hm)
      | true =>
        rw [if_pos rfl]
        have hb := fetchV_bd h.good M.pc
        have hop := opOf_is (fetchV M.mem M.pc)
        by_cases ho : opOf (fetchV M.mem M.pc) = 0
        · rw [if_pos ho]
          rw [ho] at hop
          exact step_trap 2 0 0 0 0 0 w h hk (by decide) (by unfold InI; omega) (fun W l hW => fetch_false 0 0 0 0 0 W hW ha hm hL (fun W' hL' => dec_none _ W' hb.1 hb.2 hop hL'))
        · rw [if_neg ho]
          obtain ⟨h1, h2, h3⟩ := hop.resolve_left (fun e => ho e.1)
          exact step_do _ _ _ _ _ w h hk hL h1 h2 (fit5_of _ _) ht hi (fun W l hW => fetch_true _ _ _ _ _ W hW ha hm hL (fun W' hL' => dec_some _ _ W' hb.1 hb.2 h1 h2 h3 hL'))
    · rw [if_neg ha]
      exact step_trap 5 0 0 0 0 0 w h hk (by decide) (by unfold InI; omega) (fun W l hW => fetch_align W hW ha)
  · rw [if_neg hk]
    exact step_ended w h hk

/-- What a step does to the events, to the input: at most one event more. -/
def TrOk (M M' : Mc) : Prop := M'.tr.length ≤ M.tr.length + 1 ∧ M'.ins.length ≤ M.ins.length
theorem tr_same {M M' : Mc} (h1 : M'.tr = M.tr) (h2 : M'.ins = M.ins) : TrOk M M' := ⟨by rw [h1]; omega, by rw [h2]; exact Nat.le_refl _⟩
theorem tr_jump (M : Mc) (rd p : Int) : TrOk M (M.jump rd p) := by
  unfold Mc.jump
  split
  · exact tr_same rfl rfl
  · exact tr_same rfl rfl
theorem tr_call (M : Mc) : TrOk M M.call := by
  unfold Mc.call
  repeat' split
  all_goals first
    | exact tr_same rfl rfl
    | (refine ⟨?_, ?_⟩ <;> simp [Mc.put])
theorem tr_do (M : Mc) (o : Nat) (rd r1 r2 im : Int) : TrOk M (M.doF o rd r1 r2 im) := by
  unfold Mc.doF
  repeat' split
  all_goals first
    | exact tr_call _
    | exact tr_jump _ _ _
    | exact tr_same rfl rfl
theorem Mc.step_tr (M : Mc) : TrOk M M.step := by
  unfold Mc.step
  repeat' split
  all_goals first | exact tr_do _ _ _ _ _ _ | exact tr_same rfl rfl

noncomputable def Mc.runF (M : Mc) : Nat → Mc
  | 0 => M
  | n + 1 => (M.runF n).step
theorem Mc.runF_tr (M : Mc) : ∀ n, (M.runF n).tr.length ≤ M.tr.length + n ∧ (M.runF n).ins.length ≤ M.ins.length
  | 0 => ⟨Nat.le_refl _, Nat.le_refl _⟩
  | n + 1 => by
    have h1 := Mc.runF_tr M n
    obtain ⟨h2, h3⟩ := (M.runF n).step_tr
    unfold Mc.runF
    omega
theorem Mc.step_ended {M : Mc} (h : M.kind ≠ 0) : M.step = M := by unfold Mc.step; rw [if_neg h]
theorem Mc.runF_ended {M : Mc} {j : Nat} (h : (M.runF j).kind ≠ 0) : ∀ n, j ≤ n → M.runF n = M.runF j
  | 0, hn => by obtain rfl : j = 0 := by omega
                rfl
  | n + 1, hn => by
    by_cases e : j = n + 1
    · rw [e]
    · have h1 := Mc.runF_ended h n (by omega)
      show (M.runF n).step = _
      rw [h1]
      exact Mc.step_ended h

end

end Go.Proofs.YtgjfelkbblbjfaaGreatDoor

/- Contracts of package mach's Run and New. -/
namespace Go.Proofs.YtgjfelkbblbjfaaGreatDoor
open Go.RowKit Go.Maps
set_option linter.unusedVariables false
set_option maxRecDepth 100000

theorem stfield (x y z : Value) (w : World) : (Instr.field 56 (.agg #[x, y, z]) 0).run Tryz.prog w = .ok x w := by kernel_rfl

section
variable {w0 w w' : World} {m mm me : Nat} {M : Mc} {l : List (World → (Nat → Prop) → Prop)} {X : Nat} {o o' : Obj}

set_option maxHeartbeats 1600000 in
theorem run_any (n : Nat) (w : World) (h : MH w0 w m mm me M l) (hL : Laid w0) (hn : n ≤ 1000) (ht : M.tr.length + n ≤ 100000) (hi : M.ins.length ≤ 140737488355328) :
    Calls Tryz.prog 17 #[.pointer (some ⟨m, 0, none⟩), .int .i64 (n : Int)] w fun e w' => e = .returned (stV (M.runF n).kind (M.runF n).code (M.runF n).trap) ∧ MH w0 w' m mm me (M.runF n) l := by
  have HS := hide (fun j (hj : j < n) W l (hW : MH w0 W m mm me (M.runF j) l) => step_any (M := M.runF j) W hW hL (by have := (M.runF_tr j).1; omega) (by have := (M.runF_tr j).2; omega))
  have HM := hide h
  have hml := h.lt
  clear h hL ht hi
  go_enter Tryz.func17, Tryz.ntmps17
  go_wp2
  obtain ⟨R, hR⟩ : ∃ R, R = w.heap.size := ⟨_, rfl⟩
  rw [← hR]
  obtain ⟨V, hV⟩ : ∃ V, V = w.alloc (.cells #[.int .i64 0, .int .i64 0, .int .i64 0] 56) := ⟨_, rfl⟩
  rw [← hV]
  have HMV : Hid (MH w0 V m mm me M (BlkT R (.cells #[.int .i64 0, .int .i64 0, .int .i64 0] 56 (0, 0)) :: l)) := by rw [hV, hR]; exact HM.out.newblk _ _
  clear hV hR HM
  go_loopw [7] (fun i wr => ∃ j : Nat, j ≤ n ∧ i = .int .i64 (j : Int) ∧ MH w0 wr m mm me (M.runF j) (BlkT R (.cells #[.int .i64 0, .int .i64 0, .int .i64 0] 56 (0, 0)) :: l)) (fun i _ => n - (intOf i).toNat)
  case atStart => exact ⟨0, by omega, rfl, HMV.out⟩
  case round =>
    obtain ⟨j, hj, rfl, hW⟩ := hrel
    have HW := hide hW
    clear hW
    by_cases hlt : j < n
    · go_wp2_with fail
      refine (HS.out j hlt _ _ HW.out).mono ?_
      rintro e W3 ⟨rfl, h3⟩
      have H3 := hide h3
      clear h3 HW HS HMV
      obtain ⟨N, hN⟩ : ∃ N, M.runF (j + 1) = N := ⟨_, rfl⟩
      have hN' : (M.runF j).step = N := hN
      rw [hN'] at H3 ⊢
      have hfld := stfield
      unfold stV
      by_cases hk : N.kind = 0
      · have hk' : (N.kind != 0) = false := by simpa using hk
        have HN := hide hN
        clear hN hN' hk
        generalize N.kind = nk at *
        go_wp2
        go_roundw
        case rel => exact ⟨j + 1, by omega, by go_num, by rw [HN.out]; exact H3.out⟩
        case measure => simp [intOf]; omega
      · have hk' : (N.kind != 0) = true := by simpa using hk
        have HN : Hid (M.runF n = N) := by
          rw [← hN] at hk ⊢
          exact Mc.runF_ended hk n (by omega)
        clear hN hN' hk
        go_upto_region 5 with fail
        obtain ⟨⟨c4, c5, c6⟩, _⟩ := H3.out.st
        have hz := blk_frozen H3.out.blk
        have z0 := hz 0
        have z1 := hz 1
        have z2 := hz 2
        have hcl := blk_cell H3.out.blk
        have q0 := hcl 0
        have q1 := hcl 1
        have q2 := hcl 2
        have H4 := hide (H3.out.reblk (stc3_kept W3 R (.int .i64 N.kind) (.int .i64 N.code) (.int .i64 N.trap)) (stc3_blk H3.out.blk _ _ _))
        unfold stc3 at H4
        clear hz hcl
        go_wp2
        have hcl := blk_cell H4.out.blk
        have r0 := hcl 0
        have r1 := hcl 1
        have r2 := hcl 2
        generalize ((W3.setCell ⟨R, 0, none⟩ (.int .i64 N.kind)).setCell ⟨R, 1, none⟩ (.int .i64 N.code)).setCell ⟨R, 2, none⟩ (.int .i64 N.trap) = W4 at *
        have H5 := hide H4.out.unbox
        refine bodyPost_ret (v := stV N.kind N.code N.trap) (by simp [results, Tryz.results17, go_sem, stV, r0, r1, r2]) rfl ⟨by rw [HN.out], by rw [HN.out]; exact H5.out⟩
    · obtain rfl : j = n := by omega
      obtain ⟨N, hN⟩ : ∃ N, M.runF j = N := ⟨_, rfl⟩
      have HN := hide hN
      rw [hN] at HW
      clear hN HS HMV
      revert HW
      generalize wr = W3
      intro H3
      go_upto_region 5 with fail
      obtain ⟨⟨c4, c5, c6⟩, _⟩ := H3.out.st
      have hz := blk_frozen H3.out.blk
      have z0 := hz 0
      have z1 := hz 1
      have z2 := hz 2
      have hcl := blk_cell H3.out.blk
      have q0 := hcl 0
      have q1 := hcl 1
      have q2 := hcl 2
      have H4 := hide (H3.out.reblk (stc3_kept W3 R (.int .i64 N.kind) (.int .i64 N.code) (.int .i64 N.trap)) (stc3_blk H3.out.blk _ _ _))
      unfold stc3 at H4
      clear hz hcl
      go_wp2
      have hcl := blk_cell H4.out.blk
      have r0 := hcl 0
      have r1 := hcl 1
      have r2 := hcl 2
      generalize ((W3.setCell ⟨R, 0, none⟩ (.int .i64 N.kind)).setCell ⟨R, 1, none⟩ (.int .i64 N.code)).setCell ⟨R, 2, none⟩ (.int .i64 N.trap) = W4 at *
      have H5 := hide H4.out.unbox
      refine bodyPost_ret (v := stV N.kind N.code N.trap) (by simp [results, Tryz.results17, go_sem, stV, r0, r1, r2]) rfl ⟨by rw [HN.out], by rw [HN.out]; exact H5.out⟩

theorem new_mach (mm me entry : Nat) (S : Mm) (ins : List Int) (tr : List Says) (w : World) (h : Has w0 w (PMt mm S :: EV w0.heap.size 92 me ins tr :: l)) (he : entry ≤ 18446744073709551615) :
    Calls Tryz.prog 14 #[.pointer (some ⟨mm, 0, none⟩), .pointer (some ⟨me, 0, none⟩), .int .u64 (entry : Int)] w fun e w' => ∃ m, e = .returned (.pointer (some ⟨m, 0, none⟩)) ∧ MH w0 w' m mm me ⟨S, ins, tr, fun _ => 0, entry, 0, 0, 0⟩ l := by
  have in0 : (-9223372036854775808 : Int) ≤ 0 ∧ (0 : Int) ≤ 9223372036854775807 := by decide
  have HM := hide h
  have hmm := @run_makeMap Tryz.prog
  clear h
  go_enter Tryz.func14, Tryz.ntmps14
  go_wp2
  go_ret
  refine ⟨w.heap.size + 1, rfl, ?_⟩
  refine Has.more HM.out (F := fun k => k = w.heap.size ∨ k = w.heap.size + 1) (((Below.refl _ _).alloc (Nat.le_refl _) _).alloc (by simp) _) ⟨w.heap.size, 0, fun _ => none, ⟨?_, (MapI.made w).kept (Below.heap_alloc _ _ _ (by simp)), by omega, fun z hz => ?_, ⟨fun i => by simp, rfl, fun i hi => rfl, he, in0, in0, in0⟩, Or.inr rfl, Or.inl rfl, ?_⟩⟩ ?_ (hd_stays _ _ _ _ _ _ _ _ _)
  · have := heap_alloc_new (w.alloc (.map #[] 0)) (.cells #[.pointer (some ⟨mm, 0, none⟩), .pointer (some ⟨me, 0, none⟩), .map (some w.heap.size), .int .u64 (entry : Int), .int .i64 0, .int .i64 0, .int .i64 0] 95)
    simpa using this
  · unfold rg
    split <;> rfl
  · intro k hk; simp; omega
  · intro k hk; omega

end

end Go.Proofs.YtgjfelkbblbjfaaGreatDoor
