/- Texts of this claim, joined: RefHead, MachTwo. -/
import Derived.Test.YtgjfelkbblbjfaaGreatDoorJ21
import Derived.Test.YtgjfelkbblbjfaaGreatDoorMachAluR
import Derived.Test.YtgjfelkbblbjfaaGreatDoorJ32
import Derived.Test.YtgjfelkbblbjfaaGreatDoorJ20
import Derived.Deep.LoopGhost
import Derived.Deep.RegionHeld3
import Derived.RegionTactic
import Derived.BigQuiet
import Derived.Deep.QuietTactic
/- The document's machine: its cells, contracts of its set, trap, Taken, Bytes. -/
namespace Go.Proofs.YtgjfelkbblbjfaaGreatDoor
open Go.RowKit Go.Maps
set_option linter.unusedVariables false
set_option maxRecDepth 100000

section
variable {mm me : Nat} {x : Nat → Int} {pc : Nat} {k c t : Int}

theorem rcells_length : (rcells mm me x pc k c t).length = 38 := by simp [rcells]
theorem rcells_0 : (rcells mm me x pc k c t)[0]? = some (.pointer (some ⟨mm, 0, none⟩)) := rfl
theorem rcells_1 : (rcells mm me x pc k c t)[1]? = some (.pointer (some ⟨me, 0, none⟩)) := rfl
theorem rcells_reg (i : Nat) (hi : i < 32) : (rcells mm me x pc k c t)[2 + i]? = some (.int .u64 (x i)) := by
  unfold rcells
  rw [show 2 + i = i + 1 + 1 by omega, List.getElem?_cons_succ, List.getElem?_cons_succ, List.getElem?_append_left (by simpa using hi)]
  simp [hi]
theorem rcells_hi (i : Nat) : (rcells mm me x pc k c t)[34 + i]? = [Value.int .u64 (pc : Int), .int .i64 k, .int .i64 c, .int .i64 t][i]? := by
  unfold rcells
  rw [show 34 + i = i + 32 + 1 + 1 by omega, List.getElem?_cons_succ, List.getElem?_cons_succ, List.getElem?_append_right (by simp)]
  simp

theorem rcells_ext {l : List Value} {mm me : Nat} {x : Nat → Int} {pc : Nat} {k c t : Int} (h0 : l[0]? = some (.pointer (some ⟨mm, 0, none⟩))) (h1 : l[1]? = some (.pointer (some ⟨me, 0, none⟩))) (hr : ∀ i, i < 32 → l[2 + i]? = some (.int .u64 (x i))) (hh : ∀ i, l[34 + i]? = [Value.int .u64 (pc : Int), .int .i64 k, .int .i64 c, .int .i64 t][i]?) : l = rcells mm me x pc k c t := by
  apply List.ext_getElem?
  intro j
  rcases (show j = 0 ∨ j = 1 ∨ (∃ i, i < 32 ∧ j = 2 + i) ∨ ∃ i, j = 34 + i by
    by_cases h : j < 2
    · omega
    · by_cases h2 : j < 34
      · exact Or.inr (Or.inr (Or.inl ⟨j - 2, by omega, by omega⟩))
      · exact Or.inr (Or.inr (Or.inr ⟨j - 34, by omega⟩))) with rfl | rfl | ⟨i, hi, rfl⟩ | ⟨i, rfl⟩
  · rw [h0]; exact rcells_0.symm
  · rw [h1]; exact rcells_1.symm
  · rw [hr i hi, rcells_reg i hi]
  · rw [hh i, rcells_hi]

theorem rcells_set (i : Nat) (h0 : 1 ≤ i) (h1 : i < 32) (v : Int) : (rcells mm me x pc k c t).set (2 + i) (.int .u64 v) = rcells mm me (xset x i v) pc k c t := by
  refine rcells_ext ?_ ?_ (fun j hj => ?_) (fun j => ?_)
  · rw [List.getElem?_set_ne (by omega)]; rfl
  · rw [List.getElem?_set_ne (by omega)]; rfl
  · by_cases h : j = i
    · subst h
      rw [List.getElem?_set_self (by rw [rcells_length]; omega)]
      unfold xset
      rw [if_pos (by omega)]
    · rw [List.getElem?_set_ne (by omega), rcells_reg j hj]
      unfold xset
      rw [if_neg (by omega)]
  · rw [List.getElem?_set_ne (by omega), rcells_hi]
theorem rcells_pc (p : Nat) : (rcells mm me x pc k c t).set 34 (.int .u64 (p : Int)) = rcells mm me x p k c t := by
  refine rcells_ext ?_ ?_ (fun j hj => ?_) (fun j => ?_)
  · rw [List.getElem?_set_ne (by omega)]; rfl
  · rw [List.getElem?_set_ne (by omega)]; rfl
  · rw [List.getElem?_set_ne (by omega), rcells_reg j hj]
  · by_cases h : j = 0
    · subst h
      rw [List.getElem?_set_self (by rw [rcells_length]; omega)]
      rfl
    · rw [List.getElem?_set_ne (by omega), rcells_hi]
      match j, h with
      | 1, _ => rfl
      | 2, _ => rfl
      | 3, _ => rfl
      | j + 4, _ => rfl
theorem rcells_st (k' c' t' : Int) : (((rcells mm me x pc k c t).set 35 (.int .i64 k')).set 36 (.int .i64 c')).set 37 (.int .i64 t') = rcells mm me x pc k' c' t' := by
  refine rcells_ext ?_ ?_ (fun j hj => ?_) (fun j => ?_)
  · rw [List.getElem?_set_ne (by omega), List.getElem?_set_ne (by omega), List.getElem?_set_ne (by omega)]; rfl
  · rw [List.getElem?_set_ne (by omega), List.getElem?_set_ne (by omega), List.getElem?_set_ne (by omega)]; rfl
  · rw [List.getElem?_set_ne (by omega), List.getElem?_set_ne (by omega), List.getElem?_set_ne (by omega), rcells_reg j hj]
  · match j with
    | 0 => rw [List.getElem?_set_ne (by omega), List.getElem?_set_ne (by omega), List.getElem?_set_ne (by omega), rcells_hi]; rfl
    | 1 => rw [List.getElem?_set_ne (by omega), List.getElem?_set_ne (by omega), List.getElem?_set_self (by rw [rcells_length]; omega)]; rfl
    | 2 => rw [List.getElem?_set_ne (by omega), List.getElem?_set_self (by rw [List.length_set, rcells_length]; omega)]; rfl
    | 3 => rw [List.getElem?_set_self (by rw [List.length_set, List.length_set, rcells_length]; omega)]; rfl
    | j + 4 => rw [List.getElem?_set_ne (by omega), List.getElem?_set_ne (by omega), List.getElem?_set_ne (by omega), rcells_hi]; rfl
end

theorem setCell_list {w : World} {m : Nat} {l : List Value} {ty : TypeId} (h : w.heap[m]? = some (.cells l.toArray ty (0, 0))) (i : Nat) (v : Value) : (w.setCell ⟨m, i, none⟩ v).heap[m]? = some (.cells (l.set i v).toArray ty (0, 0)) := by
  unfold World.setCell
  simp [Array.getElem?_modify, h]

section
variable {w0 w w' : World} {m mm me : Nat} {M : Mc} {l : List (World → (Nat → Prop) → Prop)} {P : World → (Nat → Prop) → Prop} {X : Nat} {o o' : Obj}

theorem RH.below (h : RH w0 w m mm me M l) (hb : Below w.heap.size w w') : RH w0 w' m mm me M l := Has.below h hb
theorem RH.bel (h : RH w0 w m mm me M l) : Below w0.heap.size w0 w := Has.bel h
theorem RH.rd (h : RH w0 w m mm me M l) : ∃ F, RD m mm me M.x M.pc M.kind M.code M.trap w F := Has.top h
theorem RH.rm (h : RH w0 w m mm me M l) : ∃ F, RM w mm M.mem F := Has.top (Has.drop h)
theorem RH.fits (h : RH w0 w m mm me M l) : Fits M.x M.pc M.kind M.code M.trap := by
  obtain ⟨F, h1⟩ := h.rd
  exact h1.2.1
theorem RH.good (h : RH w0 w m mm me M l) : M.mem.Good := by
  obtain ⟨F, h1⟩ := h.rm
  exact h1.good
theorem RH.head (h : RH w0 w m mm me M l) : w.heap[m]? = some (.cells (rcells mm me M.x M.pc M.kind M.code M.trap).toArray 58 (0, 0)) := by
  obtain ⟨F, h1⟩ := h.rd
  exact h1.1
theorem RH.lt (h : RH w0 w m mm me M l) : m < w.heap.size := by
  obtain ⟨F, h1⟩ := h.rd
  exact h1.2.2.2 m h1.2.2.1
theorem RH.cell (h : RH w0 w m mm me M l) (i : Nat) : w.cell? ⟨m, i, none⟩ = (rcells mm me M.x M.pc M.kind M.code M.trap)[i]? := by
  rw [cell_of_row _ _ i _ _ _ h.head]
  simp
theorem RH.frozen (h : RH w0 w m mm me M l) (i : Nat) : w.frozen? ⟨m, i, none⟩ = false := by
  unfold World.frozen?
  simp only [h.head]
  simp
theorem RH.c0 (h : RH w0 w m mm me M l) : w.cell? ⟨m, 0, none⟩ = some (.pointer (some ⟨mm, 0, none⟩)) := h.cell 0
theorem RH.c1 (h : RH w0 w m mm me M l) : w.cell? ⟨m, 1, none⟩ = some (.pointer (some ⟨me, 0, none⟩)) := h.cell 1
theorem RH.reg (h : RH w0 w m mm me M l) (i : Nat) (hi : i < 32) : w.cell? ⟨m, 2 + i, none⟩ = some (.int .u64 (M.x i)) := (h.cell _).trans (rcells_reg i hi)
theorem RH.cpc (h : RH w0 w m mm me M l) : w.cell? ⟨m, 34, none⟩ = some (.int .u64 (M.pc : Int)) := (h.cell _).trans (rcells_hi 0)
theorem RH.st (h : RH w0 w m mm me M l) : w.cell? ⟨m, 35, none⟩ = some (.int .i64 M.kind) ∧ w.cell? ⟨m, 36, none⟩ = some (.int .i64 M.code) ∧ w.cell? ⟨m, 37, none⟩ = some (.int .i64 M.trap) :=
  ⟨(h.cell _).trans (rcells_hi 1), (h.cell _).trans (rcells_hi 2), (h.cell _).trans (rcells_hi 3)⟩

/-- The machine's own block turns alone. -/
theorem RH.turn (h : RH w0 w m mm me M l) {x : Nat → Int} {pc : Nat} {k c t : Int} (hk : Kept (fun j => j = m) w w') (hh : w'.heap[m]? = some (.cells (rcells mm me x pc k c t).toArray 58 (0, 0))) (hf : Fits x pc k c t) : RH w0 w' m mm me ⟨M.mem, M.ins, M.tr, x, pc, k, c, t⟩ l := by
  obtain ⟨F, ⟨h1, h2, h3, h4⟩, h5, h6⟩ := Has.step h
  exact h6 w' (RD m mm me x pc k c t) F ⟨hh, hf, h3, fun j hj => Nat.lt_of_lt_of_le (h4 j hj) hk.size⟩ ⟨hk.mono (fun j hj => by subst hj; exact h3), fun j hj => Or.inl hj⟩ (rd_mach_stays _ _ _ _ _ _ _ _ _)
theorem RH.setreg (h : RH w0 w m mm me M l) (i : Nat) (h0 : 1 ≤ i) (h1 : i < 32) {v : Int} (hv : 0 ≤ v ∧ v ≤ 18446744073709551615) : RH w0 (w.setCell ⟨m, 2 + i, none⟩ (.int .u64 v)) m mm me { M with x := xset M.x i v } l :=
  h.turn ((Kept.refl (fun j => j = m) w).setCell _ _ (Or.inl rfl)) (by rw [setCell_list h.head, rcells_set i h0 h1]) (h.fits.set hv)
theorem RH.setpc (h : RH w0 w m mm me M l) {p : Nat} (hp : p ≤ 18446744073709551615) : RH w0 (w.setCell ⟨m, 34, none⟩ (.int .u64 (p : Int))) m mm me { M with pc := p } l :=
  h.turn ((Kept.refl (fun j => j = m) w).setCell _ _ (Or.inl rfl)) (by rw [setCell_list h.head, rcells_pc]) (h.fits.at hp)
theorem RH.ended (h : RH w0 w m mm me M l) {k' c' t' : Int} (hk : InI k') (hc : InI c') (ht : InI t') : RH w0 (((w.setCell ⟨m, 35, none⟩ (.int .i64 k')).setCell ⟨m, 36, none⟩ (.int .i64 c')).setCell ⟨m, 37, none⟩ (.int .i64 t')) m mm me { M with kind := k', code := c', trap := t' } l :=
  h.turn ((((Kept.refl (fun j => j = m) w).setCell ⟨m, 35, none⟩ _ (Or.inl rfl)).setCell ⟨m, 36, none⟩ _ (Or.inl rfl)).setCell ⟨m, 37, none⟩ _ (Or.inl rfl)) (by rw [setCell_list (setCell_list (setCell_list h.head 35 _) 36 _), rcells_st]) ⟨h.fits.reg, h.fits.zero, h.fits.top, h.fits.place, hk, hc, ht⟩

theorem RH.more (h : RH w0 w m mm me M l) (hb : Below w.heap.size w w') {F : Nat → Prop} (hP : P w' F) (hF : ∀ k, F k → w.heap.size ≤ k) (hs : Stays w0.heap.size P) : RH w0 w' m mm me M (P :: l) :=
  (Has.more h hb hP hF hs).perm ((List.Perm.swap ..).trans (List.Perm.cons _ ((List.Perm.swap ..).trans (List.Perm.cons _ (List.Perm.swap ..)))))
theorem RH.less (h : RH w0 w m mm me M (P :: l)) : Has w0 w (P :: RD m mm me M.x M.pc M.kind M.code M.trap :: RMt mm M.mem :: EV w0.heap.size 48 me M.ins M.tr :: l) :=
  Has.perm h (((List.Perm.cons _ ((List.Perm.cons _ (List.Perm.swap ..)).trans (List.Perm.swap ..))).trans (List.Perm.swap ..)))
theorem RH.unbox (h : RH w0 w m mm me M (P :: l)) : RH w0 w m mm me M l := Has.drop h.less
theorem RH.blk (h : RH w0 w m mm me M (BlkT X o :: l)) : w.heap[X]? = some o := by
  obtain ⟨F, h1⟩ := Has.top h.less
  exact h1.1
theorem RH.newblk (h : RH w0 w m mm me M l) (cs : Array Value) (t : TypeId) : RH w0 (w.alloc (.cells cs t)) m mm me M (BlkT w.heap.size (.cells cs t (0, 0)) :: l) :=
  h.more (F := fun k => k = w.heap.size) (below_alloc _ _) ⟨heap_alloc_new w _, rfl, fun k hk => by subst hk; simp⟩ (fun k hk => by subst hk; exact Nat.le_refl _) (blk_stays _ _ _)
theorem RH.reblk (h : RH w0 w m mm me M (BlkT X o :: l)) (hk : Kept (fun k => k = X) w w') (ho : w'.heap[X]? = some o') : RH w0 w' m mm me M (BlkT X o' :: l) := by
  obtain ⟨F, ⟨h1, h2, h3⟩, h4, h5⟩ := h.less.step
  have h6 := h5 w' (BlkT X o') F ⟨ho, h2, fun k hF => Nat.lt_of_lt_of_le (h3 k hF) hk.size⟩ ⟨hk.mono (fun k hk => by subst hk; exact h2), fun k hk => Or.inl hk⟩ (blk_stays _ _ _)
  exact h6.perm ((List.Perm.swap ..).trans (List.Perm.cons _ ((List.Perm.swap ..).trans (List.Perm.cons _ (List.Perm.swap ..)))))
theorem RH.rswap {P Q : World → (Nat → Prop) → Prop} (h : RH w0 w m mm me M (P :: Q :: l)) : RH w0 w m mm me M (Q :: P :: l) :=
  Has.perm h (List.Perm.cons _ (List.Perm.cons _ (List.Perm.cons _ (List.Perm.swap ..))))

theorem RH.mem (h : RH w0 w m mm me M l) : ∃ F, RM w mm M.mem F ∧ (∀ k, F k → w0.heap.size ≤ k) ∧ ∀ (w' : World) (S' : Mm) (F' : Nat → Prop), RM w' mm S' F' → Went F w F' w' → RH w0 w' m mm me ⟨S', M.ins, M.tr, M.x, M.pc, M.kind, M.code, M.trap⟩ l := by
  obtain ⟨F, h1, h2, h3⟩ := (Has.swap h).step
  exact ⟨F, h1, h2, fun w' S' F' g1 g2 => (h3 w' (RMt mm S') F' g1 g2 (rmt_stays _ _ _)).swap⟩

theorem rmset_any (i : Nat) (v : Int) (w : World) (h : RH w0 w m mm me M l) (hi : i < 32) (hv : 0 ≤ v ∧ v ≤ 18446744073709551615) :
    Calls Tryz.prog 61 #[.pointer (some ⟨m, 0, none⟩), .int .i64 (i : Int), .int .u64 v] w fun e w' => e = .returned (.tuple #[]) ∧ RH w0 w' m mm me { M with x := xset M.x i v } l := by
  by_cases h0 : i = 0
  · subst h0
    rw [xset_no (by omega)]
    have H : Hid (RH w0 w m mm me { M with x := M.x } l) := h
    clear h
    go_enter Tryz.func61, Tryz.ntmps61
    go_wp2
    go_end0
    exact ⟨rfl, H.out⟩
  · have hz := h.frozen (2 + i)
    have hc := h.reg i hi
    have H := hide (h.setreg i (by omega) hi hv)
    have h1 : (0 : Int) < (i : Int) := by omega
    have h2 : (i : Int) < 32 := by omega
    clear h
    go_enter Tryz.func61, Tryz.ntmps61
    go_wp2
    go_end0
    exact ⟨rfl, H.out⟩

theorem rtrap_any (k : Int) (w : World) (h : RH w0 w m mm me M l) (hk : InI k) :
    Calls Tryz.prog 58 #[.pointer (some ⟨m, 0, none⟩), .int .i64 k] w fun e w' => e = .returned (stV 2 0 k) ∧ RH w0 w' m mm me (M.trapped k) l := by
  have HM := hide h
  have hml := h.lt
  go_enter Tryz.func58, Tryz.ntmps58
  go_upto_region 1 with fail
  have h1 := h.newblk #[.int .i64 0, .int .i64 0, .int .i64 0] 56
  obtain ⟨R, hR⟩ : ∃ R, R = w.heap.size := ⟨_, rfl⟩
  rw [← hR] at h1 ⊢
  generalize w.alloc (.cells #[.int .i64 0, .int .i64 0, .int .i64 0] 56) = V at *
  obtain ⟨c4, c5, c6⟩ := h1.st
  have z4 := h1.frozen 35
  have z5 := h1.frozen 36
  have z6 := h1.frozen 37
  have H1 := hide h1
  have HKI := hide hk
  clear h HM h1 hR hk
  go_upto_region 2 with fail
  have H3 := hide (H1.out.ended (k' := 2) (c' := 0) (t' := k) (by unfold InI; omega) (by unfold InI; omega) HKI.out)
  generalize (((V.setCell ⟨m, 35, none⟩ (.int .i64 2)).setCell ⟨m, 36, none⟩ (.int .i64 0)).setCell ⟨m, 37, none⟩ (.int .i64 k)) = W3 at *
  clear c4 c5 c6 z4 z5 z6 H1
  obtain ⟨c4, c5, c6⟩ := H3.out.st
  dsimp only at c4 c5 c6
  have hz := blk_frozen H3.out.blk
  have z0 := hz 0
  have z1 := hz 1
  have z2 := hz 2
  have hcl := blk_cell H3.out.blk
  have q0 := hcl 0
  have q1 := hcl 1
  have q2 := hcl 2
  clear hz hcl
  go_wp2
  have H4 := hide (H3.out.reblk (stc3_kept W3 R (.int .i64 2) (.int .i64 0) (.int .i64 k)) (stc3_blk H3.out.blk _ _ _))
  unfold stc3 at H4
  have hcl := blk_cell H4.out.blk
  have r0 := hcl 0
  have r1 := hcl 1
  have r2 := hcl 2
  generalize ((W3.setCell ⟨R, 0, none⟩ (.int .i64 2)).setCell ⟨R, 1, none⟩ (.int .i64 0)).setCell ⟨R, 2, none⟩ (.int .i64 k) = W4 at *
  refine bodyPost_ret (v := stV 2 0 k) (by simp [results, Tryz.results58, go_sem, stV, r0, r1, r2]) rfl ⟨rfl, H4.out.unbox⟩

end

theorem rtaken_any (o : Nat) (a b : Int) (w : World) (h0 : 5 ≤ o) (h1 : o ≤ 10) (a0 : 0 ≤ a) (a1 : a ≤ 18446744073709551615) (b0 : 0 ≤ b) (b1 : b ≤ 18446744073709551615) :
    Calls Tryz.prog 62 #[.int .i64 (o : Int), .int .u64 a, .int .u64 b] w fun e w' => e = .returned (.bool (takenF o a b)) ∧ w' = w := by
  rcases (show o = 5 ∨ o = 6 ∨ o = 7 ∨ o = 8 ∨ o = 9 ∨ o = 10 by omega) with rfl | rfl | rfl | rfl | rfl | rfl
  all_goals go_enter Tryz.func62, Tryz.ntmps62
  all_goals go_wp2
  all_goals go_ret
  all_goals refine ⟨ret_bool ?_, rfl⟩
  all_goals simp only [takenF, wrap64_is]
  all_goals rw [Bool.eq_iff_iff]
  all_goals simp

/-- Whether a load has a sign, as the document tells it. -/
def signF (o : Nat) : Bool :=
  match o with
  | 15 => false | 16 => false | 17 => false
  | _ => true
theorem rbytes_any (o : Nat) (w : World) (h0 : 11 ≤ o) (h1 : o ≤ 21) :
    Calls Tryz.prog 63 #[.int .i64 (o : Int)] w fun e w' => e = .returned (.tuple #[.int .i64 (widthF o), .bool (signF o)]) ∧ w' = w := by
  rcases (show o = 11 ∨ o = 12 ∨ o = 13 ∨ o = 14 ∨ o = 15 ∨ o = 16 ∨ o = 17 ∨ o = 18 ∨ o = 19 ∨ o = 20 ∨ o = 21 by omega) with rfl | rfl | rfl | rfl | rfl | rfl | rfl | rfl | rfl | rfl | rfl
  all_goals go_enter Tryz.func63, Tryz.ntmps63
  all_goals go_wp2
  all_goals go_ret2
  all_goals exact ⟨rfl, rfl⟩

end Go.Proofs.YtgjfelkbblbjfaaGreatDoor

/- The program's machine and the document's side by side, with other things; what a step writes as an event is short. -/
namespace Go.Proofs.YtgjfelkbblbjfaaGreatDoor
open Go.RowKit Go.Maps
set_option linter.unusedVariables false
set_option maxRecDepth 100000
set_option maxRecDepth 20000

/-- The program's machine and the document's, and l. -/
def BX (w0 w : World) (m mm me : Nat) (M : Mc) (m' mm' me' : Nat) (M' : Mc) (l : List (World → (Nat → Prop) → Prop)) : Prop :=
  MH w0 w m mm me M (RD m' mm' me' M'.x M'.pc M'.kind M'.code M'.trap :: RMt mm' M'.mem :: EV w0.heap.size 48 me' M'.ins M'.tr :: l)

theorem perm33 {A B C D E G : World → (Nat → Prop) → Prop} {l : List (World → (Nat → Prop) → Prop)} : (A :: B :: C :: D :: E :: G :: l).Perm (D :: E :: G :: A :: B :: C :: l) := by
  simpa using (List.perm_append_comm (l₁ := [A, B, C]) (l₂ := [D, E, G])).append_right l
theorem perm14 {A B C D : World → (Nat → Prop) → Prop} {l : List (World → (Nat → Prop) → Prop)} : (A :: B :: C :: D :: l).Perm (D :: B :: C :: A :: l) :=
  (List.perm_middle (a := D) (l₁ := [A, B, C]) (l₂ := l)).trans (List.Perm.cons D (List.perm_middle (a := A) (l₁ := [B, C]) (l₂ := l)).symm)
theorem perm_in3 {A B C D : World → (Nat → Prop) → Prop} {l : List (World → (Nat → Prop) → Prop)} : (D :: A :: B :: C :: l).Perm (A :: B :: C :: D :: l) :=
  (List.perm_middle (a := D) (l₁ := [A, B, C]) (l₂ := l)).symm

section
variable {w0 w w' : World} {m mm me m' mm' me' : Nat} {M M' : Mc} {l : List (World → (Nat → Prop) → Prop)}

theorem BX.rh (h : BX w0 w m mm me M m' mm' me' M' l) : RH w0 w m' mm' me' M' (HD m mm me M.x M.pc M.kind M.code M.trap :: PMt mm M.mem :: EV w0.heap.size 92 me M.ins M.tr :: l) := Has.perm h perm33
theorem BX.of (h : RH w0 w m' mm' me' M' (HD m mm me M.x M.pc M.kind M.code M.trap :: PMt mm M.mem :: EV w0.heap.size 92 me M.ins M.tr :: l)) : BX w0 w m mm me M m' mm' me' M' l := Has.perm h perm33
theorem BX.below (h : BX w0 w m mm me M m' mm' me' M' l) (hb : Below w.heap.size w w') : BX w0 w' m mm me M m' mm' me' M' l := Has.below h hb
theorem BX.bel (h : BX w0 w m mm me M m' mm' me' M' l) : Below w0.heap.size w0 w := Has.bel h
theorem BX.drop {P : World → (Nat → Prop) → Prop} (h : BX w0 w m mm me M m' mm' me' M' (P :: l)) : BX w0 w m mm me M m' mm' me' M' l := by
  have h1 : Has w0 w (P :: HD m mm me M.x M.pc M.kind M.code M.trap :: PMt mm M.mem :: EV w0.heap.size 92 me M.ins M.tr :: RD m' mm' me' M'.x M'.pc M'.kind M'.code M'.trap :: RMt mm' M'.mem :: EV w0.heap.size 48 me' M'.ins M'.tr :: l) :=
    Has.perm h (List.perm_middle (a := P) (l₁ := [HD m mm me M.x M.pc M.kind M.code M.trap, PMt mm M.mem, EV w0.heap.size 92 me M.ins M.tr, RD m' mm' me' M'.x M'.pc M'.kind M'.code M'.trap, RMt mm' M'.mem, EV w0.heap.size 48 me' M'.ins M'.tr]) (l₂ := l))
  exact h1.drop
theorem BX.blk {X : Nat} {o : Obj} (h : BX w0 w m mm me M m' mm' me' M' (BlkT X o :: l)) : w.heap[X]? = some o := by
  have h1 : Has w0 w (BlkT X o :: HD m mm me M.x M.pc M.kind M.code M.trap :: PMt mm M.mem :: EV w0.heap.size 92 me M.ins M.tr :: RD m' mm' me' M'.x M'.pc M'.kind M'.code M'.trap :: RMt mm' M'.mem :: EV w0.heap.size 48 me' M'.ins M'.tr :: l) :=
    Has.perm h (List.perm_middle (a := BlkT X o) (l₁ := [HD m mm me M.x M.pc M.kind M.code M.trap, PMt mm M.mem, EV w0.heap.size 92 me M.ins M.tr, RD m' mm' me' M'.x M'.pc M'.kind M'.code M'.trap, RMt mm' M'.mem, EV w0.heap.size 48 me' M'.ins M'.tr]) (l₂ := l))
  obtain ⟨F, h2⟩ := h1.top
  exact h2.1
theorem BX.newblk (h : BX w0 w m mm me M m' mm' me' M' l) (cs : Array Value) (t : TypeId) : BX w0 (w.alloc (.cells cs t)) m mm me M m' mm' me' M' (BlkT w.heap.size (.cells cs t (0, 0)) :: l) := by
  have h1 := Has.more (P := BlkT w.heap.size (.cells cs t (0, 0))) h (F := fun k => k = w.heap.size) (below_alloc _ _) ⟨heap_alloc_new w _, rfl, fun k hk => by subst hk; simp⟩ (fun k hk => by subst hk; exact Nat.le_refl _) (blk_stays _ _ _)
  exact Has.perm h1 (List.perm_middle (a := BlkT w.heap.size (.cells cs t (0, 0))) (l₁ := [HD m mm me M.x M.pc M.kind M.code M.trap, PMt mm M.mem, EV w0.heap.size 92 me M.ins M.tr, RD m' mm' me' M'.x M'.pc M'.kind M'.code M'.trap, RMt mm' M'.mem, EV w0.heap.size 48 me' M'.ins M'.tr]) (l₂ := l)).symm
theorem BX.env (h : BX w0 w m mm me M m' mm' me' M' l) : Has w0 w (EV w0.heap.size 92 me M.ins M.tr :: HD m mm me M.x M.pc M.kind M.code M.trap :: PMt mm M.mem :: RD m' mm' me' M'.x M'.pc M'.kind M'.code M'.trap :: RMt mm' M'.mem :: EV w0.heap.size 48 me' M'.ins M'.tr :: l) := Has.back h
theorem BX.ref (h : BX w0 w m mm me M m' mm' me' M' l) : ∃ F, EV w0.heap.size 48 me' M'.ins M'.tr w F := Has.top (Has.drop (Has.drop h.rh))
/-- What is read of the document's input and events. -/
theorem BX.refs (h : BX w0 w m mm me M m' mm' me' M' l) : ∃ a0 c0 a1 c1 es, w.cell? ⟨me', 0, none⟩ = some (.slice a0 M'.ins.length c0) ∧ w.cell? ⟨me', 1, none⟩ = some (.slice a1 M'.tr.length c1) ∧ Evs w a1 M'.tr.length es ∧ es.map Evt.says = M'.tr := by
  obtain ⟨F, wa, wl, wc, ev, es, hx, hs⟩ := h.ref
  obtain ⟨a1, c1, rfl, hE, _⟩ := Evs.own hx.row hx.ok
  have e1 : wl = M'.ins.length := hx.waits.length.symm
  have e2 : es.length = M'.tr.length := by rw [← hs, List.length_map]
  subst e1
  refine ⟨wa, wc, a1, c1, es, hx.cell0, ?_, ?_, hs⟩
  · rw [hx.cell1, e2]
  · rw [← e2]; exact hE
theorem bx_set (h : MH w0 w m mm me M l) (i v : Int) (hi : InI i) (hv : 0 ≤ v ∧ v ≤ 18446744073709551615) :
    Calls Tryz.prog 16 #[.pointer (some ⟨m, 0, none⟩), .int .i64 i, .int .u64 v] w fun e w' => e = .returned (.tuple #[]) ∧ MH w0 w' m mm me { M with x := xset M.x i v } l :=
  h.call _ _ (R := fun e => e = .returned (.tuple #[])) (fun F hd => set_any i v w hd hi hv)
theorem bx_pc (h : MH w0 w m mm me M l) :
    Calls Tryz.prog 19 #[.pointer (some ⟨m, 0, none⟩)] w fun e w' => e = .returned (.int .u64 (M.pc : Int)) ∧ w' = w := by
  obtain ⟨F, h1⟩ := h.hd
  exact pc_any w h1
theorem BX.pm (h : BX w0 w m mm me M m' mm' me' M' l) : ∃ F, PM w mm M.mem F := MH.pm h
theorem BX.rm (h : BX w0 w m mm me M m' mm' me' M' l) : ∃ F, RM w mm' M'.mem F := RH.rm h.rh

end

/-- A stronger condition on the worlds from here on serves too. -/
theorem wpAnyH_up {P : Program} {md : Region.Mode} {ops : Array Oper} {Q : Exit → Act → World → Prop} {S S' : World → Prop} (h : ∀ w, S' w → S w) : ∀ (fuel : Nat) (listed : Array Bool) (a : Act) (w : World), wpAnyH P md ops Q S' fuel listed a w → wpAnyH P md ops Q S fuel listed a w
  | 0, _, _, _, x => x
  | fuel + 1, _, _, _, x => ⟨x.1, fun i hi => wpOp_mono (fun a' w' h' => ⟨h w' h'.1, wpAnyH_up h fuel _ a' w' h'.2⟩) (x.2 i hi)⟩

/-- Events are short. -/
def BsOk (M : Mc) : Prop := ∀ s ∈ M.tr, s.bs.length ≤ 65536
theorem bs_same {M M' : Mc} (h : M'.tr = M.tr) (hM : BsOk M) : BsOk M' := by unfold BsOk; rw [h]; exact hM
theorem bs_jump {M : Mc} (hM : BsOk M) (rd p : Int) : BsOk (M.jump rd p) := by
  unfold Mc.jump
  split
  · exact hM
  · exact hM
theorem bs_call {M : Mc} (hM : BsOk M) : BsOk M.call := by
  unfold Mc.call
  split
  · exact hM
  · split
    · split
      · exact hM
      · next hn =>
        split
        · intro s hs
          rcases List.mem_append.1 hs with h | h
          · exact hM s h
          · simp at h
            subst h
            show (M.mem.read _ _).length ≤ 65536
            rw [Mm.read_length]
            omega
        · exact hM
    · split
      · split
        · exact hM
        · split
          · intro s hs
            rcases List.mem_append.1 hs with h | h
            · exact hM s h
            · simp at h
              subst h
              simp
          · exact hM
      · exact hM
theorem bs_do {M : Mc} (hM : BsOk M) (o : Nat) (rd r1 r2 im : Int) : BsOk (M.doF o rd r1 r2 im) := by
  unfold Mc.doF
  repeat' split
  all_goals first | exact hM | exact bs_jump hM _ _ | exact bs_call hM
theorem bs_step {M : Mc} (hM : BsOk M) : BsOk M.step := by
  unfold Mc.step
  repeat' split
  all_goals first | exact hM | exact bs_do hM _ _ _ _ _
theorem bs_run {M : Mc} (hM : BsOk M) : ∀ n, BsOk (M.runF n)
  | 0 => hM
  | n + 1 => bs_step (bs_run hM n)

end Go.Proofs.YtgjfelkbblbjfaaGreatDoor
