/- The program's machine and the document's side by side, with other things; what a step writes as an event is short. -/
import Derived.Test.YtdhjjlnabbpinaaGreatDoorJ05
import Derived.Test.YtdhjjlnabbpinaaGreatDoorJ11
import Derived.Deep.LoopGhost
import Derived.Deep.RegionHeld3
import Derived.RegionTactic
import Derived.BigQuiet
import Derived.Deep.QuietTactic
namespace Go.Proofs.YtdhjjlnabbpinaaGreatDoor
open Go.RowKit Go.Maps
set_option linter.unusedVariables false
set_option maxRecDepth 100000
set_option maxRecDepth 20000

/-- The program's machine and the document's, and l. -/
def BX (w0 w : World) (m mm me : Nat) (M : Mc) (m' mm' me' : Nat) (M' : Mc) (l : List (World → (Nat → Prop) → Prop)) : Prop :=
  MH w0 w m mm me M (RD m' mm' me' M'.x M'.pc M'.kind M'.code M'.trap :: RMt mm' M'.mem :: EV w0.heap.size 62 me' M'.ins M'.tr :: l)

theorem perm33 {A B C D E G : World → (Nat → Prop) → Prop} {l : List (World → (Nat → Prop) → Prop)} : (A :: B :: C :: D :: E :: G :: l).Perm (D :: E :: G :: A :: B :: C :: l) := by
  simpa using (List.perm_append_comm (l₁ := [A, B, C]) (l₂ := [D, E, G])).append_right l
theorem perm14 {A B C D : World → (Nat → Prop) → Prop} {l : List (World → (Nat → Prop) → Prop)} : (A :: B :: C :: D :: l).Perm (D :: B :: C :: A :: l) :=
  (List.perm_middle (a := D) (l₁ := [A, B, C]) (l₂ := l)).trans (List.Perm.cons D (List.perm_middle (a := A) (l₁ := [B, C]) (l₂ := l)).symm)
theorem perm_in3 {A B C D : World → (Nat → Prop) → Prop} {l : List (World → (Nat → Prop) → Prop)} : (D :: A :: B :: C :: l).Perm (A :: B :: C :: D :: l) :=
  (List.perm_middle (a := D) (l₁ := [A, B, C]) (l₂ := l)).symm

section
variable {w0 w w' : World} {m mm me m' mm' me' : Nat} {M M' : Mc} {l : List (World → (Nat → Prop) → Prop)}

theorem BX.rh (h : BX w0 w m mm me M m' mm' me' M' l) : RH w0 w m' mm' me' M' (HD m mm me M.x M.pc M.kind M.code M.trap :: PMt mm M.mem :: EV w0.heap.size 111 me M.ins M.tr :: l) := Has.perm h perm33
theorem BX.of (h : RH w0 w m' mm' me' M' (HD m mm me M.x M.pc M.kind M.code M.trap :: PMt mm M.mem :: EV w0.heap.size 111 me M.ins M.tr :: l)) : BX w0 w m mm me M m' mm' me' M' l := Has.perm h perm33
theorem BX.below (h : BX w0 w m mm me M m' mm' me' M' l) (hb : Below w.heap.size w w') : BX w0 w' m mm me M m' mm' me' M' l := Has.below h hb
theorem BX.bel (h : BX w0 w m mm me M m' mm' me' M' l) : Below w0.heap.size w0 w := Has.bel h
theorem BX.drop {P : World → (Nat → Prop) → Prop} (h : BX w0 w m mm me M m' mm' me' M' (P :: l)) : BX w0 w m mm me M m' mm' me' M' l := by
  have h1 : Has w0 w (P :: HD m mm me M.x M.pc M.kind M.code M.trap :: PMt mm M.mem :: EV w0.heap.size 111 me M.ins M.tr :: RD m' mm' me' M'.x M'.pc M'.kind M'.code M'.trap :: RMt mm' M'.mem :: EV w0.heap.size 62 me' M'.ins M'.tr :: l) :=
    Has.perm h (List.perm_middle (a := P) (l₁ := [HD m mm me M.x M.pc M.kind M.code M.trap, PMt mm M.mem, EV w0.heap.size 111 me M.ins M.tr, RD m' mm' me' M'.x M'.pc M'.kind M'.code M'.trap, RMt mm' M'.mem, EV w0.heap.size 62 me' M'.ins M'.tr]) (l₂ := l))
  exact h1.drop
theorem BX.blk {X : Nat} {o : Obj} (h : BX w0 w m mm me M m' mm' me' M' (BlkT X o :: l)) : w.heap[X]? = some o := by
  have h1 : Has w0 w (BlkT X o :: HD m mm me M.x M.pc M.kind M.code M.trap :: PMt mm M.mem :: EV w0.heap.size 111 me M.ins M.tr :: RD m' mm' me' M'.x M'.pc M'.kind M'.code M'.trap :: RMt mm' M'.mem :: EV w0.heap.size 62 me' M'.ins M'.tr :: l) :=
    Has.perm h (List.perm_middle (a := BlkT X o) (l₁ := [HD m mm me M.x M.pc M.kind M.code M.trap, PMt mm M.mem, EV w0.heap.size 111 me M.ins M.tr, RD m' mm' me' M'.x M'.pc M'.kind M'.code M'.trap, RMt mm' M'.mem, EV w0.heap.size 62 me' M'.ins M'.tr]) (l₂ := l))
  obtain ⟨F, h2⟩ := h1.top
  exact h2.1
theorem BX.newblk (h : BX w0 w m mm me M m' mm' me' M' l) (cs : Array Value) (t : TypeId) : BX w0 (w.alloc (.cells cs t)) m mm me M m' mm' me' M' (BlkT w.heap.size (.cells cs t (0, 0)) :: l) := by
  have h1 := Has.more (P := BlkT w.heap.size (.cells cs t (0, 0))) h (F := fun k => k = w.heap.size) (below_alloc _ _) ⟨heap_alloc_new w _, rfl, fun k hk => by subst hk; simp⟩ (fun k hk => by subst hk; exact Nat.le_refl _) (blk_stays _ _ _)
  exact Has.perm h1 (List.perm_middle (a := BlkT w.heap.size (.cells cs t (0, 0))) (l₁ := [HD m mm me M.x M.pc M.kind M.code M.trap, PMt mm M.mem, EV w0.heap.size 111 me M.ins M.tr, RD m' mm' me' M'.x M'.pc M'.kind M'.code M'.trap, RMt mm' M'.mem, EV w0.heap.size 62 me' M'.ins M'.tr]) (l₂ := l)).symm
theorem BX.env (h : BX w0 w m mm me M m' mm' me' M' l) : Has w0 w (EV w0.heap.size 111 me M.ins M.tr :: HD m mm me M.x M.pc M.kind M.code M.trap :: PMt mm M.mem :: RD m' mm' me' M'.x M'.pc M'.kind M'.code M'.trap :: RMt mm' M'.mem :: EV w0.heap.size 62 me' M'.ins M'.tr :: l) := Has.back h
theorem BX.ref (h : BX w0 w m mm me M m' mm' me' M' l) : ∃ F, EV w0.heap.size 62 me' M'.ins M'.tr w F := Has.top (Has.drop (Has.drop h.rh))
/-- What is read of the document's input and events. -/
theorem BX.refs (h : BX w0 w m mm me M m' mm' me' M' l) : ∃ a0 c0 a1 c1 es, w.cell? ⟨me', 0, none⟩ = some (.slice a0 M'.ins.length c0) ∧ w.cell? ⟨me', 1, none⟩ = some (.slice a1 M'.tr.length c1) ∧ Evs w a1 M'.tr.length es ∧ es.map Evt.says = M'.tr := by
  obtain ⟨F, wa, wl, wc, ev, es, hx, hs⟩ := h.ref
  obtain ⟨a1, c1, rfl, hE, _⟩ := Evs.own hx.row hx.ok
  have e1 : wl = M'.ins.length := hx.waits.length.symm
  have e2 : es.length = M'.tr.length := by rw [← hs, List.length_map]
  subst e1
  refine ⟨wa, wc, a1, c1, es, hx.cell0, ?_, ?_, hs⟩
  · rw [hx.cell1, e2]
  · rw [← e2]; exact hE
theorem bx_set (h : MH w0 w m mm me M l) (i v : Int) (hi : InI i) (hv : 0 ≤ v ∧ v ≤ 18446744073709551615) :
    Calls Tryz.prog 8 #[.pointer (some ⟨m, 0, none⟩), .int .i64 i, .int .u64 v] w fun e w' => e = .returned (.tuple #[]) ∧ MH w0 w' m mm me { M with x := xset M.x i v } l :=
  h.call _ _ (R := fun e => e = .returned (.tuple #[])) (fun F hd => set_any i v w hd hi hv)
theorem bx_pc (h : MH w0 w m mm me M l) :
    Calls Tryz.prog 11 #[.pointer (some ⟨m, 0, none⟩)] w fun e w' => e = .returned (.int .u64 (M.pc : Int)) ∧ w' = w := by
  obtain ⟨F, h1⟩ := h.hd
  exact pc_any w h1
theorem BX.pm (h : BX w0 w m mm me M m' mm' me' M' l) : ∃ F, PM w mm M.mem F := MH.pm h
theorem BX.rm (h : BX w0 w m mm me M m' mm' me' M' l) : ∃ F, RM w mm' M'.mem F := RH.rm h.rh

end

/-- A stronger condition on the worlds from here on serves too. -/
theorem wpAnyH_up {P : Program} {md : Region.Mode} {ops : Array Oper} {Q : Exit → Act → World → Prop} {S S' : World → Prop} (h : ∀ w, S' w → S w) : ∀ (fuel : Nat) (listed : Array Bool) (a : Act) (w : World), wpAnyH P md ops Q S' fuel listed a w → wpAnyH P md ops Q S fuel listed a w
  | 0, _, _, _, x => x
  | fuel + 1, _, _, _, x => ⟨x.1, fun i hi => wpOp_mono (fun a' w' h' => ⟨h w' h'.1, wpAnyH_up h fuel _ a' w' h'.2⟩) (x.2 i hi)⟩

/-- Events are short. -/
def BsOk (M : Mc) : Prop := ∀ s ∈ M.tr, s.bs.length ≤ 65536
theorem bs_same {M M' : Mc} (h : M'.tr = M.tr) (hM : BsOk M) : BsOk M' := by unfold BsOk; rw [h]; exact hM
theorem bs_jump {M : Mc} (hM : BsOk M) (rd p : Int) : BsOk (M.jump rd p) := by
  unfold Mc.jump
  split
  · exact hM
  · exact hM
theorem bs_call {M : Mc} (hM : BsOk M) : BsOk M.call := by
  unfold Mc.call
  split
  · exact hM
  · split
    · split
      · exact hM
      · next hn =>
        split
        · intro s hs
          rcases List.mem_append.1 hs with h | h
          · exact hM s h
          · simp at h
            subst h
            show (M.mem.read _ _).length ≤ 65536
            rw [Mm.read_length]
            omega
        · exact hM
    · split
      · split
        · exact hM
        · split
          · intro s hs
            rcases List.mem_append.1 hs with h | h
            · exact hM s h
            · simp at h
              subst h
              simp
          · exact hM
      · exact hM
theorem bs_do {M : Mc} (hM : BsOk M) (o : Nat) (rd r1 r2 im : Int) : BsOk (M.doF o rd r1 r2 im) := by
  unfold Mc.doF
  repeat' split
  all_goals first | exact hM | exact bs_jump hM _ _ | exact bs_call hM
theorem bs_step {M : Mc} (hM : BsOk M) : BsOk M.step := by
  unfold Mc.step
  repeat' split
  all_goals first | exact hM | exact bs_do hM _ _ _ _ _
theorem bs_run {M : Mc} (hM : BsOk M) : ∀ n, BsOk (M.runF n)
  | 0 => hM
  | n + 1 => bs_step (bs_run hM n)

end Go.Proofs.YtdhjjlnabbpinaaGreatDoor
