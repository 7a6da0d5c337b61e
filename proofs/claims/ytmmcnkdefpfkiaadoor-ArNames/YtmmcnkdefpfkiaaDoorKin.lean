/- Blocks of other kinds than one stay: what a call of its own rows turns. -/
import Derived.Test.YtmmcnkdefpfkiaaDoorFrame
import Derived.Test.YtmmcnkdefpfkiaaDoorRecMore
import Derived.Lib.OwnKind
namespace Go.Proofs.YtmmcnkdefpfkiaaDoor
open Go.RowKit
set_option linter.unusedVariables false
set_option maxRecDepth 100000
set_option maxRecDepth 20000
set_option linter.unusedSimpArgs false

/-- Blocks of another kind than T stay. -/
structure OthT (T : TypeId) (w w' : World) : Prop where
  size : w.heap.size ≤ w'.heap.size
  kept : ∀ (X : Nat) (cs : Array Value) (t : TypeId) (fr : Nat × Nat), t ≠ T → w.heap[X]? = some (.cells cs t fr) → w'.heap[X]? = some (.cells cs t fr)
section
variable {T e : TypeId} {w w' w'' : World} {B X size n m : Nat} {v : Value} {xs : List Value} {cs : Array Value} {fr : Nat × Nat}
theorem OthT.refl (T : TypeId) (w : World) : OthT T w w := ⟨Nat.le_refl _, fun _ _ _ _ _ h => h⟩
theorem OthT.trans (h : OthT T w w') (k : OthT T w' w'') : OthT T w w'' := ⟨Nat.le_trans h.size k.size, fun X cs t fr ht hx => k.kept X cs t fr ht (h.kept X cs t fr ht hx)⟩
theorem OthT.below (h : Below w.heap.size w w') : OthT T w w' := ⟨h.size, fun X cs t fr ht hx => (h.block X (Array.getElem?_eq_some_iff.1 hx).1).trans hx⟩
theorem OthT.alloc (w : World) (o : Obj) : OthT T w (w.alloc o) := OthT.below ((Below.refl _ _).alloc (Nat.le_refl _) _)
theorem OthT.grown (h : w.ownsRow B T size v n xs) (g : w.grownBy w' v.ownBlock) : OthT T w w' := ⟨g.size, fun X cs t fr ht hx => by
  refine (g.block X (Array.getElem?_eq_some_iff.1 hx).1 (fun e => ?_)).trans hx
  obtain ⟨c1, f1, q1⟩ := Lib.ownsRow_kind h X e.symm
  rw [hx] at q1
  simp at q1
  exact ht q1.2.1⟩
theorem OthT.sets (h : w.heap[X]? = some (.cells cs T fr)) (o : Nat) (vs : List Value) : OthT T w (w.setCells X o vs) := by
  have g := grown_setCells X vs o w
  refine ⟨g.size, fun Y cs t fr ht hx => (g.block Y (Array.getElem?_eq_some_iff.1 hx).1 (fun e => ?_)).trans hx⟩
  cases e
  rw [h] at hx
  simp at hx
  exact ht hx.2.1.symm
theorem OthT.set (h : w.heap[X]? = some (.cells cs T fr)) (o : Nat) (u : Value) : OthT T w (w.setCell ⟨X, o, none⟩ u) := OthT.sets h o [u]
theorem OthT.setRow (h : w.ownsRow B T size (.slice (some ⟨X, 0, none⟩) n m) n xs) (o : Nat) (u : Value) : OthT T w (w.setCell ⟨X, o, none⟩ u) := by
  obtain ⟨c1, f1, q1⟩ := Lib.ownsRow_kind h X rfl
  exact OthT.set q1 o u
theorem OthT.row (h : OthT T w w') (he : e ≠ T) (r : w.ownsRow B e size v n xs) : w'.ownsRow B e size v n xs := by
  refine ⟨r.1, ?_⟩
  rcases r.2 with h1 | ⟨g, cap, cur, h1, h2, h3, h4⟩
  · exact .inl h1
  · exact .inr ⟨g, cap, cur, h1, h2, h.kept _ _ _ _ he h3, h4⟩
theorem OthT.blk (h : OthT T w w') (he : e ≠ T) (r : w.heap[X]? = some (.cells cs e fr)) : w'.heap[X]? = some (.cells cs e fr) := h.kept _ _ _ _ he r
end
theorem rowKept {w w' : World} {B B0 : Nat} {e : TypeId} {size : Nat} {v : Value} {n : Nat} {xs : List Value} (h : w.ownsRow B e size v n xs) (hb : Below w.heap.size w w') : w'.ownsRow B e size v n xs := by
  refine ⟨h.1, ?_⟩
  rcases h.2 with h1 | ⟨g, cap, cur, h1, h2, h3, h4⟩
  · exact .inl h1
  · exact .inr ⟨g, cap, cur, h1, h2, (hb.block _ (Array.getElem?_eq_some_iff.1 h3).1).trans h3, h4⟩
/-- A row that lies below is kept where what lies below is kept. -/
theorem rowKept_of {w w' : World} {B B0 : Nat} {e : TypeId} {size : Nat} {v : Value} {n : Nat} {xs : List Value} (h : w.ownsRow B e size v n xs) (hs : w.heap.size ≤ B0) (hb : Below B0 w w') : w'.ownsRow B e size v n xs := by
  refine ⟨h.1, ?_⟩
  rcases h.2 with h1 | ⟨g, cap, cur, h1, h2, h3, h4⟩
  · exact .inl h1
  · exact .inr ⟨g, cap, cur, h1, h2, (hb.block _ (by have := (Array.getElem?_eq_some_iff.1 h3).1; omega)).trans h3, h4⟩

end Go.Proofs.YtmmcnkdefpfkiaaDoor
