/- Two memories side by side: what is done to one leaves the other. -/
import Derived.Test.YtggmeopohpbmlaaMemKnown
namespace Go.Proofs.Ytggmeopohpbmlaa
open Go.RowKit Go.Maps
set_option linter.unusedVariables false

/-- What blocks F of a world hold lasts while others turn. -/
structure Lasts (P : World → (Nat → Prop) → Prop) : Prop where
  kept : ∀ {w w' : World} {F G : Nat → Prop}, P w F → Kept G w w' → (∀ k, F k → ¬ G k) → P w' F
  flt : ∀ {w : World} {F : Nat → Prop}, P w F → ∀ k, F k → k < w.heap.size

theorem pm_lasts (m : Nat) (S : Mm) : Lasts (fun w F => PM w m S F) := ⟨fun h hk hd => h.kept hk hd, fun h => h.flt⟩

/-- Two things of the call's own, in blocks apart. -/
def Pair (w0 w : World) (P Q : World → (Nat → Prop) → Prop) : Prop :=
  ∃ F G, P w F ∧ Q w G ∧ (∀ k, F k → w0.heap.size ≤ k) ∧ (∀ k, G k → w0.heap.size ≤ k) ∧ (∀ k, F k → ¬ G k) ∧ Below w0.heap.size w0 w

variable {w0 w w' : World} {P P' Q Q' : World → (Nat → Prop) → Prop}

theorem Pair.bel (h : Pair w0 w P Q) : Below w0.heap.size w0 w := by
  obtain ⟨F, G, _, _, _, _, _, h6⟩ := h
  exact h6

theorem Pair.symm (h : Pair w0 w P Q) : Pair w0 w Q P := by
  obtain ⟨F, G, h1, h2, h3, h4, h5, h6⟩ := h
  exact ⟨G, F, h2, h1, h4, h3, fun k hk hf => h5 k hf hk, h6⟩

theorem Pair.below (h : Pair w0 w P Q) (hP : Lasts P) (hQ : Lasts Q) (hb : Below w.heap.size w w') : Pair w0 w' P Q := by
  obtain ⟨F, G, h1, h2, h3, h4, h5, h6⟩ := h
  exact ⟨F, G, hP.kept h1 (kept_of_below hb (fun _ => False)) (fun _ _ h => h), hQ.kept h2 (kept_of_below hb (fun _ => False)) (fun _ _ h => h), h3, h4, h5, h6.trans (hb.mono h6.size)⟩

/-- A call that turns the first alone. -/
theorem Pair.left {C : (Nat → Prop) → Prop} (h : Pair w0 w P Q) (hQ : Lasts Q) (f : Nat) (args : Array Value) (R : Ending → Prop)
    (hc : ∀ F, P w F → (∀ k, F k → w0.heap.size ≤ k) → Calls Try.prog f args w fun e w' => R e ∧ ∃ F', P' w' F' ∧ Went F w F' w') :
    Calls Try.prog f args w fun e w' => R e ∧ Pair w0 w' P' Q := by
  obtain ⟨F, G, h1, h2, h3, h4, h5, h6⟩ := h
  refine (hc F h1 h3).mono ?_
  rintro e w' ⟨he, F', h7, h8⟩
  have h9 := h8.below h6.size h3
  refine ⟨he, F', G, h7, hQ.kept h2 h8.1 (fun k hg hf => h5 k hf hg), h9.2, h4, fun k hf hg => ?_, h6.trans h9.1⟩
  rcases h8.2 k hf with h10 | h10
  · exact h5 k h10 hg
  · have := hQ.flt h2 k hg; omega

/-- A call that turns neither. -/
theorem Pair.ask (h : Pair w0 w P Q) (hP : Lasts P) (hQ : Lasts Q) (f : Nat) (args : Array Value) (R : Ending → World → Prop)
    (hc : ∀ F, P w F → Calls Try.prog f args w fun e w' => R e w' ∧ Below w.heap.size w w') :
    Calls Try.prog f args w fun e w' => R e w' ∧ Pair w0 w' P Q := by
  obtain ⟨F, G, h1, h2, h3, h4, h5, h6⟩ := h
  refine (hc F h1).mono ?_
  rintro e w' ⟨he, hb⟩
  exact ⟨he, Pair.below ⟨F, G, h1, h2, h3, h4, h5, h6⟩ hP hQ hb⟩

end Go.Proofs.Ytggmeopohpbmlaa
