/- Slices of one-cell values that are read, whatever the values are; slices of whole numbers (int), slices of such slices. -/
import Derived.Test.YtkllbcjbbfpccaaMake
import Derived.ProofKit
namespace Go.Proofs.Ytkllbcjbbfpccaa
open Go.RowKit
set_option linter.unusedVariables false
set_option linter.unusedSimpArgs false

/-- Values in a slice that is read. -/
structure Rv (w : World) (a : Option Addr) (len cap : Nat) (vs : List Value) : Prop where
  length : vs.length = len
  le : len ≤ cap
  max : cap ≤ 9223372036854775807
  nil : a = none → cap = 0
  cell : ∀ x, a = some x → ∀ i u, vs[i]? = some u → w.cell? (x.add i) = some u

theorem Rv.addr {w : World} {a : Option Addr} {len cap : Nat} {vs : List Value} (r : Rv w a len cap vs) (h : 0 < len) :
    ∃ b o, a = some ⟨b, o, none⟩ ∧ ∀ i u, vs[i]? = some u → w.cell? ⟨b, o + i, none⟩ = some u := by
  have hl := r.length
  cases a with
  | none => have h1 := r.nil rfl; have h2 := r.le; omega
  | some x =>
    obtain ⟨b, o, spot⟩ := x
    have hs : spot = none := by simpa [Addr.add] using World.cell?_spot (r.cell _ rfl 0 _ (List.getElem?_eq_getElem (show 0 < vs.length by omega)))
    subst hs
    exact ⟨b, o, rfl, fun i u hu => by have := r.cell _ rfl i u hu; rwa [show (⟨b, o, none⟩ : Addr).add i = ⟨b, o + i, none⟩ by unfold Addr.add; split <;> simp_all] at this⟩
theorem Rv.below {w w' : World} {a : Option Addr} {len cap : Nat} {vs : List Value} (r : Rv w a len cap vs) (hb : Below w.heap.size w w') : Rv w' a len cap vs :=
  ⟨r.length, r.le, r.max, r.nil, fun x hx i u hu => by
    have h1 := r.cell x hx i u hu
    rw [hb.cell (World.block_lt_of_cell? w _ h1)]; exact h1⟩
theorem Rv.nothing (w : World) : Rv w none 0 0 [] := ⟨rfl, Nat.le_refl _, by omega, fun _ => rfl, fun x hx => by cases hx⟩
theorem Rv.lit (w : World) (t : TypeId) (vs : List Value) (hl : vs.length ≤ 9223372036854775807) : Rv (w.alloc (.cells vs.toArray t)) (some ⟨w.heap.size, 0, none⟩) vs.length vs.length vs := by
  refine ⟨rfl, Nat.le_refl _, hl, (fun h => by cases h), fun x hx i u hu => ?_⟩
  cases hx
  have e : (⟨w.heap.size, 0, none⟩ : Addr).add i = ⟨w.heap.size, i, none⟩ := by unfold Addr.add; split <;> simp_all
  rw [e, cell_of_row _ _ i _ t (0, 0) (heap_alloc_new w _)]
  simpa using hu
theorem Rv.own {w : World} {base : Nat} {e : TypeId} {v : Value} {n : Nat} {vs : List Value} (h : w.ownsRow base e 1 v n vs) : ∃ a cap, v = .slice a n cap ∧ Rv w a n cap vs := by
  have hl : vs.length = n := by simpa using h.1
  rcases h.2 with ⟨rfl, h2⟩ | ⟨g, cap, cur, rfl, hbg, hg, hnc, hcm, hcs, htake⟩
  · subst h2
    obtain rfl : vs = [] := List.eq_nil_of_length_eq_zero hl
    exact ⟨none, 0, rfl, Rv.nothing w⟩
  · refine ⟨_, cap, rfl, hl, hnc, by unfold maxLen at hcm; omega, (fun h => by cases h), fun x hx i u hu => ?_⟩
    cases hx
    exact h.cells (g := g) rfl i u hu

/-- Whole numbers in a slice that is read. -/
structure Ri (w : World) (a : Option Addr) (len cap : Nat) (xs : List Int) : Prop where
  row : Rv w a len cap (xs.map (Value.int .i64))
  fit : ∀ x ∈ xs, -9223372036854775808 ≤ x ∧ x ≤ 9223372036854775807
theorem Ri.length {w : World} {a : Option Addr} {len cap : Nat} {xs : List Int} (r : Ri w a len cap xs) : xs.length = len := by simpa using r.row.length
theorem Ri.below {w w' : World} {a : Option Addr} {len cap : Nat} {xs : List Int} (r : Ri w a len cap xs) (hb : Below w.heap.size w w') : Ri w' a len cap xs := ⟨r.row.below hb, r.fit⟩
theorem Ri.addr {w : World} {a : Option Addr} {len cap : Nat} {xs : List Int} (r : Ri w a len cap xs) (h : 0 < len) :
    ∃ b o, a = some ⟨b, o, none⟩ ∧ ∀ i x, xs[i]? = some x → w.cell? ⟨b, o + i, none⟩ = some (.int .i64 x) := by
  obtain ⟨b, o, h1, h2⟩ := r.row.addr h
  exact ⟨b, o, h1, fun i x hx => h2 i _ (by simp [hx])⟩
theorem Ri.nothing (w : World) : Ri w none 0 0 [] := ⟨Rv.nothing w, fun x hx => by cases hx⟩
theorem Ri.lit (w : World) (t : TypeId) (xs : List Int) (hl : xs.length ≤ 9223372036854775807) (hf : ∀ x ∈ xs, -9223372036854775808 ≤ x ∧ x ≤ 9223372036854775807) : Ri (w.alloc (.cells (xs.map (Value.int .i64)).toArray t)) (some ⟨w.heap.size, 0, none⟩) xs.length xs.length xs := by
  have := Rv.lit w t (xs.map (Value.int .i64)) (by simpa using hl)
  rw [List.length_map] at this
  exact ⟨this, hf⟩
theorem Ri.own {w : World} {base : Nat} {e : TypeId} {v : Value} {n : Nat} {xs : List Int} (h : w.ownsRow base e 1 v n (xs.map (Value.int .i64))) (hf : ∀ x ∈ xs, -9223372036854775808 ≤ x ∧ x ≤ 9223372036854775807) : ∃ a cap, v = .slice a n cap ∧ Ri w a n cap xs := by
  obtain ⟨a, cap, h1, h2⟩ := Rv.own h
  exact ⟨a, cap, h1, h2, hf⟩

/-- Slices of whole numbers in a slice that is read. -/
structure Rii (w : World) (a : Option Addr) (len cap : Nat) (L : List (List Int)) : Prop where
  vals : ∃ vs : List Value, Rv w a len cap vs ∧ L.length = len ∧ ∀ (i : Nat) (m : List Int), L[i]? = some m → ∃ (a' : Option Addr) (c' : Nat), vs[i]? = some (Value.slice a' m.length c') ∧ Ri w a' m.length c' m
theorem Rii.length {w : World} {a : Option Addr} {len cap : Nat} {L : List (List Int)} (r : Rii w a len cap L) : L.length = len := by
  obtain ⟨vs, _, h, _⟩ := r.vals
  exact h
theorem Rii.le {w : World} {a : Option Addr} {len cap : Nat} {L : List (List Int)} (r : Rii w a len cap L) : len ≤ cap := by
  obtain ⟨vs, h, _⟩ := r.vals
  exact h.le
theorem Rii.max {w : World} {a : Option Addr} {len cap : Nat} {L : List (List Int)} (r : Rii w a len cap L) : cap ≤ 9223372036854775807 := by
  obtain ⟨vs, h, _⟩ := r.vals
  exact h.max
theorem Rii.below {w w' : World} {a : Option Addr} {len cap : Nat} {L : List (List Int)} (r : Rii w a len cap L) (hb : Below w.heap.size w w') : Rii w' a len cap L := by
  obtain ⟨vs, h1, h2, h3⟩ := r.vals
  refine ⟨vs, h1.below hb, h2, fun i m hm => ?_⟩
  obtain ⟨a', c', h4, h5⟩ := h3 i m hm
  exact ⟨a', c', h4, h5.below hb⟩
theorem Rii.addr {w : World} {a : Option Addr} {len cap : Nat} {L : List (List Int)} (r : Rii w a len cap L) (h : 0 < len) :
    ∃ b o, a = some ⟨b, o, none⟩ ∧ ∀ i m, L[i]? = some m → ∃ a' c', w.cell? ⟨b, o + i, none⟩ = some (.slice a' m.length c') ∧ Ri w a' m.length c' m := by
  obtain ⟨vs, h1, h2, h3⟩ := r.vals
  obtain ⟨b, o, h4, h5⟩ := h1.addr h
  refine ⟨b, o, h4, fun i m hm => ?_⟩
  obtain ⟨a', c', h6, h7⟩ := h3 i m hm
  exact ⟨a', c', h5 i _ h6, h7⟩

end Go.Proofs.Ytkllbcjbbfpccaa
