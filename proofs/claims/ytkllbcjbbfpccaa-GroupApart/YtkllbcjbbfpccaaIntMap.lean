/- A map keyed by whole numbers (int) whose elements are kept as the values they are: what is looked up, stored, counted. -/
import Derived.Test.YtkllbcjbbfpccaaMake
import Derived.Test.YtkllbcjbbfpccaaFrame
import Derived.Maps.OwnSet
namespace Go.Proofs.Ytkllbcjbbfpccaa
open Go.RowKit Go.Maps
set_option linter.unusedVariables false

theorem lawI : Keyed Try.prog 3 := int_keyed Try.underlying3

/-- An element reads as the value that it is. -/
def rawI (v : Value) : Option (DataW Value × List MemPlace) := some (.held v, [])

/-- A key. -/
def inI (i : Int) : Prop := -9223372036854775808 ≤ i ∧ i ≤ 9223372036854775807
def kI (i : Int) : Lit := .int .i64 i
theorem kI_key (i : Int) : WideAt.IsKeyLit (kI i) := trivial
theorem kI_of (i : Int) (h : inI i) : keyOf Try.prog 3 (.int .i64 i) = some (kI i) :=
  keyOf_int_mk Try.underlying3 (by obtain ⟨h1, h2⟩ := h; simp [Lit.wf, IntKind.min, IntKind.max, IntKind.signed, IntKind.bits]; omega)
theorem kI_ne {l m : Int} (h : l ≠ m) : kI l ≠ kI m := by
  unfold kI; intro e; injection e with e1 e2; exact h e2

/-- Block b is a map of n entries that holds f i at the key i. -/
def MapI (w : World) (b n : Nat) (f : Int → Option Value) : Prop :=
  ∃ D : DataW Value, w.ownsMap Try.prog 3 rawI b n D ∧ Maps.size D = n ∧
    ∀ i : Int, inI i → Maps.has D (kI i) = (f i).isSome ∧ ∀ v, f i = some v → ∀ z, D.atKey (kI i) z = .held v

theorem MapI.lt {w : World} {b n : Nat} {f : Int → Option Value} (h : MapI w b n f) : b < w.heap.size := by
  obtain ⟨D, h1, _⟩ := h
  exact h1.lt

theorem MapI.kept {w w' : World} {b n : Nat} {f : Int → Option Value} (h : MapI w b n f) (hb : w'.heap[b]? = w.heap[b]?) : MapI w' b n f := by
  obtain ⟨D, ⟨es, clock, h1, h2⟩, h3⟩ := h
  exact ⟨D, ⟨es, clock, hb.trans h1, h2⟩, h3⟩

theorem MapI.congr {w : World} {b n : Nat} {f g : Int → Option Value} (h : MapI w b n f) (hfg : ∀ i : Int, inI i → f i = g i) : MapI w b n g := by
  obtain ⟨D, h1, h2, h3⟩ := h
  exact ⟨D, h1, h2, fun i hi => by rw [← hfg i hi]; exact h3 i hi⟩

theorem MapI.made (w : World) : MapI (w.alloc (.map #[] 0)) w.heap.size 0 (fun _ => none) :=
  ⟨.map [], World.ownsMap_made w _ _ _, rfl, fun i hi => ⟨rfl, fun v hv => by cases hv⟩⟩

theorem MapI.noCells {w : World} {b n : Nat} {f : Int → Option Value} (h : MapI w b n f) {cs : Array Value} {t : TypeId} {fz : Nat × Nat} (hc : w.heap[b]? = some (.cells cs t fz)) : False := by
  obtain ⟨D, ⟨es, clock, h1, h2⟩, h3⟩ := h
  rw [h1] at hc
  cases hc

theorem MapI.look {w : World} {b n : Nat} {f : Int → Option Value} (h : MapI w b n f) {t e : TypeId} (ht : Try.prog.underlying t = some (.map 3 e)) {z : Value} (hz : (zeroValue e).run Try.prog w = .ok z w) (i : Int) (hi : inI i) :
    (Instr.lookup t (.map (some b)) (.int .i64 i) false).run Try.prog w = .ok ((f i).getD z) w := by
  obtain ⟨D, hown, _, hf⟩ := h
  obtain ⟨h1, h2⟩ := hf i hi
  obtain ⟨v, ps, hrun, hv⟩ := hown.lookup lawI ht hz (zd := .held z) (zp := []) rfl (kI_of i hi)
  have hv' : DataW.held v = D.atKey (kI i) (.held z) := by have h9 := hv; simp [rawI] at h9; exact h9.1
  cases hfi : f i with
  | none =>
    rw [hfi] at h1
    rw [atKey_of_not_has h1] at hv'
    injection hv' with e
    subst e
    exact hrun
  | some u =>
    rw [h2 u hfi] at hv'
    injection hv' with e
    subst e
    exact hrun

theorem MapI.lookOk {w : World} {b n : Nat} {f : Int → Option Value} (h : MapI w b n f) {t e : TypeId} (ht : Try.prog.underlying t = some (.map 3 e)) {z : Value} (hz : (zeroValue e).run Try.prog w = .ok z w) (i : Int) (hi : inI i) :
    (Instr.lookup t (.map (some b)) (.int .i64 i) true).run Try.prog w = .ok (.tuple #[(f i).getD z, .bool (f i).isSome]) w := by
  obtain ⟨D, hown, _, hf⟩ := h
  obtain ⟨h1, h2⟩ := hf i hi
  obtain ⟨v, ps, hrun, hv⟩ := hown.look_ok lawI ht hz (zd := .held z) (zp := []) rfl (kI_of i hi)
  have hv' : DataW.held v = D.atKey (kI i) (.held z) := by have h9 := hv; simp [rawI] at h9; exact h9.1
  rw [h1] at hrun
  cases hfi : f i with
  | none =>
    rw [hfi] at h1 hrun
    rw [atKey_of_not_has h1] at hv'
    injection hv' with e
    subst e
    exact hrun
  | some u =>
    rw [hfi] at hrun
    rw [h2 u hfi] at hv'
    injection hv' with e
    subst e
    exact hrun

theorem MapI.len {w : World} {b n : Nat} {f : Int → Option Value} (h : MapI w b n f) {t e : TypeId} (ht : Try.prog.underlying t = some (.map 3 e)) (ty : TypeId) :
    (Builtin.len_ #[t] ty #[.map (some b)]).run Try.prog w = .ok (.int .i64 (n : Int)) w := by
  obtain ⟨D, hown, hs, hf⟩ := h
  have := hown.len ht ty
  rwa [hs] at this

/-- f with v at i. -/
def updI (f : Int → Option Value) (i : Int) (v : Value) (j : Int) : Option Value := if j = i then some v else f j

theorem MapI.store {w : World} {b n : Nat} {f : Int → Option Value} (h : MapI w b n f) {t e : TypeId} (ht : Try.prog.underlying t = some (.map 3 e)) (hn : n < maxLen) (i : Int) (hi : inI i) (v : Value) :
    ∃ w', (Instr.mapUpdate t (.map (some b)) (.int .i64 i) v).run Try.prog w = .ok () w' ∧ MapI w' b (if (f i).isSome then n else n + 1) (updI f i v) ∧ w.grownBy w' (some b) ∧ w'.heap.size = w.heap.size := by
  obtain ⟨D, hown, hs, hf⟩ := h
  obtain ⟨w', hrun, hown', hturn⟩ := hown.store lawI ht hn (kI_of i hi) (d := .held v) (ps := []) rfl
  have htd := hown.tidy lawI
  have hsz : Maps.size (D.put (kI i) (.held v)) = if (f i).isSome then n else n + 1 := by
    rw [size_put htd, (hf i hi).1, hs]
  refine ⟨w', hrun, ⟨D.put (kI i) (.held v), ?_, hsz, fun j hj => ?_⟩, hturn.grown, ?_⟩
  · obtain ⟨es, clock, h1, h2, h3, h4⟩ := hown'
    refine ⟨es, clock, h1, h2, ?_, h4⟩
    have e1 : Maps.size (D.put (kI i) (.held v)) = es.size := by rw [h4]; simp [Maps.size, length_sorted]
    omega
  · by_cases hji : j = i
    · subst hji
      refine ⟨by rw [has_put_same htd.isMap (kI_key _)]; simp [updI], fun u hu z => ?_⟩
      rw [atKey_put_same htd.isMap (kI_key _)]
      simp [updI] at hu
      rw [hu]
    · rw [has_put_other (kI_ne hji), (hf j hj).1]
      refine ⟨by simp [updI, hji], fun u hu z => ?_⟩
      rw [atKey_put_other (kI_ne hji)]
      exact (hf j hj).2 u (by simpa [updI, hji] using hu) z
  · obtain ⟨es, clock, es', clock', hb, rfl⟩ := hturn
    simp [ChangeMaps.setBlock]

#print axioms MapI.store

end Go.Proofs.Ytkllbcjbbfpccaa
