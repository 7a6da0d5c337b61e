/- A map keyed by texts whose elements are kept as the values they are: what is looked up, stored, counted. -/
import Derived.Test.YtmmcnkdefpfkiaaDoorStrPlain
import Derived.Test.YtmmcnkdefpfkiaaDoorFrame
import Derived.Maps.OwnSet
namespace Go.Proofs.YtmmcnkdefpfkiaaDoor
open Go.RowKit Go.Maps
set_option linter.unusedVariables false
set_option maxRecDepth 100000
set_option maxRecDepth 20000

theorem lawS : Keyed Tryd.prog 9 := string_keyed Tryd.underlying9

/-- An element reads as the value that it is. -/
def rawS (v : Value) : Option (DataW Value × List MemPlace) := some (.held v, [])

/-- A key. -/
def kS (l : List UInt8) : Lit := .string l
theorem kS_key (l : List UInt8) : WideAt.IsKeyLit (kS l) := trivial
theorem kS_of (l : List UInt8) (h : l.length ≤ 140737488351232) : keyOf Tryd.prog 9 (.string (str l)) = some (kS l) := by
  have := WideMaps.keyOf_string_mk (P := Tryd.prog) Tryd.underlying9 (s := str l) (by rw [str_size]; unfold maxLen; omega)
  simpa [kS] using this
theorem kS_ne {l m : List UInt8} (h : l ≠ m) : kS l ≠ kS m := by
  unfold kS; intro e; injection e with e1; exact h e1

/-- Block b is a map of n entries that holds f i at the key i. -/
def MapS (w : World) (b n : Nat) (f : List UInt8 → Option Value) : Prop :=
  ∃ D : DataW Value, w.ownsMap Tryd.prog 9 rawS b n D ∧ Maps.size D = n ∧
    ∀ i : List UInt8, i.length ≤ 140737488351232 → Maps.has D (kS i) = (f i).isSome ∧ ∀ v, f i = some v → ∀ z, D.atKey (kS i) z = .held v

theorem MapS.lt {w : World} {b n : Nat} {f : List UInt8 → Option Value} (h : MapS w b n f) : b < w.heap.size := by
  obtain ⟨D, h1, _⟩ := h
  exact h1.lt

theorem MapS.kept {w w' : World} {b n : Nat} {f : List UInt8 → Option Value} (h : MapS w b n f) (hb : w'.heap[b]? = w.heap[b]?) : MapS w' b n f := by
  obtain ⟨D, ⟨es, clock, h1, h2⟩, h3⟩ := h
  exact ⟨D, ⟨es, clock, hb.trans h1, h2⟩, h3⟩

theorem MapS.congr {w : World} {b n : Nat} {f g : List UInt8 → Option Value} (h : MapS w b n f) (hfg : ∀ i : List UInt8, i.length ≤ 140737488351232 → f i = g i) : MapS w b n g := by
  obtain ⟨D, h1, h2, h3⟩ := h
  exact ⟨D, h1, h2, fun i hi => by rw [← hfg i hi]; exact h3 i hi⟩

theorem MapS.made (w : World) : MapS (w.alloc (.map #[] 0)) w.heap.size 0 (fun _ => none) :=
  ⟨.map [], World.ownsMap_made w _ _ _, rfl, fun i hi => ⟨rfl, fun v hv => by cases hv⟩⟩

theorem MapS.noCells {w : World} {b n : Nat} {f : List UInt8 → Option Value} (h : MapS w b n f) {cs : Array Value} {t : TypeId} {fz : Nat × Nat} (hc : w.heap[b]? = some (.cells cs t fz)) : False := by
  obtain ⟨D, ⟨es, clock, h1, h2⟩, h3⟩ := h
  rw [h1] at hc
  cases hc

theorem MapS.look {w : World} {b n : Nat} {f : List UInt8 → Option Value} (h : MapS w b n f) {t e : TypeId} (ht : Tryd.prog.underlying t = some (.map 9 e)) {z : Value} (hz : (zeroValue e).run Tryd.prog w = .ok z w) (i : List UInt8) (hi : i.length ≤ 140737488351232) :
    (Instr.lookup t (.map (some b)) (.string (str i)) false).run Tryd.prog w = .ok ((f i).getD z) w := by
  obtain ⟨D, hown, _, hf⟩ := h
  obtain ⟨h1, h2⟩ := hf i hi
  obtain ⟨v, ps, hrun, hv⟩ := hown.lookup lawS ht hz (zd := .held z) (zp := []) rfl (kS_of i hi)
  have hv' : DataW.held v = D.atKey (kS i) (.held z) := by have h9 := hv; simp [rawS] at h9; exact h9.1
  cases hfi : f i with
  | none =>
    rw [hfi] at h1
    rw [atKey_of_not_has h1] at hv'
    injection hv' with e
    subst e
    exact hrun
  | some u =>
    rw [h2 u hfi] at hv'
    injection hv' with e
    subst e
    exact hrun

theorem MapS.lookOk {w : World} {b n : Nat} {f : List UInt8 → Option Value} (h : MapS w b n f) {t e : TypeId} (ht : Tryd.prog.underlying t = some (.map 9 e)) {z : Value} (hz : (zeroValue e).run Tryd.prog w = .ok z w) (i : List UInt8) (hi : i.length ≤ 140737488351232) :
    (Instr.lookup t (.map (some b)) (.string (str i)) true).run Tryd.prog w = .ok (.tuple #[(f i).getD z, .bool (f i).isSome]) w := by
  obtain ⟨D, hown, _, hf⟩ := h
  obtain ⟨h1, h2⟩ := hf i hi
  obtain ⟨v, ps, hrun, hv⟩ := hown.look_ok lawS ht hz (zd := .held z) (zp := []) rfl (kS_of i hi)
  have hv' : DataW.held v = D.atKey (kS i) (.held z) := by have h9 := hv; simp [rawS] at h9; exact h9.1
  rw [h1] at hrun
  cases hfi : f i with
  | none =>
    rw [hfi] at h1 hrun
    rw [atKey_of_not_has h1] at hv'
    injection hv' with e
    subst e
    exact hrun
  | some u =>
    rw [hfi] at hrun
    rw [h2 u hfi] at hv'
    injection hv' with e
    subst e
    exact hrun

theorem MapS.len {w : World} {b n : Nat} {f : List UInt8 → Option Value} (h : MapS w b n f) {t e : TypeId} (ht : Tryd.prog.underlying t = some (.map 9 e)) (ty : TypeId) :
    (Builtin.len_ #[t] ty #[.map (some b)]).run Tryd.prog w = .ok (.int .i64 (n : Int)) w := by
  obtain ⟨D, hown, hs, hf⟩ := h
  have := hown.len ht ty
  rwa [hs] at this

/-- f with v at i. -/
def updS (f : List UInt8 → Option Value) (i : List UInt8) (v : Value) (j : List UInt8) : Option Value := if j = i then some v else f j

theorem MapS.store {w : World} {b n : Nat} {f : List UInt8 → Option Value} (h : MapS w b n f) {t e : TypeId} (ht : Tryd.prog.underlying t = some (.map 9 e)) (hn : n < maxLen) (i : List UInt8) (hi : i.length ≤ 140737488351232) (v : Value) :
    ∃ w', (Instr.mapUpdate t (.map (some b)) (.string (str i)) v).run Tryd.prog w = .ok () w' ∧ MapS w' b (if (f i).isSome then n else n + 1) (updS f i v) ∧ w.grownBy w' (some b) ∧ w'.heap.size = w.heap.size := by
  obtain ⟨D, hown, hs, hf⟩ := h
  obtain ⟨w', hrun, hown', hturn⟩ := hown.store lawS ht hn (kS_of i hi) (d := .held v) (ps := []) rfl
  have htd := hown.tidy lawS
  have hsz : Maps.size (D.put (kS i) (.held v)) = if (f i).isSome then n else n + 1 := by
    rw [size_put htd, (hf i hi).1, hs]
  refine ⟨w', hrun, ⟨D.put (kS i) (.held v), ?_, hsz, fun j hj => ?_⟩, hturn.grown, ?_⟩
  · obtain ⟨es, clock, h1, h2, h3, h4⟩ := hown'
    refine ⟨es, clock, h1, h2, ?_, h4⟩
    have e1 : Maps.size (D.put (kS i) (.held v)) = es.size := by rw [h4]; simp [Maps.size, length_sorted]
    omega
  · by_cases hji : j = i
    · subst hji
      refine ⟨by rw [has_put_same htd.isMap (kS_key _)]; simp [updS], fun u hu z => ?_⟩
      rw [atKey_put_same htd.isMap (kS_key _)]
      simp [updS] at hu
      rw [hu]
    · rw [has_put_other (kS_ne hji), (hf j hj).1]
      refine ⟨by simp [updS, hji], fun u hu z => ?_⟩
      rw [atKey_put_other (kS_ne hji)]
      exact (hf j hj).2 u (by simpa [updS, hji] using hu) z
  · obtain ⟨es, clock, es', clock', hb, rfl⟩ := hturn
    simp [ChangeMaps.setBlock]

#print axioms MapS.store

end Go.Proofs.YtmmcnkdefpfkiaaDoor
