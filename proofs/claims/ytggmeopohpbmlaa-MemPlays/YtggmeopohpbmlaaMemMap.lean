/- A map keyed by numbers of 64 bits whose elements are kept as the values they are: what is looked up, stored, counted. -/
import Derived.Test.YtggmeopohpbmlaaMake
import Derived.Maps.OwnSet
namespace Go.Proofs.Ytggmeopohpbmlaa
open Go.RowKit Go.Maps
set_option linter.unusedVariables false

theorem law64 : Keyed Try.prog 29 := int_keyed Try.underlying29

/-- An element reads as the value that it is. -/
def raw (v : Value) : Option (DataW Value × List MemPlace) := some (.held v, [])

/-- A key. -/
def k64 (i : Nat) : Lit := .int .u64 (i : Int)
theorem k64_key (i : Nat) : WideAt.IsKeyLit (k64 i) := trivial
theorem k64_of (i : Nat) (h : i ≤ 18446744073709551615) : keyOf Try.prog 29 (.int .u64 (i : Int)) = some (k64 i) :=
  keyOf_int_mk Try.underlying29 (by simp [Lit.wf, IntKind.min, IntKind.max, IntKind.signed, IntKind.bits]; omega)
theorem k64_ne {i j : Nat} (h : i ≠ j) : k64 i ≠ k64 j := by
  unfold k64; intro e; injection e with e1 e2; omega

/-- Block b is a map of n entries that holds f i at the key i. -/
def MapAt (w : World) (b n : Nat) (f : Nat → Option Value) : Prop :=
  ∃ D : DataW Value, w.ownsMap Try.prog 29 raw b n D ∧ Maps.size D = n ∧
    ∀ i, i ≤ 18446744073709551615 → Maps.has D (k64 i) = (f i).isSome ∧ ∀ v, f i = some v → ∀ z, D.atKey (k64 i) z = .held v

theorem MapAt.lt {w : World} {b n : Nat} {f : Nat → Option Value} (h : MapAt w b n f) : b < w.heap.size := by
  obtain ⟨D, h1, _⟩ := h
  exact h1.lt

theorem MapAt.kept {w w' : World} {b n : Nat} {f : Nat → Option Value} (h : MapAt w b n f) (hb : w'.heap[b]? = w.heap[b]?) : MapAt w' b n f := by
  obtain ⟨D, ⟨es, clock, h1, h2⟩, h3⟩ := h
  exact ⟨D, ⟨es, clock, hb.trans h1, h2⟩, h3⟩

theorem MapAt.congr {w : World} {b n : Nat} {f g : Nat → Option Value} (h : MapAt w b n f) (hfg : ∀ i, i ≤ 18446744073709551615 → f i = g i) : MapAt w b n g := by
  obtain ⟨D, h1, h2, h3⟩ := h
  exact ⟨D, h1, h2, fun i hi => by rw [← hfg i hi]; exact h3 i hi⟩

theorem MapAt.made (w : World) : MapAt (w.alloc (.map #[] 0)) w.heap.size 0 (fun _ => none) :=
  ⟨.map [], World.ownsMap_made w _ _ _, rfl, fun i hi => ⟨rfl, fun v hv => by cases hv⟩⟩

theorem MapAt.noCells {w : World} {b n : Nat} {f : Nat → Option Value} (h : MapAt w b n f) {cs : Array Value} {t : TypeId} {fz : Nat × Nat} (hc : w.heap[b]? = some (.cells cs t fz)) : False := by
  obtain ⟨D, ⟨es, clock, h1, h2⟩, h3⟩ := h
  rw [h1] at hc
  cases hc

theorem MapAt.look {w : World} {b n : Nat} {f : Nat → Option Value} (h : MapAt w b n f) {t e : TypeId} (ht : Try.prog.underlying t = some (.map 29 e)) {z : Value} (hz : (zeroValue e).run Try.prog w = .ok z w) (i : Nat) (hi : i ≤ 18446744073709551615) :
    (Instr.lookup t (.map (some b)) (.int .u64 (i : Int)) false).run Try.prog w = .ok ((f i).getD z) w := by
  obtain ⟨D, hown, _, hf⟩ := h
  obtain ⟨h1, h2⟩ := hf i hi
  obtain ⟨v, ps, hrun, hv⟩ := hown.lookup law64 ht hz (zd := .held z) (zp := []) rfl (k64_of i hi)
  have hv' : DataW.held v = D.atKey (k64 i) (.held z) := by have h9 := hv; simp [raw] at h9; exact h9.1
  cases hfi : f i with
  | none =>
    rw [hfi] at h1
    rw [atKey_of_not_has h1] at hv'
    injection hv' with e
    subst e
    exact hrun
  | some u =>
    rw [h2 u hfi] at hv'
    injection hv' with e
    subst e
    exact hrun

theorem MapAt.lookOk {w : World} {b n : Nat} {f : Nat → Option Value} (h : MapAt w b n f) {t e : TypeId} (ht : Try.prog.underlying t = some (.map 29 e)) {z : Value} (hz : (zeroValue e).run Try.prog w = .ok z w) (i : Nat) (hi : i ≤ 18446744073709551615) :
    (Instr.lookup t (.map (some b)) (.int .u64 (i : Int)) true).run Try.prog w = .ok (.tuple #[(f i).getD z, .bool (f i).isSome]) w := by
  obtain ⟨D, hown, _, hf⟩ := h
  obtain ⟨h1, h2⟩ := hf i hi
  obtain ⟨v, ps, hrun, hv⟩ := hown.look_ok law64 ht hz (zd := .held z) (zp := []) rfl (k64_of i hi)
  have hv' : DataW.held v = D.atKey (k64 i) (.held z) := by have h9 := hv; simp [raw] at h9; exact h9.1
  rw [h1] at hrun
  cases hfi : f i with
  | none =>
    rw [hfi] at h1 hrun
    rw [atKey_of_not_has h1] at hv'
    injection hv' with e
    subst e
    exact hrun
  | some u =>
    rw [hfi] at hrun
    rw [h2 u hfi] at hv'
    injection hv' with e
    subst e
    exact hrun

theorem MapAt.len {w : World} {b n : Nat} {f : Nat → Option Value} (h : MapAt w b n f) {t e : TypeId} (ht : Try.prog.underlying t = some (.map 29 e)) (ty : TypeId) :
    (Builtin.len_ #[t] ty #[.map (some b)]).run Try.prog w = .ok (.int .i64 (n : Int)) w := by
  obtain ⟨D, hown, hs, hf⟩ := h
  have := hown.len ht ty
  rwa [hs] at this

/-- f with v at i. -/
def upd (f : Nat → Option Value) (i : Nat) (v : Value) (j : Nat) : Option Value := if j = i then some v else f j

theorem MapAt.store {w : World} {b n : Nat} {f : Nat → Option Value} (h : MapAt w b n f) {t e : TypeId} (ht : Try.prog.underlying t = some (.map 29 e)) (hn : n < maxLen) (i : Nat) (hi : i ≤ 18446744073709551615) (v : Value) :
    ∃ w', (Instr.mapUpdate t (.map (some b)) (.int .u64 (i : Int)) v).run Try.prog w = .ok () w' ∧ MapAt w' b (if (f i).isSome then n else n + 1) (upd f i v) ∧ w.grownBy w' (some b) ∧ w'.heap.size = w.heap.size := by
  obtain ⟨D, hown, hs, hf⟩ := h
  obtain ⟨w', hrun, hown', hturn⟩ := hown.store law64 ht hn (k64_of i hi) (d := .held v) (ps := []) rfl
  have htd := hown.tidy law64
  have hsz : Maps.size (D.put (k64 i) (.held v)) = if (f i).isSome then n else n + 1 := by
    rw [size_put htd, (hf i hi).1, hs]
  refine ⟨w', hrun, ⟨D.put (k64 i) (.held v), ?_, hsz, fun j hj => ?_⟩, hturn.grown, ?_⟩
  · obtain ⟨es, clock, h1, h2, h3, h4⟩ := hown'
    refine ⟨es, clock, h1, h2, ?_, h4⟩
    have e1 : Maps.size (D.put (k64 i) (.held v)) = es.size := by rw [h4]; simp [Maps.size, length_sorted]
    omega
  · by_cases hji : j = i
    · subst hji
      refine ⟨by rw [has_put_same htd.isMap (k64_key _)]; simp [upd], fun u hu z => ?_⟩
      rw [atKey_put_same htd.isMap (k64_key _)]
      simp [upd] at hu
      rw [hu]
    · rw [has_put_other (k64_ne hji), (hf j hj).1]
      refine ⟨by simp [upd, hji], fun u hu z => ?_⟩
      rw [atKey_put_other (k64_ne hji)]
      exact (hf j hj).2 u (by simpa [upd, hji] using hu) z
  · obtain ⟨es, clock, es', clock', hb, rfl⟩ := hturn
    simp [ChangeMaps.setBlock]

#print axioms MapAt.store

end Go.Proofs.Ytggmeopohpbmlaa
