/- Records in rows, whatever the record is: so many cells each, one value a cell: what a row of them holds, how one is stored, a slice of them that is read, that is owned, that came in. -/
import Derived.Test.YtmmcnkdefpfkiaaDoorMake
import Derived.ProofKit
import Derived.OpenShut
namespace Go.Proofs.YtmmcnkdefpfkiaaDoor
open Go.RowKit
set_option linter.unusedVariables false
set_option maxRecDepth 100000
set_option maxRecDepth 20000
set_option linter.unusedSimpArgs false

/-- Records: each of n cells. -/
structure Rc (R : Type) where
  cells : R → List Value
  n : Nat
  pos : 0 < n
  len : ∀ r, (cells r).length = n
  one : ∀ r, ∀ u ∈ cells r, u.oneCell' = true

section
variable {R : Type} (C : Rc R)

def Rc.all (l : List R) : List Value := l.flatMap C.cells
theorem Rc.all_nil : C.all [] = [] := rfl
theorem Rc.all_cons (r : R) (l : List R) : C.all (r :: l) = C.cells r ++ C.all l := by simp [Rc.all]
theorem Rc.all_append (l m : List R) : C.all (l ++ m) = C.all l ++ C.all m := List.flatMap_append ..
theorem Rc.all_one (r : R) : C.all [r] = C.cells r := by simp [Rc.all]
theorem Rc.all_len : ∀ l : List R, (C.all l).length = l.length * C.n
  | [] => by simp [Rc.all]
  | r :: l => by rw [C.all_cons, List.length_append, C.len, Rc.all_len l, List.length_cons, Nat.succ_mul, Nat.add_comm]
theorem Rc.all_at : ∀ (l : List R) (i j : Nat) (r : R), l[i]? = some r → j < C.n → (C.all l)[i * C.n + j]? = (C.cells r)[j]?
  | [], i, j, r, h, hj => by simp at h
  | a :: l, 0, j, r, h, hj => by
    simp at h
    subst h
    rw [C.all_cons, Nat.zero_mul, Nat.zero_add, List.getElem?_append_left (by rw [C.len]; exact hj)]
  | a :: l, i + 1, j, r, h, hj => by
    have h1 := Rc.all_at l i j r (by simpa using h) hj
    have e : (i + 1) * C.n + j = C.n + (i * C.n + j) := by rw [Nat.succ_mul]; omega
    rw [C.all_cons, e, List.getElem?_append_right (by rw [C.len]; omega), C.len, Nat.add_sub_cancel_left, h1]
theorem Rc.all_split (l : List R) (j : Nat) (u : Value) (h : (C.all l)[j]? = some u) : ∃ r, l[j / C.n]? = some r ∧ (C.cells r)[j % C.n]? = some u := by
  have hj : j < l.length * C.n := by
    have := (List.getElem?_eq_some_iff.1 h).1
    rw [C.all_len] at this
    exact this
  have hi : j / C.n < l.length := Nat.div_lt_of_lt_mul (by rw [Nat.mul_comm]; exact hj)
  have hm : j % C.n < C.n := Nat.mod_lt _ C.pos
  obtain ⟨r, hr⟩ : ∃ r, l[j / C.n]? = some r := ⟨_, List.getElem?_eq_getElem hi⟩
  refine ⟨r, hr, ?_⟩
  rw [← C.all_at l (j / C.n) (j % C.n) r hr hm, Nat.div_add_mod']
  exact h
theorem Rc.all_cell (l : List R) : ∀ u ∈ C.all l, u.oneCell' = true := by
  intro u hu
  obtain ⟨r, _, hc⟩ := List.mem_flatMap.1 hu
  exact C.one r u hc
theorem Rc.all_take (l : List R) (k : Nat) (r : R) (h : l[k]? = some r) : C.all (l.take (k + 1)) = C.all (l.take k) ++ C.cells r := by
  rw [List.take_add_one, h, C.all_append]
  simp [Rc.all]

/-- One cell of a record stored. -/
theorem Rc.set_one (s t : R) (f : Nat) (u : Value) (hf : f < C.n) (he : (C.cells s).set f u = C.cells t) : ∀ (l : List R) (i : Nat), l[i]? = some s → (C.all l).set (i * C.n + f) u = C.all (l.set i t)
  | [], i, h => by simp at h
  | a :: l, 0, h => by
    simp at h
    subst h
    rw [C.all_cons, List.set_append_left _ _ (by rw [C.len]; omega), Nat.zero_mul, Nat.zero_add, he]
    simp [Rc.all]
  | a :: l, i + 1, h => by
    have ih := Rc.set_one s t f u hf he l i (by simpa using h)
    have e : (i + 1) * C.n + f = C.n + (i * C.n + f) := by rw [Nat.succ_mul]; omega
    rw [C.all_cons, List.set_cons_succ, C.all_cons, ← ih, e, List.set_append_right _ _ (by rw [C.len]; omega), C.len, Nat.add_sub_cancel_left]

/-- Cells set one behind another. -/
def setL (xs : List Value) (o : Nat) : List Value → List Value
  | [] => xs
  | v :: vs => setL (xs.set o v) (o + 1) vs
theorem setL_at : ∀ (vs : List Value) (xs : List Value) (o j : Nat), (setL xs o vs)[j]? = if o ≤ j ∧ j < o + vs.length ∧ j < xs.length then vs[j - o]? else xs[j]?
  | [], xs, o, j => by
    rw [if_neg (by simp; omega)]
    rfl
  | v :: vs, xs, o, j => by
    unfold setL
    rw [setL_at vs (xs.set o v) (o + 1) j, List.length_set]
    by_cases h1 : o + 1 ≤ j ∧ j < o + 1 + vs.length ∧ j < xs.length
    · rw [if_pos h1, if_pos ⟨by omega, by simp; omega, h1.2.2⟩]
      obtain ⟨k, hk⟩ : ∃ k, j - o = k + 1 := ⟨j - o - 1, by omega⟩
      rw [hk, List.getElem?_cons_succ]
      congr 1
      omega
    · rw [if_neg h1]
      by_cases h2 : j = o
      · subst h2
        by_cases h3 : j < xs.length
        · rw [if_pos ⟨Nat.le_refl _, by simp, h3⟩, List.getElem?_set_self h3, Nat.sub_self]
          rfl
        · rw [if_neg (by omega), List.getElem?_eq_none (by simp; omega), List.getElem?_eq_none (by omega)]
      · rw [List.getElem?_set_ne (Ne.symm h2)]
        rw [if_neg]
        rintro ⟨h3, h4, h5⟩
        simp at h4
        exact h1 ⟨by omega, by omega, h5⟩

/-- A record stored whole. -/
theorem Rc.set_all (l : List R) (i : Nat) (hi : i < l.length) (t : R) : setL (C.all l) (i * C.n) (C.cells t) = C.all (l.set i t) := by
  apply List.ext_getElem?
  intro j
  have hp := C.pos
  rw [setL_at, C.len, C.all_len]
  by_cases hj : j < l.length * C.n
  · have hm : j % C.n < C.n := Nat.mod_lt _ hp
    have hd : j / C.n < l.length := Nat.div_lt_of_lt_mul (by rw [Nat.mul_comm]; exact hj)
    have hdm := Nat.div_add_mod' j C.n
    obtain ⟨s, hs⟩ : ∃ s, l[j / C.n]? = some s := ⟨_, List.getElem?_eq_getElem hd⟩
    by_cases hij : j / C.n = i
    · have e1 : (l.set i t)[j / C.n]? = some t := by rw [hij, List.getElem?_set_self hi]
      have e2 := C.all_at (l.set i t) (j / C.n) (j % C.n) t e1 hm
      rw [hdm] at e2
      rw [hij] at hdm
      rw [e2, if_pos ⟨by omega, by omega, hj⟩]
      congr 1
      omega
    · have e1 : (l.set i t)[j / C.n]? = some s := by rw [List.getElem?_set_ne (Ne.symm hij), hs]
      have e2 := C.all_at (l.set i t) (j / C.n) (j % C.n) s e1 hm
      have e3 := C.all_at l (j / C.n) (j % C.n) s hs hm
      rw [hdm] at e2 e3
      rw [e2, ← e3, if_neg]
      rintro ⟨h1, h2, _⟩
      apply hij
      exact Nat.div_eq_of_lt_le (by omega) (by rw [Nat.succ_mul]; omega)
  · rw [if_neg (fun h => hj h.2.2), List.getElem?_eq_none (by rw [C.all_len]; omega), List.getElem?_eq_none (by rw [C.all_len, List.length_set]; omega)]

theorem row_setCells {w : World} {B g n cap size : Nat} {e : TypeId} : ∀ (vs : List Value) (xs : List Value) (o : Nat) (w : World), w.ownsRow B e size (.slice (some ⟨g, 0, none⟩) n cap) n xs → (w.setCells g o vs).ownsRow B e size (.slice (some ⟨g, 0, none⟩) n cap) n (setL xs o vs)
  | [], xs, o, w, h => h
  | v :: vs, xs, o, w, h => row_setCells (w := w) vs (xs.set o v) (o + 1) (w.setCell ⟨g, o, none⟩ v) (h.stored o v).1
theorem Rc.row_store {w : World} {B g m cap : Nat} {e : TypeId} {l : List R} (h : w.ownsRow B e C.n (.slice (some ⟨g, 0, none⟩) m cap) m (C.all l)) (i : Nat) (hi : i < l.length) (t : R) :
    (w.setCells g (i * C.n) (C.cells t)).ownsRow B e C.n (.slice (some ⟨g, 0, none⟩) m cap) m (C.all (l.set i t)) := by
  rw [← C.set_all l i hi t]
  exact row_setCells (w := w) _ _ _ _ h
theorem below_setCells {B b : Nat} {a : World} (hb : B ≤ b) : ∀ (vs : List Value) (o : Nat) (w : World), Below B a w → Below B a (w.setCells b o vs)
  | [], _, _, h => h
  | v :: r, o, w, h => below_setCells hb r (o + 1) _ (h.setCell hb v)

/-- Made anew: so many records of noughts. -/
theorem Rc.made (z : Value) (r0 : R) (hz : z.cells.toList = C.cells r0) (m : Nat) : (madeCells z.cells (m * C.n)).toList = C.all (List.replicate m r0) := by
  have hzs : z.cells.size = C.n := by rw [← Array.length_toList, hz, C.len]
  apply List.ext_getElem?
  intro j
  by_cases hj : j < m * C.n
  · have hm : j % C.n < C.n := Nat.mod_lt _ C.pos
    have hd : j / C.n < m := Nat.div_lt_of_lt_mul (by rw [Nat.mul_comm]; exact hj)
    have h1 := C.all_at (List.replicate m r0) (j / C.n) (j % C.n) r0 (by rw [List.getElem?_replicate, if_pos hd]) hm
    rw [Nat.div_add_mod'] at h1
    rw [h1, ← hz]
    have h3 : j % C.n < z.cells.size := by omega
    simp [madeCells, hj, hzs]
    rw [Array.getElem?_eq_getElem h3, getElem!_pos z.cells (j % C.n) h3]
  · rw [List.getElem?_eq_none (by rw [Array.length_toList, size_madeCells]; omega), List.getElem?_eq_none (by rw [C.all_len, List.length_replicate]; omega)]

/-- Records in a slice that is read. -/
structure Rr (ok : R → Prop) (w : World) (a : Option Addr) (len cap : Nat) (l : List R) : Prop where
  length : l.length = len
  le : len ≤ cap
  max : cap ≤ 9223372036854775807
  ok : ∀ r ∈ l, ok r
  nil : a = none → cap = 0
  cell : ∀ i r, l[i]? = some r → ∃ b o, a = some ⟨b, o, none⟩ ∧ ∀ j, j < C.n → w.cell? ⟨b, o + i * C.n + j, none⟩ = (C.cells r)[j]?
theorem Rc.some (r : R) {j : Nat} (hj : j < C.n) : ∃ u, (C.cells r)[j]? = Option.some u := ⟨_, List.getElem?_eq_getElem (by rw [C.len]; exact hj)⟩

end

section
variable {R : Type} {C : Rc R} {ok : R → Prop} {w w' : World} {a : Option Addr} {len cap : Nat} {l : List R}

theorem Rr.below (r : Rr C ok w a len cap l) (hb : Below w.heap.size w w') : Rr C ok w' a len cap l :=
  ⟨r.length, r.le, r.max, r.ok, r.nil, fun i x hx => by
    obtain ⟨b, o, h1, h2⟩ := r.cell i x hx
    refine ⟨b, o, h1, fun j hj => ?_⟩
    have h3 := h2 j hj
    obtain ⟨u, hu⟩ := C.some x hj
    rw [hu] at h3 ⊢
    rw [hb.cell (World.block_lt_of_cell? w _ h3)]
    exact h3⟩
theorem Rr.nothing (w : World) : Rr C ok w none 0 0 [] := ⟨rfl, by omega, by omega, (fun x hx => by cases hx), fun _ => rfl, fun i x hx => by simp at hx⟩
theorem Rr.addr (r : Rr C ok w a len cap l) (h : 0 < len) : ∃ b o, a = some ⟨b, o, none⟩ ∧ ∀ i s, l[i]? = some s → ∀ j, j < C.n → w.cell? ⟨b, o + i * C.n + j, none⟩ = (C.cells s)[j]? := by
  have hl := r.length
  obtain ⟨b, o, h1, _⟩ := r.cell 0 _ (List.getElem?_eq_getElem (show 0 < l.length by omega))
  refine ⟨b, o, h1, fun i s hs => ?_⟩
  obtain ⟨b', o', h2, h3⟩ := r.cell i s hs
  rw [h1] at h2
  cases h2
  exact h3
theorem Rr.cells (r : Rr C ok w a len cap l) (x : Addr) (hx : a = some x) (j : Nat) (u : Value) (h : (C.all l)[j]? = some u) : w.cell? (x.add j) = some u := by
  obtain ⟨s, h1, h2⟩ := C.all_split l j u h
  obtain ⟨b, o, h3, h4⟩ := r.cell _ s h1
  rw [hx] at h3
  cases h3
  have h5 := h4 (j % C.n) (Nat.mod_lt _ C.pos)
  rw [h2] at h5
  have e : (⟨b, o, none⟩ : Addr).add j = ⟨b, o + j / C.n * C.n + j % C.n, none⟩ := by
    rw [Nat.add_assoc, Nat.div_add_mod']
    unfold Addr.add
    split <;> simp_all
  rw [e]
  exact h5
theorem Rr.own {base : Nat} {e : TypeId} {v : Value} {n : Nat} (h : w.ownsRow base e C.n v n (C.all l)) (hok : ∀ x ∈ l, ok x) : ∃ a cap, v = .slice a n cap ∧ Rr C ok w a n cap l := by
  have hl : l.length = n := by
    have := h.1
    rw [C.all_len] at this
    exact Nat.eq_of_mul_eq_mul_right C.pos this
  rcases h.2 with ⟨rfl, h2⟩ | ⟨g, cap, cur, rfl, hbg, hg, hnc, hcm, hcs, htake⟩
  · subst h2
    obtain rfl : l = [] := List.eq_nil_of_length_eq_zero hl
    exact ⟨none, 0, rfl, Rr.nothing w⟩
  · refine ⟨_, cap, rfl, ⟨hl, hnc, by unfold maxLen at hcm; omega, hok, (fun h => by cases h), fun i x hx => ⟨g, 0, rfl, fun j hj => ?_⟩⟩⟩
    obtain ⟨u, hu⟩ := C.some x hj
    have h5 := C.all_at l i j x hx hj
    rw [hu] at h5 ⊢
    have h6 := h.cells (g := g) rfl (i * C.n + j) _ h5
    have e : (⟨g, 0, none⟩ : Addr).add (i * C.n + j) = ⟨g, 0 + i * C.n + j, none⟩ := by unfold Addr.add; split <;> simp_all
    rw [← e]
    exact h6
theorem Rr.lit (w : World) (t : TypeId) (l : List R) (hok : ∀ s ∈ l, ok s) (hl : l.length ≤ 9223372036854775807) : Rr C ok (w.alloc (.cells (C.all l).toArray t)) (some ⟨w.heap.size, 0, none⟩) l.length l.length l := by
  refine ⟨rfl, Nat.le_refl _, hl, hok, (fun h => by cases h), fun i s hs => ⟨w.heap.size, 0, rfl, fun j hj => ?_⟩⟩
  rw [cell_of_row _ _ _ _ t (0, 0) (heap_alloc_new w _), Nat.zero_add]
  simpa using C.all_at l i j s hs hj

end

section
variable {H : Type} {enc : TypeId × Value → H} {w : World} {base : Nat} {held : Bool} {R : Type} {C : Rc R} {ok : R → Prop} {P : Program} {T TS : TypeId}

/-- A slice of records that came in. 'ho': what one record's cells are. -/
theorem open_recs (hu : P.underlying TS = some (.slice T)) (hc : P.cellsOf T = C.n) (ho : ∀ {n : Nat} {cs : List Value} {x : DataW H × List MemPlace}, DataW.trod enc P w base (fun _ => true) held n T cs = some x → ∃ r : R, ok r ∧ cs = C.cells r)
    {a : Option Addr} {len cap : Nat} {d : DataW H} {p : List MemPlace} (h : DataW.Trod enc P w base (fun _ => true) held TS (.slice a len cap) d p) : ∃ l, Rr C ok w a len cap l := by
  obtain ⟨fuel, h⟩ := h
  rcases DataW.trod_slice hu h with ⟨h0, _⟩ | ⟨x, l, c, elems, rest, n, _, hcs, _, hb, hl, hm, hlen, hel, hsp, hns⟩
  · simp [Value.cells] at h0
    obtain ⟨rfl, rfl, rfl⟩ := h0
    exact ⟨[], Rr.nothing w⟩
  · simp [Value.cells] at hcs
    obtain ⟨rfl, rfl, rfl⟩ := hcs
    have el : ∀ i, i < len → ∃ y : R, ok y ∧ ∀ j, j < C.n → w.cell? ((x.add (i * C.n)).add j) = (C.cells y)[j]? := fun i hi => by
      have h1 := hel i hi
      rw [List.getElem?_eq_getElem (by omega)] at h1
      obtain ⟨cs', h2, h3⟩ := Option.bind_eq_some_iff.1 h1
      rw [hc] at h2
      obtain ⟨_, h4, h5⟩ := World.cells?_some h2
      obtain ⟨y, hy, rfl⟩ := ho h3
      exact ⟨y, hy, h5⟩
    by_cases hp : len = 0
    · subst hp
      exact ⟨[], rfl, by omega, by unfold maxLen at hm; omega, (fun x hx => by cases hx), (fun h => by cases h), fun i x hx => by simp at hx⟩
    obtain ⟨b, o, spot⟩ := x
    have hs : spot = none := by
      obtain ⟨y, hy, h5⟩ := el 0 (by omega)
      have h6 := h5 0 C.pos
      obtain ⟨u, hu'⟩ := C.some y C.pos
      rw [hu'] at h6
      have h7 := World.cell?_spot h6
      simpa [Addr.add] using h7
    subst hs
    have ap : ∀ (b o k : Nat), (⟨b, o, none⟩ : Addr).add k = ⟨b, o + k, none⟩ := fun b o k => by unfold Addr.add; split <;> simp_all
    have el2 : ∀ i, i < len → ∃ y : R, ok y ∧ ∀ j, j < C.n → w.cell? ⟨b, o + i * C.n + j, none⟩ = (C.cells y)[j]? := fun i hi => by
      obtain ⟨y, hy, h5⟩ := el i hi
      refine ⟨y, hy, fun j hj => ?_⟩
      have h6 := h5 j hj
      rw [ap, ap] at h6
      exact h6
    refine ⟨List.ofFn (fun i : Fin len => Classical.choose (el2 i.1 i.2)), by simp, hl, by unfold maxLen at hm; omega, ?_, (fun h => by cases h), ?_⟩
    · intro y hy
      obtain ⟨i, rfl⟩ := List.mem_ofFn.1 hy
      exact (Classical.choose_spec (el2 i.1 i.2)).1
    · intro i y hy
      have hi : i < len := by
        rcases Nat.lt_or_ge i len with h5 | h5
        · exact h5
        · rw [List.getElem?_eq_none (by simpa using h5)] at hy; cases hy
      rw [List.getElem?_ofFn, dif_pos hi] at hy
      cases hy
      exact ⟨b, o, rfl, (Classical.choose_spec (el2 i hi)).2⟩

end

end Go.Proofs.YtmmcnkdefpfkiaaDoor
