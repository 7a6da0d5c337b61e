/- Members in rows of the call's own, and the reader's state: its block, what it has read. -/
import Derived.Test.YtmmcnkdefpfkiaaDoorArName
import Derived.Test.YtmmcnkdefpfkiaaDoorBuilt
namespace Go.Proofs.YtmmcnkdefpfkiaaDoor
open Go.RowKit
set_option linter.unusedVariables false
set_option maxRecDepth 100000
set_option maxRecDepth 20000
set_option linter.unusedSimpArgs false

/-- A member as it lies in a row. -/
structure MbV where
  nm : T8
  a : Option Addr
  l : Nat
  c : Nat
def mbC : Rc MbV := ⟨fun v => [.string (str v.nm), .slice v.a v.l v.c], 2, by decide, fun _ => rfl, fun v u hu => by simp at hu; rcases hu with rfl | rfl <;> rfl⟩
/-- .. what it leads to made since B. -/
structure MbV.Own (w : World) (B : Nat) (v : MbV) (m : Mb) : Prop where
  nm : v.nm = m.n
  da : w.ownsRow B 5 1 (.slice v.a v.l v.c) v.l (cs8 m.b)
section
variable {w w' : World} {B : Nat} {v : MbV} {m : Mb} {T : TypeId}
theorem MbV.Own.oth (h : v.Own w B m) (o : OthT T w w') (h1 : 5 ≠ T) : v.Own w' B m := ⟨h.nm, o.row h1 h.da⟩
theorem MbV.Own.below (h : v.Own w B m) (hb : Below w.heap.size w w') : v.Own w' B m := ⟨h.nm, rowKept (B0 := B) h.da hb⟩
theorem MbV.Own.len (h : v.Own w B m) : v.l = m.b.length := by have := h.da.1; simpa [cs8, nI_len] using this.symm
theorem MbV.Own.rt (h : v.Own w B m) : Rt w v.a v.c m.b := by
  obtain ⟨a1, c1, e1, r1⟩ := Rd.own h.da (nI_bytes _)
  cases e1
  show Rd w _ _ _ _
  rw [← h.len]
  exact r1
end

/-- A row of members of the call's own. -/
structure OM (w : World) (B : Nat) (v : Value) (l : List Mb) : Prop where
  ex : ∃ vs : List MbV, w.ownsRow B 26 2 v l.length (mbC.all vs) ∧ vs.length = l.length ∧ ∀ (i : Nat) (m : Mb), l[i]? = some m → ∃ u, vs[i]? = some u ∧ u.Own w B m
section
variable {w w' W : World} {B g cap : Nat} {v v' : Value} {l : List Mb} {T : TypeId}
theorem OM.nil (w : World) (B : Nat) : OM w B (.slice none 0 0) [] := ⟨[], World.ownsRow_nil _ _ _ _, rfl, fun i s h => by simp at h⟩
theorem OM.oth (h : OM w B v l) (o : OthT T w w') (h0 : 26 ≠ T) (h1 : 5 ≠ T) : OM w' B v l := by
  obtain ⟨vs, r, hl, hi⟩ := h.ex
  refine ⟨vs, o.row h0 r, hl, fun i s hs => ?_⟩
  obtain ⟨u, hu, ho⟩ := hi i s hs
  exact ⟨u, hu, ho.oth o h1⟩
theorem OM.below (h : OM w B v l) (hb : Below w.heap.size w w') : OM w' B v l := by
  obtain ⟨vs, r, hl, hi⟩ := h.ex
  refine ⟨vs, rowKept (B0 := B) r hb, hl, fun i s hs => ?_⟩
  obtain ⟨u, hu, ho⟩ := hi i s hs
  exact ⟨u, hu, ho.below hb⟩
/-- One more. -/
theorem OM.push {vs : List MbV} {u : MbV} {s : Mb} (hl : vs.length = l.length) (hi : ∀ (i : Nat) (s : Mb), l[i]? = some s → ∃ u, vs[i]? = some u ∧ u.Own w B s) (o : OthT 26 w W) (hu : u.Own w B s)
    (hown : W.ownsRow B 26 2 v' (l.length + 1) (mbC.all vs ++ mbC.cells u)) : OM W B v' (l ++ [s]) := by
  refine ⟨vs ++ [u], ?_, by simp [hl], fun i t ht => ?_⟩
  · rw [Rc.all_append, Rc.all_one, List.length_append]
    exact hown
  · rcases Nat.lt_or_ge i l.length with h1 | h1
    · rw [List.getElem?_append_left h1] at ht
      obtain ⟨q, hq, ho⟩ := hi i t ht
      exact ⟨q, by rw [List.getElem?_append_left (by omega)]; exact hq, ho.oth o (by decide)⟩
    · rw [List.getElem?_append_right h1] at ht
      obtain ⟨e0, e1⟩ : i - l.length = 0 ∧ s = t := by
        rcases hz : i - l.length with _ | z
        · rw [hz] at ht; simp at ht; exact ⟨rfl, ht⟩
        · rw [hz] at ht; simp at ht
      subst e1
      refine ⟨u, ?_, hu.oth o (by decide)⟩
      rw [List.getElem?_append_right (by omega), hl, e0]
      rfl
theorem OM.len (h : OM w B v l) : ∃ a cap, v = .slice a l.length cap ∧ l.length ≤ cap ∧ cap ≤ 9223372036854775807 := by
  obtain ⟨vs, r, hl, hi⟩ := h.ex
  rcases r.2 with ⟨h1, h2⟩ | ⟨g, cap, cur, h1, h2, h3, h4, h5, h6⟩
  · exact ⟨none, 0, by rw [h1, h2], by omega, by omega⟩
  · exact ⟨_, cap, h1, h4, by unfold maxLen at h5; omega⟩
end

/-- Members in a slice that is read. -/
structure Rmb (w : World) (a : Option Addr) (len cap : Nat) (l : List Mb) : Prop where
  length : l.length = len
  le : len ≤ cap
  max : cap ≤ 9223372036854775807
  nil : a = none → cap = 0
  at_ : ∀ i m, l[i]? = some m → ∃ b o a' c', a = some ⟨b, o, none⟩ ∧ w.cell? ⟨b, o + i * 2, none⟩ = some (.string (str m.n)) ∧ w.cell? ⟨b, o + i * 2 + 1, none⟩ = some (.slice a' m.b.length c') ∧ Rt w a' c' m.b
theorem Rmb.below {w w' : World} {a : Option Addr} {len cap : Nat} {l : List Mb} (r : Rmb w a len cap l) (hb : Below w.heap.size w w') : Rmb w' a len cap l :=
  ⟨r.length, r.le, r.max, r.nil, fun i m hm => by
    obtain ⟨b, o, a', c', h1, h2, h3, h4⟩ := r.at_ i m hm
    exact ⟨b, o, a', c', h1, (hb.cell (World.block_lt_of_cell? w _ h2)).trans h2, (hb.cell (World.block_lt_of_cell? w _ h3)).trans h3, Rd.below h4 hb⟩⟩
theorem Rmb.nothing (w : World) : Rmb w none 0 0 [] := ⟨rfl, by omega, by omega, fun _ => rfl, fun i m h => by simp at h⟩
theorem Rmb.addr {w : World} {a : Option Addr} {len cap : Nat} {l : List Mb} (r : Rmb w a len cap l) (h : 0 < len) : ∃ b o, a = some ⟨b, o, none⟩ ∧ ∀ i m, l[i]? = some m → ∃ a' c', w.cell? ⟨b, o + i * 2, none⟩ = some (.string (str m.n)) ∧ w.cell? ⟨b, o + i * 2 + 1, none⟩ = some (.slice a' m.b.length c') ∧ Rt w a' c' m.b := by
  have hl := r.length
  obtain ⟨b, o, a', c', h1, _⟩ := r.at_ 0 _ (List.getElem?_eq_getElem (show 0 < l.length by omega))
  refine ⟨b, o, h1, fun i m hm => ?_⟩
  obtain ⟨b2, o2, a2, c2, g1, g2⟩ := r.at_ i m hm
  rw [h1] at g1
  cases g1
  exact ⟨a2, c2, g2⟩
theorem OM.rm {w : World} {B : Nat} {v : Value} {l : List Mb} (h : OM w B v l) : ∃ a cap, v = .slice a l.length cap ∧ Rmb w a l.length cap l := by
  obtain ⟨vs, r, hl, hi⟩ := h.ex
  obtain ⟨a, cap, hv, rr⟩ := Rr.own (C := mbC) (ok := fun _ => True) r (fun _ _ => trivial)
  refine ⟨a, cap, hv, rfl, rr.le, rr.max, rr.nil, fun i m hm => ?_⟩
  obtain ⟨u, hu, ho⟩ := hi i m hm
  obtain ⟨b, o, h1, h2⟩ := rr.cell i u hu
  have c0 := h2 0 (by decide)
  have c1 := h2 1 (by decide)
  refine ⟨b, o, u.a, u.c, h1, ?_, ?_, ho.rt⟩
  · rw [← ho.nm]; exact c0
  · rw [← ho.len]; exact c1

/-- The reader's state: the block behind W's; what isn't read yet, and the long names, in W; what was made since. -/
structure RS (W w : World) (s : ArS) (r : T8) : Prop where
  ex : ∃ ar cr al cl vi vm, RB w W.heap.size (.slice ar r.length cr) (.bool s.bg) (.bool s.hl) (.slice al s.lg.length cl) vi vm ∧ Rt W ar cr r ∧ Rt W al cl s.lg ∧ w.ownsRow (W.heap.size + 1) 5 1 vi s.ix.length (cs8 s.ix) ∧ OM w (W.heap.size + 1) vm s.ms
  bel : Below W.heap.size W w
  lt : W.heap.size < w.heap.size

/-- What is told of the next part. -/
def nxG (s : ArS) (r : T8) : Option (ArS × T8) := (ptG r).bind (fun p => (putG 15 s p.1 p.2.1).map (fun t => (t, p.2.2)))
def MbR (W : World) (o : Option (ArS × T8)) (e : Ending) (w' : World) : Prop :=
  match o with
  | some (t, q) => e = .returned (.tuple #[]) ∧ RS W w' t q
  | none => e = .panicked pncL ∧ Below W.heap.size W w'

end Go.Proofs.YtmmcnkdefpfkiaaDoor
