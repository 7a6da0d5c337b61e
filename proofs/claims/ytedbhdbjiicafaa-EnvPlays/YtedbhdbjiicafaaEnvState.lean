/- An environment in memory: the bytes that wait, the events that were noted; how it lasts, how an event joins it. -/
import Derived.Test.YtedbhdbjiicafaaFrame
import Derived.OwnWalk
import Derived.Deep.AppendLies
namespace Go.Proofs.Ytedbhdbjiicafaa
open Go.RowKit
set_option linter.unusedVariables false

/-- An event as it lies in memory, and its bytes. -/
structure Evt where
  kind : Int
  fd : Int
  a : Option Addr
  len : Nat
  cap : Nat
  n : Int
  bs : List Int

def Evt.cells (x : Evt) : List Value := [.int .i64 x.kind, .int .i64 x.fd, .slice x.a x.len x.cap, .int .i64 x.n]

structure Evt.Ok (x : Evt) (w : World) : Prop where
  kind : -9223372036854775808 ≤ x.kind ∧ x.kind ≤ 9223372036854775807
  fd : -9223372036854775808 ≤ x.fd ∧ x.fd ≤ 9223372036854775807
  n : -9223372036854775808 ≤ x.n ∧ x.n ≤ 9223372036854775807
  b : Rd w x.a x.len x.cap x.bs

/-- What an event says. -/
structure Says where
  kind : Int
  fd : Int
  bs : List Int
  n : Int

def Evt.says (x : Evt) : Says := ⟨x.kind, x.fd, x.bs, x.n⟩

def evCells (l : List Evt) : List Value := l.flatMap Evt.cells

theorem evCells_append (l r : List Evt) : evCells (l ++ r) = evCells l ++ evCells r := List.flatMap_append ..
theorem evCells_one (x : Evt) : evCells [x] = x.cells := by simp [evCells]
theorem evCells_length : ∀ l : List Evt, (evCells l).length = l.length * 4
  | [] => rfl
  | x :: l => by
    have h := evCells_length l
    unfold evCells at h ⊢
    rw [List.flatMap_cons, List.length_append, h, List.length_cons]
    simp [Evt.cells]
    omega
theorem evCells_at : ∀ (l : List Evt) (i j : Nat) (x : Evt), l[i]? = some x → j < 4 → (evCells l)[i * 4 + j]? = x.cells[j]?
  | [], i, j, x, h, hj => by simp at h
  | y :: l, 0, j, x, h, hj => by
    simp at h
    subst h
    unfold evCells
    rw [List.flatMap_cons, List.getElem?_append_left (by simp [Evt.cells]; omega)]
    simp
  | y :: l, i + 1, j, x, h, hj => by
    have h1 := evCells_at l i j x (by simpa using h) hj
    unfold evCells at h1 ⊢
    rw [List.flatMap_cons, List.getElem?_append_right (by simp [Evt.cells]; omega)]
    rw [← h1]
    congr 1
    simp [Evt.cells]
    omega
theorem evCells_oneCell (l : List Evt) : ∀ u ∈ evCells l, u.oneCell' = true := by
  intro u hu
  unfold evCells at hu
  obtain ⟨x, hx, hc⟩ := List.mem_flatMap.1 hu
  simp [Evt.cells] at hc
  rcases hc with rfl | rfl | rfl | rfl <;> rfl

theorem Evt.Ok.below {x : Evt} {w w' : World} (h : x.Ok w) (hb : Below w.heap.size w w') : x.Ok w' := ⟨h.kind, h.fd, h.n, h.b.below hb⟩

/-- Events in a slice that is read. -/
structure Evs (w : World) (a : Option Addr) (len : Nat) (es : List Evt) : Prop where
  length : es.length = len
  max : len ≤ 9223372036854775807
  ok : ∀ x ∈ es, x.Ok w
  cell : ∀ i x, es[i]? = some x → ∃ b o, a = some ⟨b, o, none⟩ ∧ ∀ j, j < 4 → w.cell? ⟨b, o + i * 4 + j, none⟩ = x.cells[j]?

theorem Evs.below {w w' : World} {a : Option Addr} {len : Nat} {es : List Evt} (h : Evs w a len es) (hb : Below w.heap.size w w') : Evs w' a len es :=
  ⟨h.length, h.max, fun x hx => (h.ok x hx).below hb, fun i x hx => by
    obtain ⟨b, o, h1, h2⟩ := h.cell i x hx
    refine ⟨b, o, h1, fun j hj => ?_⟩
    have h3 := h2 j hj
    have h4 : x.cells[j]? = some (x.cells[j]'(by simpa [Evt.cells] using hj)) := List.getElem?_eq_getElem _
    rw [h4] at h3 ⊢
    rw [hb.cell (World.block_lt_of_cell? w _ h3)]
    exact h3⟩

/-- A row of the call's own, as a slice that is read. -/
theorem Evs.own {w : World} {base : Nat} {v : Value} {n : Nat} {es : List Evt} (h : w.ownsRow base 32 4 v n (evCells es)) (hok : ∀ x ∈ es, x.Ok w) : ∃ a cap, v = .slice a n cap ∧ Evs w a n es ∧ n ≤ cap ∧ cap ≤ 9223372036854775807 := by
  have hl : es.length = n := by have := h.1; rw [evCells_length] at this; omega
  rcases h.2 with ⟨rfl, h2⟩ | ⟨g, cap, cur, rfl, hbg, hg, hnc, hcm, hcs, htake⟩
  · subst h2
    obtain rfl : es = [] := List.eq_nil_of_length_eq_zero hl
    exact ⟨none, 0, rfl, ⟨rfl, by omega, hok, fun i x hx => by simp at hx⟩, by omega, by omega⟩
  · refine ⟨_, cap, rfl, ⟨hl, by unfold maxLen at hcm; omega, hok, fun i x hx => ⟨g, 0, rfl, fun j hj => ?_⟩⟩, hnc, by unfold maxLen at hcm; omega⟩
    have h4 : x.cells[j]? = some (x.cells[j]'(by simpa [Evt.cells] using hj)) := List.getElem?_eq_getElem _
    have h5 := evCells_at es i j x hx hj
    rw [h4] at h5 ⊢
    have h6 := h.cells (g := g) rfl (i * 4 + j) _ h5
    have e : (⟨g, 0, none⟩ : Addr).add (i * 4 + j) = ⟨g, 0 + i * 4 + j, none⟩ := by unfold Addr.add; split <;> simp_all
    rw [← e]
    exact h6

/-! ### An environment -/

/-- Block m is an environment of type t: the bytes that wait, the events. Its blocks are among F, or lie below B and are never written. -/
structure EVx (B : Nat) (t : TypeId) (w : World) (m : Nat) (F : Nat → Prop) (ins : List Int) (wa : Option Addr) (wl wc : Nat) (ev : Value) (es : List Evt) : Prop where
  head : w.heap[m]? = some (.cells #[.slice wa wl wc, ev] t (0, 0))
  waits : Rd w wa wl wc ins
  row : w.ownsRow 0 32 4 ev es.length (evCells es)
  ok : ∀ x ∈ es, x.Ok w
  fm : F m
  fg : ∀ g, ev.ownBlock = some g → F g ∧ g ≠ m
  sw : 0 < wl → ∀ x, wa = some x → (F x.block ∨ x.block < B) ∧ x.block ≠ m ∧ ev.ownBlock ≠ some x.block
  se : ∀ x ∈ es, 0 < x.len → ∀ y, x.a = some y → (F y.block ∨ y.block < B) ∧ y.block ≠ m ∧ ev.ownBlock ≠ some y.block
  flt : ∀ k, F k → k < w.heap.size

def EV (B : Nat) (t : TypeId) (m : Nat) (ins : List Int) (tr : List Says) (w : World) (F : Nat → Prop) : Prop := ∃ wa wl wc ev es, EVx B t w m F ins wa wl wc ev es ∧ es.map Evt.says = tr

theorem ownsRow_kept {w w' : World} {base : Nat} {e : TypeId} {size : Nat} {v : Value} {n : Nat} {xs : List Value} (h : w.ownsRow base e size v n xs) (hk : ∀ g, v.ownBlock = some g → w'.heap[g]? = w.heap[g]?) : w'.ownsRow base e size v n xs := by
  refine ⟨h.1, ?_⟩
  rcases h.2 with h1 | ⟨g, cap, cur, rfl, h2, h3, h4⟩
  · exact Or.inl h1
  · exact Or.inr ⟨g, cap, cur, rfl, h2, (hk g rfl).trans h3, h4⟩

theorem ownsRow_blk {w : World} {base : Nat} {e : TypeId} {size : Nat} {v : Value} {n : Nat} {xs : List Value} (h : w.ownsRow base e size v n xs) : ∀ g, v.ownBlock = some g → g < w.heap.size := by
  intro g hg
  rcases h.2 with ⟨rfl, _⟩ | ⟨g', cap, cur, rfl, h2, h3, h4⟩
  · cases hg
  · cases hg
    exact (Array.getElem?_eq_some_iff.1 h3).1

section
variable {B : Nat} {t : TypeId} {w w' : World} {m : Nat} {F G : Nat → Prop} {ins : List Int} {wa : Option Addr} {wl wc : Nat} {ev : Value} {es : List Evt} {tr : List Says}

theorem EVx.kept (h : EVx B t w m F ins wa wl wc ev es) (hk : Kept G w w') (hd : ∀ k, F k → ¬ G k) (hG : ∀ k, G k → B ≤ k) : EVx B t w' m F ins wa wl wc ev es := by
  have same : ∀ k, F k → w'.heap[k]? = w.heap[k]? := fun k hF => hk.block k (h.flt k hF) (hd k hF)
  have off : ∀ k, (F k ∨ k < B) → ¬ G k := fun k hk hg => by
    rcases hk with h1 | h1
    · exact hd k h1 hg
    · have := hG k hg; omega
  exact ⟨(same m h.fm).trans h.head, hk.rd h.waits (fun hl x hx => off _ (h.sw hl x hx).1), ownsRow_kept h.row (fun g hg => same g (h.fg g hg).1),
    fun x hx => ⟨(h.ok x hx).kind, (h.ok x hx).fd, (h.ok x hx).n, hk.rd (h.ok x hx).b (fun hl y hy => off _ (h.se x hx hl y hy).1)⟩,
    h.fm, h.fg, h.sw, h.se, fun k hF => Nat.lt_of_lt_of_le (h.flt k hF) hk.size⟩

theorem ev_stays (B : Nat) (t : TypeId) (m : Nat) (ins : List Int) (tr : List Says) : Stays B (EV B t m ins tr) :=
  ⟨fun ⟨wa, wl, wc, ev, es, h, e⟩ hk hd hG => ⟨wa, wl, wc, ev, es, h.kept hk hd hG, e⟩, fun ⟨wa, wl, wc, ev, es, h, e⟩ => h.flt⟩

theorem EVx.cell0 (h : EVx B t w m F ins wa wl wc ev es) : w.cell? ⟨m, 0, none⟩ = some (.slice wa wl wc) := by rw [cell_of_row _ _ 0 _ _ _ h.head]; rfl
theorem EVx.cell1 (h : EVx B t w m F ins wa wl wc ev es) : w.cell? ⟨m, 1, none⟩ = some ev := by rw [cell_of_row _ _ 1 _ _ _ h.head]; rfl
theorem EVx.lt (h : EVx B t w m F ins wa wl wc ev es) : m < w.heap.size := h.flt m h.fm
theorem EVx.frozen (h : EVx B t w m F ins wa wl wc ev es) (i : Nat) : w.frozen? ⟨m, i, none⟩ = false := by
  unfold World.frozen?
  simp only [h.head]
  simp

theorem setCell_head {u : Value} (h : w.heap[m]? = some (.cells #[.slice wa wl wc, ev] t (0, 0))) : (w.setCell ⟨m, 1, none⟩ u).heap[m]? = some (.cells #[.slice wa wl wc, u] t (0, 0)) := by
  unfold World.setCell
  simp [Array.getElem?_modify, h]
theorem setCell_head0 {u : Value} (h : w.heap[m]? = some (.cells #[.slice wa wl wc, ev] t (0, 0))) : (w.setCell ⟨m, 0, none⟩ u).heap[m]? = some (.cells #[u, ev] t (0, 0)) := by
  unfold World.setCell
  simp [Array.getElem?_modify, h]

end

end Go.Proofs.Ytedbhdbjiicafaa
