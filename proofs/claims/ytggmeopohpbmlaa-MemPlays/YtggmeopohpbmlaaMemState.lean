/- A memory as the document has it: permissions by page, bytes by address, how many pages; the program's memory in a world, what of it a call may turn. -/
import Derived.Test.YtggmeopohpbmlaaMemMap
namespace Go.Proofs.Ytggmeopohpbmlaa
open Go.RowKit Go.Maps
set_option linter.unusedVariables false

/-- A memory: what may be done with a page (0: there is none), the byte at an address, how many pages there are. -/
structure Mm where
  perm : Nat → Int
  byte : Nat → Int
  count : Nat

structure Mm.Good (S : Mm) : Prop where
  perm : ∀ i, 0 ≤ S.perm i ∧ S.perm i ≤ 7
  top : ∀ i, 34359738368 ≤ i → S.perm i = 0
  byte : ∀ a, 0 ≤ S.byte a ∧ S.byte a ≤ 255
  count : S.count ≤ 65536

/-- Bytes laid from a on. -/
def Mm.lay (S : Mm) (a : Nat) (bs : List Int) : Mm := { S with byte := fun x => if a ≤ x ∧ x < a + bs.length then bs.getD (x - a) 0 else S.byte x }

/-- n pages of noughts laid from page f on. -/
def Mm.mapped (S : Mm) (f n : Nat) (p : Int) : Mm :=
  { perm := fun i => if f ≤ i ∧ i < f + n then p else S.perm i
    byte := fun x => if f ≤ x / 4096 ∧ x / 4096 < f + n then 0 else S.byte x
    count := S.count + n }

def Mm.new : Mm := ⟨fun _ => 0, fun _ => 0, 0⟩

theorem Mm.new_good : Mm.new.Good := ⟨fun _ => by simp [Mm.new], fun _ _ => rfl, fun _ => by simp [Mm.new], by simp [Mm.new]⟩

theorem Mm.ext {S T : Mm} (h1 : ∀ i, S.perm i = T.perm i) (h2 : ∀ i, S.byte i = T.byte i) (h3 : S.count = T.count) : S = T := by
  cases S; cases T
  simp only [Mm.mk.injEq]
  exact ⟨funext h1, funext h2, h3⟩

theorem Mm.lay_nil (S : Mm) (a : Nat) : S.lay a [] = S := Mm.ext (fun _ => rfl) (fun x => by simp [Mm.lay]; omega) rfl

theorem Mm.lay_more (S : Mm) (a : Nat) (bs cs : List Int) : (S.lay a bs).lay (a + bs.length) cs = S.lay a (bs ++ cs) :=
  Mm.ext (fun _ => rfl) (fun x => by
    simp only [Mm.lay, List.length_append, List.getD_eq_getElem?_getD]
    by_cases h1 : a + bs.length ≤ x ∧ x < a + bs.length + cs.length
    · rw [if_pos h1, if_pos (by omega), List.getElem?_append_right (by omega)]
      rw [show x - a - bs.length = x - (a + bs.length) by omega]
    · rw [if_neg h1]
      by_cases h2 : a ≤ x ∧ x < a + bs.length
      · rw [if_pos h2, if_pos (by omega), List.getElem?_append_left (by omega)]
      · rw [if_neg h2, if_neg (by omega)]) rfl

theorem Mm.mapped_zero (S : Mm) (f : Nat) (p : Int) : S.mapped f 0 p = S :=
  Mm.ext (fun i => by simp [Mm.mapped]; omega) (fun x => by simp [Mm.mapped]; omega) rfl

theorem Mm.mapped_succ (S : Mm) (f n : Nat) (p : Int) : (S.mapped f n p).mapped (f + n) 1 p = S.mapped f (n + 1) p :=
  Mm.ext (fun i => by
      simp only [Mm.mapped]
      by_cases h1 : f + n ≤ i ∧ i < f + n + 1
      · rw [if_pos h1, if_pos (by omega)]
      · rw [if_neg h1]
        by_cases h2 : f ≤ i ∧ i < f + n
        · rw [if_pos h2, if_pos (by omega)]
        · rw [if_neg h2, if_neg (by omega)])
    (fun x => by
      simp only [Mm.mapped]
      by_cases h1 : f + n ≤ x / 4096 ∧ x / 4096 < f + n + 1
      · rw [if_pos h1, if_pos (by omega)]
      · rw [if_neg h1]
        by_cases h2 : f ≤ x / 4096 ∧ x / 4096 < f + n
        · rw [if_pos h2, if_pos (by omega)]
        · rw [if_neg h2, if_neg (by omega)])
    (by simp [Mm.mapped]; omega)

theorem Mm.Good.lay {S : Mm} (h : S.Good) (a : Nat) {bs : List Int} (hb : Bytes bs) : (S.lay a bs).Good :=
  ⟨h.perm, h.top, fun x => by
    simp only [Mm.lay, List.getD_eq_getElem?_getD]
    split
    · exact hb.at _
    · exact h.byte x, h.count⟩

theorem Mm.Good.mapped {S : Mm} (h : S.Good) (f n : Nat) {p : Int} (hp : 1 ≤ p ∧ p ≤ 7) (hn : S.count + n ≤ 65536) (ht : f + n ≤ 34359738368) : (S.mapped f n p).Good :=
  ⟨fun i => by
      simp only [Mm.mapped]
      split
      · omega
      · exact h.perm i,
    fun i hi => by
      simp only [Mm.mapped]
      rw [if_neg (by omega)]
      exact h.top i hi,
    fun x => by
      simp only [Mm.mapped]
      split
      · omega
      · exact h.byte x, hn⟩

/-! ### What a call leaves -/

/-- Nothing but blocks of F has turned. -/
structure Kept (F : Nat → Prop) (w w' : World) : Prop where
  os : w'.os = w.os
  tape : w'.tape = w.tape
  output : w'.output = w.output
  size : w.heap.size ≤ w'.heap.size
  block : ∀ k, k < w.heap.size → ¬ F k → w'.heap[k]? = w.heap[k]?

theorem Kept.refl (F : Nat → Prop) (w : World) : Kept F w w := ⟨rfl, rfl, rfl, Nat.le_refl _, fun _ _ _ => rfl⟩

theorem Kept.trans {F F' : Nat → Prop} {w w' w'' : World} (h : Kept F w w') (h' : Kept F' w' w'') (hF : ∀ k, F' k → F k ∨ w.heap.size ≤ k) : Kept F w w'' :=
  ⟨h'.os.trans h.os, h'.tape.trans h.tape, h'.output.trans h.output, Nat.le_trans h.size h'.size, fun k hk hn => by
    have h1 := h.size
    rw [h'.block k (by omega) (fun hk' => by rcases hF k hk' with h2 | h2; exact hn h2; omega), h.block k hk hn]⟩

theorem Kept.mono {F F' : Nat → Prop} {w w' : World} (h : Kept F w w') (hF : ∀ k, F k → F' k) : Kept F' w w' :=
  ⟨h.os, h.tape, h.output, h.size, fun k hk hn => h.block k hk (fun hk' => hn (hF k hk'))⟩

theorem Kept.of_grown {F : Nat → Prop} {w w' : World} {row : Option Nat} (h : w.grownBy w' row) (hr : ∀ k, row = some k → F k) : Kept F w w' :=
  ⟨h.os, h.tape, h.output, h.size, fun k hk hn => h.block k hk (fun e => hn (hr k e.symm))⟩

theorem Kept.alloc {F : Nat → Prop} {a w : World} (h : Kept F a w) (o : Obj) : Kept F a (w.alloc o) :=
  h.trans (F' := fun _ => False) ⟨rfl, rfl, rfl, by simp, fun k hk _ => Below.heap_alloc _ _ _ hk⟩ (fun k hk => hk.elim)

theorem Kept.drew {F : Nat → Prop} {a w : World} (h : Kept F a w) : Kept F a w.drew := ⟨h.os, h.tape, h.output, h.size, h.block⟩

theorem Kept.setCell {F : Nat → Prop} {a w : World} (h : Kept F a w) (p : Addr) (u : Value) (hp : F p.block ∨ a.heap.size ≤ p.block) : Kept F a (w.setCell p u) :=
  h.trans (F' := fun k => k = p.block) ⟨rfl, rfl, rfl, by simp [World.setCell], fun k hk hn => Below.heap_setCell _ _ _ _ hn⟩ (fun k hk => by subst hk; exact hp)

theorem Kept.setRow {F : Nat → Prop} {a w : World} (h : Kept F a w) (g : Nat) (cs : Array Value) (hp : F g ∨ a.heap.size ≤ g) : Kept F a (w.setRow g cs) :=
  h.trans (F' := fun k => k = g) ⟨rfl, rfl, rfl, by simp [World.setRow], fun k hk hn => setRow_other w g k cs hn⟩ (fun k hk => by subst hk; exact hp)

theorem Kept.below {F : Nat → Prop} {w w' : World} {B : Nat} (h : Kept F w w') (hB : B ≤ w.heap.size) (hF : ∀ k, F k → B ≤ k) : Below B w w' :=
  ⟨h.os, h.tape, h.output, h.size, fun k hk => h.block k (by omega) (fun hk' => by have := hF k hk'; omega)⟩

theorem kept_of_below {w w' : World} (h : Below w.heap.size w w') (F : Nat → Prop) : Kept F w w' :=
  ⟨h.os, h.tape, h.output, h.size, fun k hk _ => h.block k hk⟩

theorem Kept.cell {F : Nat → Prop} {w w' : World} (h : Kept F w w') {p : Addr} {v : Value} (hv : w.cell? p = some v) (hp : ¬ F p.block) : w'.cell? p = some v :=
  (World.cell?_of_block (w := w) (h.block p.block (World.block_lt_of_cell? _ _ hv) hp)).trans hv

/-- A slice of bytes that doesn't lie in F is read as it was. -/
theorem Kept.rd {F : Nat → Prop} {w w' : World} (h : Kept F w w') {a : Option Addr} {len cap : Nat} {bs : List Int} (r : Rd w a len cap bs) (hs : 0 < len → ∀ x, a = some x → ¬ F x.block) : Rd w' a len cap bs :=
  ⟨r.length, r.le, r.max, r.bytes, r.nil, fun x hx i hi => by
    have h1 := r.cell x hx i hi
    refine h.cell h1 ?_
    have e : (x.add i).block = x.block := by unfold Addr.add; split <;> rfl
    rw [e]; exact hs (by omega) x hx⟩

/-- Where blocks F were a memory's, F' are. -/
def Went (F : Nat → Prop) (w : World) (F' : Nat → Prop) (w' : World) : Prop := Kept F w w' ∧ ∀ k, F' k → F k ∨ w.heap.size ≤ k

theorem Went.refl (F : Nat → Prop) (w : World) : Went F w F w := ⟨Kept.refl _ _, fun _ h => Or.inl h⟩
theorem Went.trans {F F' F'' : Nat → Prop} {w w' w'' : World} (h : Went F w F' w') (h' : Went F' w' F'' w'') : Went F w F'' w'' :=
  ⟨h.1.trans h'.1 h.2, fun k hk => by
    rcases h'.2 k hk with h1 | h1
    · exact h.2 k h1
    · have := h.1.size; right; omega⟩

/-! ### The program's memory -/

/-- A page's bytes: none, or those of a block. -/
def dsl : Option Nat → Value
  | none => .slice none 0 0
  | some g => .slice (some ⟨g, 0, none⟩) 4096 4096

/-- A page's value: its permission, its bytes' block. -/
def pv (p : Int) (d : Option Nat) : Value := .agg #[.int .i64 p, dsl d]

/-- A block of bytes: those of page i. -/
def Page (w : World) (g : Nat) (S : Mm) (i : Nat) : Prop :=
  ∃ cs : List Value, w.heap[g]? = some (.cells cs.toArray 5 (0, 0)) ∧ cs.length = 4096 ∧ ∀ j, j < 4096 → cs[j]? = some (.int .u8 (S.byte (i * 4096 + j)))

theorem Page.kept {w w' : World} {g : Nat} {S : Mm} {i : Nat} (h : Page w g S i) (hb : w'.heap[g]? = w.heap[g]?) : Page w' g S i := by
  obtain ⟨cs, h1, h2⟩ := h
  exact ⟨cs, hb.trans h1, h2⟩

theorem Page.lt {w : World} {g : Nat} {S : Mm} {i : Nat} (h : Page w g S i) : g < w.heap.size := by
  obtain ⟨cs, h1, h2⟩ := h
  exact (Array.getElem?_eq_some_iff.1 h1).1

structure PMx (w : World) (m b : Nat) (dt : Nat → Option Nat) (S : Mm) (F : Nat → Prop) : Prop where
  head : w.heap[m]? = some (.cells #[.map (some b)] 55 (0, 0))
  map : MapAt w b S.count (fun i => if S.perm i = 0 then none else some (pv (S.perm i) (dt i)))
  good : S.Good
  dn : ∀ i, S.perm i = 0 → dt i = none
  noughts : ∀ i, S.perm i ≠ 0 → dt i = none → ∀ j, j < 4096 → S.byte (i * 4096 + j) = 0
  page : ∀ i g, dt i = some g → Page w g S i
  apart : ∀ i j g, dt i = some g → dt j = some g → i = j
  fm : F m
  fb : F b
  fg : ∀ i g, dt i = some g → F g
  flt : ∀ k, F k → k < w.heap.size

/-- Block m is the program's memory S; its blocks are among F. -/
def PM (w : World) (m : Nat) (S : Mm) (F : Nat → Prop) : Prop := ∃ b dt, PMx w m b dt S F

theorem PMx.mb {w : World} {m b : Nat} {dt : Nat → Option Nat} {S : Mm} {F : Nat → Prop} (h : PMx w m b dt S F) : m ≠ b := fun e => by
  subst e; exact h.map.noCells h.head

theorem PMx.gb {w : World} {m b : Nat} {dt : Nat → Option Nat} {S : Mm} {F : Nat → Prop} (h : PMx w m b dt S F) {i g : Nat} (hg : dt i = some g) : g ≠ b := fun e => by
  subst e
  obtain ⟨cs, h1, _⟩ := h.page i g hg
  exact h.map.noCells h1

theorem PMx.gm {w : World} {m b : Nat} {dt : Nat → Option Nat} {S : Mm} {F : Nat → Prop} (h : PMx w m b dt S F) {i g : Nat} (hg : dt i = some g) : g ≠ m := fun e => by
  subst e
  obtain ⟨cs, h1, h2, _⟩ := h.page i g hg
  rw [h.head] at h1
  have h3 := congrArg (fun o : Option Obj => match o with | some (.cells c _ _) => c.size | _ => 0) h1
  simp [h2] at h3

theorem PMx.cell {w : World} {m b : Nat} {dt : Nat → Option Nat} {S : Mm} {F : Nat → Prop} (h : PMx w m b dt S F) : w.cell? ⟨m, 0, none⟩ = some (.map (some b)) := by
  rw [cell_of_row _ _ 0 _ _ _ h.head]; rfl

theorem PMx.kept {w w' : World} {m b : Nat} {dt : Nat → Option Nat} {S : Mm} {F G : Nat → Prop} (h : PMx w m b dt S F) (hk : Kept G w w') (hd : ∀ k, F k → ¬ G k) : PMx w' m b dt S F :=
  have same : ∀ k, F k → w'.heap[k]? = w.heap[k]? := fun k hF => hk.block k (h.flt k hF) (hd k hF)
  ⟨(same m h.fm).trans h.head, h.map.kept (same b h.fb), h.good, h.dn, h.noughts, fun i g hg => (h.page i g hg).kept (same g (h.fg i g hg)), h.apart, h.fm, h.fb, h.fg,
    fun k hF => Nat.lt_of_lt_of_le (h.flt k hF) hk.size⟩

theorem PM.kept {w w' : World} {m : Nat} {S : Mm} {F G : Nat → Prop} (h : PM w m S F) (hk : Kept G w w') (hd : ∀ k, F k → ¬ G k) : PM w' m S F := by
  obtain ⟨b, dt, h⟩ := h
  exact ⟨b, dt, h.kept hk hd⟩

theorem PM.good {w : World} {m : Nat} {S : Mm} {F : Nat → Prop} (h : PM w m S F) : S.Good := by
  obtain ⟨b, dt, h⟩ := h
  exact h.good

theorem PM.flt {w : World} {m : Nat} {S : Mm} {F : Nat → Prop} (h : PM w m S F) : ∀ k, F k → k < w.heap.size := by
  obtain ⟨b, dt, h⟩ := h
  exact h.flt

theorem PM.below {w w' : World} {m : Nat} {S : Mm} {F : Nat → Prop} (h : PM w m S F) (hb : Below w.heap.size w w') : PM w' m S F :=
  h.kept (kept_of_below hb (fun _ => False)) (fun _ _ h => h)

end Go.Proofs.Ytggmeopohpbmlaa
