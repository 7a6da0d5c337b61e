/- Texts of this claim, joined: Frame, MemState, MemSmall, MemMay, MemLaid. -/
import Derived.Test.YtgjfelkbblbjfaaGreatDoorJ00
import Derived.Laws.CopyOwn
/- What a call leaves of the memory: blocks that it may turn, blocks that stay; things of the call's own that lie apart from one another. -/
namespace Go.Proofs.YtgjfelkbblbjfaaGreatDoor
open Go.RowKit
set_option linter.unusedVariables false
set_option maxRecDepth 100000

/-! ### What a call leaves -/

/-- Nothing but blocks of F has turned. -/
structure Kept (F : Nat → Prop) (w w' : World) : Prop where
  os : w'.os = w.os
  tape : w'.tape = w.tape
  output : w'.output = w.output
  size : w.heap.size ≤ w'.heap.size
  block : ∀ k, k < w.heap.size → ¬ F k → w'.heap[k]? = w.heap[k]?

theorem Kept.refl (F : Nat → Prop) (w : World) : Kept F w w := ⟨rfl, rfl, rfl, Nat.le_refl _, fun _ _ _ => rfl⟩

theorem Kept.trans {F F' : Nat → Prop} {w w' w'' : World} (h : Kept F w w') (h' : Kept F' w' w'') (hF : ∀ k, F' k → F k ∨ w.heap.size ≤ k) : Kept F w w'' :=
  ⟨h'.os.trans h.os, h'.tape.trans h.tape, h'.output.trans h.output, Nat.le_trans h.size h'.size, fun k hk hn => by
    have h1 := h.size
    rw [h'.block k (by omega) (fun hk' => by rcases hF k hk' with h2 | h2; exact hn h2; omega), h.block k hk hn]⟩

theorem Kept.mono {F F' : Nat → Prop} {w w' : World} (h : Kept F w w') (hF : ∀ k, F k → F' k) : Kept F' w w' :=
  ⟨h.os, h.tape, h.output, h.size, fun k hk hn => h.block k hk (fun hk' => hn (hF k hk'))⟩

theorem Kept.of_grown {F : Nat → Prop} {w w' : World} {row : Option Nat} (h : w.grownBy w' row) (hr : ∀ k, row = some k → F k) : Kept F w w' :=
  ⟨h.os, h.tape, h.output, h.size, fun k hk hn => h.block k hk (fun e => hn (hr k e.symm))⟩

theorem Kept.alloc {F : Nat → Prop} {a w : World} (h : Kept F a w) (o : Obj) : Kept F a (w.alloc o) :=
  h.trans (F' := fun _ => False) ⟨rfl, rfl, rfl, by simp, fun k hk _ => Below.heap_alloc _ _ _ hk⟩ (fun k hk => hk.elim)

theorem Kept.drew {F : Nat → Prop} {a w : World} (h : Kept F a w) : Kept F a w.drew := ⟨h.os, h.tape, h.output, h.size, h.block⟩

theorem Kept.setCell {F : Nat → Prop} {a w : World} (h : Kept F a w) (p : Addr) (u : Value) (hp : F p.block ∨ a.heap.size ≤ p.block) : Kept F a (w.setCell p u) :=
  h.trans (F' := fun k => k = p.block) ⟨rfl, rfl, rfl, by simp [World.setCell], fun k hk hn => Below.heap_setCell _ _ _ _ hn⟩ (fun k hk => by subst hk; exact hp)

theorem Kept.setRow {F : Nat → Prop} {a w : World} (h : Kept F a w) (g : Nat) (cs : Array Value) (hp : F g ∨ a.heap.size ≤ g) : Kept F a (w.setRow g cs) :=
  h.trans (F' := fun k => k = g) ⟨rfl, rfl, rfl, by simp [World.setRow], fun k hk hn => setRow_other w g k cs hn⟩ (fun k hk => by subst hk; exact hp)

theorem Kept.below {F : Nat → Prop} {w w' : World} {B : Nat} (h : Kept F w w') (hB : B ≤ w.heap.size) (hF : ∀ k, F k → B ≤ k) : Below B w w' :=
  ⟨h.os, h.tape, h.output, h.size, fun k hk => h.block k (by omega) (fun hk' => by have := hF k hk'; omega)⟩

theorem kept_of_below {w w' : World} (h : Below w.heap.size w w') (F : Nat → Prop) : Kept F w w' :=
  ⟨h.os, h.tape, h.output, h.size, fun k hk _ => h.block k hk⟩

theorem Kept.cell {F : Nat → Prop} {w w' : World} (h : Kept F w w') {p : Addr} {v : Value} (hv : w.cell? p = some v) (hp : ¬ F p.block) : w'.cell? p = some v :=
  (World.cell?_of_block (w := w) (h.block p.block (World.block_lt_of_cell? _ _ hv) hp)).trans hv

/-- A slice of bytes that doesn't lie in F is read as it was. -/
theorem Kept.rd {F : Nat → Prop} {w w' : World} (h : Kept F w w') {a : Option Addr} {len cap : Nat} {bs : List Int} (r : Rd w a len cap bs) (hs : 0 < len → ∀ x, a = some x → ¬ F x.block) : Rd w' a len cap bs :=
  ⟨r.length, r.le, r.max, r.bytes, r.nil, fun x hx i hi => by
    have h1 := r.cell x hx i hi
    refine h.cell h1 ?_
    have e : (x.add i).block = x.block := by unfold Addr.add; split <;> rfl
    rw [e]; exact hs (by omega) x hx⟩

/-- Where blocks F were a memory's, F' are. -/
def Went (F : Nat → Prop) (w : World) (F' : Nat → Prop) (w' : World) : Prop := Kept F w w' ∧ ∀ k, F' k → F k ∨ w.heap.size ≤ k

theorem Went.refl (F : Nat → Prop) (w : World) : Went F w F w := ⟨Kept.refl _ _, fun _ h => Or.inl h⟩
theorem Went.trans {F F' F'' : Nat → Prop} {w w' w'' : World} (h : Went F w F' w') (h' : Went F' w' F'' w'') : Went F w F'' w'' :=
  ⟨h.1.trans h'.1 h.2, fun k hk => by
    rcases h'.2 k hk with h1 | h1
    · exact h.2 k h1
    · have := h.1.size; right; omega⟩

theorem Went.below {F F' : Nat → Prop} {w w' : World} {B : Nat} (h : Went F w F' w') (hB : B ≤ w.heap.size) (hF : ∀ k, F k → B ≤ k) : Below B w w' ∧ (∀ k, F' k → B ≤ k) :=
  ⟨h.1.below hB hF, fun k hk => by
    rcases h.2 k hk with h1 | h1
    · exact hF k h1
    · omega⟩

/-! ### Things of the call's own, apart from one another -/

/-- What blocks F of a world hold (and what lies below B) lasts while others turn. -/
structure Stays (B : Nat) (P : World → (Nat → Prop) → Prop) : Prop where
  kept : ∀ {w w' : World} {F G : Nat → Prop}, P w F → Kept G w w' → (∀ k, F k → ¬ G k) → (∀ k, G k → B ≤ k) → P w' F
  flt : ∀ {w : World} {F : Nat → Prop}, P w F → ∀ k, F k → k < w.heap.size

/-- Things side by side, in blocks apart. -/
def Stars : List (World → (Nat → Prop) → Prop) → World → (Nat → Prop) → Prop
  | [], _, F => ∀ k, ¬ F k
  | P :: l, w, F => ∃ F1 F2, P w F1 ∧ Stars l w F2 ∧ (∀ k, F1 k → ¬ F2 k) ∧ ∀ k, F k ↔ F1 k ∨ F2 k

theorem Stars.swap {w : World} {F : Nat → Prop} {P Q : World → (Nat → Prop) → Prop} {l : List (World → (Nat → Prop) → Prop)} (h : Stars (P :: Q :: l) w F) : Stars (Q :: P :: l) w F := by
  obtain ⟨F1, F2, h1, ⟨G1, G2, g1, g2, g3, g4⟩, h3, h4⟩ := h
  refine ⟨G1, fun k => F1 k ∨ G2 k, g1, ⟨F1, G2, h1, g2, fun k hf hg => h3 k hf ((g4 k).2 (Or.inr hg)), fun k => Iff.rfl⟩, fun k hk hf => ?_, fun k => ?_⟩
  · rcases hf with hf | hf
    · exact h3 k hf ((g4 k).2 (Or.inl hk))
    · exact g3 k hk hf
  · rw [h4, g4]
    constructor
    · rintro (h | h | h)
      · exact Or.inr (Or.inl h)
      · exact Or.inl h
      · exact Or.inr (Or.inr h)
    · rintro (h | h | h)
      · exact Or.inr (Or.inl h)
      · exact Or.inl h
      · exact Or.inr (Or.inr h)

theorem Stars.perm {w : World} {l l' : List (World → (Nat → Prop) → Prop)} (hp : l.Perm l') : ∀ {F : Nat → Prop}, Stars l w F → Stars l' w F := by
  induction hp with
  | nil => exact fun h => h
  | cons x _ ih =>
    rintro F ⟨F1, F2, h1, h2, h3⟩
    exact ⟨F1, F2, h1, ih h2, h3⟩
  | swap x y l => exact fun h => Stars.swap h
  | trans _ _ ih1 ih2 => exact fun h => ih2 (ih1 h)

def AllStay (B : Nat) (l : List (World → (Nat → Prop) → Prop)) : Prop := ∀ P ∈ l, Stays B P

theorem AllStay.nil (B : Nat) : AllStay B [] := fun _ h => by cases h
theorem AllStay.cons {B : Nat} {P : World → (Nat → Prop) → Prop} {l : List (World → (Nat → Prop) → Prop)} (h : Stays B P) (hl : AllStay B l) : AllStay B (P :: l) := fun Q hq => by
  rcases List.mem_cons.1 hq with rfl | hq
  · exact h
  · exact hl Q hq

theorem Stars.flt {B : Nat} {w : World} : ∀ {l : List (World → (Nat → Prop) → Prop)} {F : Nat → Prop}, AllStay B l → Stars l w F → ∀ k, F k → k < w.heap.size
  | [], F, _, h, k, hk => (h k hk).elim
  | P :: l, F, hs, ⟨F1, F2, h1, h2, h3, h4⟩, k, hk => by
    rcases (h4 k).1 hk with hk | hk
    · exact (hs P (List.mem_cons_self ..)).flt h1 k hk
    · exact Stars.flt (fun Q hq => hs Q (List.mem_cons_of_mem _ hq)) h2 k hk

theorem Stars.kept {B : Nat} {w w' : World} {G : Nat → Prop} (hk : Kept G w w') (hG : ∀ k, G k → B ≤ k) : ∀ {l : List (World → (Nat → Prop) → Prop)} {F : Nat → Prop}, AllStay B l → Stars l w F → (∀ k, F k → ¬ G k) → Stars l w' F
  | [], F, _, h, _ => h
  | P :: l, F, hs, ⟨F1, F2, h1, h2, h3, h4⟩, hd =>
    ⟨F1, F2, (hs P (List.mem_cons_self ..)).kept h1 hk (fun k hf => hd k ((h4 k).2 (Or.inl hf))) hG,
      Stars.kept hk hG (fun Q hq => hs Q (List.mem_cons_of_mem _ hq)) h2 (fun k hf => hd k ((h4 k).2 (Or.inr hf))), h3, h4⟩

/-- The call, begun in w0, has these things of its own in w; what was there at the beginning is as it was. -/
structure Has (w0 w : World) (l : List (World → (Nat → Prop) → Prop)) : Prop where
  ex : ∃ F, Stars l w F ∧ ∀ k, F k → w0.heap.size ≤ k
  bel : Below w0.heap.size w0 w
  stay : AllStay w0.heap.size l

section
variable {w0 w w' : World} {P Q R : World → (Nat → Prop) → Prop} {l l' : List (World → (Nat → Prop) → Prop)}

theorem Has.start (h : Below w0.heap.size w0 w) : Has w0 w [] := ⟨⟨fun _ => False, fun _ h => h, fun _ h => h.elim⟩, h, AllStay.nil _⟩

theorem Has.perm (h : Has w0 w l) (hp : l.Perm l') : Has w0 w l' := by
  obtain ⟨F, h1, h2⟩ := h.ex
  exact ⟨⟨F, h1.perm hp, h2⟩, h.bel, fun P hP => h.stay P (hp.mem_iff.2 hP)⟩

theorem Has.swap (h : Has w0 w (P :: Q :: l)) : Has w0 w (Q :: P :: l) := h.perm (List.Perm.swap ..)
theorem Has.rot (h : Has w0 w (P :: Q :: R :: l)) : Has w0 w (Q :: R :: P :: l) := h.perm ((List.Perm.swap ..).trans (List.Perm.cons _ (List.Perm.swap ..)))
theorem Has.back (h : Has w0 w (P :: Q :: R :: l)) : Has w0 w (R :: P :: Q :: l) := h.perm ((List.Perm.cons _ (List.Perm.swap ..)).trans (List.Perm.swap ..))

theorem Has.drop (h : Has w0 w (P :: l)) : Has w0 w l := by
  obtain ⟨F, ⟨F1, F2, h1, h2, h3, h4⟩, h5⟩ := h.ex
  exact ⟨⟨F2, h2, fun k hk => h5 k ((h4 k).2 (Or.inr hk))⟩, h.bel, fun Q hQ => h.stay Q (List.mem_cons_of_mem _ hQ)⟩

/-- Nothing of what is there turns. -/
theorem Has.below (h : Has w0 w l) (hb : Below w.heap.size w w') : Has w0 w' l := by
  obtain ⟨F, h1, h2⟩ := h.ex
  exact ⟨⟨F, h1.kept (kept_of_below hb (fun _ => False)) (fun _ h => h.elim) h.stay (fun _ _ h => h), h2⟩, h.bel.trans (hb.mono h.bel.size), h.stay⟩
theorem Has.drew (h : Has w0 w l) : Has w0 w.drew l := h.below (Below.refl _ _).drew

/-- A new thing, in new blocks. -/
theorem Has.more (h : Has w0 w l) (hb : Below w.heap.size w w') {F : Nat → Prop} (hP : P w' F) (hF : ∀ k, F k → w.heap.size ≤ k) (hs : Stays w0.heap.size P) : Has w0 w' (P :: l) := by
  have h' := h.below hb
  obtain ⟨G, g1, g2⟩ := h.ex
  have g1' := g1.kept (kept_of_below hb (fun _ => False)) (fun _ h => h.elim) h.stay (fun _ _ h => h)
  refine ⟨⟨fun k => F k ∨ G k, ⟨F, G, hP, g1', fun k hf hg => ?_, fun k => Iff.rfl⟩, fun k hk => ?_⟩, h'.bel, AllStay.cons hs h.stay⟩
  · have := hF k hf
    have := g1.flt h.stay k hg
    omega
  · rcases hk with hk | hk
    · have := hF k hk
      have := h.bel.size
      omega
    · exact g2 k hk

/-- The first thing is opened; whatever then turns it alone leaves the others. -/
theorem Has.step (h : Has w0 w (P :: l)) : ∃ F, P w F ∧ (∀ k, F k → w0.heap.size ≤ k) ∧ ∀ (w' : World) (P' : World → (Nat → Prop) → Prop) (F' : Nat → Prop), P' w' F' → Went F w F' w' → Stays w0.heap.size P' → Has w0 w' (P' :: l) := by
  obtain ⟨F, ⟨F1, F2, h1, h2, h3, h4⟩, h5⟩ := h.ex
  have hl : AllStay w0.heap.size l := fun Q hQ => h.stay Q (List.mem_cons_of_mem _ hQ)
  have b1 : ∀ k, F1 k → w0.heap.size ≤ k := fun k hk => h5 k ((h4 k).2 (Or.inl hk))
  refine ⟨F1, h1, b1, fun w' P' F' hP' hw hs => ?_⟩
  have g := hw.below h.bel.size b1
  refine ⟨⟨fun k => F' k ∨ F2 k, ⟨F', F2, hP', h2.kept hw.1 b1 hl (fun k hf hg => h3 k hg hf), fun k hf hg => ?_, fun k => Iff.rfl⟩, fun k hk => ?_⟩, h.bel.trans g.1, AllStay.cons hs hl⟩
  · rcases hw.2 k hf with h6 | h6
    · exact h3 k h6 hg
    · have := h2.flt hl k hg
      omega
  · rcases hk with hk | hk
    · exact g.2 k hk
    · exact h5 k ((h4 k).2 (Or.inr hk))

end

end Go.Proofs.YtgjfelkbblbjfaaGreatDoor

/- A memory as the document has it: permissions by page, bytes by address, how many pages; the program's memory in a world, what of it a call may turn. -/
namespace Go.Proofs.YtgjfelkbblbjfaaGreatDoor
open Go.RowKit Go.Maps
set_option linter.unusedVariables false
set_option maxRecDepth 100000

/-- A memory: what may be done with a page (0: there is none), the byte at an address, how many pages there are. -/
structure Mm where
  perm : Nat → Int
  byte : Nat → Int
  count : Nat

structure Mm.Good (S : Mm) : Prop where
  perm : ∀ i, 0 ≤ S.perm i ∧ S.perm i ≤ 7
  top : ∀ i, 34359738368 ≤ i → S.perm i = 0
  byte : ∀ a, 0 ≤ S.byte a ∧ S.byte a ≤ 255
  count : S.count ≤ 65536

/-- Bytes laid from a on. -/
def Mm.lay (S : Mm) (a : Nat) (bs : List Int) : Mm := { S with byte := fun x => if a ≤ x ∧ x < a + bs.length then bs.getD (x - a) 0 else S.byte x }

/-- n pages of noughts laid from page f on. -/
def Mm.mapped (S : Mm) (f n : Nat) (p : Int) : Mm :=
  { perm := fun i => if f ≤ i ∧ i < f + n then p else S.perm i
    byte := fun x => if f ≤ x / 4096 ∧ x / 4096 < f + n then 0 else S.byte x
    count := S.count + n }

def Mm.new : Mm := ⟨fun _ => 0, fun _ => 0, 0⟩

theorem Mm.new_good : Mm.new.Good := ⟨fun _ => by simp [Mm.new], fun _ _ => rfl, fun _ => by simp [Mm.new], by simp [Mm.new]⟩

theorem Mm.ext {S T : Mm} (h1 : ∀ i, S.perm i = T.perm i) (h2 : ∀ i, S.byte i = T.byte i) (h3 : S.count = T.count) : S = T := by
  cases S; cases T
  simp only [Mm.mk.injEq]
  exact ⟨funext h1, funext h2, h3⟩

theorem Mm.lay_nil (S : Mm) (a : Nat) : S.lay a [] = S := Mm.ext (fun _ => rfl) (fun x => by simp [Mm.lay]; omega) rfl

theorem Mm.lay_more (S : Mm) (a : Nat) (bs cs : List Int) : (S.lay a bs).lay (a + bs.length) cs = S.lay a (bs ++ cs) :=
  Mm.ext (fun _ => rfl) (fun x => by
    simp only [Mm.lay, List.length_append, List.getD_eq_getElem?_getD]
    by_cases h1 : a + bs.length ≤ x ∧ x < a + bs.length + cs.length
    · rw [if_pos h1, if_pos (by omega), List.getElem?_append_right (by omega)]
      rw [show x - a - bs.length = x - (a + bs.length) by omega]
    · rw [if_neg h1]
      by_cases h2 : a ≤ x ∧ x < a + bs.length
      · rw [if_pos h2, if_pos (by omega), List.getElem?_append_left (by omega)]
      · rw [if_neg h2, if_neg (by omega)]) rfl

theorem Mm.mapped_zero (S : Mm) (f : Nat) (p : Int) : S.mapped f 0 p = S :=
  Mm.ext (fun i => by simp [Mm.mapped]; omega) (fun x => by simp [Mm.mapped]; omega) rfl

theorem Mm.mapped_succ (S : Mm) (f n : Nat) (p : Int) : (S.mapped f n p).mapped (f + n) 1 p = S.mapped f (n + 1) p :=
  Mm.ext (fun i => by
      simp only [Mm.mapped]
      by_cases h1 : f + n ≤ i ∧ i < f + n + 1
      · rw [if_pos h1, if_pos (by omega)]
      · rw [if_neg h1]
        by_cases h2 : f ≤ i ∧ i < f + n
        · rw [if_pos h2, if_pos (by omega)]
        · rw [if_neg h2, if_neg (by omega)])
    (fun x => by
      simp only [Mm.mapped]
      by_cases h1 : f + n ≤ x / 4096 ∧ x / 4096 < f + n + 1
      · rw [if_pos h1, if_pos (by omega)]
      · rw [if_neg h1]
        by_cases h2 : f ≤ x / 4096 ∧ x / 4096 < f + n
        · rw [if_pos h2, if_pos (by omega)]
        · rw [if_neg h2, if_neg (by omega)])
    (by simp [Mm.mapped]; omega)

theorem Mm.Good.lay {S : Mm} (h : S.Good) (a : Nat) {bs : List Int} (hb : Bytes bs) : (S.lay a bs).Good :=
  ⟨h.perm, h.top, fun x => by
    simp only [Mm.lay, List.getD_eq_getElem?_getD]
    split
    · exact hb.at _
    · exact h.byte x, h.count⟩

theorem Mm.Good.mapped {S : Mm} (h : S.Good) (f n : Nat) {p : Int} (hp : 1 ≤ p ∧ p ≤ 7) (hn : S.count + n ≤ 65536) (ht : f + n ≤ 34359738368) : (S.mapped f n p).Good :=
  ⟨fun i => by
      simp only [Mm.mapped]
      split
      · omega
      · exact h.perm i,
    fun i hi => by
      simp only [Mm.mapped]
      rw [if_neg (by omega)]
      exact h.top i hi,
    fun x => by
      simp only [Mm.mapped]
      split
      · omega
      · exact h.byte x, hn⟩

/-! ### The program's memory -/

/-- A page's bytes: none, or those of a block. -/
def dsl : Option Nat → Value
  | none => .slice none 0 0
  | some g => .slice (some ⟨g, 0, none⟩) 4096 4096

/-- A page's value: its permission, its bytes' block. -/
def pv (p : Int) (d : Option Nat) : Value := .agg #[.int .i64 p, dsl d]

/-- A block of bytes: those of page i. -/
def Page (w : World) (g : Nat) (S : Mm) (i : Nat) : Prop :=
  ∃ cs : List Value, w.heap[g]? = some (.cells cs.toArray 5 (0, 0)) ∧ cs.length = 4096 ∧ ∀ j, j < 4096 → cs[j]? = some (.int .u8 (S.byte (i * 4096 + j)))

theorem Page.kept {w w' : World} {g : Nat} {S : Mm} {i : Nat} (h : Page w g S i) (hb : w'.heap[g]? = w.heap[g]?) : Page w' g S i := by
  obtain ⟨cs, h1, h2⟩ := h
  exact ⟨cs, hb.trans h1, h2⟩

theorem Page.lt {w : World} {g : Nat} {S : Mm} {i : Nat} (h : Page w g S i) : g < w.heap.size := by
  obtain ⟨cs, h1, h2⟩ := h
  exact (Array.getElem?_eq_some_iff.1 h1).1

structure PMx (w : World) (m b : Nat) (dt : Nat → Option Nat) (S : Mm) (F : Nat → Prop) : Prop where
  head : w.heap[m]? = some (.cells #[.map (some b)] 79 (0, 0))
  map : MapAt w b S.count (fun i => if S.perm i = 0 then none else some (pv (S.perm i) (dt i)))
  good : S.Good
  dn : ∀ i, S.perm i = 0 → dt i = none
  noughts : ∀ i, S.perm i ≠ 0 → dt i = none → ∀ j, j < 4096 → S.byte (i * 4096 + j) = 0
  page : ∀ i g, dt i = some g → Page w g S i
  apart : ∀ i j g, dt i = some g → dt j = some g → i = j
  fm : F m
  fb : F b
  fg : ∀ i g, dt i = some g → F g
  flt : ∀ k, F k → k < w.heap.size

/-- Block m is the program's memory S; its blocks are among F. -/
def PM (w : World) (m : Nat) (S : Mm) (F : Nat → Prop) : Prop := ∃ b dt, PMx w m b dt S F

theorem PMx.mb {w : World} {m b : Nat} {dt : Nat → Option Nat} {S : Mm} {F : Nat → Prop} (h : PMx w m b dt S F) : m ≠ b := fun e => by
  subst e; exact h.map.noCells h.head

theorem PMx.gb {w : World} {m b : Nat} {dt : Nat → Option Nat} {S : Mm} {F : Nat → Prop} (h : PMx w m b dt S F) {i g : Nat} (hg : dt i = some g) : g ≠ b := fun e => by
  subst e
  obtain ⟨cs, h1, _⟩ := h.page i g hg
  exact h.map.noCells h1

theorem PMx.gm {w : World} {m b : Nat} {dt : Nat → Option Nat} {S : Mm} {F : Nat → Prop} (h : PMx w m b dt S F) {i g : Nat} (hg : dt i = some g) : g ≠ m := fun e => by
  subst e
  obtain ⟨cs, h1, h2, _⟩ := h.page i g hg
  rw [h.head] at h1
  have h3 := congrArg (fun o : Option Obj => match o with | some (.cells c _ _) => c.size | _ => 0) h1
  simp [h2] at h3

theorem PMx.cell {w : World} {m b : Nat} {dt : Nat → Option Nat} {S : Mm} {F : Nat → Prop} (h : PMx w m b dt S F) : w.cell? ⟨m, 0, none⟩ = some (.map (some b)) := by
  rw [cell_of_row _ _ 0 _ _ _ h.head]; rfl

theorem PMx.kept {w w' : World} {m b : Nat} {dt : Nat → Option Nat} {S : Mm} {F G : Nat → Prop} (h : PMx w m b dt S F) (hk : Kept G w w') (hd : ∀ k, F k → ¬ G k) : PMx w' m b dt S F :=
  have same : ∀ k, F k → w'.heap[k]? = w.heap[k]? := fun k hF => hk.block k (h.flt k hF) (hd k hF)
  ⟨(same m h.fm).trans h.head, h.map.kept (same b h.fb), h.good, h.dn, h.noughts, fun i g hg => (h.page i g hg).kept (same g (h.fg i g hg)), h.apart, h.fm, h.fb, h.fg,
    fun k hF => Nat.lt_of_lt_of_le (h.flt k hF) hk.size⟩

theorem PM.kept {w w' : World} {m : Nat} {S : Mm} {F G : Nat → Prop} (h : PM w m S F) (hk : Kept G w w') (hd : ∀ k, F k → ¬ G k) : PM w' m S F := by
  obtain ⟨b, dt, h⟩ := h
  exact ⟨b, dt, h.kept hk hd⟩

theorem PM.good {w : World} {m : Nat} {S : Mm} {F : Nat → Prop} (h : PM w m S F) : S.Good := by
  obtain ⟨b, dt, h⟩ := h
  exact h.good

theorem PM.flt {w : World} {m : Nat} {S : Mm} {F : Nat → Prop} (h : PM w m S F) : ∀ k, F k → k < w.heap.size := by
  obtain ⟨b, dt, h⟩ := h
  exact h.flt

theorem PM.below {w w' : World} {m : Nat} {S : Mm} {F : Nat → Prop} (h : PM w m S F) (hb : Below w.heap.size w w') : PM w' m S F :=
  h.kept (kept_of_below hb (fun _ => False)) (fun _ _ h => h)

end Go.Proofs.YtgjfelkbblbjfaaGreatDoor

/- Contracts of package mem's small calls: rangeGood, permGood, widthGood, New, Size, Perm. -/
namespace Go.Proofs.YtgjfelkbblbjfaaGreatDoor
open Go.RowKit Go.Maps
set_option linter.unusedVariables false
set_option maxRecDepth 100000

theorem rangeGood_any (addr size : Nat) (w : World) (ha : addr ≤ 18446744073709551615) (hs : size ≤ 18446744073709551615) :
    Calls Tryz.prog 33 #[.int .u64 (addr : Int), .int .u64 (size : Int)] w fun e w' =>
      e = .returned (.bool (decide (addr % 4096 = 0 ∧ 0 < size ∧ addr + size ≤ 140737488355328))) ∧ w' = w := by
  by_cases h1 : addr % 4096 = 0
  · by_cases h2 : 0 < size
    · by_cases h3 : addr ≤ 140737488355328
      · go_enter Tryz.func33, Tryz.ntmps33
        go_wp2
        go_ret
        exact ⟨ret_bool (by rw [decide_eq_decide]; omega), rfl⟩
      · go_enter Tryz.func33, Tryz.ntmps33
        go_wp2
        go_ret
        exact ⟨ret_bool (by simp; omega), rfl⟩
    · go_enter Tryz.func33, Tryz.ntmps33
      go_wp2
      go_ret
      exact ⟨ret_bool (by simp; omega), rfl⟩
  · go_enter Tryz.func33, Tryz.ntmps33
    go_wp2
    go_ret
    exact ⟨ret_bool (by simp; omega), rfl⟩

/-- The permissions that may be. -/
def PermOk (p : Int) : Prop := p = 1 ∨ p = 2 ∨ p = 4 ∨ p = 5 ∨ p = 6

instance (p : Int) : Decidable (PermOk p) := by unfold PermOk; infer_instance

theorem PermOk.bd {p : Int} (h : PermOk p) : 1 ≤ p ∧ p ≤ 7 := by unfold PermOk at h; omega

theorem permGood_any (p : Int) (w : World) (h0 : -9223372036854775808 ≤ p) (h1 : p ≤ 9223372036854775807) :
    Calls Tryz.prog 34 #[.int .i64 p] w fun e w' => e = .returned (.bool (decide (PermOk p))) ∧ w' = w := by
  by_cases h2 : 0 < p
  · by_cases h3 : p ≤ 7
    · have h4 : p = 1 ∨ p = 2 ∨ p = 3 ∨ p = 4 ∨ p = 5 ∨ p = 6 ∨ p = 7 := by omega
      rcases h4 with rfl | rfl | rfl | rfl | rfl | rfl | rfl <;>
      · go_enter Tryz.func34, Tryz.ntmps34
        go_wp2
        go_ret
        exact ⟨ret_bool (by decide), rfl⟩
    · have e : decide (PermOk p) = false := decide_eq_false (by unfold PermOk; omega)
      rw [e]
      go_enter Tryz.func34, Tryz.ntmps34
      go_wp2
      go_ret
      exact ⟨rfl, rfl⟩
  · have e : decide (PermOk p) = false := decide_eq_false (by unfold PermOk; omega)
    rw [e]
    go_enter Tryz.func34, Tryz.ntmps34
    go_wp2
    go_ret
    exact ⟨rfl, rfl⟩

/-- The widths that may be. -/
def WidthOk (n : Int) : Prop := n = 1 ∨ n = 2 ∨ n = 4 ∨ n = 8

instance (p : Int) : Decidable (WidthOk p) := by unfold WidthOk; infer_instance

theorem widthGood_any (n : Int) (w : World) :
    Calls Tryz.prog 123 #[.int .i64 n] w fun e w' => e = .returned (.bool (decide (WidthOk n))) ∧ w' = w := by
  by_cases h1 : n = 1
  · subst h1
    go_enter Tryz.func123, Tryz.ntmps123
    go_wp2
    go_ret
    exact ⟨rfl, rfl⟩
  by_cases h2 : n = 2
  · subst h2
    go_enter Tryz.func123, Tryz.ntmps123
    go_wp2
    go_ret
    exact ⟨rfl, rfl⟩
  by_cases h4 : n = 4
  · subst h4
    go_enter Tryz.func123, Tryz.ntmps123
    go_wp2
    go_ret
    exact ⟨rfl, rfl⟩
  by_cases h8 : n = 8
  · subst h8
    go_enter Tryz.func123, Tryz.ntmps123
    go_wp2
    go_ret
    exact ⟨rfl, rfl⟩
  have e : decide (WidthOk n) = false := decide_eq_false (by unfold WidthOk; omega)
  rw [e]
  go_enter Tryz.func123, Tryz.ntmps123
  go_wp2
  go_ret
  exact ⟨ret_bool (by simp [*]), rfl⟩

theorem width_any (n : Int) (w : World) :
    Calls Tryz.prog 91 #[.int .i64 n] w fun e w' => e = .returned (.bool (decide (WidthOk n))) ∧ w' = w := by
  by_cases h1 : n = 1
  · subst h1
    go_enter Tryz.func91, Tryz.ntmps91
    go_wp2
    go_ret
    exact ⟨rfl, rfl⟩
  by_cases h2 : n = 2
  · subst h2
    go_enter Tryz.func91, Tryz.ntmps91
    go_wp2
    go_ret
    exact ⟨rfl, rfl⟩
  by_cases h4 : n = 4
  · subst h4
    go_enter Tryz.func91, Tryz.ntmps91
    go_wp2
    go_ret
    exact ⟨rfl, rfl⟩
  by_cases h8 : n = 8
  · subst h8
    go_enter Tryz.func91, Tryz.ntmps91
    go_wp2
    go_ret
    exact ⟨rfl, rfl⟩
  have e : decide (WidthOk n) = false := decide_eq_false (by unfold WidthOk; omega)
  rw [e]
  go_enter Tryz.func91, Tryz.ntmps91
  go_wp2
  go_ret
  exact ⟨ret_bool (by simp [*]), rfl⟩

theorem zeroPage (w : World) : (zeroValue 85).run Tryz.prog w = .ok (pv 0 none) w := by kernel_rfl
theorem zeroPtr (w : World) : (zeroValue 87).run Tryz.prog w = .ok (.pointer none) w := by kernel_rfl

theorem field0 (x y : Value) (w : World) : (Instr.field 85 (.agg #[x, y]) 0).run Tryz.prog w = .ok x w := by kernel_rfl
theorem field1 (x y : Value) (w : World) : (Instr.field 85 (.agg #[x, y]) 1).run Tryz.prog w = .ok y w := by kernel_rfl

/-- What is looked up of a page's number. -/
theorem PMx.look {w : World} {m b : Nat} {dt : Nat → Option Nat} {S : Mm} {F : Nat → Prop} (h : PMx w m b dt S F) (i : Nat) (hi : i ≤ 18446744073709551615) :
    (Instr.lookup 77 (.map (some b)) (.int .u64 (i : Int)) false).run Tryz.prog w = .ok (pv (S.perm i) (dt i)) w := by
  rw [h.map.look Tryz.underlying77 (zeroPage w) i hi]
  by_cases h0 : S.perm i = 0
  · rw [if_pos h0, h0, h.dn i h0]; rfl
  · rw [if_neg h0]; rfl

theorem PMx.lookOk {w : World} {m b : Nat} {dt : Nat → Option Nat} {S : Mm} {F : Nat → Prop} (h : PMx w m b dt S F) (i : Nat) (hi : i ≤ 18446744073709551615) :
    (Instr.lookup 77 (.map (some b)) (.int .u64 (i : Int)) true).run Tryz.prog w = .ok (.tuple #[pv (S.perm i) (dt i), .bool (decide (S.perm i ≠ 0))]) w := by
  rw [h.map.lookOk Tryz.underlying77 (zeroPage w) i hi]
  by_cases h0 : S.perm i = 0
  · rw [if_pos h0, h0, h.dn i h0]; rfl
  · rw [if_neg h0]; simp [h0]

theorem new_any (w : World) :
    Calls Tryz.prog 8 #[] w fun e w' => ∃ m F, e = .returned (.pointer (some ⟨m, 0, none⟩)) ∧ PM w' m Mm.new F ∧ (∀ k, F k → w.heap.size ≤ k) ∧ Below w.heap.size w w' := by
  have hmm := @run_makeMap Tryz.prog
  go_enter Tryz.func8, Tryz.ntmps8
  go_wp2
  go_ret
  refine ⟨w.heap.size + 1, fun k => k = w.heap.size ∨ k = w.heap.size + 1, rfl, ⟨w.heap.size, fun _ => none, ?_, ?_, Mm.new_good, fun _ _ => rfl, fun i hi => absurd rfl hi, (fun i g hg => by cases hg), (fun i j g hg => by cases hg), Or.inr rfl, Or.inl rfl, (fun i g hg => by cases hg), ?_⟩, ?_, ?_⟩
  · have := heap_alloc_new (w.alloc (.map #[] 0)) (.cells #[.map (some w.heap.size)] 79)
    simpa using this
  · exact ((MapAt.made w).kept (Below.heap_alloc _ _ _ (by simp))).congr (fun i _ => by simp [Mm.new])
  · intro k hk; simp; omega
  · intro k hk; omega
  · exact ((Below.refl _ _).alloc (Nat.le_refl _) _).alloc (by simp) _



theorem perm_any (m : Nat) (S : Mm) (F : Nat → Prop) (addr : Nat) (w : World) (h : PM w m S F) (ha : addr ≤ 18446744073709551615) :
    Calls Tryz.prog 130 #[.pointer (some ⟨m, 0, none⟩), .int .u64 (addr : Int)] w fun e w' => e = .returned (.int .i64 (S.perm (addr / 4096))) ∧ w' = w := by
  obtain ⟨b, dt, h⟩ := h
  have hc := h.cell
  have hl := h.look (addr / 4096) (by omega)
  rw [show ((addr / 4096 : Nat) : Int) = (addr : Int) / 4096 by omega] at hl
  simp only [pv] at hl
  have hf0 := field0
  clear h
  go_enter Tryz.func130, Tryz.ntmps130
  go_wp2
  go_ret
  exact ⟨rfl, rfl⟩

end Go.Proofs.YtgjfelkbblbjfaaGreatDoor

/- Contracts of package mem's may and spare, and of the document's May. -/
namespace Go.Proofs.YtgjfelkbblbjfaaGreatDoor
open Go.RowKit Go.Maps
set_option linter.unusedVariables false
set_option maxRecDepth 100000

/-- Whether the pages of all n bytes from a on have p. -/
def Mayp (S : Mm) (a n : Nat) (p : Int) : Prop := n = 0 ∨ ∀ i, a / 4096 ≤ i → i ≤ (a + n - 1) / 4096 → bits .and .i64 (S.perm i) p ≠ 0
noncomputable def mayB (S : Mm) (a n : Nat) (p : Int) : Bool := @decide (Mayp S a n p) (Classical.propDecidable _)
theorem mayB_yes {S : Mm} {a n : Nat} {p : Int} (h : Mayp S a n p) : mayB S a n p = true := @decide_eq_true _ (Classical.propDecidable _) h
theorem mayB_no {S : Mm} {a n : Nat} {p : Int} (h : ¬ Mayp S a n p) : mayB S a n p = false := @decide_eq_false _ (Classical.propDecidable _) h
theorem mayB_iff {S : Mm} {a n : Nat} {p : Int} : mayB S a n p = true ↔ Mayp S a n p :=
  ⟨fun h => Classical.byContradiction (fun hn => by rw [mayB_no hn] at h; cases h), mayB_yes⟩

theorem Mm.Good.far {S : Mm} (h : S.Good) {a n : Nat} {p : Int} (hn : n ≠ 0) (hp : bits .and .i64 0 p = 0) (hf : 140737488355328 < a + n) : ¬ Mayp S a n p := by
  rintro (h1 | h1)
  · exact hn h1
  · refine h1 ((a + n - 1) / 4096) (by omega) (Nat.le_refl _) ?_
    rw [h.top _ (by omega)]
    exact hp

theorem Mayp.bd {S : Mm} (hg : S.Good) {a n : Nat} {p : Int} (hp : bits .and .i64 0 p = 0) (h : Mayp S a n p) (hn : n ≠ 0) : a + n ≤ 140737488355328 := by
  apply Nat.le_of_not_lt; intro hf
  exact hg.far hn hp hf h

theorem Mayp.mapped {S : Mm} {a n : Nat} {p : Int} (hp : bits .and .i64 0 p = 0) (h : Mayp S a n p) {i : Nat} (h1 : a / 4096 ≤ i) (h2 : i * 4096 < a + n) (hn : n ≠ 0) : S.perm i ≠ 0 := by
  rcases h with h | h
  · exact absurd h hn
  · intro e
    have := h i h1 (by omega)
    rw [e] at this
    exact this hp

set_option maxHeartbeats 800000 in
theorem may_any (m : Nat) (S : Mm) (F : Nat → Prop) (a n : Nat) (p : Int) (w : World) (h : PM w m S F) (ha : a ≤ 18446744073709551615) (hn : n ≤ 18446744073709551615) (hp : bits .and .i64 0 p = 0) :
    Calls Tryz.prog 41 #[.pointer (some ⟨m, 0, none⟩), .int .u64 (a : Int), .int .u64 (n : Int), .int .i64 p] w fun e w' => e = .returned (.bool (mayB S a n p)) ∧ w' = w := by
  by_cases h0 : n = 0
  · rw [mayB_yes (Or.inl h0)]
    subst h0
    go_enter Tryz.func41, Tryz.ntmps41
    go_wp2
    go_ret
    exact ⟨rfl, rfl⟩
  by_cases h1 : 140737488355328 < a + n
  · rw [mayB_no (h.good.far h0 hp h1)]
    by_cases h2 : 140737488355328 < a
    · go_enter Tryz.func41, Tryz.ntmps41
      go_wp2
      go_ret
      exact ⟨rfl, rfl⟩
    · go_enter Tryz.func41, Tryz.ntmps41
      go_wp2
      go_ret
      exact ⟨rfl, rfl⟩
  · obtain ⟨b, dt, h⟩ := h
    have hc := h.cell
    have HP := hide h
    have hf0 := field0
    clear h
    obtain ⟨l, hl⟩ : ∃ l, l = (a + n - 1) / 4096 := ⟨_, rfl⟩
    have hl' : ((l : Nat) : Int) = ((a : Int) + (n : Int) - 1) / 4096 := by omega
    have HL := hide hl
    obtain ⟨f, hf⟩ : ∃ f, f = a / 4096 := ⟨_, rfl⟩
    have hf' : (a : Int) / 4096 = (f : Int) := by omega
    have HF := hide hf
    have hfl : f ≤ l := by omega
    have hll : l ≤ 34359738368 := by omega
    clear hf hl
    have hMay : Hid (Mayp S a n p ↔ ∀ i, f ≤ i → i ≤ l → bits .and .i64 (S.perm i) p ≠ 0) := by
      unfold Mayp
      rw [← HL.out, ← HF.out]
      exact ⟨fun h => h.resolve_left h0, Or.inr⟩
    go_enter Tryz.func41, Tryz.ntmps41
    go_wp2
    go_loop [10] (fun v => ∃ k : Nat, f ≤ k ∧ k ≤ l + 1 ∧ v = .int .u64 (k : Int) ∧ ∀ j, f ≤ j → j < k → bits .and .i64 (S.perm j) p ≠ 0) (fun v => l + 1 - (intOf v).toNat)
    case atStart => exact ⟨f, Nat.le_refl _, by omega, rfl, fun j h1 h2 => by omega⟩
    case round =>
      obtain ⟨k, hk1, hk2, rfl, hall⟩ := hrel
      have HA := hide hall
      clear hall
      by_cases hlt : k ≤ l
      · have hr := HP.out.look k (by omega)
        simp only [pv] at hr
        obtain ⟨q, hq⟩ : ∃ q, q = S.perm k := ⟨_, rfl⟩
        rw [← hq] at hr
        have HQ := hide hq
        clear hq
        by_cases hz : bits .and .i64 q p = 0
        · have hno : Hid (¬ Mayp S a n p) := fun hm => hMay.out.1 hm k hk1 hlt (by rw [← HQ.out]; exact hz)
          go_wp2
          go_ret
          exact ⟨ret_bool (mayB_no hno.out).symm, rfl⟩
        · have hz' : (bits .and .i64 q p == 0) = false := by simpa using hz
          have HZ := hide hz
          clear hz
          go_wp2
          go_round
          case rel =>
            refine ⟨k + 1, by omega, by omega, by go_num, fun j h1 h2 => ?_⟩
            by_cases hjk : j = k
            · subst hjk; rw [← HQ.out]; exact HZ.out
            · exact HA.out j h1 (by omega)
          case measure => simp [intOf]; omega
      · have hyes : Hid (Mayp S a n p) := hMay.out.2 (fun i h1 h2 => HA.out i h1 (by omega))
        go_wp2
        go_ret
        exact ⟨ret_bool (mayB_yes hyes.out).symm, rfl⟩

/-- Whether n more pages may be, and none of those from f on is. -/
def Sparep (S : Mm) (f n : Nat) : Prop := S.count + n ≤ 65536 ∧ ∀ i, f ≤ i → i < f + n → S.perm i = 0
noncomputable def spareB (S : Mm) (f n : Nat) : Bool := @decide (Sparep S f n) (Classical.propDecidable _)
theorem spareB_yes {S : Mm} {f n : Nat} (h : Sparep S f n) : spareB S f n = true := @decide_eq_true _ (Classical.propDecidable _) h
theorem spareB_no {S : Mm} {f n : Nat} (h : ¬ Sparep S f n) : spareB S f n = false := @decide_eq_false _ (Classical.propDecidable _) h

theorem dsl_slice (d : Option Nat) : ∃ a l c, dsl d = .slice a l c := by
  cases d with
  | none => exact ⟨_, _, _, rfl⟩
  | some g => exact ⟨_, _, _, rfl⟩

theorem PMx.below {w w' : World} {m b : Nat} {dt : Nat → Option Nat} {S : Mm} {F : Nat → Prop} (h : PMx w m b dt S F) (hb : Below w.heap.size w w') : PMx w' m b dt S F :=
  h.kept (kept_of_below hb (fun _ => False)) (fun _ _ h => h)

set_option maxHeartbeats 800000 in
theorem spare_any (m : Nat) (S : Mm) (F : Nat → Prop) (f n : Nat) (w : World) (h : PM w m S F) (hf : f + n ≤ 34359738368) :
    Calls Tryz.prog 35 #[.pointer (some ⟨m, 0, none⟩), .int .u64 (f : Int), .int .u64 (n : Int)] w fun e w' => e = .returned (.bool (spareB S f n)) ∧ Below w.heap.size w w' := by
  obtain ⟨b, dt, h⟩ := h
  have hc := h.cell
  have hl := h.map.len Tryz.underlying77 3
  have hg := h.good.count
  have HP := hide h
  have hlt0 := h.flt m h.fm
  clear h
  by_cases h1 : S.count + n ≤ 65536
  · have h1' : decide (65536 - (S.count : Int) < (n : Int)) = false := by simp; omega
    go_enter Tryz.func35, Tryz.ntmps35
    go_wp2
    go_loopw [20] (fun v wr => ∃ k : Nat, k ≤ n ∧ v = .int .u64 (k : Int) ∧ (∀ j, f ≤ j → j < f + k → S.perm j = 0) ∧ Below w.heap.size w wr) (fun v _ => n - (intOf v).toNat)
    case atStart => exact ⟨0, by omega, rfl, fun j h1 h2 => by omega, Below.refl _ _⟩
    case round =>
      obtain ⟨k, hk2, rfl, hall, hbel⟩ := hrel
      have HA := hide hall
      have HB := hide hbel
      have HR := hide (HP.out.below hbel)
      clear hall hbel
      by_cases hlt : k < n
      · have hc2 := HR.out.cell
        have hr := HR.out.lookOk (f + k) (by omega)
        simp only [pv] at hr
        rw [show ((f + k : Nat) : Int) = (f : Int) + (k : Int) by omega] at hr
        obtain ⟨q, hq⟩ : ∃ q, q = S.perm (f + k) := ⟨_, rfl⟩
        rw [← hq] at hr
        have HQ := hide hq
        clear hq hc hl
        obtain ⟨da, dl, dc, hdv⟩ := dsl_slice (dt (f + k))
        rw [hdv] at hr
        clear hdv
        by_cases hz : q = 0
        · have hz' : decide (q ≠ 0) = false := by simp [hz]
          rw [hz'] at hr
          have HZ := hide hz
          clear hz hz'
          go_wp2
          go_roundw
          case rel =>
            refine ⟨k + 1, by omega, by go_num, fun j h1 h2 => ?_, ?_⟩
            · by_cases hjk : j = f + k
              · subst hjk; rw [← HQ.out]; exact HZ.out
              · exact HA.out j h1 (by omega)
            · exact HB.out.alloc HB.out.size _
          case measure => simp [intOf]; omega
        · have hz' : decide (q ≠ 0) = true := by simp [hz]
          rw [hz'] at hr
          have hno : Hid (¬ Sparep S f n) := fun hm => hz (by rw [HQ.out]; exact hm.2 (f + k) (by omega) (by omega))
          clear hz hz'
          go_wp2
          go_ret
          refine ⟨ret_bool (spareB_no hno.out).symm, ?_⟩
          exact HB.out.alloc HB.out.size _
      · have hyes : Hid (Sparep S f n) := ⟨h1, fun i h1 h2 => HA.out i h1 (by omega)⟩
        go_wp2
        go_ret
        exact ⟨ret_bool (spareB_yes hyes.out).symm, HB.out⟩
  · rw [spareB_no (fun h => h1 h.1)]
    go_enter Tryz.func35, Tryz.ntmps35
    go_wp2
    go_ret
    exact ⟨rfl, Below.refl _ _⟩

end Go.Proofs.YtgjfelkbblbjfaaGreatDoor

/- Plain facts on the program's memory: a page's bytes laid over, a page that is given bytes. -/
namespace Go.Proofs.YtgjfelkbblbjfaaGreatDoor
open Go.RowKit Go.Maps
set_option linter.unusedVariables false
set_option maxRecDepth 100000

theorem splice_get {α : Type} (L : List α) (off : Nat) (cs : List α) (h : off + cs.length ≤ L.length) (j : Nat) :
    (splice L off cs)[j]? = if off ≤ j ∧ j < off + cs.length then cs[j - off]? else L[j]? := by
  unfold splice
  by_cases h1 : j < off
  · rw [if_neg (by omega), List.getElem?_append_left (by simp; omega), List.getElem?_take, if_pos h1]
  · rw [List.getElem?_append_right (by simp; omega)]
    have e : (L.take off).length = off := by simp; omega
    rw [e]
    by_cases h2 : j < off + cs.length
    · rw [if_pos (by omega), List.getElem?_append_left (by omega)]
    · rw [if_neg (by omega), List.getElem?_append_right (by omega), List.getElem?_drop]
      congr 1; omega

theorem Page.byte_of {V : World} {g i : Nat} {S : Mm} (h : Page V g S i) {L : List Value} (hL : V.heap[g]? = some (.cells L.toArray 5 (0, 0))) : L.length = 4096 ∧ ∀ j, j < 4096 → L[j]? = some (.int .u8 (S.byte (i * 4096 + j))) := by
  obtain ⟨cs, h1, h2, h3⟩ := h
  rw [hL] at h1
  have e : L = cs := by
    have h4 := congrArg (fun o : Option Obj => match o with | some (.cells c _ _) => c.toList | _ => []) h1
    simpa using h4
  subst e
  exact ⟨h2, h3⟩

/-- Bytes laid over those of one page's block. -/
theorem Page.laid {V V' : World} {g i off : Nat} {S : Mm} (h : Page V g S i) {cs : List Int} (hoff : off + cs.length ≤ 4096) {L : List Value} (hL : V.heap[g]? = some (.cells L.toArray 5 (0, 0)))
    (hV' : V'.heap[g]? = some (.cells (splice L off (cs.map (Value.int .u8))).toArray 5 (0, 0))) : Page V' g (S.lay (i * 4096 + off) cs) i := by
  obtain ⟨h1, h2⟩ := h.byte_of hL
  refine ⟨_, hV', by rw [length_splice _ _ _ (by simp; omega)]; exact h1, fun j hj => ?_⟩
  rw [splice_get _ _ _ (by simp; omega)]
  simp only [Mm.lay, List.length_map]
  by_cases h3 : off ≤ j ∧ j < off + cs.length
  · rw [if_pos h3, if_pos (by omega)]
    have e : i * 4096 + j - (i * 4096 + off) = j - off := by omega
    rw [e]
    have h4 : j - off < cs.length := by omega
    simp [h4]
  · rw [if_neg h3, if_neg (by omega)]
    exact h2 j hj

/-- Another page's bytes stay. -/
theorem Page.other {V V' : World} {g i k off : Nat} {S : Mm} (h : Page V g S k) {cs : List Int} (hoff : off + cs.length ≤ 4096) (hik : k ≠ i) (hV : V'.heap[g]? = V.heap[g]?) : Page V' g (S.lay (i * 4096 + off) cs) k := by
  obtain ⟨L, h1, h2, h3⟩ := h
  refine ⟨L, hV.trans h1, h2, fun j hj => ?_⟩
  rw [h3 j hj]
  simp only [Mm.lay]
  rw [if_neg (by omega)]

theorem PMx.laid {V V' : World} {m b : Nat} {dt : Nat → Option Nat} {S : Mm} {F : Nat → Prop} (h : PMx V m b dt S F) {i g off : Nat} {cs : List Int} (hg : dt i = some g) (hoff : off + cs.length ≤ 4096) (hb : Bytes cs)
    {L : List Value} (hL : V.heap[g]? = some (.cells L.toArray 5 (0, 0))) (hV' : V'.heap[g]? = some (.cells (splice L off (cs.map (Value.int .u8))).toArray 5 (0, 0))) (hK : Kept (fun k => k = g) V V') :
    PMx V' m b dt (S.lay (i * 4096 + off) cs) F := by
  have same : ∀ k, F k → k ≠ g → V'.heap[k]? = V.heap[k]? := fun k hF hne => hK.block k (h.flt k hF) hne
  refine ⟨(same m h.fm (fun e => h.gm hg e.symm)).trans h.head, h.map.kept (same b h.fb (fun e => h.gb hg e.symm)), h.good.lay _ hb, h.dn, ?_, ?_, h.apart, h.fm, h.fb, h.fg, fun k hk => Nat.lt_of_lt_of_le (h.flt k hk) hK.size⟩
  · intro k hk hd j hj
    have hki : k ≠ i := fun e => by subst e; rw [hg] at hd; cases hd
    have := h.noughts k hk hd j hj
    simp only [Mm.lay]
    rw [if_neg (by omega)]
    exact this
  · intro k g' hg'
    by_cases hki : k = i
    · subst hki
      rw [hg] at hg'
      cases hg'
      exact (h.page k g hg).laid hoff hL hV'
    · exact (h.page k g' hg').other hoff hki (same g' (h.fg k g' hg') (fun e => by subst e; exact hki (h.apart k i g' hg' hg)))

theorem PMx.gave {V V' : World} {m b : Nat} {dt : Nat → Option Nat} {S : Mm} {F : Nat → Prop} (h : PMx V m b dt S F) {i g : Nat} (hp : S.perm i ≠ 0) (hd : dt i = none) (hg : ¬ F g)
    (hmap : MapAt V' b S.count (upd (fun j => if S.perm j = 0 then none else some (pv (S.perm j) (dt j))) i (pv (S.perm i) (some g))))
    {cs : List Value} (hcs : V'.heap[g]? = some (.cells cs.toArray 5 (0, 0))) (hl : cs.length = 4096) (hz : ∀ j, j < 4096 → cs[j]? = some (.int .u8 0)) (hK : Kept (fun k => k = b) V V') :
    PMx V' m b (fun j => if j = i then some g else dt j) S (fun k => F k ∨ k = g) := by
  have same : ∀ k, F k → k ≠ b → V'.heap[k]? = V.heap[k]? := fun k hF hne => hK.block k (h.flt k hF) hne
  refine ⟨(same m h.fm h.mb).trans h.head, hmap.congr (fun j _ => ?_), h.good, ?_, ?_, ?_, ?_, Or.inl h.fm, Or.inl h.fb, ?_, ?_⟩
  · unfold upd
    by_cases hji : j = i
    · subst hji; simp [hp]
    · simp [hji]
  · intro j hj
    have hji : j ≠ i := fun e => hp (by rw [← e]; exact hj)
    simp [hji, h.dn j hj]
  · intro j hj hn k hk
    by_cases hji : j = i
    · simp [hji] at hn
    · simp [hji] at hn
      exact h.noughts j hj hn k hk
  · intro j g' hg'
    by_cases hji : j = i
    · simp [hji] at hg'
      subst hg'
      subst hji
      exact ⟨cs, hcs, hl, fun k hk => by rw [hz k hk, h.noughts j hp hd k hk]⟩
    · simp [hji] at hg'
      exact (h.page j g' hg').kept (same g' (h.fg j g' hg') (h.gb hg'))
  · intro j k g' hj hk
    by_cases hji : j = i
    · by_cases hki : k = i
      · rw [hji, hki]
      · simp [hji] at hj
        simp [hki] at hk
        subst hj
        exact absurd (h.fg k _ hk) hg
    · by_cases hki : k = i
      · simp [hki] at hk
        simp [hji] at hj
        subst hk
        exact absurd (h.fg j _ hj) hg
      · simp [hji] at hj
        simp [hki] at hk
        exact h.apart j k g' hj hk
  · intro j g' hj
    by_cases hji : j = i
    · simp [hji] at hj
      exact Or.inr hj.symm
    · simp [hji] at hj
      exact Or.inl (h.fg j g' hj)
  · rintro k (hk | rfl)
    · exact Nat.lt_of_lt_of_le (h.flt k hk) hK.size
    · exact (Array.getElem?_eq_some_iff.1 hcs).1

end Go.Proofs.YtgjfelkbblbjfaaGreatDoor
