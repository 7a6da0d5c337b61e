/- What a call leaves of the memory: blocks that it may turn, blocks that stay; things of the call's own that lie apart from one another. -/
import Derived.Test.YtmmcnkdefpfkiaaDoorMake
namespace Go.Proofs.YtmmcnkdefpfkiaaDoor
open Go.RowKit
set_option linter.unusedVariables false
set_option maxRecDepth 100000
set_option maxRecDepth 20000

/-! ### What a call leaves -/

/-- Nothing but blocks of F has turned. -/
structure Kept (F : Nat → Prop) (w w' : World) : Prop where
  os : w'.os = w.os
  tape : w'.tape = w.tape
  output : w'.output = w.output
  size : w.heap.size ≤ w'.heap.size
  block : ∀ k, k < w.heap.size → ¬ F k → w'.heap[k]? = w.heap[k]?

theorem Kept.refl (F : Nat → Prop) (w : World) : Kept F w w := ⟨rfl, rfl, rfl, Nat.le_refl _, fun _ _ _ => rfl⟩

theorem Kept.trans {F F' : Nat → Prop} {w w' w'' : World} (h : Kept F w w') (h' : Kept F' w' w'') (hF : ∀ k, F' k → F k ∨ w.heap.size ≤ k) : Kept F w w'' :=
  ⟨h'.os.trans h.os, h'.tape.trans h.tape, h'.output.trans h.output, Nat.le_trans h.size h'.size, fun k hk hn => by
    have h1 := h.size
    rw [h'.block k (by omega) (fun hk' => by rcases hF k hk' with h2 | h2; exact hn h2; omega), h.block k hk hn]⟩

theorem Kept.mono {F F' : Nat → Prop} {w w' : World} (h : Kept F w w') (hF : ∀ k, F k → F' k) : Kept F' w w' :=
  ⟨h.os, h.tape, h.output, h.size, fun k hk hn => h.block k hk (fun hk' => hn (hF k hk'))⟩

theorem Kept.of_grown {F : Nat → Prop} {w w' : World} {row : Option Nat} (h : w.grownBy w' row) (hr : ∀ k, row = some k → F k) : Kept F w w' :=
  ⟨h.os, h.tape, h.output, h.size, fun k hk hn => h.block k hk (fun e => hn (hr k e.symm))⟩

theorem Kept.alloc {F : Nat → Prop} {a w : World} (h : Kept F a w) (o : Obj) : Kept F a (w.alloc o) :=
  h.trans (F' := fun _ => False) ⟨rfl, rfl, rfl, by simp, fun k hk _ => Below.heap_alloc _ _ _ hk⟩ (fun k hk => hk.elim)

theorem Kept.drew {F : Nat → Prop} {a w : World} (h : Kept F a w) : Kept F a w.drew := ⟨h.os, h.tape, h.output, h.size, h.block⟩

theorem Kept.setCell {F : Nat → Prop} {a w : World} (h : Kept F a w) (p : Addr) (u : Value) (hp : F p.block ∨ a.heap.size ≤ p.block) : Kept F a (w.setCell p u) :=
  h.trans (F' := fun k => k = p.block) ⟨rfl, rfl, rfl, by simp [World.setCell], fun k hk hn => Below.heap_setCell _ _ _ _ hn⟩ (fun k hk => by subst hk; exact hp)

theorem Kept.setRow {F : Nat → Prop} {a w : World} (h : Kept F a w) (g : Nat) (cs : Array Value) (hp : F g ∨ a.heap.size ≤ g) : Kept F a (w.setRow g cs) :=
  h.trans (F' := fun k => k = g) ⟨rfl, rfl, rfl, by simp [World.setRow], fun k hk hn => setRow_other w g k cs hn⟩ (fun k hk => by subst hk; exact hp)

theorem Kept.below {F : Nat → Prop} {w w' : World} {B : Nat} (h : Kept F w w') (hB : B ≤ w.heap.size) (hF : ∀ k, F k → B ≤ k) : Below B w w' :=
  ⟨h.os, h.tape, h.output, h.size, fun k hk => h.block k (by omega) (fun hk' => by have := hF k hk'; omega)⟩

theorem kept_of_below {w w' : World} (h : Below w.heap.size w w') (F : Nat → Prop) : Kept F w w' :=
  ⟨h.os, h.tape, h.output, h.size, fun k hk _ => h.block k hk⟩

theorem Kept.cell {F : Nat → Prop} {w w' : World} (h : Kept F w w') {p : Addr} {v : Value} (hv : w.cell? p = some v) (hp : ¬ F p.block) : w'.cell? p = some v :=
  (World.cell?_of_block (w := w) (h.block p.block (World.block_lt_of_cell? _ _ hv) hp)).trans hv

/-- A slice of bytes that doesn't lie in F is read as it was. -/
theorem Kept.rd {F : Nat → Prop} {w w' : World} (h : Kept F w w') {a : Option Addr} {len cap : Nat} {bs : List Int} (r : Rd w a len cap bs) (hs : 0 < len → ∀ x, a = some x → ¬ F x.block) : Rd w' a len cap bs :=
  ⟨r.length, r.le, r.max, r.bytes, r.nil, fun x hx i hi => by
    have h1 := r.cell x hx i hi
    refine h.cell h1 ?_
    have e : (x.add i).block = x.block := by unfold Addr.add; split <;> rfl
    rw [e]; exact hs (by omega) x hx⟩

/-- Where blocks F were a memory's, F' are. -/
def Went (F : Nat → Prop) (w : World) (F' : Nat → Prop) (w' : World) : Prop := Kept F w w' ∧ ∀ k, F' k → F k ∨ w.heap.size ≤ k

theorem Went.refl (F : Nat → Prop) (w : World) : Went F w F w := ⟨Kept.refl _ _, fun _ h => Or.inl h⟩
theorem Went.trans {F F' F'' : Nat → Prop} {w w' w'' : World} (h : Went F w F' w') (h' : Went F' w' F'' w'') : Went F w F'' w'' :=
  ⟨h.1.trans h'.1 h.2, fun k hk => by
    rcases h'.2 k hk with h1 | h1
    · exact h.2 k h1
    · have := h.1.size; right; omega⟩

theorem Went.below {F F' : Nat → Prop} {w w' : World} {B : Nat} (h : Went F w F' w') (hB : B ≤ w.heap.size) (hF : ∀ k, F k → B ≤ k) : Below B w w' ∧ (∀ k, F' k → B ≤ k) :=
  ⟨h.1.below hB hF, fun k hk => by
    rcases h.2 k hk with h1 | h1
    · exact hF k h1
    · omega⟩

/-! ### Things of the call's own, apart from one another -/

/-- What blocks F of a world hold (and what lies below B) lasts while others turn. -/
structure Stays (B : Nat) (P : World → (Nat → Prop) → Prop) : Prop where
  kept : ∀ {w w' : World} {F G : Nat → Prop}, P w F → Kept G w w' → (∀ k, F k → ¬ G k) → (∀ k, G k → B ≤ k) → P w' F
  flt : ∀ {w : World} {F : Nat → Prop}, P w F → ∀ k, F k → k < w.heap.size

/-- Things side by side, in blocks apart. -/
def Stars : List (World → (Nat → Prop) → Prop) → World → (Nat → Prop) → Prop
  | [], _, F => ∀ k, ¬ F k
  | P :: l, w, F => ∃ F1 F2, P w F1 ∧ Stars l w F2 ∧ (∀ k, F1 k → ¬ F2 k) ∧ ∀ k, F k ↔ F1 k ∨ F2 k

theorem Stars.swap {w : World} {F : Nat → Prop} {P Q : World → (Nat → Prop) → Prop} {l : List (World → (Nat → Prop) → Prop)} (h : Stars (P :: Q :: l) w F) : Stars (Q :: P :: l) w F := by
  obtain ⟨F1, F2, h1, ⟨G1, G2, g1, g2, g3, g4⟩, h3, h4⟩ := h
  refine ⟨G1, fun k => F1 k ∨ G2 k, g1, ⟨F1, G2, h1, g2, fun k hf hg => h3 k hf ((g4 k).2 (Or.inr hg)), fun k => Iff.rfl⟩, fun k hk hf => ?_, fun k => ?_⟩
  · rcases hf with hf | hf
    · exact h3 k hf ((g4 k).2 (Or.inl hk))
    · exact g3 k hk hf
  · rw [h4, g4]
    constructor
    · rintro (h | h | h)
      · exact Or.inr (Or.inl h)
      · exact Or.inl h
      · exact Or.inr (Or.inr h)
    · rintro (h | h | h)
      · exact Or.inr (Or.inl h)
      · exact Or.inl h
      · exact Or.inr (Or.inr h)

theorem Stars.perm {w : World} {l l' : List (World → (Nat → Prop) → Prop)} (hp : l.Perm l') : ∀ {F : Nat → Prop}, Stars l w F → Stars l' w F := by
  induction hp with
  | nil => exact fun h => h
  | cons x _ ih =>
    rintro F ⟨F1, F2, h1, h2, h3⟩
    exact ⟨F1, F2, h1, ih h2, h3⟩
  | swap x y l => exact fun h => Stars.swap h
  | trans _ _ ih1 ih2 => exact fun h => ih2 (ih1 h)

def AllStay (B : Nat) (l : List (World → (Nat → Prop) → Prop)) : Prop := ∀ P ∈ l, Stays B P

theorem AllStay.nil (B : Nat) : AllStay B [] := fun _ h => by cases h
theorem AllStay.cons {B : Nat} {P : World → (Nat → Prop) → Prop} {l : List (World → (Nat → Prop) → Prop)} (h : Stays B P) (hl : AllStay B l) : AllStay B (P :: l) := fun Q hq => by
  rcases List.mem_cons.1 hq with rfl | hq
  · exact h
  · exact hl Q hq

theorem Stars.flt {B : Nat} {w : World} : ∀ {l : List (World → (Nat → Prop) → Prop)} {F : Nat → Prop}, AllStay B l → Stars l w F → ∀ k, F k → k < w.heap.size
  | [], F, _, h, k, hk => (h k hk).elim
  | P :: l, F, hs, ⟨F1, F2, h1, h2, h3, h4⟩, k, hk => by
    rcases (h4 k).1 hk with hk | hk
    · exact (hs P (List.mem_cons_self ..)).flt h1 k hk
    · exact Stars.flt (fun Q hq => hs Q (List.mem_cons_of_mem _ hq)) h2 k hk

theorem Stars.kept {B : Nat} {w w' : World} {G : Nat → Prop} (hk : Kept G w w') (hG : ∀ k, G k → B ≤ k) : ∀ {l : List (World → (Nat → Prop) → Prop)} {F : Nat → Prop}, AllStay B l → Stars l w F → (∀ k, F k → ¬ G k) → Stars l w' F
  | [], F, _, h, _ => h
  | P :: l, F, hs, ⟨F1, F2, h1, h2, h3, h4⟩, hd =>
    ⟨F1, F2, (hs P (List.mem_cons_self ..)).kept h1 hk (fun k hf => hd k ((h4 k).2 (Or.inl hf))) hG,
      Stars.kept hk hG (fun Q hq => hs Q (List.mem_cons_of_mem _ hq)) h2 (fun k hf => hd k ((h4 k).2 (Or.inr hf))), h3, h4⟩

/-- The call, begun in w0, has these things of its own in w; what was there at the beginning is as it was. -/
structure Has (w0 w : World) (l : List (World → (Nat → Prop) → Prop)) : Prop where
  ex : ∃ F, Stars l w F ∧ ∀ k, F k → w0.heap.size ≤ k
  bel : Below w0.heap.size w0 w
  stay : AllStay w0.heap.size l

section
variable {w0 w w' : World} {P Q R : World → (Nat → Prop) → Prop} {l l' : List (World → (Nat → Prop) → Prop)}

theorem Has.start (h : Below w0.heap.size w0 w) : Has w0 w [] := ⟨⟨fun _ => False, fun _ h => h, fun _ h => h.elim⟩, h, AllStay.nil _⟩

theorem Has.perm (h : Has w0 w l) (hp : l.Perm l') : Has w0 w l' := by
  obtain ⟨F, h1, h2⟩ := h.ex
  exact ⟨⟨F, h1.perm hp, h2⟩, h.bel, fun P hP => h.stay P (hp.mem_iff.2 hP)⟩

theorem Has.swap (h : Has w0 w (P :: Q :: l)) : Has w0 w (Q :: P :: l) := h.perm (List.Perm.swap ..)
theorem Has.rot (h : Has w0 w (P :: Q :: R :: l)) : Has w0 w (Q :: R :: P :: l) := h.perm ((List.Perm.swap ..).trans (List.Perm.cons _ (List.Perm.swap ..)))
theorem Has.back (h : Has w0 w (P :: Q :: R :: l)) : Has w0 w (R :: P :: Q :: l) := h.perm ((List.Perm.cons _ (List.Perm.swap ..)).trans (List.Perm.swap ..))

theorem Has.drop (h : Has w0 w (P :: l)) : Has w0 w l := by
  obtain ⟨F, ⟨F1, F2, h1, h2, h3, h4⟩, h5⟩ := h.ex
  exact ⟨⟨F2, h2, fun k hk => h5 k ((h4 k).2 (Or.inr hk))⟩, h.bel, fun Q hQ => h.stay Q (List.mem_cons_of_mem _ hQ)⟩

/-- Nothing of what is there turns. -/
theorem Has.below (h : Has w0 w l) (hb : Below w.heap.size w w') : Has w0 w' l := by
  obtain ⟨F, h1, h2⟩ := h.ex
  exact ⟨⟨F, h1.kept (kept_of_below hb (fun _ => False)) (fun _ h => h.elim) h.stay (fun _ _ h => h), h2⟩, h.bel.trans (hb.mono h.bel.size), h.stay⟩
theorem Has.drew (h : Has w0 w l) : Has w0 w.drew l := h.below (Below.refl _ _).drew

/-- A new thing, in new blocks. -/
theorem Has.more (h : Has w0 w l) (hb : Below w.heap.size w w') {F : Nat → Prop} (hP : P w' F) (hF : ∀ k, F k → w.heap.size ≤ k) (hs : Stays w0.heap.size P) : Has w0 w' (P :: l) := by
  have h' := h.below hb
  obtain ⟨G, g1, g2⟩ := h.ex
  have g1' := g1.kept (kept_of_below hb (fun _ => False)) (fun _ h => h.elim) h.stay (fun _ _ h => h)
  refine ⟨⟨fun k => F k ∨ G k, ⟨F, G, hP, g1', fun k hf hg => ?_, fun k => Iff.rfl⟩, fun k hk => ?_⟩, h'.bel, AllStay.cons hs h.stay⟩
  · have := hF k hf
    have := g1.flt h.stay k hg
    omega
  · rcases hk with hk | hk
    · have := hF k hk
      have := h.bel.size
      omega
    · exact g2 k hk

/-- The first thing is opened; whatever then turns it alone leaves the others. -/
theorem Has.step (h : Has w0 w (P :: l)) : ∃ F, P w F ∧ (∀ k, F k → w0.heap.size ≤ k) ∧ ∀ (w' : World) (P' : World → (Nat → Prop) → Prop) (F' : Nat → Prop), P' w' F' → Went F w F' w' → Stays w0.heap.size P' → Has w0 w' (P' :: l) := by
  obtain ⟨F, ⟨F1, F2, h1, h2, h3, h4⟩, h5⟩ := h.ex
  have hl : AllStay w0.heap.size l := fun Q hQ => h.stay Q (List.mem_cons_of_mem _ hQ)
  have b1 : ∀ k, F1 k → w0.heap.size ≤ k := fun k hk => h5 k ((h4 k).2 (Or.inl hk))
  refine ⟨F1, h1, b1, fun w' P' F' hP' hw hs => ?_⟩
  have g := hw.below h.bel.size b1
  refine ⟨⟨fun k => F' k ∨ F2 k, ⟨F', F2, hP', h2.kept hw.1 b1 hl (fun k hf hg => h3 k hg hf), fun k hf hg => ?_, fun k => Iff.rfl⟩, fun k hk => ?_⟩, h.bel.trans g.1, AllStay.cons hs hl⟩
  · rcases hw.2 k hf with h6 | h6
    · exact h3 k h6 hg
    · have := h2.flt hl k hg
      omega
  · rcases hk with hk | hk
    · exact g.2 k hk
    · exact h5 k ((h4 k).2 (Or.inr hk))

end

end Go.Proofs.YtmmcnkdefpfkiaaDoor
