/- Environments side by side with other things of the call's own: each call of one leaves the others. -/
import Derived.Test.YtedbhdbjiicafaaEnvEvents
namespace Go.Proofs.Ytedbhdbjiicafaa
open Go.RowKit
set_option linter.unusedVariables false

/-- Bytes that are read. -/
def RdT (a : Option Addr) (len cap : Nat) (bs : List Int) (w : World) (F : Nat → Prop) : Prop := Rd w a len cap bs ∧ (0 < len → ∀ x, a = some x → F x.block) ∧ ∀ k, F k → k < w.heap.size

/-- Events that are read; what lies below B is never written. -/
def ArgT (B : Nat) (a : Option Addr) (len : Nat) (es : List Evt) (w : World) (F : Nat → Prop) : Prop :=
  Evs w a len es ∧ (0 < len → ∀ x, a = some x → F x.block ∨ x.block < B) ∧ (∀ x ∈ es, 0 < x.len → ∀ y, x.a = some y → F y.block ∨ y.block < B) ∧ ∀ k, F k → k < w.heap.size

/-- A row of bytes of the call's own. -/
def RowT (v : Value) (l : List Int) (w : World) (F : Nat → Prop) : Prop := RowB 0 w v l ∧ Bytes l ∧ (∀ g, v.ownBlock = some g → F g) ∧ ∀ k, F k → k < w.heap.size

theorem rd_stays (B : Nat) (a : Option Addr) (len cap : Nat) (bs : List Int) : Stays B (RdT a len cap bs) :=
  ⟨fun ⟨h1, h2, h3⟩ hk hd hG => ⟨hk.rd h1 (fun hl x hx => hd _ (h2 hl x hx)), h2, fun k hF => Nat.lt_of_lt_of_le (h3 k hF) hk.size⟩, fun ⟨h1, h2, h3⟩ => h3⟩
theorem arg_stays (B : Nat) (a : Option Addr) (len : Nat) (es : List Evt) : Stays B (ArgT B a len es) := by
  refine ⟨fun {w w' F G} ⟨h1, h2, h3, h4⟩ hk hd hG => ?_, fun ⟨h1, h2, h3, h4⟩ => h4⟩
  have off : ∀ k, (F k ∨ k < B) → ¬ G k := fun k hk hg => by
    rcases hk with h1 | h1
    · exact hd k h1 hg
    · have := hG k hg; omega
  exact ⟨h1.kept hk (fun hl x hx => off _ (h2 hl x hx)) (fun x hx hl y hy => off _ (h3 x hx hl y hy)), h2, h3, fun k hF => Nat.lt_of_lt_of_le (h4 k hF) hk.size⟩
theorem row_stays (B : Nat) (v : Value) (l : List Int) : Stays B (RowT v l) :=
  ⟨fun ⟨h1, h2, h3, h4⟩ hk hd hG => ⟨ownsRow_kept h1 (fun g hg => hk.block g (ownsRow_blk h1 g hg) (hd g (h3 g hg))), h2, h3, fun k hF => Nat.lt_of_lt_of_le (h4 k hF) hk.size⟩, fun ⟨h1, h2, h3, h4⟩ => h4⟩

section
variable {w0 w w' : World} {P Q : World → (Nat → Prop) → Prop} {l : List (World → (Nat → Prop) → Prop)} {m : Nat} {ins : List Int} {tr : List Says}

theorem Has.top (h : Has w0 w (P :: l)) : ∃ F, P w F := by
  obtain ⟨F, ⟨F1, F2, h1, _⟩, _⟩ := h.ex
  exact ⟨F1, h1⟩

theorem Has.rd {a : Option Addr} {len cap : Nat} {bs : List Int} (h : Has w0 w (RdT a len cap bs :: l)) : Rd w a len cap bs := by
  obtain ⟨F, h1⟩ := h.top
  exact h1.1

/-- The first thing turns, and another comes in new blocks. -/
theorem Has.step2 (h : Has w0 w (P :: l)) : ∃ F, P w F ∧ (∀ k, F k → w0.heap.size ≤ k) ∧ ∀ (w' : World) (P' Q : World → (Nat → Prop) → Prop) (F' G : Nat → Prop), P' w' F' → Went F w F' w' → Stays w0.heap.size P' → Q w' G → (∀ k, G k → w.heap.size ≤ k) → (∀ k, F' k → ¬ G k) → Stays w0.heap.size Q → Has w0 w' (P' :: Q :: l) := by
  obtain ⟨F, ⟨F1, F2, h1, h2, h3, h4⟩, h5⟩ := h.ex
  have hl : AllStay w0.heap.size l := fun Q hQ => h.stay Q (List.mem_cons_of_mem _ hQ)
  have b1 : ∀ k, F1 k → w0.heap.size ≤ k := fun k hk => h5 k ((h4 k).2 (Or.inl hk))
  refine ⟨F1, h1, b1, fun w' P' Q F' G hP' hw hs hQ hG hd hsQ => ?_⟩
  have g := hw.below h.bel.size b1
  have f2 := h2.flt hl
  refine ⟨⟨fun k => F' k ∨ (G k ∨ F2 k), ⟨F', fun k => G k ∨ F2 k, hP', ⟨G, F2, hQ, h2.kept hw.1 b1 hl (fun k hf hg => h3 k hg hf), fun k hg hf => ?_, fun k => Iff.rfl⟩, fun k hf hg => ?_, fun k => Iff.rfl⟩, fun k hk => ?_⟩, h.bel.trans g.1, AllStay.cons hs (AllStay.cons hsQ hl)⟩
  · have := hG k hg
    have := f2 k hf
    omega
  · rcases hg with hg | hg
    · exact hd k hf hg
    · rcases hw.2 k hf with h6 | h6
      · exact h3 k h6 hg
      · have := f2 k hg
        omega
  · rcases hk with hk | hk | hk
    · exact g.2 k hk
    · have := hG k hk
      have := h.bel.size
      omega
    · exact h5 k ((h4 k).2 (Or.inr hk))

/-- The first two things are opened; whatever turns the first alone leaves the others. -/
theorem Has.open2 (h : Has w0 w (P :: Q :: l)) : ∃ F G, P w F ∧ Q w G ∧ (∀ k, F k → ¬ G k) ∧ (∀ k, F k → w0.heap.size ≤ k) ∧ ∀ (w' : World) (P' : World → (Nat → Prop) → Prop) (F' : Nat → Prop), P' w' F' → Went F w F' w' → Stays w0.heap.size P' → Has w0 w' (P' :: Q :: l) := by
  obtain ⟨F, ⟨F1, F2, h1, h2, h3, h4⟩, h5⟩ := h.ex
  have hl : AllStay w0.heap.size (Q :: l) := fun Q hQ => h.stay Q (List.mem_cons_of_mem _ hQ)
  have b1 : ∀ k, F1 k → w0.heap.size ≤ k := fun k hk => h5 k ((h4 k).2 (Or.inl hk))
  obtain ⟨G1, G2, g1, g2, g3, g4⟩ := id h2
  refine ⟨F1, G1, h1, g1, fun k hf hg => h3 k hf ((g4 k).2 (Or.inl hg)), b1, fun w' P' F' hP' hw hs => ?_⟩
  have g := hw.below h.bel.size b1
  refine ⟨⟨fun k => F' k ∨ F2 k, ⟨F', F2, hP', h2.kept hw.1 b1 hl (fun k hf hg => h3 k hg hf), fun k hf hg => ?_, fun k => Iff.rfl⟩, fun k hk => ?_⟩, h.bel.trans g.1, AllStay.cons hs hl⟩
  · rcases hw.2 k hf with h6 | h6
    · exact h3 k h6 hg
    · have := h2.flt hl k hg
      omega
  · rcases hk with hk | hk
    · exact g.2 k hk
    · exact h5 k ((h4 k).2 (Or.inr hk))

theorem has_new (h : Has w0 w l) {a : Option Addr} {len cap : Nat} {bs : List Int} (r : Rd w a len cap bs) (hb : len ≤ 140737488355328) :
    Calls Try.prog 7 #[.slice a len cap] w fun e w' => ∃ m, e = .returned (.pointer (some ⟨m, 0, none⟩)) ∧ Has w0 w' (EV w0.heap.size 46 m bs [] :: l) := by
  refine (new_any w0.heap.size a len cap bs w r hb).mono ?_
  rintro e w' ⟨m, F, he, hE, hF, hbl⟩
  exact ⟨m, he, h.more hbl hE hF (ev_stays _ _ _ _ _)⟩

theorem has_take (h : Has w0 w (EV w0.heap.size 46 m ins tr :: l)) (n : Int) (hl : ins.length ≤ 140737488355328) :
    Calls Try.prog 9 #[.pointer (some ⟨m, 0, none⟩), .int .i64 n] w fun e w' => ∃ a' c', e = .returned (.slice a' (ins.take n.toNat).length c') ∧ Has w0 w' (EV w0.heap.size 46 m (ins.drop n.toNat) tr :: RdT a' (ins.take n.toNat).length c' (ins.take n.toNat) :: l) := by
  obtain ⟨F, h1, h2, h3⟩ := h.step2
  refine (take_any w0.heap.size m ins tr w F n h1 hl).mono ?_
  rintro e w' ⟨a', c', he, hr, hn, hE, hK⟩
  have hf := (ev_stays w0.heap.size 46 m ins tr).flt h1
  exact ⟨a', c', he, h3 w' _ _ F (fun k => 0 < (ins.take n.toNat).length ∧ ∃ x, a' = some x ∧ k = x.block) hE ⟨hK, fun k hk => Or.inl hk⟩ (ev_stays _ _ _ _ _) ⟨hr, fun hl x hx => ⟨hl, x, hx, rfl⟩, fun k ⟨hl, x, hx, e⟩ => e ▸ hr.blk hl x hx⟩ (fun k ⟨hl, x, hx, e⟩ => e ▸ hn x hx) (fun k hk ⟨hl, x, hx, e⟩ => by have := hf k hk; have := hn x hx; omega) (rd_stays _ _ _ _ _)⟩

theorem has_rtake (h : Has w0 w (EV w0.heap.size 30 m ins tr :: l)) (n : Int) (hl : ins.length ≤ 140737488355328) :
    Calls Try.prog 10 #[.pointer (some ⟨m, 0, none⟩), .int .i64 n] w fun e w' => ∃ a' c', e = .returned (.slice a' (ins.take n.toNat).length c') ∧ Has w0 w' (EV w0.heap.size 30 m (ins.drop n.toNat) tr :: RdT a' (ins.take n.toNat).length c' (ins.take n.toNat) :: l) := by
  obtain ⟨F, h1, h2, h3⟩ := h.step2
  refine (rtake_any w0.heap.size m ins tr w F n h1 hl).mono ?_
  rintro e w' ⟨a', c', he, hr, hn, hE, hK⟩
  have hf := (ev_stays w0.heap.size 30 m ins tr).flt h1
  exact ⟨a', c', he, h3 w' _ _ F (fun k => 0 < (ins.take n.toNat).length ∧ ∃ x, a' = some x ∧ k = x.block) hE ⟨hK, fun k hk => Or.inl hk⟩ (ev_stays _ _ _ _ _) ⟨hr, fun hl x hx => ⟨hl, x, hx, rfl⟩, fun k ⟨hl, x, hx, e⟩ => e ▸ hr.blk hl x hx⟩ (fun k ⟨hl, x, hx, e⟩ => e ▸ hn x hx) (fun k hk ⟨hl, x, hx, e⟩ => by have := hf k hk; have := hn x hx; omega) (rd_stays _ _ _ _ _)⟩

theorem has_left (h : Has w0 w (EV w0.heap.size 46 m ins tr :: l)) : Calls Try.prog 11 #[.pointer (some ⟨m, 0, none⟩)] w fun e w' => e = .returned (.int .i64 (ins.length : Int)) ∧ w' = w := by
  obtain ⟨F, h1⟩ := h.top
  exact left_any _ _ m ins tr w F h1

theorem has_note {a : Option Addr} {len cap : Nat} {es : List Evt} (h : Has w0 w (EV w0.heap.size 46 m ins tr :: ArgT w0.heap.size a len es :: l)) (hs : ∀ x ∈ es, x.len ≤ 140737488355328) (hn : tr.length + len ≤ 1000000) :
    Calls Try.prog 8 #[.pointer (some ⟨m, 0, none⟩), .slice a len cap] w fun e w' => e = .returned (.tuple #[]) ∧ Has w0 w' (EV w0.heap.size 46 m ins (tr ++ es.map Evt.says) :: ArgT w0.heap.size a len es :: l) := by
  obtain ⟨F, G, h1, ⟨g1, g2, g3, g4⟩, h3, h4, h5⟩ := h.open2
  have off : ∀ k, (G k ∨ k < w0.heap.size) → ¬ F k := fun k hk hf => by
    rcases hk with h6 | h6
    · exact h3 k hf h6
    · have := h4 k hf; omega
  refine (note_any w0.heap.size m ins tr w F a len cap es h1 g1 (fun hl x hx => off _ (g2 hl x hx)) (fun x hx hl y hy => off _ (g3 x hx hl y hy)) hs hn).mono ?_
  rintro e w' ⟨he, F', hE, hW⟩
  exact ⟨he, h5 w' _ F' hE hW (ev_stays _ _ _ _ _)⟩

theorem has_trace (h : Has w0 w (EV w0.heap.size 46 m ins tr :: l)) (hs : ∀ s ∈ tr, s.bs.length ≤ 140737488355328) (hn : tr.length ≤ 1000000) :
    Calls Try.prog 13 #[.pointer (some ⟨m, 0, none⟩)] w fun e w' => ∃ a c es, e = .returned (.slice a tr.length c) ∧ Evs w' a tr.length es ∧ es.map Evt.says = tr ∧ Below w.heap.size w w' := by
  obtain ⟨F, h1⟩ := h.top
  exact trace_any _ m ins tr w F h1 hs hn

theorem has_output (h : Has w0 w (EV w0.heap.size 46 m ins tr :: l)) (fd : Int) (hn : tr.length ≤ 1000000) (ho : (outOf fd tr).length ≤ 140737488355328) :
    Calls Try.prog 14 #[.pointer (some ⟨m, 0, none⟩), .int .i64 fd] w fun e w' => ∃ a l c, e = .returned (.slice a l c) ∧ Rd w' a l c (outOf fd tr) ∧ Below w.heap.size w w' := by
  obtain ⟨F, h1⟩ := h.top
  exact output_any _ m ins tr w F fd h1 hn ho

theorem has_routput (h : Has w0 w (EV w0.heap.size 30 m ins tr :: l)) (fd : Int) (hn : tr.length ≤ 1000000) (ho : (outOf fd tr).length ≤ 140737488355328) :
    Calls Try.prog 15 #[.pointer (some ⟨m, 0, none⟩), .int .i64 fd] w fun e w' => ∃ a l c, e = .returned (.slice a l c) ∧ Rd w' a l c (outOf fd tr) ∧ Below w.heap.size w w' := by
  obtain ⟨F, h1⟩ := h.top
  exact routput_any _ m ins tr w F fd h1 hn ho

/-- An event that was laid in a block of its own, its bytes older than the call or in another new block. -/
theorem Has.arg1 (h : Has w0 w l) (hb : Below w.heap.size w w') {X : Nat} {x : Evt} {t : TypeId} (hX : w.heap.size ≤ X) (hc : w'.heap[X]? = some (.cells #[.int .i64 x.kind, .int .i64 x.fd, .slice x.a x.len x.cap, .int .i64 x.n] t (0, 0))) (hx : x.Ok w')
    (hy : 0 < x.len → ∀ y, x.a = some y → w.heap.size ≤ y.block ∨ y.block < w0.heap.size) : Has w0 w' (ArgT w0.heap.size (some ⟨X, 0, none⟩) 1 [x] :: l) := by
  have hxl : X < w'.heap.size := (Array.getElem?_eq_some_iff.1 hc).1
  refine h.more (F := fun k => k = X ∨ (w.heap.size ≤ k ∧ k < w'.heap.size)) hb ⟨⟨rfl, by omega, fun z hz => ?_, fun i z hz => ⟨X, 0, rfl, fun j hj => ?_⟩⟩, fun _ z hz => Or.inl (Or.inl ?_), fun z hz hl y hyz => ?_, fun k hk => ?_⟩ (fun k hk => ?_) (arg_stays _ _ _ _)
  · obtain rfl : z = x := by simpa using hz
    exact hx
  · obtain ⟨rfl, rfl⟩ : i = 0 ∧ z = x := by
      cases i with
      | zero => exact ⟨rfl, by simpa using hz.symm⟩
      | succ i => simp at hz
    rw [cell_of_row _ _ _ _ _ _ hc]
    simp [Evt.cells]
  · cases hz
    rfl
  · obtain rfl : z = x := by simpa using hz
    rcases hy hl y hyz with h1 | h1
    · exact Or.inl (Or.inr ⟨h1, hx.b.blk hl y hyz⟩)
    · exact Or.inr h1
  · rcases hk with rfl | hk
    · exact hxl
    · exact hk.2
  · rcases hk with rfl | hk
    · exact hX
    · exact hk.1

end

end Go.Proofs.Ytedbhdbjiicafaa
