/- The two memories and one block more that neither is. -/
import Derived.Test.YtggmeopohpbmlaaMemAct
namespace Go.Proofs.Ytggmeopohpbmlaa
open Go.RowKit Go.Maps
set_option linter.unusedVariables false

/-- The two memories of the call's own, and block X, which is o. -/
def BoX (w0 w : World) (m m2 : Nat) (S T : Mm) (X : Nat) (o : Obj) : Prop :=
  ∃ F G, PM w m S F ∧ RM w m2 T G ∧ (∀ k, F k → w0.heap.size ≤ k) ∧ (∀ k, G k → w0.heap.size ≤ k) ∧ (∀ k, F k → ¬ G k) ∧ Below w0.heap.size w0 w ∧ ¬ F X ∧ ¬ G X ∧ w.heap[X]? = some o

section
variable {w0 w w' : World} {m m2 : Nat} {S T : Mm} {X : Nat} {o : Obj}

theorem Bo.with (h : Bo w0 w m m2 S T) (o : Obj) (ho : ∀ cs t f, o = .cells cs t f → f = (0, 0)) : BoX w0 (w.alloc o) m m2 S T w.heap.size o := by
  obtain ⟨F, G, h1, h2, h3, h4, h5, h6⟩ := h
  have hb : Below w.heap.size w (w.alloc o) := (Below.refl _ _).alloc (Nat.le_refl _) _
  refine ⟨F, G, h1.below hb, h2.below hb, h3, h4, h5, h6.trans (hb.mono h6.size), fun hf => ?_, fun hg => ?_, MapKept.heap_alloc w o |>.1⟩
  · have := h1.flt _ hf; omega
  · have := h2.flt _ hg; omega

theorem BoX.bo (h : BoX w0 w m m2 S T X o) : Bo w0 w m m2 S T := by
  obtain ⟨F, G, h1, h2, h3, h4, h5, h6, _⟩ := h
  exact ⟨F, G, h1, h2, h3, h4, h5, h6⟩
theorem BoX.bel (h : BoX w0 w m m2 S T X o) : Below w0.heap.size w0 w := h.bo.bel
theorem BoX.blk (h : BoX w0 w m m2 S T X o) : w.heap[X]? = some o := by
  obtain ⟨F, G, h1, h2, h3, h4, h5, h6, h7, h8, h9⟩ := h
  exact h9
theorem BoX.drew (h : BoX w0 w m m2 S T X o) : BoX w0 w.drew m m2 S T X o := by
  obtain ⟨F, G, h1, h2, h3, h4, h5, h6, h7, h8, h9⟩ := h
  have hb : Below w.heap.size w w.drew := (Below.refl _ _).drew
  exact ⟨F, G, h1.below hb, h2.below hb, h3, h4, h5, h6.drew, h7, h8, h9⟩
theorem BoX.below (h : BoX w0 w m m2 S T X o) (hb : Below w.heap.size w w') : BoX w0 w' m m2 S T X o := by
  obtain ⟨F, G, h1, h2, h3, h4, h5, h6, h7, h8, h9⟩ := h
  exact ⟨F, G, h1.below hb, h2.below hb, h3, h4, h5, h6.trans (hb.mono h6.size), h7, h8, (hb.block X (Array.getElem?_eq_some_iff.1 h9).1).trans h9⟩

theorem BoX.left {S' : Mm} (h : BoX w0 w m m2 S T X o) (f : Nat) (args : Array Value) (R : Ending → Prop)
    (hc : ∀ F, PM w m S F → (∀ k, F k → w0.heap.size ≤ k) → Calls Try.prog f args w fun e w' => R e ∧ ∃ F', PM w' m S' F' ∧ Went F w F' w') :
    Calls Try.prog f args w fun e w' => R e ∧ BoX w0 w' m m2 S' T X o := by
  obtain ⟨F, G, h1, h2, h3, h4, h5, h6, h7, h8, h9⟩ := h
  refine (hc F h1 h3).mono ?_
  rintro e w' ⟨he, F', g1, g2⟩
  have g3 := g2.below h6.size h3
  have hx := (Array.getElem?_eq_some_iff.1 h9).1
  refine ⟨he, F', G, g1, h2.kept g2.1 (fun k hg hf => h5 k hf hg), g3.2, h4, fun k hf hg => ?_, h6.trans g3.1, fun hf => ?_, h8, (g2.1.block X hx h7).trans h9⟩
  · rcases g2.2 k hf with g4 | g4
    · exact h5 k g4 hg
    · have := h2.flt k hg; omega
  · rcases g2.2 X hf with g4 | g4
    · exact h7 g4
    · omega

theorem BoX.right {T' : Mm} (h : BoX w0 w m m2 S T X o) (f : Nat) (args : Array Value) (R : Ending → Prop)
    (hc : ∀ G, RM w m2 T G → (∀ k, G k → w0.heap.size ≤ k) → Calls Try.prog f args w fun e w' => R e ∧ ∃ G', RM w' m2 T' G' ∧ Went G w G' w') :
    Calls Try.prog f args w fun e w' => R e ∧ BoX w0 w' m m2 S T' X o := by
  obtain ⟨F, G, h1, h2, h3, h4, h5, h6, h7, h8, h9⟩ := h
  refine (hc G h2 h4).mono ?_
  rintro e w' ⟨he, G', g1, g2⟩
  have g3 := g2.below h6.size h4
  have hx := (Array.getElem?_eq_some_iff.1 h9).1
  refine ⟨he, F, G', h1.kept g2.1 (fun k hf hg => h5 k hf hg), g1, h3, g3.2, fun k hf hg => ?_, h6.trans g3.1, h7, fun hg => ?_, (g2.1.block X hx h8).trans h9⟩
  · rcases g2.2 k hg with g4 | g4
    · exact h5 k hf g4
    · have := h1.flt k hf; omega
  · rcases g2.2 X hg with g4 | g4
    · exact h8 g4
    · omega

theorem bx_map (h : BoX w0 w m m2 S T X o) (a0 size : Nat) (p : Int) {a : Option Addr} {len cap : Nat} {bs : List Int} (r : Rd w0 a len cap bs) (ha : a0 ≤ 18446744073709551615) (hs : size ≤ 18446744073709551615) (hp0 : -9223372036854775808 ≤ p) (hp1 : p ≤ 9223372036854775807) :
    Calls Try.prog 12 #[.pointer (some ⟨m, 0, none⟩), .int .u64 (a0 : Int), .int .u64 (size : Int), .int .i64 p, .slice a len cap] w fun e w' =>
      e = .returned (.int .i64 (mapE S a0 size p len)) ∧ BoX w0 w' m m2 (mappedTo S a0 size p bs) T X o :=
  have hb := h.bel
  h.left _ _ (fun e => e = .returned (.int .i64 (mapE S a0 size p len))) (fun F h1 h2 => map_any m S F a0 size p a len cap bs w h1 ha hs hp0 hp1 (r.below hb) (arg_off r h2))
theorem bx_rmap (h : BoX w0 w m m2 S T X o) (a0 size : Nat) (p : Int) {a : Option Addr} {len cap : Nat} {bs : List Int} (r : Rd w0 a len cap bs) (ha : a0 ≤ 18446744073709551615) (hs : size ≤ 18446744073709551615) (hp0 : -9223372036854775808 ≤ p) (hp1 : p ≤ 9223372036854775807) :
    Calls Try.prog 13 #[.pointer (some ⟨m2, 0, none⟩), .int .u64 (a0 : Int), .int .u64 (size : Int), .int .i64 p, .slice a len cap] w fun e w' =>
      e = .returned (.int .i64 (mapE T a0 size p len)) ∧ BoX w0 w' m m2 S (mappedTo T a0 size p bs) X o :=
  have hb := h.bel
  h.right _ _ (fun e => e = .returned (.int .i64 (mapE T a0 size p len))) (fun F h1 h2 => rmap_any m2 T F a0 size p a len cap bs w h1 ha hs hp0 hp1 (r.below hb) (arg_off r h2))
theorem bx_store (h : BoX w0 w m m2 S T X o) (a : Nat) (n v : Int) (ha : a ≤ 18446744073709551615) (hn0 : -9223372036854775808 ≤ n) (hn1 : n ≤ 9223372036854775807) (hv0 : 0 ≤ v) (hv1 : v ≤ 18446744073709551615) :
    Calls Try.prog 16 #[.pointer (some ⟨m, 0, none⟩), .int .u64 (a : Int), .int .i64 n, .int .u64 v] w fun e w' =>
      e = .returned (.bool (numOk S a n 2)) ∧ BoX w0 w' m m2 (stored S a n v) T X o :=
  h.left _ _ (fun e => e = .returned (.bool (numOk S a n 2))) (fun F h1 h2 => store_any m S F a n v w h1 ha hn0 hn1 hv0 hv1)
theorem bx_rstore (h : BoX w0 w m m2 S T X o) (a : Nat) (n v : Int) (ha : a ≤ 18446744073709551615) (hn0 : -9223372036854775808 ≤ n) (hn1 : n ≤ 9223372036854775807) (hv0 : 0 ≤ v) (hv1 : v ≤ 18446744073709551615) :
    Calls Try.prog 17 #[.pointer (some ⟨m2, 0, none⟩), .int .u64 (a : Int), .int .i64 n, .int .u64 v] w fun e w' =>
      e = .returned (.bool (numOk T a n 2)) ∧ BoX w0 w' m m2 S (stored T a n v) X o :=
  h.right _ _ (fun e => e = .returned (.bool (numOk T a n 2))) (fun F h1 h2 => (rstore_any m2 T F a n v w h1 ha hn0 hn1 hv0 hv1).mono fun e w' ⟨h3, h4, h5⟩ => ⟨h3, F, h4, h5, fun k hk => Or.inl hk⟩)
theorem bx_write (h : BoX w0 w m m2 S T X o) (a0 : Nat) {a : Option Addr} {len cap : Nat} {bs : List Int} (r : Rd w0 a len cap bs) (ha : a0 ≤ 18446744073709551615) :
    Calls Try.prog 22 #[.pointer (some ⟨m, 0, none⟩), .int .u64 (a0 : Int), .slice a len cap] w fun e w' =>
      e = .returned (.bool (manyOk S a0 len 2)) ∧ BoX w0 w' m m2 (if manyOk S a0 len 2 = true then S.lay a0 bs else S) T X o :=
  have hb := h.bel
  h.left _ _ (fun e => e = .returned (.bool (manyOk S a0 len 2))) (fun F h1 h2 => write_any m S F a0 a len cap bs w h1 ha (r.below hb) (arg_off r h2))
theorem bx_rwrite (h : BoX w0 w m m2 S T X o) (a0 : Nat) {a : Option Addr} {len cap : Nat} {bs : List Int} (r : Rd w0 a len cap bs) (ha : a0 ≤ 18446744073709551615) :
    Calls Try.prog 23 #[.pointer (some ⟨m2, 0, none⟩), .int .u64 (a0 : Int), .slice a len cap] w fun e w' =>
      e = .returned (.bool (manyOk T a0 len 2)) ∧ BoX w0 w' m m2 S (if manyOk T a0 len 2 = true then T.lay a0 bs else T) X o :=
  have hb := h.bel
  h.right _ _ (fun e => e = .returned (.bool (manyOk T a0 len 2))) (fun F h1 h2 => (rwrite_any m2 T F a0 a len cap bs w h1 ha (r.below hb) (arg_off r h2)).mono fun e w' ⟨h3, h4, h5⟩ => ⟨h3, F, h4, h5, fun k hk => Or.inl hk⟩)
theorem bx_load (h : BoX w0 w m m2 S T X o) (a : Nat) (n : Int) (ha : a ≤ 18446744073709551615) (hn0 : -9223372036854775808 ≤ n) (hn1 : n ≤ 9223372036854775807) :
    Calls Try.prog 14 #[.pointer (some ⟨m, 0, none⟩), .int .u64 (a : Int), .int .i64 n] w fun e w' =>
      e = .returned (.tuple #[.int .u64 (loadV S a n), .bool (numOk S a n 4)]) ∧ BoX w0 w' m m2 S T X o := by
  obtain ⟨F, G, h1, h2⟩ := h
  exact (load_any m S F a n w h1 ha hn0 hn1).mono fun e w' ⟨h3, h4⟩ => ⟨h3, BoX.below ⟨F, G, h1, h2⟩ h4⟩
theorem bx_fetch (h : BoX w0 w m m2 S T X o) (a : Nat) (ha : a ≤ 18446744073709551615) :
    Calls Try.prog 18 #[.pointer (some ⟨m, 0, none⟩), .int .u64 (a : Int)] w fun e w' =>
      e = .returned (.tuple #[.int .u32 (fetchV S a), .bool (mayB S a 4 1)]) ∧ BoX w0 w' m m2 S T X o := by
  obtain ⟨F, G, h1, h2⟩ := h
  exact (fetch_any m S F a w h1 ha).mono fun e w' ⟨h3, h4⟩ => ⟨h3, BoX.below ⟨F, G, h1, h2⟩ h4⟩
theorem bx_read (h : BoX w0 w m m2 S T X o) (a n : Nat) (ha : a ≤ 18446744073709551615) (hn : n ≤ 18446744073709551615) :
    Calls Try.prog 20 #[.pointer (some ⟨m, 0, none⟩), .int .u64 (a : Int), .int .u64 (n : Int)] w fun e w' =>
      (∃ b l c, e = .returned (.tuple #[.slice b l c, .bool (manyOk S a n 4)]) ∧ Rd w' b l c (if manyOk S a n 4 = true then S.read a n else [])) ∧ BoX w0 w' m m2 S T X o := by
  obtain ⟨F, G, h1, h2⟩ := h
  exact (read_rd' m S F a n w h1 ha hn).mono fun e w' ⟨h3, h4⟩ => ⟨h3, BoX.below ⟨F, G, h1, h2⟩ h4⟩
theorem bx_rread (h : BoX w0 w m m2 S T X o) (a n : Nat) (ha : a ≤ 18446744073709551615) (hn : n ≤ 18446744073709551615) :
    Calls Try.prog 21 #[.pointer (some ⟨m2, 0, none⟩), .int .u64 (a : Int), .int .u64 (n : Int)] w fun e w' =>
      (∃ b l c, e = .returned (.tuple #[.slice b l c, .bool (manyOk T a n 4)]) ∧ Rd w' b l c (if manyOk T a n 4 = true then T.read a n else [])) ∧ Below w.heap.size w w' ∧ BoX w0 w' m m2 S T X o := by
  obtain ⟨F, G, h1, h2, h3⟩ := h
  exact (rread_any m2 T G a n w h2 ha hn).mono fun e w' ⟨h4, h5⟩ => ⟨h4, h5, BoX.below ⟨F, G, h1, h2, h3⟩ h5⟩

/-- The cells of the act that the round holds. -/
structure ActX (w : World) (X : Nat) (x : Acts) : Prop where
  c0 : w.cell? ⟨X, 0, none⟩ = some (.int .u8 (x.wh : Int))
  c1 : w.cell? ⟨X, 1, none⟩ = some (.int .u8 (x.pm : Int))
  c2 : w.cell? ⟨X, 2, none⟩ = some (.int .u8 (x.nn : Int))
  c3 : w.cell? ⟨X, 3, none⟩ = some (.int .u16 (x.pg : Int))
  c4 : w.cell? ⟨X, 4, none⟩ = some (.int .u16 (x.off : Int))
  c5 : w.cell? ⟨X, 5, none⟩ = some (.int .u64 (x.v : Int))
  c6 : w.cell? ⟨X, 6, none⟩ = some (.slice x.a x.len x.cap)
  c7 : w.cell? ⟨X, 7, none⟩ = some (.bool x.raw)
  c8 : w.cell? ⟨X, 8, none⟩ = some (.int .u64 (x.at' : Int))

theorem actX_of {x : Acts} {t : TypeId} (h : w.heap[X]? = some (.cells #[.int .u8 (x.wh : Int), .int .u8 (x.pm : Int), .int .u8 (x.nn : Int), .int .u16 (x.pg : Int), .int .u16 (x.off : Int), .int .u64 (x.v : Int), .slice x.a x.len x.cap, .bool x.raw, .int .u64 (x.at' : Int)] t (0, 0))) : ActX w X x :=
  ⟨by rw [cell_of_row _ _ _ _ _ _ h]; rfl, by rw [cell_of_row _ _ _ _ _ _ h]; rfl, by rw [cell_of_row _ _ _ _ _ _ h]; rfl, by rw [cell_of_row _ _ _ _ _ _ h]; rfl, by rw [cell_of_row _ _ _ _ _ _ h]; rfl, by rw [cell_of_row _ _ _ _ _ _ h]; rfl, by rw [cell_of_row _ _ _ _ _ _ h]; rfl, by rw [cell_of_row _ _ _ _ _ _ h]; rfl, by rw [cell_of_row _ _ _ _ _ _ h]; rfl⟩

end

end Go.Proofs.Ytggmeopohpbmlaa
