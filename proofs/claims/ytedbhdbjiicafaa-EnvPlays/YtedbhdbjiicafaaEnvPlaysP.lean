/- What EnvPlays stands on: the document's environment beside the program's, a row of bytes beside both; a script of acts that came in. -/
import Derived.Test.YtedbhdbjiicafaaEnvNotesW
import Derived.Test.YtedbhdbjiicafaaEnvOpen
import Derived.Maps.AppendAt
namespace Go.Proofs.Ytedbhdbjiicafaa
open Go.RowKit Go.ChangeShapes Go.WideShapes Go.ChangeAt
set_option linter.unusedVariables false

section
variable {w0 w W2 : World} {l : List (World → (Nat → Prop) → Prop)}

theorem has_ref (h : Has w0 w l) {a : Option Addr} {len cap : Nat} {bs : List Int} (r : Rd w0 a len cap bs) : Has w0 (w.alloc (.cells #[.slice a len cap, .slice none 0 0] 30)) (EV w0.heap.size 30 w.heap.size bs [] :: l) := by
  have hb : Below w.heap.size w (w.alloc (.cells #[.slice a len cap, .slice none 0 0] 30)) := (Below.refl _ _).alloc (Nat.le_refl _) _
  have hz := h.bel.size
  refine h.more (F := fun k => k = w.heap.size) hb ⟨a, len, cap, .slice none 0 0, [], ⟨heap_alloc_new w _, (r.below h.bel).below hb, World.ownsRow_nil _ _ _ _, (fun x hx => by cases hx), rfl, (fun g hg => by cases hg), fun hl x hx => ?_, (fun x hx => by cases hx), fun k hk => ?_⟩, rfl⟩ (fun k hk => ?_) (ev_stays _ _ _ _ _)
  · have h1 := r.blk hl x hx
    exact ⟨Or.inr h1, by omega, by intro h; cases h⟩
  · subst hk
    simp
  · subst hk
    exact Nat.le_refl _

theorem has_row (h : Has w0 w l) : Has w0 w (RowT (.slice none 0 0) [] :: l) :=
  h.more (F := fun _ => False) (Below.refl _ _) ⟨World.ownsRow_nil _ _ _ _, Bytes.nil, (fun g hg => by cases hg), fun k hk => hk.elim⟩ (fun k hk => hk.elim) (row_stays _ _ _)

theorem Has.grow {v v2 : Value} {L m : Nat} {bs xs : List Int} (h : Has w0 w (RowT v bs :: l)) (hL : bs.length = L) (hx : xs.length = m) (hb : Bytes xs) (hown : W2.ownsRow 0 5 1 v2 (L + m) (bs.map (Value.int .u8) ++ xs.map (Value.int .u8))) (hgrow : w.grownBy W2 v.ownBlock) (hat : v2.ownBlock = v.ownBlock ∨ v2.ownBlock = some w.heap.size) : Has w0 W2 (RowT v2 (bs ++ xs) :: l) := by
  subst hL hx
  obtain ⟨F, ⟨h1, h2, h3, h4⟩, h5, h6⟩ := h.step
  refine h6 W2 _ (fun k => v2.ownBlock = some k) ⟨?_, h2.append hb, fun g hg => hg, fun k hk => ownsRow_blk hown k hk⟩ ⟨Kept.of_grown hgrow (fun k hk => h3 k hk), fun k hk => ?_⟩ (row_stays _ _ _)
  · unfold RowB
    rw [List.length_append, List.map_append]
    exact hown
  · rcases hat with h7 | h7
    · exact Or.inl (h3 k (h7 ▸ hk))
    · rw [h7] at hk
      cases hk
      exact Or.inr (Nat.le_refl _)

theorem Has.row {v : Value} {bs : List Int} (h : Has w0 w (RowT v bs :: l)) : ∃ a cap, v = .slice a bs.length cap ∧ Rd w a bs.length cap bs := by
  obtain ⟨F, h1, h2, h3, h4⟩ := h.top
  exact Rd.own h1 h2

theorem str_append (a b : List Int) : strOfNums a ++ strOfNums b = strOfNums (a ++ b) := by
  apply ByteArray.ext
  simp [strOfNums]

theorem outOf_short (fd : Int) : ∀ (tr : List Says), (∀ s ∈ tr, s.bs.length ≤ 50) → (outOf fd tr).length ≤ 50 * tr.length
  | [], _ => by simp [outOf]
  | s :: tr, h => by
    have h1 := outOf_short fd tr (fun x hx => h x (List.mem_cons_of_mem _ hx))
    have h2 := h s (List.mem_cons_self ..)
    have e : outOf fd (s :: tr) = (if s.kind = 0 ∧ s.fd = fd then s.bs else []) ++ outOf fd tr := by simp [outOf]
    rw [e, List.length_append, List.length_cons]
    split
    · omega
    · simp; omega

end

/-- An act: what is done, how many bytes are taken, the event. -/
structure ActE where
  wh : Nat
  nn : Int
  x : Evt

def ActE.cells (y : ActE) : List Value := [.int .u8 (y.wh : Int), .int .i64 y.nn, .int .i64 y.x.kind, .int .i64 y.x.fd, .slice y.x.a y.x.len y.x.cap, .int .i64 y.x.n]

structure ActE.Ok (y : ActE) (w : World) : Prop where
  wh : y.wh ≤ 255
  nn : -9223372036854775808 ≤ y.nn ∧ y.nn ≤ 9223372036854775807
  x : y.x.Ok w

/-- A slice of acts that came in. -/
def IsActE (w : World) (a : Option Addr) (len : Nat) : Prop := len ≤ 9223372036854775807 ∧ ∀ i, i < len → ∃ b o, a = some ⟨b, o, none⟩ ∧ ∃ y : ActE, y.Ok w ∧ ∀ j, j < 6 → w.cell? ⟨b, o + i * 6 + j, none⟩ = y.cells[j]?

section
variable {H : Type} {enc : TypeId × Value → H} {w : World} {base : Nat} {spare : Nat → Bool} {held : Bool}

theorem six {cs : List Value} (h : cs.length = 6) : ∃ c0 c1 c2 c3 c4 c5, cs = [c0, c1, c2, c3, c4, c5] := by
  match cs, h with
  | [c0, c1, c2, c3, c4, c5], _ => exact ⟨c0, c1, c2, c3, c4, c5, rfl⟩

theorem open_act {n : Nat} {cs : List Value} {x : DataW H × List MemPlace} (h : DataW.trod enc Try.prog w base (fun _ => true) held n 34 cs = some x) : ∃ y : ActE, y.Ok w ∧ cs = y.cells := by
  obtain ⟨xs, m, rfl, rfl, hl, hxl, hf⟩ := DataW.trod_struct Try.underlying34 h
  have h6 : Try.prog.cellsOf 34 = 6 := by kernel_rfl
  have c3 : Try.prog.cellsOf 3 = 1 := by kernel_rfl
  have c5 : Try.prog.cellsOf 5 = 1 := by kernel_rfl
  have c32 : Try.prog.cellsOf 32 = 4 := by kernel_rfl
  rw [h6] at hl
  obtain ⟨d0, d1, d2, d3, d4, d5, rfl⟩ := six hl
  have g : ∀ (i : Nat) (f : Field), (#[({ name := "What", type := 5, offset := 0, embedded := false, tag := "", pkgPath := "", byteOffset := 0 } : Field), { name := "N", type := 3, offset := 1, embedded := false, tag := "", pkgPath := "", byteOffset := 8 }, { name := "Ev", type := 32, offset := 2, embedded := false, tag := "", pkgPath := "", byteOffset := 16 }] : Array Field)[i]? = some f → ∃ y, DataW.trod enc Try.prog w base (fun _ => true) held m f.type (([d0, d1, d2, d3, d4, d5].drop f.offset).take (Try.prog.cellsOf f.type)) = some y := fun i f hif => by
    have h2 := hf i f hif
    have hi : i < xs.length := by
      rw [hxl]
      exact (Array.getElem?_eq_some_iff.1 hif).1
    rw [List.getElem?_eq_getElem hi] at h2
    exact ⟨_, h2⟩
  obtain ⟨_, t0⟩ := g 0 { name := "What", type := 5, offset := 0, embedded := false, tag := "", pkgPath := "", byteOffset := 0 } rfl
  obtain ⟨_, t1⟩ := g 1 { name := "N", type := 3, offset := 1, embedded := false, tag := "", pkgPath := "", byteOffset := 8 } rfl
  obtain ⟨_, t2⟩ := g 2 { name := "Ev", type := 32, offset := 2, embedded := false, tag := "", pkgPath := "", byteOffset := 16 } rfl
  simp only [c3, c5, c32, List.drop_succ_cons, List.drop_zero, List.take_succ_cons, List.take_zero] at t0 t1 t2
  obtain ⟨z0, e0, f0⟩ := trod_int_is Try.underlying5 t0
  obtain ⟨z1, e1, f1⟩ := trod_int_is Try.underlying3 t1
  obtain ⟨y, hy, e2, _⟩ := open_evt t2
  have b0 := bounds_u8 f0
  refine ⟨⟨z0.toNat, z1, y⟩, ⟨by show z0.toNat ≤ _; omega, bounds_i64 f1, hy⟩, ?_⟩
  simp only [ActE.cells]
  rw [Int.toNat_of_nonneg b0.1]
  injection e0 with e0
  injection e1 with e1
  unfold Evt.cells at e2
  injection e2 with e2 e3
  injection e3 with e3 e4
  injection e4 with e4 e5
  injection e5 with e5 e6
  rw [e0, e1, e2, e3, e4, e5]

theorem open_acts {a : Option Addr} {len cap : Nat} {d : DataW H} {p : List MemPlace} (h : DataW.Trod enc Try.prog w base (fun _ => true) held 23 (.slice a len cap) d p) : IsActE w a len := by
  obtain ⟨fuel, h⟩ := h
  have h6 : Try.prog.cellsOf 34 = 6 := by kernel_rfl
  rcases DataW.trod_slice Try.underlying23 h with ⟨h0, _⟩ | ⟨x, l, c, elems, rest, n, _, hcs, _, hb, hl, hm, hlen, hel, hsp, hns⟩
  · simp [Value.cells] at h0
    obtain ⟨rfl, rfl, rfl⟩ := h0
    exact ⟨by omega, fun i hi => by omega⟩
  · simp [Value.cells] at hcs
    obtain ⟨rfl, rfl, rfl⟩ := hcs
    have el : ∀ i, i < len → ∃ y : ActE, y.Ok w ∧ ∀ j, j < 6 → w.cell? ((x.add (i * 6)).add j) = y.cells[j]? := fun i hi => by
      have h1 := hel i hi
      rw [List.getElem?_eq_getElem (by omega)] at h1
      obtain ⟨cs', h2, h3⟩ := Option.bind_eq_some_iff.1 h1
      rw [h6] at h2
      obtain ⟨_, h4, h5⟩ := World.cells?_some h2
      obtain ⟨y, hy, rfl⟩ := open_act h3
      exact ⟨y, hy, h5⟩
    refine ⟨by unfold maxLen at hm; omega, fun i hi => ?_⟩
    obtain ⟨b, o, spot⟩ := x
    have hs : spot = none := by
      obtain ⟨y, hy, h5⟩ := el 0 (by omega)
      have h7 := h5 0 (by omega)
      rw [show y.cells[0]? = some (.int .u8 (y.wh : Int)) from rfl] at h7
      have h8 := World.cell?_spot h7
      simpa [Addr.add] using h8
    subst hs
    obtain ⟨y, hy, h5⟩ := el i hi
    refine ⟨b, o, rfl, y, hy, fun j hj => ?_⟩
    have h7 := h5 j hj
    have e1 : ((⟨b, o, none⟩ : Addr).add (i * 6)).add j = ⟨b, o + i * 6 + j, none⟩ := by unfold Addr.add; repeat' split <;> simp_all
    rw [e1] at h7
    exact h7

end

end Go.Proofs.Ytedbhdbjiicafaa
