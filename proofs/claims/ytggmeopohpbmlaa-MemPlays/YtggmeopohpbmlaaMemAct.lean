/- A script of acts that came in: what its cells hold; the address of an act. -/
import Derived.Test.YtggmeopohpbmlaaMemBoth
import Derived.ProofKit
import Derived.OpenShut
namespace Go.Proofs.Ytggmeopohpbmlaa
open Go.RowKit Go.Maps Go.ChangeShapes Go.WideShapes Go.ChangeAt
set_option linter.unusedVariables false

/-- An act: its nine cells. -/
structure Acts where
  wh : Nat
  pm : Nat
  nn : Nat
  pg : Nat
  off : Nat
  v : Nat
  a : Option Addr
  len : Nat
  cap : Nat
  bs : List Int
  raw : Bool
  at' : Nat

def Acts.cells (x : Acts) : List Value := [.int .u8 (x.wh : Int), .int .u8 (x.pm : Int), .int .u8 (x.nn : Int), .int .u16 (x.pg : Int), .int .u16 (x.off : Int), .int .u64 (x.v : Int), .slice x.a x.len x.cap, .bool x.raw, .int .u64 (x.at' : Int)]

structure Acts.Ok (x : Acts) (w : World) : Prop where
  wh : x.wh ≤ 255
  pm : x.pm ≤ 255
  nn : x.nn ≤ 255
  pg : x.pg ≤ 65535
  off : x.off ≤ 65535
  v : x.v ≤ 18446744073709551615
  at' : x.at' ≤ 18446744073709551615
  b : Rd w x.a x.len x.cap x.bs

/-- Where an act goes. -/
def Acts.addr (x : Acts) : Nat := if x.raw = true then x.at' else x.pg % 8 * 4096 + x.off % 4200

/-- A slice of acts that came in. -/
def IsActs (w : World) (a : Option Addr) (len cap : Nat) : Prop := len ≤ 9223372036854775807 ∧ ∀ i, i < len → ∃ b o, a = some ⟨b, o, none⟩ ∧ ∃ x : Acts, x.Ok w ∧ ∀ j, j < 9 → w.cell? ⟨b, o + i * 9 + j, none⟩ = x.cells[j]?

section
variable {H : Type} {enc : TypeId × Value → H} {w : World} {base : Nat} {spare : Nat → Bool} {held : Bool}

theorem trod_int_is {t : TypeId} {k : IntKind} (ht : Try.prog.underlying t = some (.int k)) {n : Nat} {cs : List Value} {x : DataW H × List MemPlace} (h : DataW.trod enc Try.prog w base spare held n t cs = some x) : ∃ z, cs = [.int k z] ∧ (Lit.int k z).wf = true := by
  cases n with
  | zero => simp [DataW.trod] at h
  | succ n =>
    unfold DataW.trod at h
    rw [ht] at h
    split at h <;> simp_all
theorem trod_bool_is {t : TypeId} (ht : Try.prog.underlying t = some .bool) {n : Nat} {cs : List Value} {x : DataW H × List MemPlace} (h : DataW.trod enc Try.prog w base spare held n t cs = some x) : ∃ z, cs = [.bool z] := by
  cases n with
  | zero => simp [DataW.trod] at h
  | succ n =>
    unfold DataW.trod at h
    rw [ht] at h
    split at h <;> simp_all

theorem nine {cs : List Value} (h : cs.length = 9) : ∃ c0 c1 c2 c3 c4 c5 c6 c7 c8, cs = [c0, c1, c2, c3, c4, c5, c6, c7, c8] := by
  match cs, h with
  | [c0, c1, c2, c3, c4, c5, c6, c7, c8], _ => exact ⟨c0, c1, c2, c3, c4, c5, c6, c7, c8, rfl⟩

theorem open_act {n : Nat} {cs : List Value} {x : DataW H × List MemPlace} (h : DataW.trod enc Try.prog w base (fun _ => true) held n 32 cs = some x) : ∃ y : Acts, y.Ok w ∧ cs = y.cells := by
  obtain ⟨xs, m, rfl, rfl, hl, hxl, hf⟩ := DataW.trod_struct Try.underlying32 h
  have h9 : Try.prog.cellsOf 32 = 9 := by kernel_rfl
  have c5 : Try.prog.cellsOf 5 = 1 := by kernel_rfl
  have c28 : Try.prog.cellsOf 28 = 1 := by kernel_rfl
  have c29 : Try.prog.cellsOf 29 = 1 := by kernel_rfl
  have c30 : Try.prog.cellsOf 30 = 1 := by kernel_rfl
  have c4 : Try.prog.cellsOf 4 = 1 := by kernel_rfl
  rw [h9] at hl
  obtain ⟨d0, d1, d2, d3, d4, d5, d6, d7, d8, rfl⟩ := nine hl
  have g : ∀ (i : Nat) (f : Field), (#[({ name := "What", type := 5, offset := 0, embedded := false, tag := "", pkgPath := "", byteOffset := 0 } : Field), { name := "Perm", type := 5, offset := 1, embedded := false, tag := "", pkgPath := "", byteOffset := 1 }, { name := "N", type := 5, offset := 2, embedded := false, tag := "", pkgPath := "", byteOffset := 2 }, { name := "Page", type := 28, offset := 3, embedded := false, tag := "", pkgPath := "", byteOffset := 4 }, { name := "Off", type := 28, offset := 4, embedded := false, tag := "", pkgPath := "", byteOffset := 6 }, { name := "V", type := 29, offset := 5, embedded := false, tag := "", pkgPath := "", byteOffset := 8 }, { name := "B", type := 30, offset := 6, embedded := false, tag := "", pkgPath := "", byteOffset := 16 }, { name := "Raw", type := 4, offset := 7, embedded := false, tag := "", pkgPath := "", byteOffset := 40 }, { name := "At", type := 29, offset := 8, embedded := false, tag := "", pkgPath := "", byteOffset := 48 }] : Array Field)[i]? = some f → ∃ y, DataW.trod enc Try.prog w base (fun _ => true) held m f.type (([d0, d1, d2, d3, d4, d5, d6, d7, d8].drop f.offset).take (Try.prog.cellsOf f.type)) = some y := fun i f hif => by
    have h2 := hf i f hif
    have hi : i < xs.length := by
      rw [hxl]
      exact (Array.getElem?_eq_some_iff.1 hif).1
    rw [List.getElem?_eq_getElem hi] at h2
    exact ⟨_, h2⟩
  obtain ⟨_, t0⟩ := g 0 { name := "What", type := 5, offset := 0, embedded := false, tag := "", pkgPath := "", byteOffset := 0 } rfl
  obtain ⟨_, t1⟩ := g 1 { name := "Perm", type := 5, offset := 1, embedded := false, tag := "", pkgPath := "", byteOffset := 1 } rfl
  obtain ⟨_, t2⟩ := g 2 { name := "N", type := 5, offset := 2, embedded := false, tag := "", pkgPath := "", byteOffset := 2 } rfl
  obtain ⟨_, t3⟩ := g 3 { name := "Page", type := 28, offset := 3, embedded := false, tag := "", pkgPath := "", byteOffset := 4 } rfl
  obtain ⟨_, t4⟩ := g 4 { name := "Off", type := 28, offset := 4, embedded := false, tag := "", pkgPath := "", byteOffset := 6 } rfl
  obtain ⟨_, t5⟩ := g 5 { name := "V", type := 29, offset := 5, embedded := false, tag := "", pkgPath := "", byteOffset := 8 } rfl
  obtain ⟨_, t6⟩ := g 6 { name := "B", type := 30, offset := 6, embedded := false, tag := "", pkgPath := "", byteOffset := 16 } rfl
  obtain ⟨_, t7⟩ := g 7 { name := "Raw", type := 4, offset := 7, embedded := false, tag := "", pkgPath := "", byteOffset := 40 } rfl
  obtain ⟨_, t8⟩ := g 8 { name := "At", type := 29, offset := 8, embedded := false, tag := "", pkgPath := "", byteOffset := 48 } rfl
  simp only [c5, c28, c29, c30, c4, List.drop_succ_cons, List.drop_zero, List.take_succ_cons, List.take_zero] at t0 t1 t2 t3 t4 t5 t6 t7 t8
  obtain ⟨z0, e0, f0⟩ := trod_int_is Try.underlying5 t0
  obtain ⟨z1, e1, f1⟩ := trod_int_is Try.underlying5 t1
  obtain ⟨z2, e2, f2⟩ := trod_int_is Try.underlying5 t2
  obtain ⟨z3, e3, f3⟩ := trod_int_is Try.underlying28 t3
  obtain ⟨z4, e4, f4⟩ := trod_int_is Try.underlying28 t4
  obtain ⟨z5, e5, f5⟩ := trod_int_is Try.underlying29 t5
  obtain ⟨z7, e7⟩ := trod_bool_is Try.underlying4 t7
  obtain ⟨z8, e8, f8⟩ := trod_int_is Try.underlying29 t8
  have hb : ∃ a l c bs, [d6] = [Value.slice a l c] ∧ Rd w a l c bs := by
    rcases open_ints Try.underlying30 Try.underlying5 (by kernel_rfl) t6 with ⟨hcs, _⟩ | ⟨x, l, c, zs, hcs, _, hl, hm, hz, _, hcell, hwz⟩
    · exact ⟨none, 0, 0, [], hcs, Rd.nothing w⟩
    · have r : IsRow .u8 w (some x) l c zs := .inr ⟨_, rfl, hl, hm, by simpa using hz, hcell, hwz⟩
      have r2 := r.rn (top := 255) (by decide) (fun n hn => bounds_u8 hn)
      exact ⟨some x, l, c, zs.take l, hcs, r2.length, r2.le, r2.max, r2.fit, r2.nil, r2.cell⟩
  obtain ⟨ba, bl, bc, bbs, e6, hr⟩ := hb
  have b0 := bounds_u8 f0
  have b1 := bounds_u8 f1
  have b2 := bounds_u8 f2
  have b3 := bounds_u16 f3
  have b4 := bounds_u16 f4
  have b5 := bounds_u64 f5
  have b8 := bounds_u64 f8
  refine ⟨⟨z0.toNat, z1.toNat, z2.toNat, z3.toNat, z4.toNat, z5.toNat, ba, bl, bc, bbs, z7, z8.toNat⟩, ⟨by show z0.toNat ≤ _; omega, by show z1.toNat ≤ _; omega, by show z2.toNat ≤ _; omega, by show z3.toNat ≤ _; omega, by show z4.toNat ≤ _; omega, by show z5.toNat ≤ _; omega, by show z8.toNat ≤ _; omega, hr⟩, ?_⟩
  simp only [Acts.cells]
  rw [Int.toNat_of_nonneg b0.1, Int.toNat_of_nonneg b1.1, Int.toNat_of_nonneg b2.1, Int.toNat_of_nonneg b3.1, Int.toNat_of_nonneg b4.1, Int.toNat_of_nonneg b5.1, Int.toNat_of_nonneg b8.1]
  injection e0 with e0; injection e1 with e1; injection e2 with e2; injection e3 with e3; injection e4 with e4; injection e5 with e5; injection e6 with e6; injection e7 with e7; injection e8 with e8
  rw [e0, e1, e2, e3, e4, e5, e6, e7, e8]

theorem open_acts {a : Option Addr} {len cap : Nat} {d : DataW H} {p : List MemPlace} (h : DataW.Trod enc Try.prog w base (fun _ => true) held 22 (.slice a len cap) d p) : IsActs w a len cap := by
  obtain ⟨fuel, h⟩ := h
  have h9 : Try.prog.cellsOf 32 = 9 := by kernel_rfl
  rcases DataW.trod_slice Try.underlying22 h with ⟨h0, _⟩ | ⟨x, l, c, elems, rest, n, _, hcs, _, hb, hl, hm, hlen, hel, hsp, hns⟩
  · simp [Value.cells] at h0
    obtain ⟨rfl, rfl, rfl⟩ := h0
    exact ⟨by omega, fun i hi => by omega⟩
  · simp [Value.cells] at hcs
    obtain ⟨rfl, rfl, rfl⟩ := hcs
    have el : ∀ i, i < len → ∃ y : Acts, y.Ok w ∧ ∀ j, j < 9 → w.cell? ((x.add (i * 9)).add j) = y.cells[j]? := fun i hi => by
      have h1 := hel i hi
      rw [List.getElem?_eq_getElem (by omega)] at h1
      obtain ⟨cs', h2, h3⟩ := Option.bind_eq_some_iff.1 h1
      rw [h9] at h2
      obtain ⟨_, h4, h5⟩ := World.cells?_some h2
      obtain ⟨y, hy, rfl⟩ := open_act h3
      exact ⟨y, hy, h5⟩
    refine ⟨by unfold maxLen at hm; omega, fun i hi => ?_⟩
    obtain ⟨b, o, spot⟩ := x
    have hs : spot = none := by
      obtain ⟨y, hy, h5⟩ := el 0 (by omega)
      have h6 := h5 0 (by omega)
      rw [show y.cells[0]? = some (.int .u8 (y.wh : Int)) from rfl] at h6
      have h7 := World.cell?_spot h6
      simpa [Addr.add] using h7
    subst hs
    obtain ⟨y, hy, h5⟩ := el i hi
    refine ⟨b, o, rfl, y, hy, fun j hj => ?_⟩
    have h6 := h5 j hj
    rw [addr_add, addr_add] at h6
    exact h6

end

theorem Acts.addr_le {x : Acts} {w : World} (h : x.Ok w) : x.addr ≤ 18446744073709551615 := by
  have := h.at'
  have := h.pg
  unfold Acts.addr
  split <;> omega

theorem addr_any (x : Acts) (w : World) (h : ∃ w0, x.Ok w0) : Calls Try.prog 11 #[.agg #[.int .u8 (x.wh : Int), .int .u8 (x.pm : Int), .int .u8 (x.nn : Int), .int .u16 (x.pg : Int), .int .u16 (x.off : Int), .int .u64 (x.v : Int), .slice x.a x.len x.cap, .bool x.raw, .int .u64 (x.at' : Int)]] w fun e w' =>
    e = .returned (.int .u64 (x.addr : Int)) ∧ Below w.heap.size w w' := by
  obtain ⟨w0, h⟩ := h
  obtain ⟨wh, pm, nn, pg, off, v, a, len, cap, bs, raw, at'⟩ := x
  have h1 : pg ≤ 65535 := h.pg
  have h2 : off ≤ 65535 := h.off
  clear h
  unfold Acts.addr
  simp only
  cases raw with
  | true =>
    go_enter Try.func11, Try.ntmps11
    go_wp2
    go_ret
    exact ⟨rfl, (Below.refl _ _).alloc (Nat.le_refl _) _⟩
  | false =>
    go_enter Try.func11, Try.ntmps11
    go_wp2
    go_ret
    exact ⟨ret_int (by simp), (Below.refl _ _).alloc (Nat.le_refl _) _⟩

end Go.Proofs.Ytggmeopohpbmlaa
