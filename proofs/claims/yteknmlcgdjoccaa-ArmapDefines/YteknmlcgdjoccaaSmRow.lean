/- Symbols of objects: as records in rows, and in a slice that is read. -/
import Derived.Test.YteknmlcgdjoccaaRec
import Derived.Test.YteknmlcgdjoccaaStrRs
namespace Go.Proofs.Yteknmlcgdjoccaa
open Go.RowKit
set_option linter.unusedVariables false
set_option maxRecDepth 20000
set_option linter.unusedSimpArgs false

/-- A symbol. -/
structure Sm where
  nm : List UInt8
  bd : Int
  ty : Int
  se : Int
  va : Nat
  sz : Nat
deriving DecidableEq
def sm0 : Sm := ⟨[], 0, 0, 0, 0, 0⟩
structure Sm.Ok (s : Sm) : Prop where
  nm : s.nm.length ≤ 9223372036854775807
  bd : -9223372036854775808 ≤ s.bd ∧ s.bd ≤ 9223372036854775807
  ty : -9223372036854775808 ≤ s.ty ∧ s.ty ≤ 9223372036854775807
  se : -9223372036854775808 ≤ s.se ∧ s.se ≤ 9223372036854775807
  va : s.va < 18446744073709551616
  sz : s.sz < 18446744073709551616
def Sm.cells (s : Sm) : List Value := [.string (str s.nm), .int .i64 s.bd, .int .i64 s.ty, .int .i64 s.se, .int .u64 (s.va : Int), .int .u64 (s.sz : Int)]
def smC : Rc Sm := ⟨Sm.cells, 6, by decide, fun _ => rfl, fun r u hu => by
  simp [Sm.cells] at hu
  rcases hu with rfl | rfl | rfl | rfl | rfl | rfl <;> rfl⟩
abbrev Rm (w : World) (a : Option Addr) (len cap : Nat) (l : List Sm) : Prop := Rr smC Sm.Ok w a len cap l
/-- The cells of a symbol that lies at a place. -/
structure SmC (w : World) (b o : Nat) (s : Sm) : Prop where
  c0 : w.cell? ⟨b, o, none⟩ = some (.string (str s.nm))
  c1 : w.cell? ⟨b, o + 1, none⟩ = some (.int .i64 s.bd)
  c2 : w.cell? ⟨b, o + 2, none⟩ = some (.int .i64 s.ty)
  c3 : w.cell? ⟨b, o + 3, none⟩ = some (.int .i64 s.se)
  c4 : w.cell? ⟨b, o + 4, none⟩ = some (.int .u64 (s.va : Int))
  c5 : w.cell? ⟨b, o + 5, none⟩ = some (.int .u64 (s.sz : Int))
theorem SmC.of {w : World} {b o : Nat} {s : Sm} (h : ∀ j, j < 6 → w.cell? ⟨b, o + j, none⟩ = s.cells[j]?) : SmC w b o s :=
  ⟨h 0 (by omega), h 1 (by omega), h 2 (by omega), h 3 (by omega), h 4 (by omega), h 5 (by omega)⟩
theorem Rm.addr {w : World} {a : Option Addr} {len cap : Nat} {l : List Sm} (r : Rm w a len cap l) (h : 0 < len) : ∃ b o, a = some ⟨b, o, none⟩ ∧ ∀ i s, l[i]? = some s → SmC w b (o + i * 6) s := by
  obtain ⟨b, o, h1, h2⟩ := Rr.addr r h
  exact ⟨b, o, h1, fun i s hs => SmC.of (h2 i s hs)⟩

end Go.Proofs.Yteknmlcgdjoccaa
