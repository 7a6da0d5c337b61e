/- Contracts of le.within, le.get, le.U16, le.U32, le.U64 and of the document's Num: each returns what the bytes from the offset on are as a number, or 0 and false; the world stays. -/
import Derived.Test.YtmmcnkdefpfkiaaDoorNums
import Derived.Test.YtmmcnkdefpfkiaaDoorPlain
import Derived.WalkKit
namespace Go.Proofs.YtmmcnkdefpfkiaaDoor
open Go.RowKit
set_option linter.unusedVariables false
set_option maxRecDepth 100000

/-- A slice of bytes that is read: its elements are the bytes bs. -/
structure Rd (w : World) (a : Option Addr) (len cap : Nat) (bs : List Int) : Prop where
  length : bs.length = len
  le : len ≤ cap
  max : cap ≤ 9223372036854775807
  bytes : Bytes bs
  nil : a = none → cap = 0
  cell : ∀ x, a = some x → ∀ i, i < len → w.cell? (x.add i) = some (.int .u8 (bs.getD i 0))

theorem Rd.addr {w : World} {a : Option Addr} {len cap : Nat} {bs : List Int} (r : Rd w a len cap bs) (h : 0 < len) :
    ∃ b o, a = some ⟨b, o, none⟩ ∧ ∀ i, i < len → w.cell? ⟨b, o + i, none⟩ = some (.int .u8 (bs.getD i 0)) := by
  cases a with
  | none => have h1 := r.nil rfl; have h2 := r.le; omega
  | some x =>
    obtain ⟨b, o, spot⟩ := x
    have hs : spot = none := by simpa [Addr.add] using World.cell?_spot (r.cell _ rfl 0 h)
    subst hs
    exact ⟨b, o, rfl, fun i hi => by have := r.cell _ rfl i hi; rwa [show (⟨b, o, none⟩ : Addr).add i = ⟨b, o + i, none⟩ by unfold Addr.add; split <;> simp_all] at this⟩









/-- What is read of the bytes bs from the offset on: n bytes, as a number; 0 and false where they don't all lie within. -/
def got (bs : List Int) (off : Int) (n : Nat) : Int := if off + n ≤ bs.length then num ((bs.drop off.toNat).take n) else 0
def has (bs : List Int) (off : Int) (n : Nat) : Bool := decide (off + n ≤ bs.length)

theorem got_nonneg {bs : List Int} (h : Bytes bs) (off : Int) (n : Nat) : 0 ≤ got bs off n := by
  unfold got; split
  · exact num_nonneg ((h.drop _).take _)
  · omega
theorem got_lt {bs : List Int} (h : Bytes bs) (off : Int) (n : Nat) : got bs off n < 2 ^ (8 * n) := by
  have hp : (0 : Int) < 2 ^ (8 * n) := Int.pow_pos (by decide)
  unfold got; split
  · have h1 := num_lt ((h.drop off.toNat).take n)
    have h2 : ((bs.drop off.toNat).take n).length ≤ n := List.length_take_le _ _
    rw [pow_256] at h1
    have h3 : (2 : Int) ^ (8 * ((bs.drop off.toNat).take n).length) ≤ 2 ^ (8 * n) := by
      have := Nat.pow_le_pow_right (n := 2) (by decide) (show 8 * ((bs.drop off.toNat).take n).length ≤ 8 * n by omega)
      exact_mod_cast this
    omega
  · omega















end Go.Proofs.YtmmcnkdefpfkiaaDoor
