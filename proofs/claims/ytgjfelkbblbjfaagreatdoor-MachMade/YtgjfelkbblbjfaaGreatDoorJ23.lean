/- Texts of this claim, joined: InstEnc, InstReg, InstEncs, InstKnown. -/
import Derived.Test.YtgjfelkbblbjfaaGreatDoorJ07
import Derived.Deep.RegionWith
/- The contract of package inst's Encode. -/
namespace Go.Proofs.YtgjfelkbblbjfaaGreatDoor
open Go.RowKit Go.Maps
set_option linter.unusedVariables false
set_option maxRecDepth 100000
set_option linter.unusedSimpArgs false

/-- Whether an immediate fits an operation's word, and the word with it. -/
def imOk (f x v : Int) : Bool := if shb x = 6 then decide (0 ≤ v) && decide (v < 64) else if shb x = 5 then decide (0 ≤ v) && decide (v < 32) else fitsOf f v
def imPut (f x v : Int) : Int := if shb x = 0 then putOf f x v else if imOk f x v = true then bits .or .u32 x (v * 1048576) else 0



/-- Whether the registers that a form has are such, and the word with them. -/
def rgOk (d a b : Bool) (r0 r1 r2 : Int) : Bool := (!d || isr r0) && (!a || isr r1) && (!b || isr r2)
def rgPut (d a b : Bool) (x r0 r1 r2 : Int) : Int :=
  let x1 := if d = true then bits .or .u32 x (r0 * 128) else x
  let x2 := if a = true then bits .or .u32 x1 (r1 * 32768) else x1
  if b = true then bits .or .u32 x2 (r2 * 1048576) else x2

end Go.Proofs.YtgjfelkbblbjfaaGreatDoor

/- The contract of package inst's putRegisters. -/
namespace Go.Proofs.YtgjfelkbblbjfaaGreatDoor
open Go.RowKit Go.Maps
set_option linter.unusedVariables false
set_option maxRecDepth 100000
set_option linter.unusedSimpArgs false

theorem isr_yes {r : Int} (h : isr r = true) : 0 ≤ r ∧ r < 32 := by simpa [isr] using h
theorem rg_ret {a b : Int} {w w' : World} (h : a = b) (hb : Below w.heap.size w w') : Ending.returned (Value.tuple #[.int .u32 a, .bool true]) = .returned (.tuple #[.int .u32 b, .bool true]) ∧ Below w.heap.size w w' := by
  subst h; exact ⟨rfl, hb⟩



























end Go.Proofs.YtgjfelkbblbjfaaGreatDoor

/- The contract of package inst's Encode. -/
namespace Go.Proofs.YtgjfelkbblbjfaaGreatDoor
open Go.RowKit Go.Maps
set_option linter.unusedVariables false
set_option maxRecDepth 100000
set_option linter.unusedSimpArgs false











end Go.Proofs.YtgjfelkbblbjfaaGreatDoor

/- The contract of package inst's Encode as one; the statements' example, known, is true. -/
namespace Go.Proofs.YtgjfelkbblbjfaaGreatDoor
open Go.RowKit Go.Maps
set_option linter.unusedVariables false
set_option maxRecDepth 100000
set_option linter.unusedSimpArgs false

/-- Whether an instruction has a word, and which. -/
def encOk (op r0 r1 r2 im : Int) : Bool := knw op && (decide (fmo op = 6) || (imOk (fmo op) (wd op.toNat) im && rgOk (hasD (fmo op)) (has1 (fmo op)) (has2 (fmo op)) r0 r1 r2))
def encW (op r0 r1 r2 im : Int) : Int :=
  if encOk op r0 r1 r2 im = true then (if fmo op = 6 then wd op.toNat else rgPut (hasD (fmo op)) (has1 (fmo op)) (has2 (fmo op)) (imPut (fmo op) (wd op.toNat) im) r0 r1 r2) else 0

theorem imPut_bd (f x v : Int) (h0 : 0 ≤ x) (h1 : x ≤ 4294967295) : 0 ≤ imPut f x v ∧ imPut f x v ≤ 4294967295 := by
  unfold imPut
  split
  · exact put_bd f x v h0 h1
  · split
    · exact bits_bd ..
    · decide



theorem none_0 : IsOp 0 0 := Or.inl ⟨rfl, fun j h1 h2 => by
  have : ∀ j, j < 66 → 1 ≤ j → ¬ Mt j 0 := by decide +kernel
  exact this j h2 h1⟩
theorem mulhsu_is : nm 52 = ⟨#[109, 117, 108, 104, 115, 117]⟩ := by decide +kernel
theorem nm_apart : ∀ j, j < 66 → ∀ k, k < 66 → nm j = nm k → j = k := by decide +kernel

theorem cell_below {w w' : World} (hB : Below w.heap.size w w') {p : Addr} {v : Value} (h : w.cell? p = some v) : w'.cell? p = some v := (hB.cell (World.block_lt_of_cell? _ _ h)).trans h
theorem Laid.then {w w' : World} (h : Laid w) (hB : Below w.heap.size w w') : Laid w' := h.below hB h.1
theorem Laid.alloc {w : World} (h : Laid w) (o : Obj) : Laid (w.alloc o) := h.below ((Below.refl _ _).alloc (Nat.le_refl _) _) h.1
theorem find_one {k : Nat} (hk : 1 ≤ k) (hk' : k < 66) {e : Ending} (h : FindIs (nm k) e) : e = .returned (.tuple #[.int .i64 k, .bool true]) := by
  rcases h with ⟨j, h1, h2, h3, h4⟩ | ⟨h1, h2⟩
  · rw [nm_apart j h2 k hk' h3] at h4
    exact h4
  · exact absurd rfl (h1 k hk hk')



end Go.Proofs.YtgjfelkbblbjfaaGreatDoor
