/- The library's calls of strtab's road: strings.Cut at a nought, bytes.IndexByte at a nought: what each returns; the world stays but for draws. -/
import Derived.Test.YteknmlcgdjoccaaStrPlain
import Derived.Deep.QuietTactic
import Derived.BigQuiet
namespace Go.Proofs.Yteknmlcgdjoccaa
open Go.RowKit
set_option linter.unusedVariables false
set_option maxRecDepth 20000









theorem bix_any (a : Option Addr) (len cap : Nat) (bs : List Int) (w : World) (r : Rd w a len cap bs) :
    Calls Try.prog 23 #[.slice a len cap, .int .u8 0] w fun e w' => e = .returned (.int .i64 (Lib.indexByte (Lib.bytesOf bs) 0)) ∧ w' = w := by
  have hl := r.length
  have h1 := r.le
  by_cases h0 : len = 0
  · subst h0
    obtain rfl : bs = [] := List.eq_nil_of_length_eq_zero hl
    cases a with
    | none =>
      obtain rfl : cap = 0 := r.nil rfl
      go_enter Try.func23, Try.ntmps23
      go_wp2
      rw [run_callFunc_extern Try.func27 (by kernel_rfl) (by kernel_rfl) (by kernel_rfl) (e := Extern.BytealgIndexByte.indexByte) (by kernel_rfl), Lib.run_indexByteNil w 0 0 0]
      simp only [Result.andThen]
      rw [Oper.upon_value]
      go_wp2
      go_ret
      exact ⟨rfl, rfl⟩
    | some x =>
      have hx : ∃ b o s, x = ⟨b, o, s⟩ := ⟨_, _, _, rfl⟩
      go_enter Try.func23, Try.ntmps23
      go_wp2
      have hr : ∀ w, (Extern.BytealgIndexByte.indexByte #[.slice (some x) 0 cap, .int .u8 0]).run Try.prog w = .ok (.int .i64 (-1)) w := fun w => rfl
      rw [run_callFunc_extern Try.func27 (by kernel_rfl) (by kernel_rfl) (by kernel_rfl) (e := Extern.BytealgIndexByte.indexByte) (by kernel_rfl), hr w]
      simp only [Result.andThen]
      rw [Oper.upon_value]
      go_wp2
      go_ret
      exact ⟨rfl, rfl⟩
  · obtain ⟨b, o, rfl, hc⟩ := r.addr (by omega)
    go_enter Try.func23, Try.ntmps23
    go_wp2
    rw [run_callFunc_extern Try.func27 (by kernel_rfl) (by kernel_rfl) (by kernel_rfl) (e := Extern.BytealgIndexByte.indexByte) (by kernel_rfl), Lib.run_indexByteSlice w b o len cap bs hl hc 0]
    simp only [Result.andThen]
    rw [Oper.upon_value]
    go_wp2
    go_ret
    exact ⟨rfl, rfl⟩

end Go.Proofs.Yteknmlcgdjoccaa
