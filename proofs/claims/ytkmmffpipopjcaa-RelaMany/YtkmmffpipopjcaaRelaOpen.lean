/- Relocations that came in: a slice of them. -/
import Derived.Test.YtkmmffpipopjcaaRelaOne
import Derived.ProofKit
import Derived.OpenShut
import Derived.ChangeSame
namespace Go.Proofs.Ytkmmffpipopjcaa
open Go.RowKit Go.ChangeShapes Go.WideShapes Go.ChangeAt
set_option linter.unusedVariables false

section
variable {H : Type} {enc : TypeId × Value → H} {w : World} {base b0 : Nat} {spare : Nat → Bool} {held : Bool} {r : Reach}

theorem cellsRe : Try.prog.cellsOf 40 = 4 := by kernel_rfl
theorem cellsR32 : Try.prog.cellsOf 36 = 1 := by kernel_rfl
theorem cellsR64 : Try.prog.cellsOf 24 = 1 := by kernel_rfl
theorem cellsRi : Try.prog.cellsOf 2 = 1 := by kernel_rfl
theorem wfR32 {n : Int} (h : (Lit.int .u32 n).wf = true) : ∃ m : Nat, n = (m : Int) ∧ m < 4294967296 := by
  have h1 : 0 ≤ n ∧ n ≤ 4294967295 := by simpa [Lit.wf, IntKind.min, IntKind.max, IntKind.signed, IntKind.bits] using h
  exact ⟨n.toNat, by omega, by omega⟩
theorem wfR64 {n : Int} (h : (Lit.int .u64 n).wf = true) : ∃ m : Nat, n = (m : Int) ∧ m < 18446744073709551616 := by
  have h1 : 0 ≤ n ∧ n ≤ 18446744073709551615 := by simpa [Lit.wf, IntKind.min, IntKind.max, IntKind.signed, IntKind.bits] using h
  exact ⟨n.toNat, by omega, by omega⟩
theorem wfRi {n : Int} (h : (Lit.int .i64 n).wf = true) : -9223372036854775808 ≤ n ∧ n ≤ 9223372036854775807 := by
  simpa [Lit.wf, IntKind.min, IntKind.max, IntKind.signed, IntKind.bits] using h

theorem open_re {n : Nat} {cs : List Value} {x : DataW H × List MemPlace} (h : DataW.trod enc Try.prog w base spare held n 40 cs = some x) : ∃ s : Re, s.Ok ∧ cs = reC.cells s := by
  obtain ⟨xs, m, _, _, hl, hlen, hf⟩ := DataW.trod_struct Try.underlying40 h
  rw [cellsRe] at hl
  match cs, hl with
  | [c0, c1, c2, c3], _ =>
    match xs, hlen with
    | [y0, y1, y2, y3], _ =>
      have g0 := hf 0 _ rfl
      have g1 := hf 1 _ rfl
      have g2 := hf 2 _ rfl
      have g3 := hf 3 _ rfl
      obtain ⟨a0, e0, _, u0⟩ := DataW.trod_int Try.underlying24 g0
      obtain ⟨a1, e1, _, u1⟩ := DataW.trod_int Try.underlying36 g1
      obtain ⟨a2, e2, _, u2⟩ := DataW.trod_int Try.underlying36 g2
      obtain ⟨a3, e3, _, u3⟩ := DataW.trod_int Try.underlying2 g3
      simp [cellsR32, cellsR64, cellsRi] at e0 e1 e2 e3
      obtain ⟨m0, rfl, k0⟩ := wfR64 u0
      obtain ⟨m1, rfl, k1⟩ := wfR32 u1
      obtain ⟨m2, rfl, k2⟩ := wfR32 u2
      subst e0 e1 e2 e3
      exact ⟨⟨m0, m1, m2, a3⟩, ⟨k0, k1, k2, wfRi u3⟩, rfl⟩

end

section
variable {H : Type} {enc : TypeId × Value → H} {w : World} {base : Nat} {held : Bool}
theorem open_rls {a : Option Addr} {len cap : Nat} {d : DataW H} {p : List MemPlace} (h : DataW.Trod enc Try.prog w base (fun _ => true) held 22 (.slice a len cap) d p) : ∃ l, Rl w a len cap l :=
  open_recs Try.underlying22 cellsRe (fun h => open_re h) h
end

end Go.Proofs.Ytkmmffpipopjcaa
