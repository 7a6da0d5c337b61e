/- Symbols that came in: a slice of them. -/
import Derived.Test.YtonhahijblnfhaaSymMem
import Derived.ProofKit
import Derived.OpenShut
import Derived.ChangeSame
namespace Go.Proofs.Ytonhahijblnfhaa
open Go.RowKit Go.ChangeShapes Go.WideShapes Go.ChangeAt
set_option linter.unusedVariables false

section
variable {H : Type} {enc : TypeId × Value → H} {w : World} {base b0 : Nat} {spare : Nat → Bool} {held : Bool} {r : Reach}

theorem cellsSy : Try.prog.cellsOf 40 = 7 := by kernel_rfl
theorem cellsY32 : Try.prog.cellsOf 24 = 1 := by kernel_rfl
theorem cellsY64 : Try.prog.cellsOf 38 = 1 := by kernel_rfl
theorem cellsYi : Try.prog.cellsOf 3 = 1 := by kernel_rfl
theorem wfY32 {n : Int} (h : (Lit.int .u32 n).wf = true) : ∃ m : Nat, n = (m : Int) ∧ m < 4294967296 := by
  have h1 : 0 ≤ n ∧ n ≤ 4294967295 := by simpa [Lit.wf, IntKind.min, IntKind.max, IntKind.signed, IntKind.bits] using h
  exact ⟨n.toNat, by omega, by omega⟩
theorem wfY64 {n : Int} (h : (Lit.int .u64 n).wf = true) : ∃ m : Nat, n = (m : Int) ∧ m < 18446744073709551616 := by
  have h1 : 0 ≤ n ∧ n ≤ 18446744073709551615 := by simpa [Lit.wf, IntKind.min, IntKind.max, IntKind.signed, IntKind.bits] using h
  exact ⟨n.toNat, by omega, by omega⟩
theorem wfYi {n : Int} (h : (Lit.int .i64 n).wf = true) : -9223372036854775808 ≤ n ∧ n ≤ 9223372036854775807 := by
  simpa [Lit.wf, IntKind.min, IntKind.max, IntKind.signed, IntKind.bits] using h

theorem open_sy {n : Nat} {cs : List Value} {x : DataW H × List MemPlace} (h : DataW.trod enc Try.prog w base spare held n 40 cs = some x) : ∃ s : Sy, s.Ok ∧ cs = syC.cells s := by
  obtain ⟨xs, m, _, _, hl, hlen, hf⟩ := DataW.trod_struct Try.underlying40 h
  rw [cellsSy] at hl
  match cs, hl with
  | [c0, c1, c2, c3, c4, c5, c6], _ =>
    match xs, hlen with
    | [y0, y1, y2, y3, y4, y5, y6], _ =>
      have g0 := hf 0 _ rfl
      have g1 := hf 1 _ rfl
      have g2 := hf 2 _ rfl
      have g3 := hf 3 _ rfl
      have g4 := hf 4 _ rfl
      have g5 := hf 5 _ rfl
      have g6 := hf 6 _ rfl
      obtain ⟨a0, e0, _, u0⟩ := DataW.trod_int Try.underlying24 g0
      obtain ⟨a1, e1, _, u1⟩ := DataW.trod_int Try.underlying3 g1
      obtain ⟨a2, e2, _, u2⟩ := DataW.trod_int Try.underlying3 g2
      obtain ⟨a3, e3, _, u3⟩ := DataW.trod_int Try.underlying3 g3
      obtain ⟨a4, e4, _, u4⟩ := DataW.trod_int Try.underlying3 g4
      obtain ⟨a5, e5, _, u5⟩ := DataW.trod_int Try.underlying38 g5
      obtain ⟨a6, e6, _, u6⟩ := DataW.trod_int Try.underlying38 g6
      simp [cellsY32, cellsY64, cellsYi] at e0 e1 e2 e3 e4 e5 e6
      obtain ⟨m0, rfl, k0⟩ := wfY32 u0
      obtain ⟨m5, rfl, k5⟩ := wfY64 u5
      obtain ⟨m6, rfl, k6⟩ := wfY64 u6
      subst e0 e1 e2 e3 e4 e5 e6
      exact ⟨⟨m0, a1, a2, a3, a4, m5, m6⟩, ⟨k0, wfYi u1, wfYi u2, wfYi u3, wfYi u4, k5, k6⟩, rfl⟩

end

section
variable {H : Type} {enc : TypeId × Value → H} {w : World} {base : Nat} {held : Bool}
theorem open_sys {a : Option Addr} {len cap : Nat} {d : DataW H} {p : List MemPlace} (h : DataW.Trod enc Try.prog w base (fun _ => true) held 22 (.slice a len cap) d p) : ∃ l, Ry w a len cap l :=
  open_recs Try.underlying22 cellsSy (fun h => open_sy h) h
end

end Go.Proofs.Ytonhahijblnfhaa
