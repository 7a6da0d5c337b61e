/- Entries, and symbols of objects, that came in: slices of them. -/
import Derived.Test.YteknmlcgdjoccaaArmIx
import Derived.Test.YteknmlcgdjoccaaSmRow
import Derived.ProofKit
import Derived.OpenShut
import Derived.ChangeSame
namespace Go.Proofs.Yteknmlcgdjoccaa
open Go.RowKit Go.ChangeShapes Go.WideShapes Go.ChangeAt
set_option linter.unusedVariables false
set_option maxRecDepth 20000

theorem wfEi {n : Int} (h : (Lit.int .i64 n).wf = true) : -9223372036854775808 ≤ n ∧ n ≤ 9223372036854775807 := by
  simpa [Lit.wf, IntKind.min, IntKind.max, IntKind.signed, IntKind.bits] using h
theorem wfEu {n : Int} (h : (Lit.int .u64 n).wf = true) : ∃ m : Nat, n = (m : Int) ∧ m < 18446744073709551616 := by
  have h1 : 0 ≤ n ∧ n ≤ 18446744073709551615 := by simpa [Lit.wf, IntKind.min, IntKind.max, IntKind.signed, IntKind.bits] using h
  exact ⟨n.toNat, by omega, by omega⟩

section
variable {H : Type} {enc : TypeId × Value → H} {w : World} {base b0 : Nat} {spare : Nat → Bool} {held : Bool} {r : Reach}

theorem cellsEn : Try.prog.cellsOf 27 = 2 := by kernel_rfl
theorem cellsEs : Try.prog.cellsOf 9 = 1 := by kernel_rfl
theorem cellsEi : Try.prog.cellsOf 3 = 1 := by kernel_rfl
theorem open_en {n : Nat} {cs : List Value} {x : DataW H × List MemPlace} (h : DataW.trod enc Try.prog w base spare held n 27 cs = some x) : ∃ e : En, e.Ok ∧ cs = enC.cells e := by
  obtain ⟨xs, m, _, _, hl, hlen, hf⟩ := DataW.trod_struct Try.underlying27 h
  rw [cellsEn] at hl
  match cs, hl with
  | [c0, c1], _ =>
    match xs, hlen with
    | [y0, y1], _ =>
      have g0 := hf 0 _ rfl
      have g1 := hf 1 _ rfl
      obtain ⟨a0, e0, _, u0⟩ := DataW.trod_string Try.underlying9 g0
      obtain ⟨a1, e1, _, u1⟩ := DataW.trod_int Try.underlying3 g1
      simp [cellsEs, cellsEi] at e0 e1
      subst e0 e1
      have h1 := wfEi u1
      refine ⟨⟨a0.data.toList, a1⟩, ⟨?_, h1.1, h1.2⟩, ?_⟩
      · have : a0.data.toList.length = a0.size := by rw [Array.length_toList]; rfl
        unfold maxLen at u0
        show a0.data.toList.length ≤ _
        omega
      · show _ = [Value.string (str a0.data.toList), .int .i64 a1]
        rw [str_of]

theorem cellsSm : Try.prog.cellsOf 42 = 6 := by kernel_rfl
theorem cellsEu : Try.prog.cellsOf 40 = 1 := by kernel_rfl
theorem open_sm {n : Nat} {cs : List Value} {x : DataW H × List MemPlace} (h : DataW.trod enc Try.prog w base spare held n 42 cs = some x) : ∃ s : Sm, s.Ok ∧ cs = smC.cells s := by
  obtain ⟨xs, m, _, _, hl, hlen, hf⟩ := DataW.trod_struct Try.underlying42 h
  rw [cellsSm] at hl
  match cs, hl with
  | [c0, c1, c2, c3, c4, c5], _ =>
    match xs, hlen with
    | [y0, y1, y2, y3, y4, y5], _ =>
      have g0 := hf 0 _ rfl
      have g1 := hf 1 _ rfl
      have g2 := hf 2 _ rfl
      have g3 := hf 3 _ rfl
      have g4 := hf 4 _ rfl
      have g5 := hf 5 _ rfl
      obtain ⟨a0, e0, _, u0⟩ := DataW.trod_string Try.underlying9 g0
      obtain ⟨a1, e1, _, u1⟩ := DataW.trod_int Try.underlying3 g1
      obtain ⟨a2, e2, _, u2⟩ := DataW.trod_int Try.underlying3 g2
      obtain ⟨a3, e3, _, u3⟩ := DataW.trod_int Try.underlying3 g3
      obtain ⟨a4, e4, _, u4⟩ := DataW.trod_int Try.underlying40 g4
      obtain ⟨a5, e5, _, u5⟩ := DataW.trod_int Try.underlying40 g5
      simp [cellsEs, cellsEi, cellsEu] at e0 e1 e2 e3 e4 e5
      obtain ⟨m4, rfl, k4⟩ := wfEu u4
      obtain ⟨m5, rfl, k5⟩ := wfEu u5
      subst e0 e1 e2 e3 e4 e5
      refine ⟨⟨a0.data.toList, a1, a2, a3, m4, m5⟩, ⟨?_, wfEi u1, wfEi u2, wfEi u3, k4, k5⟩, ?_⟩
      · have : a0.data.toList.length = a0.size := by rw [Array.length_toList]; rfl
        unfold maxLen at u0
        show a0.data.toList.length ≤ _
        omega
      · show _ = [Value.string (str a0.data.toList), .int .i64 a1, .int .i64 a2, .int .i64 a3, .int .u64 (m4 : Int), .int .u64 (m5 : Int)]
        rw [str_of]

end

section
variable {H : Type} {enc : TypeId × Value → H} {w : World} {base : Nat} {held : Bool}
theorem open_sms {a : Option Addr} {len cap : Nat} {d : DataW H} {p : List MemPlace} (h : DataW.Trod enc Try.prog w base (fun _ => true) held 39 (.slice a len cap) d p) : ∃ l, Rm w a len cap l :=
  open_recs Try.underlying39 cellsSm (fun h => open_sm h) h
theorem open_ens {a : Option Addr} {len cap : Nat} {d : DataW H} {p : List MemPlace} (h : DataW.Trod enc Try.prog w base (fun _ => true) held 23 (.slice a len cap) d p) : ∃ l, Ren w a len cap l :=
  open_recs Try.underlying23 cellsEn (fun h => open_en h) h

end

end Go.Proofs.Yteknmlcgdjoccaa
