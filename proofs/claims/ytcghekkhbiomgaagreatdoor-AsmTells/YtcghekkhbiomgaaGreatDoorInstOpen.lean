/- An argument that is an instruction (a struct of five integers): opened and shut. -/
import Derived.Test.YtcghekkhbiomgaaGreatDoorInstKnown
import Derived.Test.YtcghekkhbiomgaaGreatDoorRows
import Derived.WalkKit
import Derived.ProofKit
import Derived.ChangeSame
namespace Go.Proofs.YtcghekkhbiomgaaGreatDoor
open Go.ChangeShapes Go.WideShapes Go.ChangeAt Go.RowKit
set_option linter.unusedVariables false
set_option maxRecDepth 100000

section
variable {H : Type} {enc : TypeId × Value → H} {W : World} {base b0 : Nat} {spare : Nat → Bool} {held : Bool} {r : Reach}

theorem array5 {α : Type} {cs : Array α} (h : cs.size = 5) : ∃ c0 c1 c2 c3 c4, cs = #[c0, c1, c2, c3, c4] := by
  obtain ⟨l⟩ := cs
  match l, h with
  | [c0, c1, c2, c3, c4], _ => exact ⟨c0, c1, c2, c3, c4, rfl⟩

theorem trod_struct5 {P : Program} {t : TypeId} {f0 f1 f2 f3 f4 : Field} {fuel : Nat} {cs : List Value} {x : DataW H × List MemPlace} (ht : P.underlying t = some (.struct #[f0, f1, f2, f3, f4])) (h : DataW.trod enc P W base spare held fuel t cs = some x) :
    ∃ y0 y1 y2 y3 y4 n, x = (.agg [y0.1, y1.1, y2.1, y3.1, y4.1], y0.2 ++ (y1.2 ++ (y2.2 ++ (y3.2 ++ y4.2)))) ∧ DataW.trod enc P W base spare held n f0.type ((cs.drop f0.offset).take (P.cellsOf f0.type)) = some y0 ∧
      DataW.trod enc P W base spare held n f1.type ((cs.drop f1.offset).take (P.cellsOf f1.type)) = some y1 ∧ DataW.trod enc P W base spare held n f2.type ((cs.drop f2.offset).take (P.cellsOf f2.type)) = some y2 ∧
      DataW.trod enc P W base spare held n f3.type ((cs.drop f3.offset).take (P.cellsOf f3.type)) = some y3 ∧ DataW.trod enc P W base spare held n f4.type ((cs.drop f4.offset).take (P.cellsOf f4.type)) = some y4 := by
  obtain ⟨xs, n, _, rfl, hl, hlen, hf⟩ := DataW.trod_struct ht h
  match xs, hlen with
  | [y0, y1, y2, y3, y4], _ => exact ⟨y0, y1, y2, y3, y4, n, by simp, by simpa using hf 0 f0 rfl, by simpa using hf 1 f1 rfl, by simpa using hf 2 f2 rfl, by simpa using hf 3 f3 rfl, by simpa using hf 4 f4 rfl⟩

def instD (o r0 r1 r2 im : Int) : DataW H := .agg [.lit (.int .i64 o), .lit (.int .i64 r0), .lit (.int .i64 r1), .lit (.int .i64 r2), .lit (.int .i64 im)]
theorem cellsI : Tryz.prog.cellsOf 23 = 5 := by kernel_rfl
theorem cellsI3 : Tryz.prog.cellsOf 3 = 1 := by kernel_rfl
theorem cellsI2 : Tryz.prog.cellsOf 2 = 1 := by kernel_rfl

theorem open_inst {v : Value} {d : DataW H} {p : List MemPlace} (hv : Value.okWide Tryz.prog W r b0 23 v) (h : DataW.Trod enc Tryz.prog W base spare held 23 v d p) :
    ∃ o r0 r1 r2 im : Int, v = inst o r0 r1 r2 im ∧ d = instD o r0 r1 r2 im ∧ p = [] ∧ (Lit.int .i64 o).wf = true ∧ (Lit.int .i64 r0).wf = true ∧ (Lit.int .i64 r1).wf = true ∧ (Lit.int .i64 r2).wf = true ∧ (Lit.int .i64 im).wf = true := by
  obtain ⟨cs, rfl, hsz⟩ := okWide_struct Tryz.underlying23 hv
  obtain ⟨c0, c1, c2, c3, c4, rfl⟩ := array5 (hsz.trans cellsI)
  obtain ⟨fuel, hf⟩ := h
  obtain ⟨y0, y1, y2, y3, y4, n, hx, h0, h1, h2, h3, h4⟩ := trod_struct5 Tryz.underlying23 hf
  obtain ⟨a, e0, rfl, wa⟩ := DataW.trod_int Tryz.underlying3 h0
  obtain ⟨b, e1, rfl, wb⟩ := DataW.trod_int Tryz.underlying3 h1
  obtain ⟨c, e2, rfl, wc⟩ := DataW.trod_int Tryz.underlying3 h2
  obtain ⟨d', e3, rfl, wd⟩ := DataW.trod_int Tryz.underlying3 h3
  obtain ⟨m, e4, rfl, wm⟩ := DataW.trod_int Tryz.underlying2 h4
  simp [Value.cells, cellsI3, cellsI2] at e0 e1 e2 e3 e4
  subst e0 e1 e2 e3 e4
  simp only [Prod.mk.injEq] at hx
  obtain ⟨rfl, rfl⟩ := hx
  exact ⟨a, b, c, d', m, rfl, rfl, rfl, wa, wb, wc, wd, wm⟩

theorem shut_inst {o r0 r1 r2 im : Int} (wo : (Lit.int .i64 o).wf = true) (w0 : (Lit.int .i64 r0).wf = true) (w1 : (Lit.int .i64 r1).wf = true) (w2 : (Lit.int .i64 r2).wf = true) (wi : (Lit.int .i64 im).wf = true) :
    DataW.Trod enc Tryz.prog W base spare held 23 (inst o r0 r1 r2 im) (instD o r0 r1 r2 im) [] := ⟨2, by
  have f : ∀ z, (Lit.int .i64 z).wf = true → DataW.trod enc Tryz.prog W base spare held 1 3 [.int .i64 z] = some (.lit (.int .i64 z), []) := fun z hz => by simp [DataW.trod, Tryz.underlying3, hz]
  have f4 : DataW.trod enc Tryz.prog W base spare held 1 2 [.int .i64 im] = some (.lit (.int .i64 im), []) := by simp [DataW.trod, Tryz.underlying2, wi]
  have := trod_struct_mk (enc := enc) (w := W) (base := base) (spare := spare) (held := held) (n := 1) (cs := [.int .i64 o, .int .i64 r0, .int .i64 r1, .int .i64 r2, .int .i64 im]) (xs := [(.lit (.int .i64 o), []), (.lit (.int .i64 r0), []), (.lit (.int .i64 r1), []), (.lit (.int .i64 r2), []), (.lit (.int .i64 im), [])]) Tryz.underlying23 (by simp [cellsI]) (by simp [cellsI3, cellsI2, f o wo, f r0 w0, f r1 w1, f r2 w2, f4])
  simpa [Value.cells, inst, instD] using this⟩
end

end Go.Proofs.YtcghekkhbiomgaaGreatDoor
