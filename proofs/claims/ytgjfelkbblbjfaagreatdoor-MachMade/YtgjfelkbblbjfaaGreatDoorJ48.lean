/- Texts of this claim, joined: InstOpen, MadeOpen, MachLaid. -/
import Derived.Test.YtgjfelkbblbjfaaGreatDoorJ23
import Derived.Test.YtgjfelkbblbjfaaGreatDoorRows
import Derived.WalkKit
import Derived.ProofKit
import Derived.ChangeSame
import Derived.Test.YtgjfelkbblbjfaaGreatDoorJ45
import Derived.OpenShut
import Derived.Test.YtgjfelkbblbjfaaGreatDoorJ05
import Derived.Lib.LaidTab
import Derived.LaidMore
import Derived.Stop.LaidErr
import Derived.Stop.Joined
/- An argument that is an instruction (a struct of five integers): opened and shut. -/
namespace Go.Proofs.YtgjfelkbblbjfaaGreatDoor
open Go.ChangeShapes Go.WideShapes Go.ChangeAt Go.RowKit
set_option linter.unusedVariables false
set_option maxRecDepth 100000

section
variable {H : Type} {enc : TypeId × Value → H} {W : World} {base b0 : Nat} {spare : Nat → Bool} {held : Bool} {r : Reach}

theorem array5 {α : Type} {cs : Array α} (h : cs.size = 5) : ∃ c0 c1 c2 c3 c4, cs = #[c0, c1, c2, c3, c4] := by
  obtain ⟨l⟩ := cs
  match l, h with
  | [c0, c1, c2, c3, c4], _ => exact ⟨c0, c1, c2, c3, c4, rfl⟩

theorem trod_struct5 {P : Program} {t : TypeId} {f0 f1 f2 f3 f4 : Field} {fuel : Nat} {cs : List Value} {x : DataW H × List MemPlace} (ht : P.underlying t = some (.struct #[f0, f1, f2, f3, f4])) (h : DataW.trod enc P W base spare held fuel t cs = some x) :
    ∃ y0 y1 y2 y3 y4 n, x = (.agg [y0.1, y1.1, y2.1, y3.1, y4.1], y0.2 ++ (y1.2 ++ (y2.2 ++ (y3.2 ++ y4.2)))) ∧ DataW.trod enc P W base spare held n f0.type ((cs.drop f0.offset).take (P.cellsOf f0.type)) = some y0 ∧
      DataW.trod enc P W base spare held n f1.type ((cs.drop f1.offset).take (P.cellsOf f1.type)) = some y1 ∧ DataW.trod enc P W base spare held n f2.type ((cs.drop f2.offset).take (P.cellsOf f2.type)) = some y2 ∧
      DataW.trod enc P W base spare held n f3.type ((cs.drop f3.offset).take (P.cellsOf f3.type)) = some y3 ∧ DataW.trod enc P W base spare held n f4.type ((cs.drop f4.offset).take (P.cellsOf f4.type)) = some y4 := by
  obtain ⟨xs, n, _, rfl, hl, hlen, hf⟩ := DataW.trod_struct ht h
  match xs, hlen with
  | [y0, y1, y2, y3, y4], _ => exact ⟨y0, y1, y2, y3, y4, n, by simp, by simpa using hf 0 f0 rfl, by simpa using hf 1 f1 rfl, by simpa using hf 2 f2 rfl, by simpa using hf 3 f3 rfl, by simpa using hf 4 f4 rfl⟩

def instD (o r0 r1 r2 im : Int) : DataW H := .agg [.lit (.int .i64 o), .lit (.int .i64 r0), .lit (.int .i64 r1), .lit (.int .i64 r2), .lit (.int .i64 im)]
theorem cellsI : Tryz.prog.cellsOf 28 = 5 := by kernel_rfl
theorem cellsI3 : Tryz.prog.cellsOf 3 = 1 := by kernel_rfl
theorem cellsI2 : Tryz.prog.cellsOf 2 = 1 := by kernel_rfl

theorem open_inst {v : Value} {d : DataW H} {p : List MemPlace} (hv : Value.okWide Tryz.prog W r b0 28 v) (h : DataW.Trod enc Tryz.prog W base spare held 28 v d p) :
    ∃ o r0 r1 r2 im : Int, v = inst o r0 r1 r2 im ∧ d = instD o r0 r1 r2 im ∧ p = [] ∧ (Lit.int .i64 o).wf = true ∧ (Lit.int .i64 r0).wf = true ∧ (Lit.int .i64 r1).wf = true ∧ (Lit.int .i64 r2).wf = true ∧ (Lit.int .i64 im).wf = true := by
  obtain ⟨cs, rfl, hsz⟩ := okWide_struct Tryz.underlying28 hv
  obtain ⟨c0, c1, c2, c3, c4, rfl⟩ := array5 (hsz.trans cellsI)
  obtain ⟨fuel, hf⟩ := h
  obtain ⟨y0, y1, y2, y3, y4, n, hx, h0, h1, h2, h3, h4⟩ := trod_struct5 Tryz.underlying28 hf
  obtain ⟨a, e0, rfl, wa⟩ := DataW.trod_int Tryz.underlying3 h0
  obtain ⟨b, e1, rfl, wb⟩ := DataW.trod_int Tryz.underlying3 h1
  obtain ⟨c, e2, rfl, wc⟩ := DataW.trod_int Tryz.underlying3 h2
  obtain ⟨d', e3, rfl, wd⟩ := DataW.trod_int Tryz.underlying3 h3
  obtain ⟨m, e4, rfl, wm⟩ := DataW.trod_int Tryz.underlying2 h4
  simp [Value.cells, cellsI3, cellsI2] at e0 e1 e2 e3 e4
  subst e0 e1 e2 e3 e4
  simp only [Prod.mk.injEq] at hx
  obtain ⟨rfl, rfl⟩ := hx
  exact ⟨a, b, c, d', m, rfl, rfl, rfl, wa, wb, wc, wd, wm⟩

theorem shut_inst {o r0 r1 r2 im : Int} (wo : (Lit.int .i64 o).wf = true) (w0 : (Lit.int .i64 r0).wf = true) (w1 : (Lit.int .i64 r1).wf = true) (w2 : (Lit.int .i64 r2).wf = true) (wi : (Lit.int .i64 im).wf = true) :
    DataW.Trod enc Tryz.prog W base spare held 28 (inst o r0 r1 r2 im) (instD o r0 r1 r2 im) [] := ⟨2, by
  have f : ∀ z, (Lit.int .i64 z).wf = true → DataW.trod enc Tryz.prog W base spare held 1 3 [.int .i64 z] = some (.lit (.int .i64 z), []) := fun z hz => by simp [DataW.trod, Tryz.underlying3, hz]
  have f4 : DataW.trod enc Tryz.prog W base spare held 1 2 [.int .i64 im] = some (.lit (.int .i64 im), []) := by simp [DataW.trod, Tryz.underlying2, wi]
  have := trod_struct_mk (enc := enc) (w := W) (base := base) (spare := spare) (held := held) (n := 1) (cs := [.int .i64 o, .int .i64 r0, .int .i64 r1, .int .i64 r2, .int .i64 im]) (xs := [(.lit (.int .i64 o), []), (.lit (.int .i64 r0), []), (.lit (.int .i64 r1), []), (.lit (.int .i64 r2), []), (.lit (.int .i64 im), [])]) Tryz.underlying28 (by simp [cellsI]) (by simp [cellsI3, cellsI2, f o wo, f r0 w0, f r1 w1, f r2 w2, f4])
  simpa [Value.cells, inst, instD] using this⟩
end

end Go.Proofs.YtgjfelkbblbjfaaGreatDoor

/- A slice of instructions that came in: what its cells hold. -/
namespace Go.Proofs.YtgjfelkbblbjfaaGreatDoor
open Go.RowKit Go.Maps Go.ChangeShapes Go.WideShapes Go.ChangeAt
set_option linter.unusedVariables false
set_option maxRecDepth 100000

theorem add_plain (b o k : Nat) : (⟨b, o, none⟩ : Addr).add k = ⟨b, o + k, none⟩ := by unfold Addr.add; split <;> simp_all

section
variable {H : Type} {enc : TypeId × Value → H} {w : World} {base : Nat} {spare : Nat → Bool} {held : Bool}

theorem ini_wf {n : Int} (h : (Lit.int .i64 n).wf = true) : InI n := by
  have h1 : -9223372036854775808 ≤ n ∧ n ≤ 9223372036854775807 := by simpa [Lit.wf, IntKind.min, IntKind.max, IntKind.signed, IntKind.bits] using h
  unfold InI
  omega

theorem open_ins {n : Nat} {cs : List Value} {x : DataW H × List MemPlace} (h : DataW.trod enc Tryz.prog w base spare held n 28 cs = some x) : ∃ y : Ins, y.Ok ∧ cs = y.cells := by
  obtain ⟨xs, m, _, _, hl, _, _⟩ := DataW.trod_struct Tryz.underlying28 h
  obtain ⟨y0, y1, y2, y3, y4, n', hx, h0, h1, h2, h3, h4⟩ := trod_struct5 Tryz.underlying28 h
  rw [cellsI] at hl
  match cs, hl with
  | [c0, c1, c2, c3, c4], _ =>
    obtain ⟨a, e0, rfl, wa⟩ := DataW.trod_int Tryz.underlying3 h0
    obtain ⟨b, e1, rfl, wb⟩ := DataW.trod_int Tryz.underlying3 h1
    obtain ⟨c, e2, rfl, wc⟩ := DataW.trod_int Tryz.underlying3 h2
    obtain ⟨d', e3, rfl, wd⟩ := DataW.trod_int Tryz.underlying3 h3
    obtain ⟨m', e4, rfl, wm⟩ := DataW.trod_int Tryz.underlying2 h4
    simp [cellsI3, cellsI2] at e0 e1 e2 e3 e4
    subst e0 e1 e2 e3 e4
    exact ⟨⟨a, b, c, d', m'⟩, ⟨ini_wf wa, ini_wf wb, ini_wf wc, ini_wf wd, ini_wf wm⟩, rfl⟩

theorem open_insts {a : Option Addr} {len cap : Nat} {d : DataW H} {p : List MemPlace} (h : DataW.Trod enc Tryz.prog w base (fun _ => true) held 22 (.slice a len cap) d p) : ∃ xs, Ri w a len cap xs := by
  obtain ⟨fuel, h⟩ := h
  rcases DataW.trod_slice Tryz.underlying22 h with ⟨h0, _⟩ | ⟨x, l, c, elems, rest, n, _, hcs, _, hb, hl, hm, hlen, hel, hsp, hns⟩
  · simp [Value.cells] at h0
    obtain ⟨rfl, rfl, rfl⟩ := h0
    exact ⟨[], rfl, by omega, by omega, (fun x hx => by cases hx), fun i x hx => by cases hx⟩
  · simp [Value.cells] at hcs
    obtain ⟨rfl, rfl, rfl⟩ := hcs
    have el : ∀ i, i < len → ∃ y : Ins, y.Ok ∧ ∀ j, j < 5 → w.cell? ((x.add (i * 5)).add j) = y.cells[j]? := fun i hi => by
      have h1 := hel i hi
      rw [List.getElem?_eq_getElem (by omega)] at h1
      obtain ⟨cs', h2, h3⟩ := Option.bind_eq_some_iff.1 h1
      rw [cellsI] at h2
      obtain ⟨_, h4, h5⟩ := World.cells?_some h2
      obtain ⟨y, hy, rfl⟩ := open_ins h3
      exact ⟨y, hy, h5⟩
    by_cases hp : len = 0
    · subst hp
      exact ⟨[], rfl, by omega, by unfold maxLen at hm; omega, (fun x hx => by cases hx), fun i x hx => by cases hx⟩
    obtain ⟨b, o, spot⟩ := x
    have hs : spot = none := by
      obtain ⟨y, hy, h5⟩ := el 0 (by omega)
      have h6 := h5 0 (by omega)
      rw [show y.cells[0]? = some (.int .i64 y.o) from rfl] at h6
      have h7 := World.cell?_spot h6
      simpa [Addr.add] using h7
    subst hs
    have el2 : ∀ i, i < len → ∃ y : Ins, y.Ok ∧ ∀ j, j < 5 → w.cell? ⟨b, o + i * 5 + j, none⟩ = y.cells[j]? := fun i hi => by
      obtain ⟨y, hy, h5⟩ := el i hi
      refine ⟨y, hy, fun j hj => ?_⟩
      have h6 := h5 j hj
      rw [add_plain, add_plain] at h6
      exact h6
    refine ⟨List.ofFn (fun i : Fin len => Classical.choose (el2 i.1 i.2)), by simp, hl, by unfold maxLen at hm; omega, ?_, ?_⟩
    · intro y hy
      obtain ⟨i, rfl⟩ := List.mem_ofFn.1 hy
      exact (Classical.choose_spec (el2 i.1 i.2)).1
    · intro i y hy
      have hi : i < len := by
        rcases Nat.lt_or_ge i len with h5 | h5
        · exact h5
        · rw [List.getElem?_eq_none (by simpa using h5)] at hy; cases hy
      rw [List.getElem?_ofFn, dif_pos hi] at hy
      cases hy
      exact ⟨b, o, rfl, (Classical.choose_spec (el2 i hi)).2⟩

end

end Go.Proofs.YtgjfelkbblbjfaaGreatDoor

/- From the rows' condition on the table of words to what the contracts ask; the world in which the condition is met. -/
namespace Go.Proofs.YtgjfelkbblbjfaaGreatDoor
open Go.RowKit
set_option linter.unusedVariables false
set_option maxRecDepth 100000

def lay : List (String × DataW Unit) := [("dovetail/inst.words", Rows.laid_dovetail_inst_words)]

theorem gW : Tryz.prog.globalNamed "dovetail/inst.words" = some 0 := by kernel_rfl
theorem tW : (Tryz.prog.globals[0]?).map (·.type) = some 155 := by kernel_rfl
theorem cW : Tryz.prog.cellsOf 155 = 66 := by kernel_rfl
theorem cU : Tryz.prog.cellsOf 31 = 1 := by kernel_rfl
theorem words_is : (Rows.laid_dovetail_inst_words : DataW Unit) = Lib.tabData .u32 wordsL := by kernel_rfl
theorem words_len : wordsL.length = 66 := by decide

theorem laid_of {W : World} (h : laidMetH Tryz.prog lay W) : Laid W := by
  rw [MakeChecks.laidMetH_plain _ _ _ (by kernel_rfl)] at h
  unfold lay at h
  rw [words_is] at h
  have hT := Lib.tabIs_of_head gW tW Tryz.underlying155 Tryz.underlying31 cU cW h
  have hc : ∀ k : Nat, k < 66 → W.cell? ⟨0, k, none⟩ = some (.int .u32 (wd k)) := fun k hk => hT.cell gW k (by rw [words_len]; exact hk)
  exact ⟨World.block_lt_of_cell? _ _ (hc 0 (by decide)), hc, trivial⟩

/-- The door's own heap meets the condition. -/
theorem door_met (os : Os) (args : Array Value) : laidMetH Tryz.prog lay ((World.doorLaid Tryz.prog 400 os).forCall (fun _ _ => 0) ⟨#[], args, []⟩).memory :=
  laidMetH_of_parts3 (fuel := 8) (laidMet_of_run' 8 (by kernel_rfl) (by kernel_rfl)) (by kernel_rfl) (by kernel_rfl)

end Go.Proofs.YtgjfelkbblbjfaaGreatDoor
