/- Slices of whole numbers that came in, and slices of them. -/
import Derived.Test.YtkllbcjbbfpccaaValRow
import Derived.Test.YtkllbcjbbfpccaaRec
import Derived.ProofKit
import Derived.OpenShut
import Derived.ChangeSame
namespace Go.Proofs.Ytkllbcjbbfpccaa
open Go.RowKit Go.ChangeShapes Go.WideShapes Go.ChangeAt
set_option linter.unusedVariables false

/-- A slice of whole numbers as a record of one cell. -/
structure SlI where
  a : Option Addr
  c : Nat
  m : List Int
def slC : Rc SlI := ⟨fun s => [.slice s.a s.m.length s.c], 1, by decide, fun _ => rfl, fun s u hu => by simp at hu; subst hu; rfl⟩

theorem IsRow.ri {w : World} {a : Option Addr} {len cap : Nat} {zs : List Int} (h : IsRow .i64 w a len cap zs) : Ri w a len cap (zs.take len) := by
  rcases h with ⟨rfl, rfl, rfl, rfl⟩ | ⟨x, rfl, hl, hm, hz, hc, hwf⟩
  · exact Ri.nothing w
  · refine ⟨⟨by simp; omega, hl, by unfold maxLen at hm; omega, (fun h => by cases h), fun y hy i u hu => ?_⟩, fun n hn => ?_⟩
    · cases hy
      have hi : i < len ∧ i < zs.length := by
        have := (List.getElem?_eq_some_iff.1 hu).1
        simp at this
        omega
      have h1 := hc i (by omega)
      simp [hi.1, hi.2] at hu h1
      rw [h1, hu]
    · have := hwf n (List.mem_of_mem_take hn)
      simpa [Lit.wf, IntKind.min, IntKind.max, IntKind.signed, IntKind.bits] using this

theorem flat1 {α β : Type} (f : α → β) : ∀ l : List α, l.flatMap (fun s => [f s]) = l.map f
  | [] => rfl
  | a :: l => by simp [flat1 f l]

section
variable {H : Type} {enc : TypeId × Value → H} {w : World} {base : Nat} {held : Bool}
theorem cellsInts : Try.prog.cellsOf 23 = 1 := by kernel_rfl
theorem open_in {n : Nat} {cs : List Value} {x : DataW H × List MemPlace} (h : DataW.trod enc Try.prog w base (fun _ => true) held n 23 cs = some x) : ∃ s : SlI, Ri w s.a s.m.length s.c s.m ∧ cs = slC.cells s := by
  rcases open_ints Try.underlying23 Try.underlying3 (by kernel_rfl) h with ⟨hcs, _⟩ | ⟨x, l, c, zs, hcs, _, hl, hm, hz, _, hcell, hwz⟩
  · exact ⟨⟨none, 0, []⟩, Ri.nothing w, hcs⟩
  · have hI : IsRow .i64 w (some x) l c zs := .inr ⟨x, rfl, hl, hm, by simpa using hz, hcell, hwz⟩
    have hr := hI.ri
    have hln := hr.length
    refine ⟨⟨some x, c, zs.take l⟩, ?_, ?_⟩
    · show Ri w (some x) (zs.take l).length c (zs.take l)
      rw [hln]
      exact hr
    · show cs = [.slice (some x) (zs.take l).length c]
      rw [hln]
      exact hcs
theorem open_ri {a : Option Addr} {len cap : Nat} {d : DataW H} {p : List MemPlace} (h : DataW.Trod enc Try.prog w base (fun _ => true) held 23 (.slice a len cap) d p) : ∃ l, Ri w a len cap l := by
  obtain ⟨fuel, hf⟩ := h
  obtain ⟨s, hs, hc⟩ := open_in hf
  simp [Value.cells, slC] at hc
  obtain ⟨rfl, rfl, rfl⟩ := hc
  exact ⟨_, hs⟩
theorem open_rii {a : Option Addr} {len cap : Nat} {d : DataW H} {p : List MemPlace} (h : DataW.Trod enc Try.prog w base (fun _ => true) held 35 (.slice a len cap) d p) : ∃ l, Rii w a len cap l := by
  obtain ⟨l, r⟩ := open_recs (C := slC) (ok := fun s => Ri w s.a s.m.length s.c s.m) Try.underlying35 cellsInts (fun h => open_in h) h
  refine ⟨l.map (·.m), ⟨l.map (fun s => .slice s.a s.m.length s.c), ⟨by simpa using r.length, r.le, r.max, r.nil, fun y hy i u hu => ?_⟩, by simpa using r.length, fun i m hm => ?_⟩⟩
  · refine r.cells y hy i u ?_
    rw [← hu]
    congr 1
    exact flat1 _ l
  · rw [List.getElem?_map] at hm ⊢
    cases hs : l[i]? with
    | none => rw [hs] at hm; cases hm
    | some s =>
      rw [hs] at hm
      cases hm
      exact ⟨s.a, s.c, rfl, r.ok s (List.mem_of_getElem? hs)⟩
end

end Go.Proofs.Ytkllbcjbbfpccaa
