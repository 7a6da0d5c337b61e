/- Headers that came in: one by value, or a slice of them. -/
import Derived.Test.YtmmbahblnmhhmaaShdrMem
import Derived.ProofKit
import Derived.OpenShut
import Derived.ChangeSame
namespace Go.Proofs.Ytmmbahblnmhhmaa
open Go.RowKit Go.ChangeShapes Go.WideShapes Go.ChangeAt
set_option linter.unusedVariables false

section
variable {H : Type} {enc : TypeId × Value → H} {w : World} {base b0 : Nat} {spare : Nat → Bool} {held : Bool} {r : Reach}

theorem array10 {α : Type} {cs : Array α} (h : cs.size = 10) : ∃ c0 c1 c2 c3 c4 c5 c6 c7 c8 c9, cs = #[c0, c1, c2, c3, c4, c5, c6, c7, c8, c9] := by
  obtain ⟨l⟩ := cs
  match l, h with
  | [c0, c1, c2, c3, c4, c5, c6, c7, c8, c9], _ => exact ⟨c0, c1, c2, c3, c4, c5, c6, c7, c8, c9, rfl⟩

theorem cellsSh : Try.prog.cellsOf 47 = 10 := by kernel_rfl
theorem cells32 : Try.prog.cellsOf 45 = 1 := by kernel_rfl
theorem cells64 : Try.prog.cellsOf 23 = 1 := by kernel_rfl

theorem wf32 {n : Int} (h : (Lit.int .u32 n).wf = true) : ∃ m : Nat, n = (m : Int) ∧ m < 4294967296 := by
  have h1 : 0 ≤ n ∧ n ≤ 4294967295 := by simpa [Lit.wf, IntKind.min, IntKind.max, IntKind.signed, IntKind.bits] using h
  exact ⟨n.toNat, by omega, by omega⟩
theorem wf64 {n : Int} (h : (Lit.int .u64 n).wf = true) : ∃ m : Nat, n = (m : Int) ∧ m < 18446744073709551616 := by
  have h1 : 0 ≤ n ∧ n ≤ 18446744073709551615 := by simpa [Lit.wf, IntKind.min, IntKind.max, IntKind.signed, IntKind.bits] using h
  exact ⟨n.toNat, by omega, by omega⟩

theorem open_sh {n : Nat} {cs : List Value} {x : DataW H × List MemPlace} (h : DataW.trod enc Try.prog w base spare held n 47 cs = some x) : ∃ s : Sh, s.Ok ∧ cs = s.cells := by
  obtain ⟨xs, m, _, _, hl, hlen, hf⟩ := DataW.trod_struct Try.underlying47 h
  rw [cellsSh] at hl
  match cs, hl with
  | [c0, c1, c2, c3, c4, c5, c6, c7, c8, c9], _ =>
    match xs, hlen with
    | [y0, y1, y2, y3, y4, y5, y6, y7, y8, y9], _ =>
      have g0 := hf 0 _ rfl
      have g1 := hf 1 _ rfl
      have g2 := hf 2 _ rfl
      have g3 := hf 3 _ rfl
      have g4 := hf 4 _ rfl
      have g5 := hf 5 _ rfl
      have g6 := hf 6 _ rfl
      have g7 := hf 7 _ rfl
      have g8 := hf 8 _ rfl
      have g9 := hf 9 _ rfl
      obtain ⟨a0, e0, _, u0⟩ := DataW.trod_int Try.underlying45 g0
      obtain ⟨a1, e1, _, u1⟩ := DataW.trod_int Try.underlying45 g1
      obtain ⟨a2, e2, _, u2⟩ := DataW.trod_int Try.underlying23 g2
      obtain ⟨a3, e3, _, u3⟩ := DataW.trod_int Try.underlying23 g3
      obtain ⟨a4, e4, _, u4⟩ := DataW.trod_int Try.underlying23 g4
      obtain ⟨a5, e5, _, u5⟩ := DataW.trod_int Try.underlying23 g5
      obtain ⟨a6, e6, _, u6⟩ := DataW.trod_int Try.underlying45 g6
      obtain ⟨a7, e7, _, u7⟩ := DataW.trod_int Try.underlying45 g7
      obtain ⟨a8, e8, _, u8⟩ := DataW.trod_int Try.underlying23 g8
      obtain ⟨a9, e9, _, u9⟩ := DataW.trod_int Try.underlying23 g9
      simp [cells32, cells64] at e0 e1 e2 e3 e4 e5 e6 e7 e8 e9
      obtain ⟨m0, rfl, k0⟩ := wf32 u0
      obtain ⟨m1, rfl, k1⟩ := wf32 u1
      obtain ⟨m2, rfl, k2⟩ := wf64 u2
      obtain ⟨m3, rfl, k3⟩ := wf64 u3
      obtain ⟨m4, rfl, k4⟩ := wf64 u4
      obtain ⟨m5, rfl, k5⟩ := wf64 u5
      obtain ⟨m6, rfl, k6⟩ := wf32 u6
      obtain ⟨m7, rfl, k7⟩ := wf32 u7
      obtain ⟨m8, rfl, k8⟩ := wf64 u8
      obtain ⟨m9, rfl, k9⟩ := wf64 u9
      subst e0 e1 e2 e3 e4 e5 e6 e7 e8 e9
      exact ⟨⟨m0, m1, m2, m3, m4, m5, m6, m7, m8, m9⟩, ⟨k0, k1, k2, k3, k4, k5, k6, k7, k8, k9⟩, rfl⟩

theorem open_shdr {v : Value} {d : DataW H} {p : List MemPlace} (hv : Value.okWide Try.prog w r b0 47 v) (h : DataW.Trod enc Try.prog w base spare held 47 v d p) : ∃ s : Sh, s.Ok ∧ v = shV s := by
  obtain ⟨cs, rfl, hsz⟩ := okWide_struct Try.underlying47 hv
  obtain ⟨fuel, hf⟩ := h
  obtain ⟨s, hs, he⟩ := open_sh hf
  refine ⟨s, hs, ?_⟩
  have : cs.toList = s.cells := by simpa [Value.cells] using he
  rw [← Array.toArray_toList (xs := cs), this]
  rfl

theorem sadd_plain (b o k : Nat) : (⟨b, o, none⟩ : Addr).add k = ⟨b, o + k, none⟩ := by unfold Addr.add; split <;> simp_all

theorem open_shdrs {a : Option Addr} {len cap : Nat} {d : DataW H} {p : List MemPlace} (h : DataW.Trod enc Try.prog w base (fun _ => true) held 22 (.slice a len cap) d p) : ∃ l, Rh w a len cap l := by
  obtain ⟨fuel, h⟩ := h
  rcases DataW.trod_slice Try.underlying22 h with ⟨h0, _⟩ | ⟨x, l, c, elems, rest, n, _, hcs, _, hb, hl, hm, hlen, hel, hsp, hns⟩
  · simp [Value.cells] at h0
    obtain ⟨rfl, rfl, rfl⟩ := h0
    exact ⟨[], Rh.nothing w⟩
  · simp [Value.cells] at hcs
    obtain ⟨rfl, rfl, rfl⟩ := hcs
    have el : ∀ i, i < len → ∃ y : Sh, y.Ok ∧ ∀ j, j < 10 → w.cell? ((x.add (i * 10)).add j) = y.cells[j]? := fun i hi => by
      have h1 := hel i hi
      rw [List.getElem?_eq_getElem (by omega)] at h1
      obtain ⟨cs', h2, h3⟩ := Option.bind_eq_some_iff.1 h1
      rw [cellsSh] at h2
      obtain ⟨_, h4, h5⟩ := World.cells?_some h2
      obtain ⟨y, hy, rfl⟩ := open_sh h3
      exact ⟨y, hy, h5⟩
    by_cases hp : len = 0
    · subst hp
      exact ⟨[], rfl, by omega, by unfold maxLen at hm; omega, (fun x hx => by cases hx), (fun h => by cases h), fun i x hx => by simp at hx⟩
    obtain ⟨b, o, spot⟩ := x
    have hs : spot = none := by
      obtain ⟨y, hy, h5⟩ := el 0 (by omega)
      have h6 := h5 0 (by omega)
      rw [show y.cells[0]? = some (.int .u32 (y.nm : Int)) from rfl] at h6
      have h7 := World.cell?_spot h6
      simpa [Addr.add] using h7
    subst hs
    have el2 : ∀ i, i < len → ∃ y : Sh, y.Ok ∧ ∀ j, j < 10 → w.cell? ⟨b, o + i * 10 + j, none⟩ = y.cells[j]? := fun i hi => by
      obtain ⟨y, hy, h5⟩ := el i hi
      refine ⟨y, hy, fun j hj => ?_⟩
      have h6 := h5 j hj
      rw [sadd_plain, sadd_plain] at h6
      exact h6
    refine ⟨List.ofFn (fun i : Fin len => Classical.choose (el2 i.1 i.2)), by simp, hl, by unfold maxLen at hm; omega, ?_, (fun h => by cases h), ?_⟩
    · intro y hy
      obtain ⟨i, rfl⟩ := List.mem_ofFn.1 hy
      exact (Classical.choose_spec (el2 i.1 i.2)).1
    · intro i y hy
      have hi : i < len := by
        rcases Nat.lt_or_ge i len with h5 | h5
        · exact h5
        · rw [List.getElem?_eq_none (by simpa using h5)] at hy; cases hy
      rw [List.getElem?_ofFn, dif_pos hi] at hy
      cases hy
      exact ⟨b, o, rfl, (Classical.choose_spec (el2 i hi)).2⟩

end

end Go.Proofs.Ytmmbahblnmhhmaa
