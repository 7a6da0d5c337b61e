/- Members that came in: a slice of them. -/
import Derived.Test.YtebnhejnacmhiaaDoorArState
import Derived.ProofKit
import Derived.OpenShut
import Derived.ChangeSame
namespace Go.Proofs.YtebnhejnacmhiaaDoor
open Go.RowKit Go.ChangeShapes Go.WideShapes Go.ChangeAt
set_option linter.unusedVariables false
set_option maxRecDepth 100000
set_option maxRecDepth 20000

/-- Whole numbers that fit a byte are bytes. -/
theorem nI_mk : ∀ (zs : List Int), (∀ n ∈ zs, 0 ≤ n ∧ n ≤ 255) → ∃ l : T8, nI l = zs
  | [], _ => ⟨[], rfl⟩
  | z :: zs, h => by
    obtain ⟨l, hl⟩ := nI_mk zs (fun n hn => h n (List.mem_cons_of_mem _ hn))
    have hz := h z (by simp)
    refine ⟨UInt8.ofNat z.toNat :: l, ?_⟩
    have e : ((UInt8.ofNat z.toNat).toNat : Int) = z := by
      rw [UInt8.toNat_ofNat']
      omega
    show ((UInt8.ofNat z.toNat).toNat : Int) :: nI l = _
    rw [e, hl]
theorem IsRow.rt {w : World} {a : Option Addr} {len cap : Nat} {zs : List Int} (h : IsRow .u8 w a len cap zs) : ∃ l : T8, l.length = len ∧ Rt w a cap l := by
  have rn := h.rn (top := 255) (by decide) (fun n hn => by simpa [Lit.wf, IntKind.min, IntKind.max, IntKind.signed, IntKind.bits] using hn)
  obtain ⟨l, hl⟩ := nI_mk (zs.take len) (fun n hn => rn.fit n hn)
  have hlen : l.length = len := by
    have h1 := rn.length
    rw [← hl] at h1
    simpa [nI] using h1
  refine ⟨l, hlen, ?_⟩
  show Rd w a l.length cap (nI l)
  rw [hl, hlen]
  exact ⟨rn.length, rn.le, rn.max, rn.fit, rn.nil, rn.cell⟩

section
variable {H : Type} {enc : TypeId × Value → H} {w : World} {base : Nat} {held : Bool}
theorem cellsMb : Tryd.prog.cellsOf 33 = 2 := by kernel_rfl
theorem cellsMs : Tryd.prog.cellsOf 9 = 1 := by kernel_rfl
theorem cellsMy : Tryd.prog.cellsOf 23 = 1 := by kernel_rfl
theorem open_by {n : Nat} {cs : List Value} {x : DataW H × List MemPlace} (h : DataW.trod enc Tryd.prog w base (fun _ => true) held n 23 cs = some x) : ∃ (a : Option Addr) (c : Nat) (l : T8), Rt w a c l ∧ cs = [.slice a l.length c] := by
  rcases open_ints Tryd.underlying23 Tryd.underlying5 (by kernel_rfl) h with ⟨hcs, _⟩ | ⟨x, l, c, zs, hcs, _, hl, hm, hz, _, hcell, hwz⟩
  · exact ⟨none, 0, [], Rd.nothing w, hcs⟩
  · have hI : IsRow .u8 w (some x) l c zs := .inr ⟨x, rfl, hl, hm, by simpa using hz, hcell, hwz⟩
    obtain ⟨q, hq, hr⟩ := hI.rt
    exact ⟨some x, c, q, hr, by rw [hq]; exact hcs⟩
def MbV.Ok (w : World) (v : MbV) : Prop := ∃ m : Mb, v.nm = m.n ∧ v.l = m.b.length ∧ Rt w v.a v.c m.b
theorem open_mb {n : Nat} {cs : List Value} {x : DataW H × List MemPlace} (h : DataW.trod enc Tryd.prog w base (fun _ => true) held n 33 cs = some x) : ∃ v : MbV, v.Ok w ∧ cs = mbC.cells v := by
  obtain ⟨xs, m, _, _, hl, hlen, hf⟩ := DataW.trod_struct Tryd.underlying33 h
  rw [cellsMb] at hl
  match cs, hl with
  | [c0, c1], _ =>
    match xs, hlen with
    | [y0, y1], _ =>
      have g0 := hf 0 _ rfl
      have g1 := hf 1 _ rfl
      obtain ⟨a0, e0, _, u0⟩ := DataW.trod_string Tryd.underlying9 g0
      obtain ⟨a1, k1, l1, r1, e1⟩ := open_by g1
      simp [cellsMs, cellsMy] at e0 e1
      subst e0 e1
      refine ⟨⟨a0.data.toList, a1, l1.length, k1⟩, ⟨⟨a0.data.toList, l1⟩, rfl, rfl, r1⟩, ?_⟩
      show _ = [Value.string (str a0.data.toList), .slice a1 l1.length k1]
      rw [str_of]
theorem open_mbs {a : Option Addr} {len cap : Nat} {d : DataW H} {p : List MemPlace} (h : DataW.Trod enc Tryd.prog w base (fun _ => true) held 22 (.slice a len cap) d p) : ∃ l : List Mb, Rmb w a len cap l := by
  obtain ⟨l, r⟩ := open_recs (C := mbC) (ok := fun s => s.Ok w) Tryd.underlying22 cellsMb (fun h => open_mb h) h
  have hex : ∀ l : List MbV, (∀ v ∈ l, v.Ok w) → ∃ ms : List Mb, ms.length = l.length ∧ ∀ (i : Nat) (m : Mb), ms[i]? = some m → ∃ v : MbV, l[i]? = some v ∧ v.nm = m.n ∧ v.l = m.b.length ∧ Rt w v.a v.c m.b := by
    intro l
    induction l with
    | nil => exact fun _ => ⟨[], rfl, fun i m h => by simp at h⟩
    | cons v l ih =>
      intro h
      obtain ⟨ms, h1, h2⟩ := ih (fun u hu => h u (List.mem_cons_of_mem _ hu))
      obtain ⟨m, hm⟩ := h v (by simp)
      refine ⟨m :: ms, by simp [h1], fun i q hq => ?_⟩
      cases i with
      | zero => simp at hq; subst hq; exact ⟨v, rfl, hm⟩
      | succ i => exact h2 i q (by simpa using hq)
  obtain ⟨ms, h1, h2⟩ := hex l r.ok
  refine ⟨ms, by rw [h1]; exact r.length, r.le, r.max, r.nil, fun i m hm => ?_⟩
  obtain ⟨v, hv, q1, q2, q3⟩ := h2 i m hm
  obtain ⟨b, o, g1, g2⟩ := r.cell i v hv
  have c0 := g2 0 (by decide)
  have c1 := g2 1 (by decide)
  refine ⟨b, o, v.a, v.c, g1, ?_, ?_, q3⟩
  · rw [← q1]; exact c0
  · rw [← q2]; exact c1
end

end Go.Proofs.YtebnhejnacmhiaaDoor
