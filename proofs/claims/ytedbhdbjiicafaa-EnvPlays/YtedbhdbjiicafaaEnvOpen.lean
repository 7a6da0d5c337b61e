/- Events and scripts of acts that came in: what their cells hold; how long an event's bytes are at most. -/
import Derived.Test.YtedbhdbjiicafaaEnvKnown
import Derived.ProofKit
import Derived.OpenShut
import Derived.SizedLaws
namespace Go.Proofs.Ytedbhdbjiicafaa
open Go.RowKit Go.ChangeShapes Go.WideShapes Go.ChangeAt
set_option linter.unusedVariables false

theorem exists_list {α : Type} {P : Nat → α → Prop} : ∀ n : Nat, (∀ i, i < n → ∃ y, P i y) → ∃ l : List α, l.length = n ∧ ∀ i y, l[i]? = some y → P i y
  | 0, _ => ⟨[], rfl, fun i y h => by simp at h⟩
  | n + 1, h => by
    obtain ⟨l, h1, h2⟩ := exists_list n (fun i hi => h i (by omega))
    obtain ⟨y, hy⟩ := h n (by omega)
    refine ⟨l ++ [y], by simp [h1], fun i z hz => ?_⟩
    rcases Nat.lt_or_ge i n with h3 | h3
    · rw [List.getElem?_append_left (by omega)] at hz
      exact h2 i z hz
    · rw [List.getElem?_append_right (by omega)] at hz
      have h4 : i - l.length = 0 := by
        rcases Nat.eq_zero_or_pos (i - l.length) with h5 | h5
        · exact h5
        · rw [List.getElem?_eq_none (by simp; omega)] at hz
          cases hz
      rw [h4] at hz
      have h5 : i = n := by omega
      subst h5
      simp at hz
      subst hz
      exact hy

theorem weights_mem_all {H : Type} {P : Program} {e : TypeId} : ∀ {l : List (DataW H)} {d : DataW H}, d ∈ l → ∀ q ∈ d.weights P e, q ∈ DataW.weightsAll P e l
  | d0 :: l, d, hd, q, hq => by
    simp only [DataW.weightsAll, List.mem_append]
    rcases List.mem_cons.1 hd with rfl | hd
    · exact Or.inl hq
    · exact Or.inr (weights_mem_all hd q hq)

section
variable {H : Type} {enc : TypeId × Value → H} {w : World} {base : Nat} {spare : Nat → Bool} {held : Bool}

theorem trod_int_is {t : TypeId} {k : IntKind} (ht : Try.prog.underlying t = some (.int k)) {n : Nat} {cs : List Value} {x : DataW H × List MemPlace} (h : DataW.trod enc Try.prog w base spare held n t cs = some x) : ∃ z, cs = [.int k z] ∧ (Lit.int k z).wf = true := by
  cases n with
  | zero => simp [DataW.trod] at h
  | succ n =>
    unfold DataW.trod at h
    rw [ht] at h
    split at h <;> simp_all

theorem four {cs : List Value} (h : cs.length = 4) : ∃ c0 c1 c2 c3, cs = [c0, c1, c2, c3] := by
  match cs, h with
  | [c0, c1, c2, c3], _ => exact ⟨c0, c1, c2, c3, rfl⟩

theorem open_evt {n : Nat} {cs : List Value} {x : DataW H × List MemPlace} (h : DataW.trod enc Try.prog w base (fun _ => true) held n 32 cs = some x) :
    ∃ y : Evt, y.Ok w ∧ cs = y.cells ∧ ((∀ q ∈ x.1.weights Try.prog 32, q ≤ reachBytes) → y.len ≤ 140737488355328) := by
  obtain ⟨xs, m, rfl, rfl, hl, hxl, hf⟩ := DataW.trod_struct Try.underlying32 h
  have h4 : Try.prog.cellsOf 32 = 4 := by kernel_rfl
  have c3 : Try.prog.cellsOf 3 = 1 := by kernel_rfl
  have c2 : Try.prog.cellsOf 2 = 1 := by kernel_rfl
  have c22 : Try.prog.cellsOf 22 = 1 := by kernel_rfl
  have b8 : Try.prog.bytesOf 5 = 1 := by kernel_rfl
  rw [h4] at hl
  obtain ⟨d0, d1, d2, d3, rfl⟩ := four hl
  have g : ∀ (i : Nat) (f : Field), (#[({ name := "Kind", type := 3, offset := 0, embedded := false, tag := "", pkgPath := "", byteOffset := 0 } : Field), { name := "Fd", type := 2, offset := 1, embedded := false, tag := "", pkgPath := "", byteOffset := 8 }, { name := "B", type := 22, offset := 2, embedded := false, tag := "", pkgPath := "", byteOffset := 16 }, { name := "N", type := 3, offset := 3, embedded := false, tag := "", pkgPath := "", byteOffset := 40 }] : Array Field)[i]? = some f → ∃ y, xs[i]? = some y ∧ DataW.trod enc Try.prog w base (fun _ => true) held m f.type (([d0, d1, d2, d3].drop f.offset).take (Try.prog.cellsOf f.type)) = some y := fun i f hif => by
    have h2 := hf i f hif
    have hi : i < xs.length := by
      rw [hxl]
      exact (Array.getElem?_eq_some_iff.1 hif).1
    rw [List.getElem?_eq_getElem hi] at h2
    exact ⟨_, List.getElem?_eq_getElem hi, h2⟩
  obtain ⟨_, _, t0⟩ := g 0 { name := "Kind", type := 3, offset := 0, embedded := false, tag := "", pkgPath := "", byteOffset := 0 } rfl
  obtain ⟨_, _, t1⟩ := g 1 { name := "Fd", type := 2, offset := 1, embedded := false, tag := "", pkgPath := "", byteOffset := 8 } rfl
  obtain ⟨y2, hy2, t2⟩ := g 2 { name := "B", type := 22, offset := 2, embedded := false, tag := "", pkgPath := "", byteOffset := 16 } rfl
  obtain ⟨_, _, t3⟩ := g 3 { name := "N", type := 3, offset := 3, embedded := false, tag := "", pkgPath := "", byteOffset := 40 } rfl
  simp only [c3, c2, c22, List.drop_succ_cons, List.drop_zero, List.take_succ_cons, List.take_zero] at t0 t1 t2 t3
  obtain ⟨z0, e0, f0⟩ := trod_int_is Try.underlying3 t0
  obtain ⟨z1, e1, f1⟩ := trod_int_is Try.underlying2 t1
  obtain ⟨z3, e3, f3⟩ := trod_int_is Try.underlying3 t3
  have hb : ∃ a l c bs, [d2] = [Value.slice a l c] ∧ Rd w a l c bs ∧ ((∀ q ∈ (DataW.agg (xs.map (·.1))).weights Try.prog 32, q ≤ reachBytes) → l ≤ 140737488355328) := by
    rcases open_ints Try.underlying22 Try.underlying5 (by kernel_rfl) t2 with ⟨hcs, _⟩ | ⟨x, l, c, zs, hcs, _, hl, hm, hz, hx2, hcell, hwz⟩
    · exact ⟨none, 0, 0, [], hcs, Rd.nothing w, fun _ => by omega⟩
    · have r : IsRow .u8 w (some x) l c zs := .inr ⟨_, rfl, hl, hm, by simpa using hz, hcell, hwz⟩
      have r2 := r.rn (top := 255) (by decide) (fun n hn => bounds_u8 hn)
      refine ⟨some x, l, c, zs.take l, hcs, ⟨r2.length, r2.le, r2.max, r2.fit, r2.nil, r2.cell⟩, fun hq => ?_⟩
      have hd : (xs.map (·.1))[2]? = some (DataW.slice (lits .u8 (zs.take l)) (lits .u8 (zs.drop l))) := by
        rw [List.getElem?_map, hy2, hx2]
        rfl
      have h9 := DataW.weights_mem_each (P := Try.prog) (ts := [3, 2, 22, 3]) (j := 2) (t := 22) rfl hd ((lits (H := H) .u8 (zs.take l)).length + (lits (H := H) .u8 (zs.drop l)).length) (by
        rw [DataW.weights, Try.underlying22]
        simp [b8])
      have h10 := hq _ (by
        rw [DataW.weights, Try.underlying32]
        exact h9)
      have h11 := r2.length
      have h12 : (lits (H := H) .u8 (zs.take l)).length = l := by
        simp only [lits, List.length_map]
        exact h11
      rw [h12] at h10
      have := reachBytes_lt
      omega
  obtain ⟨ba, bl, bc, bbs, e2, hr, hsz⟩ := hb
  injection e0 with e0; injection e1 with e1; injection e2 with e2; injection e3 with e3
  subst e0 e1 e2 e3
  exact ⟨⟨z0, z1, ba, bl, bc, z3, bbs⟩, ⟨bounds_i64 f0, bounds_i64 f1, bounds_i64 f3, hr⟩, rfl, hsz⟩

theorem open_evts {a : Option Addr} {len cap : Nat} {d : DataW H} {p : List MemPlace} (h : DataW.Trod enc Try.prog w base (fun _ => true) held 28 (.slice a len cap) d p) (hq : ∀ q ∈ d.weights Try.prog 28, q ≤ reachBytes) :
    ∃ es, Evs w a len es ∧ ∀ x ∈ es, x.len ≤ 140737488355328 := by
  obtain ⟨fuel, h⟩ := h
  have h4 : Try.prog.cellsOf 32 = 4 := by kernel_rfl
  rcases DataW.trod_slice Try.underlying28 h with ⟨h0, _⟩ | ⟨x, l, c, elems, rest, n, _, hcs, hd, hb, hl, hm, hlen, hel, hsp, hns⟩
  · simp [Value.cells] at h0
    obtain ⟨rfl, rfl, rfl⟩ := h0
    exact ⟨[], ⟨rfl, by omega, (fun x hx => by cases hx), fun i x hx => by simp at hx⟩, fun x hx => by cases hx⟩
  · simp [Value.cells] at hcs
    obtain ⟨rfl, rfl, rfl⟩ := hcs
    have hd' : d = .slice (elems.map (·.1)) (rest.map (·.1)) := congrArg Prod.fst hd
    have el : ∀ i, i < len → ∃ y : Evt, y.Ok w ∧ (∀ j, j < 4 → w.cell? ((x.add (i * 4)).add j) = y.cells[j]?) ∧ y.len ≤ 140737488355328 := fun i hi => by
      have h1 := hel i hi
      rw [List.getElem?_eq_getElem (by omega)] at h1
      obtain ⟨cs', h2, h3⟩ := Option.bind_eq_some_iff.1 h1
      rw [h4] at h2
      obtain ⟨_, h6, h5⟩ := World.cells?_some h2
      obtain ⟨y, hy, rfl, hy2⟩ := open_evt h3
      refine ⟨y, hy, h5, hy2 (fun q hqq => hq q ?_)⟩
      rw [hd', DataW.weights, Try.underlying28]
      refine List.mem_cons_of_mem _ (List.mem_append_left _ (weights_mem_all (d := (elems[i]'(by omega)).1) (List.mem_map_of_mem (List.getElem_mem _)) q hqq))
    obtain ⟨es, hes, hP⟩ := exists_list len el
    refine ⟨es, ⟨hes, by unfold maxLen at hm; omega, fun y hy => ?_, fun i y hy => ?_⟩, fun y hy => ?_⟩
    · obtain ⟨i, hi⟩ := List.mem_iff_getElem?.1 hy
      exact (hP i y hi).1
    · obtain ⟨b, o, spot⟩ := x
      have h5 := (hP i y hy).2.1
      have hil := (List.getElem?_eq_some_iff.1 hy).1
      obtain ⟨y0, _, h50, _⟩ := el 0 (by omega)
      have h6 := h50 0 (by omega)
      have hs : spot = none := by
        rw [show y0.cells[0]? = some (.int .i64 y0.kind) from rfl] at h6
        have h7 := World.cell?_spot h6
        simpa [Addr.add] using h7
      subst hs
      refine ⟨b, o, rfl, fun j hj => ?_⟩
      have h7 := h5 j hj
      have e1 : ((⟨b, o, none⟩ : Addr).add (i * 4)).add j = ⟨b, o + i * 4 + j, none⟩ := by unfold Addr.add; repeat' split <;> simp_all
      rw [e1] at h7
      exact h7
    · obtain ⟨i, hi⟩ := List.mem_iff_getElem?.1 hy
      exact (hP i y hi).2.2

end

end Go.Proofs.Ytedbhdbjiicafaa
