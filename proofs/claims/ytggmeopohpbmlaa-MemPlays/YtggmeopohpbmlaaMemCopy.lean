/- 'copy' at the operation and as a step of a region that draws: the row behind it, all other blocks kept. -/
import Derived.Test.YtggmeopohpbmlaaMemLaid
import Derived.RegionTactic
import Derived.Deep.RegionLaw
import Derived.Deep.DeepCutAuto
namespace Go.Proofs.Ytggmeopohpbmlaa
open Go.RowKit Go.Maps
set_option linter.unusedVariables false

theorem kept_setRow (w : World) (g : Nat) (cs : Array Value) : Kept (fun k => k = g) w (w.setRow g cs) := (Kept.refl _ w).setRow g cs (Or.inl rfl)

theorem wpList_copy_kept {P : Program} {w : World} {ops : Array Oper} {rest : List Oper} {o : Oper} {a : Act} {Q : Exit → Act → World → Prop} (hgd : o.guard = none) (d s : Operand) (dT sT : TypeId)
    (ho : o.op = .call { callee := .builtin .copy, args := #[d, s], argTypes := #[dT, sT] }) (elem : TypeId) (hu : P.underlying dT = some (.slice elem)) (hsz : (P.info? elem).map (·.size) = some 1)
    (dp sp : Option Addr) (dLen dCap sLen sCap : Nat) (hd : a.eval d = .slice dp dLen dCap) (hs : a.eval s = .slice sp sLen sCap)
    (g off : Nat) (cur : List Value) (t : TypeId) (hg : w.heap[g]? = some (.cells cur.toArray t (0, 0))) (cs : List Value) (n : Nat) (hn : cs.length = n) (hmin : n = Nat.min sLen dLen)
    (hpos : 0 < n → dp = some ⟨g, off, none⟩ ∧ ∃ ad, sp = some ad ∧ ∀ j v, cs[j]? = some v → w.cell? (ad.add j) = some v)
    (hfit : off + cs.length ≤ cur.length) (h1 : ∀ v ∈ cs, v.oneCell' = true)
    (h : ∀ w', Hid (w'.heap[g]? = some (.cells (splice cur off cs).toArray t (0, 0))) → Hid (Kept (fun k => k = g) w w') → wpList P ops Q rest (a.put o.dst (goInt n)) w') :
    wpList P ops Q (o :: rest) a w := by
  subst hn
  by_cases h0 : cs.length = 0
  · obtain rfl : cs = [] := List.eq_nil_of_length_eq_zero h0
    refine wpList_copy_nothing hgd d s dT sT ho elem hu hsz dp sp dLen dCap sLen sCap hd hs (by simpa using hmin.symm) ?_
    exact h w (show _ = _ by simpa [splice] using hg) (Kept.refl _ _)
  · obtain ⟨rfl, ad, rfl, hsrc⟩ := hpos (by omega)
    refine wpList_copy_own hgd d s dT sT ho elem hu hsz g off dLen dCap ad sLen sCap hd hs cur.toArray t hg cs hmin hsrc (by simpa using hfit) h1 ?_
    exact h _ (show _ = _ by simpa [splice] using setRow_heap w g _ _ t _ hg) (kept_setRow _ _ _)

theorem step_copy_kept {P : Program} {ops : Array Oper} {o : Oper} {a : Act} {w : World} {K : Act → World → Prop} {Q : Exit → Act → World → Prop} {E : Prop} (hgd : o.guard = none) (d s : Operand) (dT sT : TypeId)
    (ho : o.op = .call { callee := .builtin .copy, args := #[d, s], argTypes := #[dT, sT] }) (elem : TypeId) (hu : P.underlying dT = some (.slice elem)) (hsz : (P.info? elem).map (·.size) = some 1)
    (dp sp : Option Addr) (dLen dCap sLen sCap : Nat) (hd : a.eval d = .slice dp dLen dCap) (hs : a.eval s = .slice sp sLen sCap)
    (g off : Nat) (cur : List Value) (t : TypeId) (hg : w.heap[g]? = some (.cells cur.toArray t (0, 0))) (cs : List Value) (n : Nat) (hn : cs.length = n) (hmin : n = Nat.min sLen dLen)
    (hpos : 0 < n → dp = some ⟨g, off, none⟩ ∧ ∃ ad, sp = some ad ∧ ∀ j v, cs[j]? = some v → w.cell? (ad.add j) = some v)
    (hfit : off + cs.length ≤ cur.length) (h1 : ∀ v ∈ cs, v.oneCell' = true)
    (h : ∀ w', Hid (w'.heap[g]? = some (.cells (splice cur off cs).toArray t (0, 0))) → Hid (Kept (fun k => k = g) w w') → K (a.put o.dst (goInt n)) w') :
    if Region.wanted o (yielded ops a.tmps) = true then Oper.wp P o a w K Q else E := by
  have hw : Region.wanted o (yielded ops a.tmps) = true := by simp [Region.wanted, hgd]
  rw [if_pos hw]
  subst hn
  by_cases h0 : cs.length = 0
  · obtain rfl : cs = [] := List.eq_nil_of_length_eq_zero h0
    have hrun := run_copy_none (P := P) w dT sT o.type elem dp sp dLen dCap sLen sCap hu hsz (by simpa using hmin.symm)
    unfold Oper.wp
    simp [execOp, ho, resolve, invoke, builtin, hd, hs, hrun, Result.andThen]
    exact h w (show _ = _ by simpa [splice] using hg) (Kept.refl _ _)
  · obtain ⟨rfl, ad, rfl, hsrc⟩ := hpos (by omega)
    have hrun := run_copy_row (P := P) w dT sT o.type elem g off dLen dCap ad sLen sCap cur.toArray t cs hu hsz hg hmin hsrc (by simpa using hfit) h1
    unfold Oper.wp
    simp [execOp, ho, resolve, invoke, builtin, hd, hs, hrun, Result.andThen]
    exact h _ (show _ = _ by simpa [splice] using setRow_heap w g _ _ t _ hg) (kept_setRow _ _ _)

theorem run_copy_kept (V : World) (ty : TypeId) (g off dLen dCap : Nat) (ad : Addr) (sLen sCap : Nat) (cur : List Value) (t : TypeId) (hg : V.heap[g]? = some (.cells cur.toArray t (0, 0))) (cs : List Value) (n : Nat) (hn : cs.length = n) (hmin : n = Nat.min sLen dLen)
    (hsrc : ∀ j v, cs[j]? = some v → V.cell? (ad.add j) = some v) (hfit : off + cs.length ≤ cur.length) (h1 : ∀ v ∈ cs, v.oneCell' = true) :
    ∃ W, Sem.run Try.prog (Builtin.copy_ #[30, 30] ty #[.slice (some ⟨g, off, none⟩) dLen dCap, .slice (some ad) sLen sCap]) V = .ok (.int .i64 (n : Int)) W ∧
      Hid (W.heap[g]? = some (.cells (splice cur off cs).toArray t (0, 0))) ∧ Hid (Kept (fun k => k = g) V W) := by
  subst hn
  have hrun := run_copy_row (P := Try.prog) V 30 30 ty 5 g off dLen dCap ad sLen sCap cur.toArray t cs Try.underlying30 Try.size8 hg hmin hsrc (by simpa using hfit) h1
  exact ⟨_, hrun, (show _ = _ by simpa [splice] using setRow_heap V g _ _ t _ hg), kept_setRow _ _ _⟩

/-- The first n of the bytes that are read, as cells. -/
theorem Rd.firsts {w : World} {a : Option Addr} {len cap : Nat} {bs : List Int} (r : Rd w a len cap bs) (n : Nat) (hn : n ≤ len) (h0 : 0 < n) :
    ∃ ad, a = some ad ∧ ∀ j v, ((bs.take n).map (Value.int .u8))[j]? = some v → w.cell? (ad.add j) = some v := by
  obtain ⟨b, o, rfl, hc⟩ := r.addr (by omega)
  refine ⟨_, rfl, fun j v hv => ?_⟩
  refine r.cells _ rfl j v ?_
  rw [List.map_take, List.getElem?_take] at hv
  split at hv
  · exact hv
  · cases hv

/-- How long a slice is: a loop's measure. -/
def slen : Value → Nat
  | .slice _ n _ => n
  | _ => 0

/-- A page of noughts. -/
def noughtRow : Array Value := madeCells #[.int .u8 0] 4096

theorem make4096 (w : World) : Sem.run Try.prog (Instr.makeSlice 30 (.int .i64 4096) (.int .i64 4096)) w = .ok (.slice (some ⟨w.heap.size, 0, none⟩) 4096 4096) (w.alloc (.cells noughtRow 5)) := by
  obtain ⟨i0, hi, hz0, hz1, hz2⟩ := info_parts Try.info8
  have hmk := run_make (P := Try.prog) w 30 5 i0 (.int .u8 0) Try.underlying30 hi hz0 .i64 .i64 4096 4096 (by omega) (by omega) (by rw [hz2]; decide) (by omega)
  rw [hz1] at hmk
  exact hmk

theorem noughtRow_size : noughtRow.toList.length = 4096 := by simp [noughtRow, madeCells]
theorem noughtRow_at (j : Nat) (h : j < 4096) : noughtRow.toList[j]? = some (.int .u8 0) := by
  unfold noughtRow madeCells
  simp [h, Nat.mod_one]

/-- A new page's bytes: a row of noughts. -/
def IsNought (Z : List Value) : Prop := (∀ w, Sem.run Try.prog (Instr.makeSlice 30 (.int .i64 4096) (.int .i64 4096)) w = .ok (.slice (some ⟨w.heap.size, 0, none⟩) 4096 4096) (w.alloc (.cells Z.toArray 5))) ∧
    Z.length = 4096 ∧ ∀ j, j < 4096 → Z[j]? = some (.int .u8 0)

theorem nought_of (Y : Array Value) (h1 : ∀ w, Sem.run Try.prog (Instr.makeSlice 30 (.int .i64 4096) (.int .i64 4096)) w = .ok (.slice (some ⟨w.heap.size, 0, none⟩) 4096 4096) (w.alloc (.cells Y 5)))
    (h2 : Y.toList.length = 4096) (h3 : ∀ j, j < 4096 → Y.toList[j]? = some (.int .u8 0)) : ∃ Z, IsNought Z := by
  obtain ⟨l⟩ := Y
  exact ⟨l, h1, h2, h3⟩

theorem page_nought : ∃ Z, IsNought Z := nought_of noughtRow make4096 noughtRow_size noughtRow_at

theorem eqNil0 (w : World) : (binOp .eql 30 (.slice none 0 0) (.slice none 0 0)).run Try.prog w = .ok (.bool true) w := by kernel_rfl
theorem eqNil1 (g : Nat) (w : World) : (binOp .eql 30 (.slice (some ⟨g, 0, none⟩) 4096 4096) (.slice none 0 0)).run Try.prog w = .ok (.bool false) w := by kernel_rfl
theorem neqNil0 (w : World) : (binOp .neq 30 (.slice none 0 0) (.slice none 0 0)).run Try.prog w = .ok (.bool false) w := by kernel_rfl
theorem neqNil1 (g : Nat) (w : World) : (binOp .neq 30 (.slice (some ⟨g, 0, none⟩) 4096 4096) (.slice none 0 0)).run Try.prog w = .ok (.bool true) w := by kernel_rfl

end Go.Proofs.Ytggmeopohpbmlaa
