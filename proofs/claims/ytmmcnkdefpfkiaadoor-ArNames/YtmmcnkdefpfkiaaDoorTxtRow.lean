/- Texts in a row of the call's own: as far as they are filled in, and as a slice that is read; a row that is filled in. -/
import Derived.Test.YtmmcnkdefpfkiaaDoorStrRs
import Derived.Deep.LoopGhost
import Derived.OwnWalk
import Derived.Lib.OwnKind
namespace Go.Proofs.YtmmcnkdefpfkiaaDoor
open Go.RowKit
set_option linter.unusedVariables false
set_option maxRecDepth 100000
set_option maxRecDepth 20000
set_option linter.unusedSimpArgs false

theorem Tryd.infoStr : (Tryd.prog.info? 9).map (fun i => (i.zero, i.size, i.bytes)) = some (some (.string ⟨#[]⟩), 1, 16) := by kernel_rfl

abbrev csT (l : List (List UInt8)) : List Value := l.map (fun n => Value.string (str n))

/-- Names so far, and empty ones behind them. -/
def nmK (N : List (List UInt8)) (k : Nat) : List (List UInt8) := N.take k ++ List.replicate (N.length - k) []
theorem nmK_len (N : List (List UInt8)) (k : Nat) (hk : k ≤ N.length) : (nmK N k).length = N.length := by simp [nmK]; omega
theorem nmK_zero (N : List (List UInt8)) : csT (nmK N 0) = List.replicate N.length (.string ⟨#[]⟩) := by simp [nmK, csT, str]
theorem nmK_all (N : List (List UInt8)) : nmK N N.length = N := by simp [nmK]
theorem nmK_set (N : List (List UInt8)) (k : Nat) (hk : k < N.length) (x : List UInt8) (hx : N[k]? = some x) : (csT (nmK N k)).set k (.string (str x)) = csT (nmK N (k + 1)) := by
  have h1 : (csT (N.take k)).length = k := by simp [csT]; omega
  have e1 : csT (nmK N k) = csT (N.take k) ++ csT (List.replicate (N.length - k) []) := by simp [nmK, csT]
  have e2 : csT (nmK N (k + 1)) = csT (N.take k) ++ (.string (str x) :: csT (List.replicate (N.length - (k + 1)) [])) := by
    have hx' : N[k] = x := (List.getElem?_eq_some_iff.1 hx).2
    simp [nmK, csT, List.take_succ_eq_append_getElem hk, hx']
  have e3 : N.length - k = (N.length - (k + 1)) + 1 := by omega
  rw [e1, e2, List.set_append_right _ _ (by omega), h1, Nat.sub_self, e3, List.replicate_succ]
  rfl

theorem Rs.own {w : World} {base : Nat} {v : Value} {n : Nat} {ns : List (List UInt8)} (h : w.ownsRow base 9 1 v n (csT ns)) : ∃ a cap, v = .slice a n cap ∧ Rs w a n cap ns := by
  have hl : ns.length = n := by simpa [csT] using h.1
  rcases h.2 with ⟨rfl, h2⟩ | ⟨g, cap, cur, rfl, hbg, hg, hnc, hcm, hcs, htake⟩
  · subst h2
    obtain rfl : ns = [] := List.eq_nil_of_length_eq_zero hl
    exact ⟨none, 0, rfl, rfl, Nat.le_refl _, by omega, fun _ => rfl, fun x hx => by cases hx⟩
  · refine ⟨_, cap, rfl, hl, hnc, by unfold maxLen at hcm; omega, (fun h => by cases h), fun x hx i hi => ?_⟩
    cases hx
    exact h.cells (g := g) rfl i (.string (str (ns.getD i []))) (by simp [csT, show i < ns.length by omega])

theorem ownsRow_kept0 {w w' : World} {B : Nat} {e : TypeId} {size : Nat} {v : Value} {n : Nat} {xs : List Value} (h : w.ownsRow B e size v n xs) (hb : Below w.heap.size w w') : w'.ownsRow B e size v n xs :=
  h.kept (row := none) ⟨hb.os, hb.tape, hb.output, hb.size, fun i hi _ => hb.block i hi⟩ (by cases v.ownBlock <;> simp)

theorem Rs.lit (w : World) (t : TypeId) (ns : List (List UInt8)) (hl : ns.length ≤ 9223372036854775807) : Rs (w.alloc (.cells (csT ns).toArray t)) (some ⟨w.heap.size, 0, none⟩) ns.length ns.length ns := by
  refine ⟨rfl, Nat.le_refl _, hl, (fun h => by cases h), fun x hx i hi => ?_⟩
  cases hx
  have e : (⟨w.heap.size, 0, none⟩ : Addr).add i = ⟨w.heap.size, i, none⟩ := by unfold Addr.add; split <;> simp_all
  rw [e, cell_of_row _ _ i _ t (0, 0) (heap_alloc_new w _)]
  simp [csT, hi]

/-- Rows of different kinds: one stays where the other is written. -/
theorem rows_apart {w w' : World} {B B2 : Nat} {e e2 : TypeId} {size size2 : Nat} {v v2 : Value} {n n2 : Nat} {xs xs2 : List Value} (h : w.ownsRow B e size v n xs) (h2 : w.ownsRow B2 e2 size2 v2 n2 xs2) (he : e ≠ e2) (g : w.grownBy w' v2.ownBlock) : w'.ownsRow B e size v n xs := by
  refine h.kept g ?_
  rcases hv : v.ownBlock with _ | X
  · exact .inl rfl
  · refine .inr (fun e => ?_)
    obtain ⟨c1, f1, q1⟩ := Lib.ownsRow_kind h X hv
    obtain ⟨c2, f2, q2⟩ := Lib.ownsRow_kind h2 X e.symm
    rw [q1] at q2
    simp at q2
    exact he q2.2.1

/-- What is filled in so far, and the same behind it. -/
def filK {R : Type} (z : R) (L : List R) (k : Nat) : List R := L.take k ++ List.replicate (L.length - k) z
section
variable {R : Type} (z : R)
theorem filK_len (L : List R) (k : Nat) (hk : k ≤ L.length) : (filK z L k).length = L.length := by simp [filK]; omega
theorem filK_zero (L : List R) : filK z L 0 = List.replicate L.length z := by simp [filK]
theorem filK_all (L : List R) : filK z L L.length = L := by simp [filK]
theorem filK_set (L : List R) (k : Nat) (hk : k < L.length) (x : R) (hx : L[k]? = some x) : (filK z L k).set k x = filK z L (k + 1) := by
  have h1 : (L.take k).length = k := by simp; omega
  have hx' : L[k] = x := (List.getElem?_eq_some_iff.1 hx).2
  have e3 : L.length - k = (L.length - (k + 1)) + 1 := by omega
  unfold filK
  rw [List.set_append_right _ _ (by omega), h1, Nat.sub_self, e3, List.replicate_succ, List.take_succ_eq_append_getElem hk, hx']
  simp
theorem filK_at (L : List R) (k : Nat) (hk : k < L.length) (x : R) (hx : L[k]? = some x) : (filK z L (k + 1))[k]? = some x := by
  rw [← filK_set z L k hk x hx, List.getElem?_set_self (by rw [filK_len _ _ _ (by omega)]; omega)]
end

end Go.Proofs.YtmmcnkdefpfkiaaDoor
