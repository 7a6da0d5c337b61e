/- Facts for the walk over SpanSums: sums of a list turned round, and of its parts. -/
import Derived.Test.YtilipopcphiggaaSpanUp
import Derived.Laws.AppendOwnNone
namespace Go.Proofs.Ytilipopcphiggaa
open Go.RowKit

theorem Try.info64 : (Try.prog.info? 22).map (fun i => (i.zero, i.size, i.bytes)) = some (some (.int .u64 0), 1, 8) := by kernel_rfl

theorem sumOf_reverse (l : List Int) : sumOf l.reverse = sumOf l := by unfold sumOf; rw [List.sum_reverse]
theorem sumOk_reverse (l : List Int) : sumOk l.reverse = sumOk l := by unfold sumOk; rw [List.sum_reverse]

theorem drop_reverse_succ (l : List Int) (k : Nat) (h : k < l.length) : (l.drop k).reverse = (l.drop (k + 1)).reverse ++ [l[k]?.getD 0] := by
  rw [List.drop_eq_getElem_cons h, List.reverse_cons]; simp [h]

/-- What two parts sum up to is what the whole does. -/
theorem sum_parts (l : List Int) (h : ∀ x ∈ l, 0 ≤ x) (k : Nat) :
    sumOk l = (sumOk (l.take k) && (sumOk (l.drop k) && sumOk [sumOf (l.take k), sumOf (l.drop k)])) ∧ (sumOk l = true → sumOf [sumOf (l.take k), sumOf (l.drop k)] = sumOf l) := by
  have hs := sum_split l k
  have h1 := sum_nonneg (l := l.take k) fun x hx => h x (List.mem_of_mem_take hx)
  have h2 := sum_nonneg (l := l.drop k) fun x hx => h x (List.mem_of_mem_drop hx)
  generalize l.take k = p at *
  generalize l.drop k = q at *
  have e2 : ∀ a b : Int, [a, b].sum = a + b := fun a b => by simp
  unfold sumOk sumOf
  rw [e2, hs]
  constructor
  · rw [Bool.eq_iff_iff]
    simp only [Bool.and_eq_true, decide_eq_true_eq]
    split <;> split <;> omega
  · simp only [decide_eq_true_eq]
    intro h3
    rw [if_pos (show p.sum ≤ 18446744073709551615 by omega), if_pos (show q.sum ≤ 18446744073709551615 by omega)]

theorem Rn.head {k : IntKind} {top : Int} {w : World} {b o len cap : Nat} {xs : List Int} (r : Rn k top w (some ⟨b, o, none⟩) len cap xs) (m : Nat) (h : m ≤ len) : Rn k top w (some ⟨b, o, none⟩) m cap (xs.take m) := by
  have := r.part 0 m (by omega) cap (by have := r.le; omega) (Nat.le_refl _)
  simpa using this
theorem Rn.tail {k : IntKind} {top : Int} {w : World} {b o len cap : Nat} {xs : List Int} (r : Rn k top w (some ⟨b, o, none⟩) len cap xs) (m : Nat) (h : m ≤ len) : Rn k top w (some ⟨b, o + m, none⟩) (len - m) (cap - m) (xs.drop m) := by
  have h1 := r.le
  have h2 := r.length
  have := r.part m (len - m) (by omega) (cap - m) (by omega) (by omega)
  rwa [List.take_of_length_le (by simp; omega)] at this
theorem Rn.empty (k : IntKind) {top : Int} (h : 0 ≤ top) (w : World) (a : Option Addr) (cap : Nat) (hc : cap ≤ 9223372036854775807) (ha : a = none → cap = 0) : Rn k top w a 0 cap [] :=
  ⟨rfl, Nat.zero_le _, hc, (fun x hx => by cases hx), h, ha, fun x hx i hi => by omega⟩

end Go.Proofs.Ytilipopcphiggaa
