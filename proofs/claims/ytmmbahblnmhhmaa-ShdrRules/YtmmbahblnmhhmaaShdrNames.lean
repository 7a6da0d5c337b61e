/- Contracts of shdr.within and shdr.namesOf. -/
import Derived.Test.YtmmbahblnmhhmaaShdrRead
import Derived.Deep.LoopGhost
import Derived.OwnWalk
namespace Go.Proofs.Ytmmbahblnmhhmaa
open Go.RowKit
set_option linter.unusedVariables false
set_option linter.unusedSimpArgs false

theorem swithin_any (a : Option Addr) (len cap : Nat) (o n x : Int) (w : World) (hl : len ≤ 140737488355328) (ho : 0 ≤ o) (ho' : o ≤ 18446744073709551615) (hn : -9223372036854775808 ≤ n) (hn' : n ≤ 9223372036854775807) :
    Calls Try.prog 19 #[.slice a len cap, hdV o n x] w fun e w' => e = .returned (.bool (decide (1 ≤ n ∧ o + 64 * n ≤ (len : Int)))) ∧ Below w.heap.size w w' := by
  have B0 := hide ((Below.refl w.heap.size w).alloc (Nat.le_refl _) (.cells #[.int .u64 o, .int .i64 n, .int .i64 x] 27))
  unfold hdV
  by_cases h1 : n < 1
  · have e : decide (1 ≤ n ∧ o + 64 * n ≤ (len : Int)) = false := by simp; omega
    rw [e]
    clear e
    go_enter Try.func19, Try.ntmps19
    go_wp2
    go_ret
    exact ⟨rfl, B0.out⟩
  by_cases h2 : (len : Int) / 64 < n
  · have e : decide (1 ≤ n ∧ o + 64 * n ≤ (len : Int)) = false := by simp; omega
    rw [e]
    clear e
    have h3 : ((len : Int)).tdiv 64 = (len : Int) / 64 := Int.tdiv_eq_ediv_of_nonneg (by omega)
    go_enter Try.func19, Try.ntmps19
    go_wp2
    go_ret
    exact ⟨rfl, B0.out⟩
  · have e : decide (1 ≤ n ∧ o + 64 * n ≤ (len : Int)) = withinOf o (n * 64) (len : Int) := by unfold withinOf; rw [decide_eq_decide]; omega
    rw [e]
    have h3 : ((len : Int)).tdiv 64 = (len : Int) / 64 := Int.tdiv_eq_ediv_of_nonneg (by omega)
    have h4 : IntKind.u64.wrap (n * 64) = n * 64 := u64_wrap_id _ (by omega) (by omega)
    have hw := fun W => within_any o (n * 64) (len : Int) W (by omega) (by omega) (by omega) (by omega) (by omega) (by omega)
    generalize withinOf o (n * 64) (len : Int) = t at *
    clear e
    go_enter Try.func19, Try.ntmps19
    go_wp2_with (go_at_call 33; refine (hw _).mono ?_; rintro e w' ⟨rfl, rfl⟩)
    go_ret
    exact ⟨rfl, B0.out⟩

theorem Try.infoStr : (Try.prog.info? 9).map (fun i => (i.zero, i.size, i.bytes)) = some (some (.string ⟨#[]⟩), 1, 16) := by kernel_rfl

/-- The table of names, and whether all names are there. -/
def tbS (l : List Sh) (at' : Int) : Sh := l.getD at'.toNat sh0
def nmPr (bs : List Int) (l : List Sh) (at' : Int) : Prop := 0 ≤ at' ∧ at' < (l.length : Int) ∧ (tbS l at').ty = 3 ∧ ∀ (k : Nat) (s : Sh), l[k]? = some s → (gtO (dtL bs (tbS l at')) s.nm).isSome = true
def nmL (bs : List Int) (l : List Sh) (at' : Int) : List (List UInt8) := l.map (fun s => (gtO (dtL bs (tbS l at')) s.nm).getD [])

abbrev csT (l : List (List UInt8)) : List Value := l.map (fun n => Value.string (str n))

/-- Names so far, and empty ones behind them. -/
def nmK (N : List (List UInt8)) (k : Nat) : List (List UInt8) := N.take k ++ List.replicate (N.length - k) []
theorem nmK_len (N : List (List UInt8)) (k : Nat) (hk : k ≤ N.length) : (nmK N k).length = N.length := by simp [nmK]; omega
theorem nmK_zero (N : List (List UInt8)) : csT (nmK N 0) = List.replicate N.length (.string ⟨#[]⟩) := by simp [nmK, csT, str]
theorem nmK_all (N : List (List UInt8)) : nmK N N.length = N := by simp [nmK]
theorem nmK_set (N : List (List UInt8)) (k : Nat) (hk : k < N.length) (x : List UInt8) (hx : N[k]? = some x) : (csT (nmK N k)).set k (.string (str x)) = csT (nmK N (k + 1)) := by
  have h1 : (csT (N.take k)).length = k := by simp [csT]; omega
  have e1 : csT (nmK N k) = csT (N.take k) ++ csT (List.replicate (N.length - k) []) := by simp [nmK, csT]
  have e2 : csT (nmK N (k + 1)) = csT (N.take k) ++ (.string (str x) :: csT (List.replicate (N.length - (k + 1)) [])) := by
    have hx' : N[k] = x := (List.getElem?_eq_some_iff.1 hx).2
    simp [nmK, csT, List.take_succ_eq_append_getElem hk, hx']
  have e3 : N.length - k = (N.length - (k + 1)) + 1 := by omega
  rw [e1, e2, List.set_append_right _ _ (by omega), h1, Nat.sub_self, e3, List.replicate_succ]
  rfl

theorem Rs.own {w : World} {base : Nat} {v : Value} {n : Nat} {ns : List (List UInt8)} (h : w.ownsRow base 9 1 v n (csT ns)) : ∃ a cap, v = .slice a n cap ∧ Rs w a n cap ns := by
  have hl : ns.length = n := by simpa [csT] using h.1
  rcases h.2 with ⟨rfl, h2⟩ | ⟨g, cap, cur, rfl, hbg, hg, hnc, hcm, hcs, htake⟩
  · subst h2
    obtain rfl : ns = [] := List.eq_nil_of_length_eq_zero hl
    exact ⟨none, 0, rfl, rfl, Nat.le_refl _, by omega, fun _ => rfl, fun x hx => by cases hx⟩
  · refine ⟨_, cap, rfl, hl, hnc, by unfold maxLen at hcm; omega, (fun h => by cases h), fun x hx i hi => ?_⟩
    cases hx
    exact h.cells (g := g) rfl i (.string (str (ns.getD i []))) (by simp [csT, show i < ns.length by omega])

end Go.Proofs.Ytmmbahblnmhhmaa
