/- The walk of StrOnce: a name stands once in a table, however often it is named; tables of more names begin with those of fewer. -/
import Derived.Test.YtlklngkgkfdfeaaStrBuildsW
import Derived.Laws.AppendOwnNone
namespace Go.Proofs.Ytlklngkgkfdfeaa
open Go.RowKit Go.Maps
set_option linter.unusedVariables false

abbrev csN (ns : List (List UInt8)) : List Value := ns.map (fun l => Value.string (str l))

theorem Rs.own {w : World} {base : Nat} {v : Value} {n : Nat} {ns : List (List UInt8)} (h : w.ownsRow base 9 1 v n (csN ns)) : ∃ a cap, v = .slice a n cap ∧ Rs w a n cap ns := by
  have hl : ns.length = n := by simpa using h.1
  rcases h.2 with ⟨rfl, h2⟩ | ⟨g, cap, cur, rfl, hbg, hg, hnc, hcm, hcs, htake⟩
  · subst h2
    obtain rfl : ns = [] := List.eq_nil_of_length_eq_zero hl
    exact ⟨none, 0, rfl, rfl, Nat.le_refl _, by omega, fun _ => rfl, fun x hx => by cases hx⟩
  · refine ⟨_, cap, rfl, hl, hnc, by unfold maxLen at hcm; omega, (fun h => by cases h), fun x hx i hi => ?_⟩
    cases hx
    exact h.cells (g := g) rfl i (.string (str (ns.getD i []))) (by simp [show i < ns.length by omega])

theorem own_below {w w' : World} {B : Nat} {e : TypeId} {v : Value} {n : Nat} {xs : List Value} (h : w.ownsRow B e 1 v n xs) (g : Below w.heap.size w w') : w'.ownsRow B e 1 v n xs := by
  have gg : w.grownBy w' none := ⟨g.os, g.tape, g.output, g.size, fun i hi _ => g.block i hi⟩
  exact h.kept gg (by cases v.ownBlock <;> simp)

/-- append of a slice of texts that is read. -/
theorem wpList_append_rs {w : World} {ops : Array Oper} {rest : List Oper} {o : Oper} {ac : Act} {Q : Exit → Act → World → Prop} (hgd : o.guard = none) (s x : Operand)
    (ho : o.op = .call { callee := .builtin .append, args := #[s, x], argTypes := #[28, 28] })
    (base : Nat) (v : Value) (n : Nat) (xs : List Value) (hs : ac.eval s = v) (hown : w.ownsRow base 9 1 v n xs)
    (a : Option Addr) (len cap : Nat) (ns : List (List UInt8)) (r : Rs w a len cap ns) (hx : ac.eval x = .slice a len cap)
    (hb : (n + len) * 16 ≤ 140737488355328) (hbase : base ≤ w.heap.size)
    (h : ∀ v' w', w'.ownsRow base 9 1 v' (n + len) (xs ++ csN ns) → w.grownBy w' v.ownBlock → wpList Try.prog ops Q rest (ac.put o.dst v') w') : wpList Try.prog ops Q (o :: rest) ac w := by
  obtain ⟨iS, hiS, hzS0, hzS1, hzS2⟩ := info_parts Try.infoS
  have hl := r.length
  cases a with
  | none =>
    obtain rfl : cap = 0 := r.nil rfl
    obtain rfl : len = 0 := by have := r.le; omega
    obtain rfl : ns = [] := List.eq_nil_of_length_eq_zero hl
    refine wpList_append_own_none hgd s x 28 ho base 9 iS 1 Try.underlying28 hiS v n xs hs hown hx (h v w ?_ ⟨rfl, rfl, rfl, Nat.le_refl _, fun _ _ _ => rfl⟩)
    simpa using hown
  | some ad =>
    exact wpList_append_own w hgd s x 28 ho base 9 iS (.string ⟨#[]⟩) 1 16 Try.underlying28 hiS hzS0 hzS1 hzS2 rfl (by decide) v n xs hs hown ad len cap (csN ns) hx (by simp [hl]) (r.cells ad rfl)
      (fun u hu => by obtain ⟨l, _, rfl⟩ := List.mem_map.1 hu; rfl) (by unfold maxLen; omega) hb hbase (fun v' w' h1 h2 _ => h v' w' h1 h2)

/-- The names that are named again. -/
def rep (ns : List (List UInt8)) (zs : List Int) (i : Nat) : List (List UInt8) := (zs.take i).map (fun z => ns.getD (z.toNat % ns.length) [])
theorem rep_zero (ns : List (List UInt8)) (zs : List Int) : rep ns zs 0 = [] := rfl
theorem rep_succ (ns : List (List UInt8)) (zs : List Int) (i : Nat) (h : i < zs.length) : rep ns zs (i + 1) = rep ns zs i ++ [ns.getD ((zs.getD i 0).toNat % ns.length) []] := by
  unfold rep
  rw [List.take_succ_eq_append_getElem h, List.map_append]
  simp [h]
theorem rep_len (ns : List (List UInt8)) (zs : List Int) (i : Nat) (h : i ≤ zs.length) : (rep ns zs i).length = i := by simp [rep]; omega
theorem rep_get (ns : List (List UInt8)) (zs : List Int) (i k : Nat) (hk : k < i) (h : i ≤ zs.length) : (rep ns zs i).getD k [] = ns.getD ((zs.getD k 0).toNat % ns.length) [] := by
  unfold rep
  simp [hk, show k < zs.length by omega]

theorem fnd_at (ns : List (List UInt8)) : ∀ k, k < ns.length → fnd (bld ns).had (nmO (ns.getD k [])) = some ((bld ns).at_.getD k 0) := by
  have : ∀ n, n ≤ ns.length → ∀ k, k < n → fnd (bld (ns.take n)).had (nmO (ns.getD k [])) = some ((bld (ns.take n)).at_.getD k 0) := by
    intro n
    induction n with
    | zero => intro _ k hk; omega
    | succ n ih =>
      intro hn k hk
      have hlen := (bld_ok (ns.take n)).len
      simp only [List.length_take] at hlen
      have hlen' : (bld (ns.take n)).at_.length = n := by omega
      rw [bld_take ns n (by omega)]
      generalize bld (ns.take n) = σ at *
      unfold St.step
      rcases (show k < n ∨ k = n by omega) with h1 | h1
      · have hi := ih (by omega) k h1
        split
        · next o ho => simpa [List.getElem?_append_left (show k < σ.at_.length by omega)] using hi
        · next hne =>
          simp only []
          rw [fnd_snoc hne, if_neg (fun e => by rw [e, hne] at hi; cases hi), hi]
          simp [List.getElem?_append_left (show k < σ.at_.length by omega)]
      · subst h1
        split
        · next o ho => simp only []; rw [ho]; simp [hlen']
        · next hne =>
          simp only []
          rw [fnd_snoc hne, if_pos rfl]
          simp [hlen']
  intro k hk
  have h := this ns.length (Nat.le_refl _) k hk
  rwa [List.take_length] at h

theorem bld_again (ns R : List (List UInt8)) (h : ∀ x ∈ R, ∃ o, fnd (bld ns).had (nmO x) = some o) :
    bld (ns ++ R) = ⟨(bld ns).tab, (bld ns).at_ ++ R.map (fun x => (fnd (bld ns).had (nmO x)).getD 0), (bld ns).had⟩ := by
  have : ∀ n, n ≤ R.length → bld (ns ++ R.take n) = ⟨(bld ns).tab, (bld ns).at_ ++ (R.take n).map (fun x => (fnd (bld ns).had (nmO x)).getD 0), (bld ns).had⟩ := by
    intro n
    induction n with
    | zero => intro _; simp
    | succ n ih =>
      intro hn
      rw [List.take_succ_eq_append_getElem (by omega), ← List.append_assoc, bld_snoc, ih (by omega)]
      obtain ⟨o, ho⟩ := h R[n] (List.getElem_mem _)
      unfold St.step
      simp only []
      rw [ho]
      simp only []
      rw [List.map_append, List.append_assoc]
      simp only [List.map_cons, List.map_nil, ho, Option.getD_some]
  have h := this R.length (Nat.le_refl _)
  rwa [List.take_length] at h

theorem rep_found (ns : List (List UInt8)) (zs : List Int) (i : Nat) (hn : 0 < i → 0 < ns.length) : ∀ x ∈ rep ns zs i, ∃ o, fnd (bld ns).had (nmO x) = some o := by
  intro x hx
  unfold rep at hx
  obtain ⟨z, hz, rfl⟩ := List.mem_map.1 hx
  have hi : 0 < i := by
    rcases Nat.eq_zero_or_pos i with h | h
    · subst h; simp at hz
    · exact h
  exact ⟨_, fnd_at ns _ (Nat.mod_lt _ (hn hi))⟩

theorem rep_le (ns : List (List UInt8)) (zs : List Int) (i c : Nat) (h : ∀ k, k < ns.length → (ns.getD k []).length ≤ c) : ∀ k, k < (ns ++ rep ns zs i).length → ((ns ++ rep ns zs i).getD k []).length ≤ c := by
  intro k hk
  have hx : (ns ++ rep ns zs i).getD k [] ∈ ns ++ rep ns zs i := by
    rw [List.getD_eq_getElem?_getD, List.getElem?_eq_getElem hk]
    exact List.getElem_mem hk
  generalize (ns ++ rep ns zs i).getD k [] = y at hx
  rcases List.mem_append.1 hx with h1 | h1
  · obtain ⟨j, hj, e⟩ := List.getElem_of_mem h1
    have := h j hj
    rw [← e]
    simpa [hj] using this
  · unfold rep at h1
    obtain ⟨z, _, e⟩ := List.mem_map.1 h1
    rw [← e]
    by_cases hj : z.toNat % ns.length < ns.length
    · exact h _ hj
    · simp [List.getElem?_eq_none (Nat.le_of_not_lt hj)]

theorem bld_prefix (l : List (List UInt8)) (x : List UInt8) : ∃ t, (bld (l ++ [x])).tab = (bld l).tab ++ t := by
  rw [bld_snoc]
  unfold St.step
  split
  · exact ⟨[], by simp⟩
  · exact ⟨_, rfl⟩

theorem built2_any (a : Option Addr) (len cap : Nat) (ns : List (List UInt8)) (w : World) (r : Rs w a len cap ns) (hr : room ns ≤ 1000000) :
    Calls Try.prog 10 #[.slice a len cap] w fun e w' => ∃ a4 c4 a5 c5, e = .returned (.tuple #[.slice a4 (bld ns).tab.length c4, .slice a5 (bld ns).at_.length c5]) ∧
      w'.ownsRow w.heap.size 5 1 (.slice a4 (bld ns).tab.length c4) (bld ns).tab.length (cs8 (bld ns).tab) ∧ Rn .u32 4294967295 w' a5 (bld ns).at_.length c5 (atI (bld ns).at_) ∧ Below w.heap.size w w' := by
  refine (build_any a len cap ns w r hr).mono ?_
  rintro e w' ⟨v4, v5, m, k, rfl, h⟩
  have h4 := h.tab
  have h5 := h.at_
  rw [cs8_tabI] at h4
  rw [cs32_atI] at h5
  obtain ⟨a4, c4, rfl, r4⟩ := Rd.own h4 (tabI_bytes _)
  obtain ⟨a5, c5, rfl, r5⟩ := Rn.own (top := 4294967295) h5 (fun x hx => by
    obtain ⟨o, ho, rfl⟩ := List.mem_map.1 hx
    have := (bld_good ns).ats o ho
    omega) (by omega)
  exact ⟨a4, c4, a5, c5, rfl, h.tab, r5, h.bel⟩

theorem Rd.cs8 {w : World} {B : Nat} {a : Option Addr} {n c m : Nat} {l : List UInt8} (h : w.ownsRow B 5 1 (.slice a m c) n (cs8 l)) : Rd w a n c (tabI l) := by
  have h4 := h
  rw [cs8_tabI] at h4
  obtain ⟨a4, c4, e, r4⟩ := Rd.own h4 (tabI_bytes _)
  cases e
  exact r4

end Go.Proofs.Ytlklngkgkfdfeaa
