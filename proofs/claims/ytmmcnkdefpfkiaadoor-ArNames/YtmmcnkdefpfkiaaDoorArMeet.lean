/- What the program's reader asks of a part is what its bytes say: plain facts. -/
import Derived.Test.YtmmcnkdefpfkiaaDoorArState
namespace Go.Proofs.YtmmcnkdefpfkiaaDoor
open Go.RowKit
set_option linter.unusedVariables false
set_option maxRecDepth 100000
set_option maxRecDepth 20000
set_option linter.unusedSimpArgs false

section
variable {s : ArS} {r : T8}
theorem nx_short (h : ¬ 60 ≤ r.length) : nxG s r = none := by unfold nxG ptG; rw [if_neg (fun x => h x.1)]; rfl
theorem nx_end (h : (r.drop 58).take 2 ≠ [96, 10]) : nxG s r = none := by unfold nxG ptG; rw [if_neg (fun x => h x.2)]; rfl
theorem dig_pu (l : T8) (h : l.length ≤ 10) : digO 10 l = pu (Lib.trimRightB l 32) := by
  cases hp : pu (Lib.trimRightB l 32) with
  | some n => exact (digO_pu h (by decide) n).2 (pu_some.1 hp)
  | none =>
    cases hd : digO 10 l with
    | none => rfl
    | some n => exact absurd ((digO_pu h (by decide) n).1 hd) (pu_none hp n)
theorem nx_dig (h : pu (Lib.trimRightB ((r.drop 48).take 10) 32) = none) : nxG s r = none := by
  unfold nxG ptG
  split
  · rw [dig_pu _ (by simp; omega), h]; rfl
  · rfl
theorem nx_pt {n : Nat} (h0 : 60 ≤ r.length) (h1 : (r.drop 58).take 2 = [96, 10]) (h2 : pu (Lib.trimRightB ((r.drop 48).take 10) 32) = some n) :
    nxG s r = if n ≤ r.length - 60 then ((bhO n (r.drop (60 + n))).bind (fun q => (putG 15 s (r.take 16) ((r.drop 60).take n)).map (fun t => (t, q)))) else none := by
  unfold nxG ptG
  rw [if_pos ⟨h0, h1⟩, dig_pu _ (by simp; omega), h2]
  simp only [Option.bind_some]
  split
  · cases bhO n (r.drop (60 + n)) <;> rfl
  · rfl
end

theorem trim_one (f : T8) (c : UInt8) (hc : c ≠ 32) (t : T8) : Lib.trimRightB (c :: t) 32 = c :: Lib.trimRightB t 32 := by
  obtain ⟨k, h1, h2⟩ := trim_sum t
  refine trim_uni (k := k) (by rw [List.cons_append, ← h1]) (fun x hx => ?_)
  cases ht : Lib.trimRightB t 32 with
  | nil => rw [ht] at hx; simp at hx; subst hx; exact hc
  | cons y ys => rw [ht] at hx h2; exact h2 x (by simpa using hx)
theorem trim_spc {t : T8} : Lib.trimRightB t 32 = [] ↔ spc t = true := by
  constructor
  · intro h
    obtain ⟨k, h1, _⟩ := trim_sum t
    rw [h, List.nil_append] at h1
    rw [h1]
    exact spc_rep k
  · intro h
    rw [(spc_iff t).1 h]
    exact trim_app [] _ (fun c hc => by simp at hc)
theorem id_trim (f : T8) : idF f = decide (Lib.trimRightB f 32 = [47]) := by
  rw [Bool.eq_iff_iff, decide_eq_true_eq]
  cases f with
  | nil => simp [idF, Lib.trimRightB]
  | cons c t =>
    by_cases hc : c = 47
    · subst hc
      rw [trim_one [] 47 (by decide) t]
      simp [idF, ← trim_spc]
    · constructor
      · intro h; simp [idF, hc] at h
      · intro h
        obtain ⟨k, h1, _⟩ := trim_sum (c :: t)
        rw [h] at h1
        simp at h1
        exact absurd h1.1 hc
theorem lg_trim (f : T8) : lgF f = decide (Lib.trimRightB f 32 = [47, 47]) := by
  rw [Bool.eq_iff_iff, decide_eq_true_eq]
  cases f with
  | nil => simp [lgF, Lib.trimRightB]
  | cons c t =>
    cases t with
    | nil =>
      by_cases hc : c = 32
      · subst hc; simp [lgF, Lib.trimRightB]
      · rw [trim_one [] c hc []]; simp [lgF, Lib.trimRightB]
    | cons d u =>
      by_cases h : c = 47 ∧ d = 47
      · obtain ⟨rfl, rfl⟩ := h
        rw [trim_one [] 47 (by decide), trim_one [] 47 (by decide)]
        simp [lgF, ← trim_spc]
      · constructor
        · intro h1; simp [lgF] at h1; exact absurd ⟨h1.1.1, h1.1.2⟩ h
        · intro h1
          obtain ⟨k, h2, _⟩ := trim_sum (c :: d :: u)
          rw [h1] at h2
          simp at h2
          exact absurd ⟨h2.1, h2.2.1⟩ h

/-! A slash and a LF. -/
theorem cutE_upE : ∀ l : T8, (if (Lib.cut l [47, 10]).2.2 = true then some (Lib.cut l [47, 10]).1 else none) = upE l
  | [] => by simp [Lib.cut, Lib.index, upE]
  | [a] => by
    have h : Lib.index [a] [47, 10] = -1 := by
      have hp : List.isPrefixOf [47, 10] [a] = false := by simp [List.isPrefixOf]
      have h0 : Lib.index ([] : T8) [47, 10] = -1 := by simp [Lib.index]
      conv => lhs; unfold Lib.index
      rw [hp, h0]
      simp
    simp [Lib.cut, h, upE]
  | a :: b :: r => by
    have ih := cutE_upE (b :: r)
    unfold upE
    by_cases h : a = 47 ∧ b = 10
    · rw [if_pos h]
      obtain ⟨rfl, rfl⟩ := h
      have : Lib.index ((47 : UInt8) :: 10 :: r) [47, 10] = 0 := by
        unfold Lib.index
        have hp : List.isPrefixOf [47, 10] ((47 : UInt8) :: 10 :: r) = true := by simp [List.isPrefixOf]
        rw [hp]; simp
      simp [Lib.cut, this]
    · rw [if_neg h]
      have hp : List.isPrefixOf [47, 10] (a :: b :: r) = false := by
        simp [List.isPrefixOf]
        intro h1 h2
        exact h ⟨h1.symm, h2.symm⟩
      have hi : Lib.index (a :: b :: r) [47, 10] = if Lib.index (b :: r) [47, 10] == -1 then -1 else Lib.index (b :: r) [47, 10] + 1 := by
        conv => lhs; unfold Lib.index
        rw [hp]; simp
      have hg := Lib.index_ge (b :: r) [47, 10]
      rw [← ih]
      unfold Lib.cut
      rw [hi]
      by_cases hn : Lib.index (b :: r) [47, 10] = -1
      · simp [hn]
      · have h0 : 0 ≤ Lib.index (b :: r) [47, 10] := by omega
        obtain ⟨i, hi'⟩ := Int.eq_ofNat_of_zero_le h0
        have h1 : ((i : Int) == -1) = false := by simp
        rw [hi', h1]
        simp only [Bool.false_eq_true, if_false]
        rw [if_pos (show (0 : Int) ≤ (i : Int) + 1 by omega), if_pos (show (0 : Int) ≤ (i : Int) by omega)]
        have e : ((i : Int) + 1).toNat = i + 1 := by omega
        simp [e]
theorem upE_app : ∀ {x : T8} (r : T8), (47 : UInt8) ∉ x → upE (x ++ 47 :: 10 :: r) = some x
  | [], r, _ => by simp [upE]
  | [a], r, h => by simp at h; simp [upE, Ne.symm h]
  | a :: b :: x, r, h => by
    have h1 : a ≠ 47 := fun e => h (by simp [e])
    have ih := upE_app (x := b :: x) r (fun e => h (List.mem_cons_of_mem _ e))
    rw [List.cons_append, List.cons_append, upE, if_neg (fun e => h1 e.1)]
    rw [List.cons_append] at ih
    rw [ih]
    rfl
theorem upE_spec : ∀ {l x : T8}, upE l = some x → ∃ r, l = x ++ 47 :: 10 :: r
  | [], x, h => by simp [upE] at h
  | [a], x, h => by simp [upE] at h
  | a :: b :: r, x, h => by
    unfold upE at h
    split at h
    · rename_i hc
      cases h
      exact ⟨r, by simp [hc.1, hc.2]⟩
    · cases hu : upE (b :: r) with
      | none => rw [hu] at h; cases h
      | some y =>
        rw [hu] at h
        cases h
        obtain ⟨q, hq⟩ := upE_spec hu
        exact ⟨q, by rw [hq]; rfl⟩
/-- Of the first bytes alone the same is read, where it is no longer. -/
theorem upE_take : ∀ (l : T8) (k : Nat), upE (l.take (k + 2)) = (upE l).bind (fun x => if x.length ≤ k then some x else none)
  | [], k => by simp [upE]
  | [a], k => by
    rw [List.take_of_length_le (by simp)]
    simp [upE]
  | a :: b :: r, k => by
    have e : (a :: b :: r).take (k + 2) = a :: b :: r.take k := rfl
    rw [e]
    unfold upE
    by_cases h : a = 47 ∧ b = 10
    · rw [if_pos h, if_pos h]; rfl
    · rw [if_neg h, if_neg h]
      cases k with
      | zero =>
        simp [upE]
        cases upE (b :: r) <;> simp
      | succ k =>
        have ih := upE_take (b :: r) k
        have e2 : (b :: r).take (k + 2) = b :: r.take (k + 1) := rfl
        rw [e2] at ih
        rw [ih]
        cases upE (b :: r) with
        | none => rfl
        | some y =>
          simp only [Option.bind_some, Option.map_some]
          by_cases hy : y.length ≤ k
          · rw [if_pos hy, if_pos (by simp; omega)]; rfl
          · rw [if_neg hy, if_neg (by simp; omega)]; rfl
theorem lk_ok (lg : T8) (n : Nat) : (lkP lg n).bind okO = (lkO lg n).bind okO := by
  unfold lkP lkO
  split
  · rw [cutE_upE, upE_take _ 200]
    cases upE (lg.drop n) with
    | none => rfl
    | some x =>
      simp only [Option.bind_some]
      by_cases hx : x.length ≤ 200
      · rw [if_pos hx]; rfl
      · rw [if_neg hx]
        unfold okO
        rw [if_neg (by rw [okN_eq]; simp; intro _ h; omega)]
        rfl
  · rfl

theorem hdB_not (c : UInt8) : ∀ l : T8, c ∉ hdB c l
  | [] => by simp [hdB]
  | b :: l => by
    unfold hdB
    by_cases h : b = c
    · rw [if_pos h]; simp
    · rw [if_neg h]; simp [hdB_not c l, Ne.symm h]

/-- A name's field. -/
theorem nm_meet (lg f : T8) (hf : f.length = 16) : nmP lg (Lib.trimRightB f 32) = nmG 15 lg f := by
  have hok : ∀ q : Option T8, q.bind (fun n => if okN n = true then some n else none) = q.bind okO := fun _ => rfl
  unfold nmG
  rw [hok]
  unfold nmP nmQ
  cases f with
  | nil => simp at hf
  | cons c t =>
    have ht : t.length = 15 := by simpa using hf
    by_cases hc : c = 47
    · subst hc
      rw [trim_one [] 47 (by decide) t, if_pos (by simp)]
      unfold nmPQ
      rw [if_pos (by simp [hdB]), if_pos (by simp [hdB])]
      have e1 : tlB 47 (47 :: Lib.trimRightB t 32) = Lib.trimRightB t 32 := by simp [tlB]
      have e2 : (47 :: t).drop 1 = t := rfl
      rw [e1, e2]
      have e3 : digO 15 t = pu (Lib.trimRightB t 32) := by
        cases hp : pu (Lib.trimRightB t 32) with
        | some n => exact (digO_pu (by omega) (by decide) n).2 (pu_some.1 hp)
        | none =>
          cases hd : digO 15 t with
          | none => rfl
          | some n => exact absurd ((digO_pu (by omega) (by decide) n).1 hd) (pu_none hp n)
      rw [e3]
      cases pu (Lib.trimRightB t 32) with
      | none => rfl
      | some n => exact lk_ok lg n
    · obtain ⟨k, h1, h2⟩ := trim_sum (c :: t)
      have hne : hdB 47 (c :: t) ≠ [] := by simp [hdB, hc]
      rw [if_neg hne]
      generalize hg : Lib.trimRightB (c :: t) 32 = g at *
      by_cases h47 : (47 : UInt8) ∈ g
      · have h3 := hdB_sum 47 g
        have hs : g = hdB 47 g ++ 47 :: tlB 47 g := by
          rcases h3 with h | h
          · exfalso
            have : (47 : UInt8) ∉ hdB 47 g := hdB_not 47 g
            rw [← h] at this
            exact this h47
          · exact h
        have hn := hdB_not 47 g
        have e : c :: t = hdB 47 g ++ 47 :: (tlB 47 g ++ List.replicate k 32) := by
          conv => lhs; rw [h1, hs]
          simp
        have e2 := hdB_app (tlB 47 g ++ List.replicate k 32) hn
        rw [← e] at e2
        rw [if_pos h47]
        unfold nmPQ
        rw [e2.1] at hne
        rw [if_neg hne, e2.1, e2.2]
        have hm : (47 : UInt8) ∈ c :: t := by rw [e]; simp
        by_cases htl : tlB 47 g = []
        · rw [if_pos htl, if_pos ⟨hm, by rw [htl]; simpa using spc_rep k⟩]
        · rw [if_neg htl, if_neg]
          rintro ⟨_, hsp⟩
          have hall := (spc_iff _).1 hsp
          have hmem : ∀ x ∈ tlB 47 g, x = 32 := fun x hx => by
            have : x ∈ tlB 47 g ++ List.replicate k 32 := List.mem_append_left _ hx
            rw [hall] at this
            exact List.eq_of_mem_replicate this
          obtain ⟨x, hx⟩ : ∃ x, (tlB 47 g).getLast? = some x := by
            cases hq : (tlB 47 g).getLast? with
            | none => exact absurd (List.getLast?_eq_none_iff.1 hq) htl
            | some x => exact ⟨x, rfl⟩
          have hgl : g.getLast? = some x := by
            rw [hs, List.getLast?_append]
            have : (47 :: tlB 47 g).getLast? = some x := by
              rw [List.getLast?_cons]
              simp [hx]
            rw [this]
            rfl
          exact h2 x hgl (hmem x (List.mem_of_getLast? hx))
      · rw [if_neg h47, if_neg]
        · rfl
        · rintro ⟨hm, _⟩
          rw [h1] at hm
          rcases List.mem_append.1 hm with h | h
          · exact h47 h
          · have := List.eq_of_mem_replicate h
            exact absurd this (by decide)

end Go.Proofs.YtmmcnkdefpfkiaaDoor
