/- The made file: its headers are those that were laid, its names stand at 72; just when the rules hold of it. -/
import Derived.Test.YtmmbahblnmhhmaaShdrSame
namespace Go.Proofs.Ytmmbahblnmhhmaa
open Go.RowKit
set_option linter.unusedVariables false
set_option linter.unusedSimpArgs false

def tabL : List Int := [0, 97, 0, 98, 99, 0, 0]
theorem mdB_hds (l : List Sh) (h : ∀ s ∈ l, s.Ok) : hdsL (mdB l) 80 (l.length + 2) = mdH l := by
  apply List.ext_getElem?
  intro i
  by_cases hi : i < l.length + 2
  · obtain ⟨s, hs⟩ : ∃ s, (mdH l)[i]? = some s := ⟨_, List.getElem?_eq_getElem (by rw [mdH_len]; exact hi)⟩
    rw [hdsL_at _ _ _ _ hi, hs]
    have e : mdB l = (hb 80 ((l.length + 2 : Nat) : Int) ((l.length + 1 : Nat) : Int) ++ mdF) ++ (shsL (mdH l) ++ []) := by rw [List.append_nil]; rfl
    have h1 := shAt_list (hb 80 ((l.length + 2 : Nat) : Int) ((l.length + 1 : Nat) : Int) ++ mdF) [] (mdH l) i s hs (mdH_ok h s (List.mem_of_getElem? hs))
    rw [← e, show (hb 80 ((l.length + 2 : Nat) : Int) ((l.length + 1 : Nat) : Int) ++ mdF).length = 80 by rw [List.length_append, hb_len]; rfl] at h1
    rw [h1]
  · rw [List.getElem?_eq_none (by rw [hdsL_len]; omega), List.getElem?_eq_none (by rw [mdH_len]; omega)]
theorem mdB_tab (l : List Sh) : dtL (mdB l) shN = tabL := by
  unfold dtL
  rw [if_neg (by decide)]
  unfold cutOf
  rw [if_pos (by rw [mdB_len]; simp [shN]; omega)]
  have e : mdB l = (hb 80 ((l.length + 2 : Nat) : Int) ((l.length + 1 : Nat) : Int) ++ [1, 2, 3, 4, 5, 6, 7, 8]) ++ (tabL ++ ([0] ++ shsL (mdH l))) := by
    unfold mdB mdF tabL
    simp only [List.append_assoc]
  have hl : (hb 80 ((l.length + 2 : Nat) : Int) ((l.length + 1 : Nat) : Int) ++ [1, 2, 3, 4, 5, 6, 7, 8]).length = 72 := by rw [List.length_append, hb_len]; rfl
  have h1 : ((shN.off : Int)).toNat = (hb 80 ((l.length + 2 : Nat) : Int) ((l.length + 1 : Nat) : Int) ++ [1, 2, 3, 4, 5, 6, 7, 8]).length := by rw [hl]; rfl
  have h2 : ((shN.sz : Int)).toNat = tabL.length := rfl
  rw [e, h1, List.drop_left, h2, List.take_left]
theorem mdH_last (l : List Sh) : tbS (mdH l) ((l.length + 1 : Nat) : Int) = shN := by
  unfold tbS mdH
  simp

theorem tab_get (v : Nat) : (gtO tabL v).isSome = decide (v < 7) := by
  by_cases h : v < 7
  · have : v = 0 ∨ v = 1 ∨ v = 2 ∨ v = 3 ∨ v = 4 ∨ v = 5 ∨ v = 6 := by omega
    rcases this with rfl | rfl | rfl | rfl | rfl | rfl | rfl <;> decide +kernel
  · rw [gtO_far (by simp [tabL]; omega)]
    simp [h]

theorem isPow_one : isPow 1 = true := isPow_pow 0
theorem rt_shN (i n : Nat) (hi : 0 < i) (hn : 79 ≤ n) : rtB shN i n = true := by
  unfold rtB
  rw [if_neg (by omega)]
  have h1 : knB shN.ty = true := by decide
  have h2 : flB shN.fl = true := by decide +kernel
  have h3 : alB shN.al = true := by unfold alB; exact decide_eq_true (.inr ⟨by decide, isPow_one⟩)
  have h4 : hlB shN n = true := by unfold hlB; rw [if_neg (by decide)]; exact decide_eq_true (by simp [shN]; omega)
  rw [h1, h2, h3, h4]
  rfl

theorem rtB_any (s : Sh) (i n : Nat) (hi : 0 < i) : rtB s i n = rtB s 1 n := by
  unfold rtB
  rw [if_neg (by omega), if_neg (by omega)]

/-- Just when the rules hold of the made file. -/
theorem prs_made (l : List Sh) (h : ∀ s ∈ l, s.Ok) : prsOk (mdB l) 80 ((l.length + 2 : Nat) : Int) ((l.length + 1 : Nat) : Int) ↔ ∀ s ∈ l, rtB s 1 (80 + 64 * (l.length + 2)) = true ∧ s.nm < 7 := by
  have hh := mdB_hds l h
  have hL := mdB_len l
  have hg : ∀ i, i < l.length + 2 → (mdH l)[i]? = some (shAt (mdB l) (80 + 64 * i)) := fun i hi => by rw [← hh]; exact hdsL_at _ _ _ _ hi
  have hat : ∀ i, (mdH l)[i + 1]? = if i < l.length then l[i]? else if i = l.length then some shN else none := fun i => by
    unfold mdH
    rw [List.cons_append, List.getElem?_cons_succ]
    by_cases h1 : i < l.length
    · rw [if_pos h1, List.getElem?_append_left h1]
    · rw [if_neg h1, List.getElem?_append_right (by omega)]
      by_cases h2 : i = l.length
      · rw [if_pos h2, h2, Nat.sub_self]; rfl
      · rw [if_neg h2, List.getElem?_eq_none (by simp; omega)]
  unfold prsOk
  rw [Int.toNat_natCast, hL, show ((80 : Int)).toNat = 80 from rfl, hh]
  unfold nmPr
  rw [mdH_last, mdB_tab, mdH_len]
  constructor
  · rintro ⟨_, _, h3, _, _, _, h7⟩ s hs
    obtain ⟨i, hi, rfl⟩ := List.getElem_of_mem hs
    have e1 : (mdH l)[i + 1]? = some l[i] := by rw [hat, if_pos hi, List.getElem?_eq_getElem hi]
    have e2 := hg (i + 1) (by omega)
    rw [e1] at e2
    have e3 : shAt (mdB l) (80 + 64 * (i + 1)) = l[i] := (Option.some.inj e2).symm
    have h8 := h3 (i + 1) (by omega)
    rw [e3, rtB_any _ _ _ (by omega)] at h8
    refine ⟨h8, ?_⟩
    have h9 := h7 (i + 1) _ e1
    rw [tab_get] at h9
    simpa using h9
  · intro hs
    refine ⟨by omega, by omega, fun i hi => ?_, by omega, by omega, rfl, fun k s hk => ?_⟩
    · match i, hi with
      | 0, _ =>
        have e2 := hg 0 (by omega)
        rw [← Option.some.inj (e2.symm.trans (show (mdH l)[0]? = some sh0 from rfl)).symm]
        rfl
      | i + 1, hi =>
        have e2 := hg (i + 1) (by omega)
        rw [hat] at e2
        by_cases h1 : i < l.length
        · rw [if_pos h1, List.getElem?_eq_getElem h1] at e2
          rw [← Option.some.inj e2, rtB_any _ _ _ (by omega)]
          exact (hs _ (List.getElem_mem h1)).1
        · rw [if_neg h1, if_pos (by omega)] at e2
          rw [← Option.some.inj e2]
          exact rt_shN _ _ (by omega) (by omega)
    · rw [tab_get]
      refine decide_eq_true ?_
      have hm := List.mem_of_getElem? hk
      simp [mdH] at hm
      rcases hm with rfl | hm | rfl
      · decide
      · exact (hs s hm).2
      · decide

end Go.Proofs.Ytmmbahblnmhhmaa
