/- Plain facts on the program's memory: a page's bytes laid over, a page that is given bytes. -/
import Derived.Test.YtggmeopohpbmlaaMemMay
import Derived.Laws.CopyOwn
namespace Go.Proofs.Ytggmeopohpbmlaa
open Go.RowKit Go.Maps
set_option linter.unusedVariables false

theorem splice_get {α : Type} (L : List α) (off : Nat) (cs : List α) (h : off + cs.length ≤ L.length) (j : Nat) :
    (splice L off cs)[j]? = if off ≤ j ∧ j < off + cs.length then cs[j - off]? else L[j]? := by
  unfold splice
  by_cases h1 : j < off
  · rw [if_neg (by omega), List.getElem?_append_left (by simp; omega), List.getElem?_take, if_pos h1]
  · rw [List.getElem?_append_right (by simp; omega)]
    have e : (L.take off).length = off := by simp; omega
    rw [e]
    by_cases h2 : j < off + cs.length
    · rw [if_pos (by omega), List.getElem?_append_left (by omega)]
    · rw [if_neg (by omega), List.getElem?_append_right (by omega), List.getElem?_drop]
      congr 1; omega

theorem Page.byte_of {V : World} {g i : Nat} {S : Mm} (h : Page V g S i) {L : List Value} (hL : V.heap[g]? = some (.cells L.toArray 5 (0, 0))) : L.length = 4096 ∧ ∀ j, j < 4096 → L[j]? = some (.int .u8 (S.byte (i * 4096 + j))) := by
  obtain ⟨cs, h1, h2, h3⟩ := h
  rw [hL] at h1
  have e : L = cs := by
    have h4 := congrArg (fun o : Option Obj => match o with | some (.cells c _ _) => c.toList | _ => []) h1
    simpa using h4
  subst e
  exact ⟨h2, h3⟩

/-- Bytes laid over those of one page's block. -/
theorem Page.laid {V V' : World} {g i off : Nat} {S : Mm} (h : Page V g S i) {cs : List Int} (hoff : off + cs.length ≤ 4096) {L : List Value} (hL : V.heap[g]? = some (.cells L.toArray 5 (0, 0)))
    (hV' : V'.heap[g]? = some (.cells (splice L off (cs.map (Value.int .u8))).toArray 5 (0, 0))) : Page V' g (S.lay (i * 4096 + off) cs) i := by
  obtain ⟨h1, h2⟩ := h.byte_of hL
  refine ⟨_, hV', by rw [length_splice _ _ _ (by simp; omega)]; exact h1, fun j hj => ?_⟩
  rw [splice_get _ _ _ (by simp; omega)]
  simp only [Mm.lay, List.length_map]
  by_cases h3 : off ≤ j ∧ j < off + cs.length
  · rw [if_pos h3, if_pos (by omega)]
    have e : i * 4096 + j - (i * 4096 + off) = j - off := by omega
    rw [e]
    have h4 : j - off < cs.length := by omega
    simp [h4]
  · rw [if_neg h3, if_neg (by omega)]
    exact h2 j hj

/-- Another page's bytes stay. -/
theorem Page.other {V V' : World} {g i k off : Nat} {S : Mm} (h : Page V g S k) {cs : List Int} (hoff : off + cs.length ≤ 4096) (hik : k ≠ i) (hV : V'.heap[g]? = V.heap[g]?) : Page V' g (S.lay (i * 4096 + off) cs) k := by
  obtain ⟨L, h1, h2, h3⟩ := h
  refine ⟨L, hV.trans h1, h2, fun j hj => ?_⟩
  rw [h3 j hj]
  simp only [Mm.lay]
  rw [if_neg (by omega)]

theorem PMx.laid {V V' : World} {m b : Nat} {dt : Nat → Option Nat} {S : Mm} {F : Nat → Prop} (h : PMx V m b dt S F) {i g off : Nat} {cs : List Int} (hg : dt i = some g) (hoff : off + cs.length ≤ 4096) (hb : Bytes cs)
    {L : List Value} (hL : V.heap[g]? = some (.cells L.toArray 5 (0, 0))) (hV' : V'.heap[g]? = some (.cells (splice L off (cs.map (Value.int .u8))).toArray 5 (0, 0))) (hK : Kept (fun k => k = g) V V') :
    PMx V' m b dt (S.lay (i * 4096 + off) cs) F := by
  have same : ∀ k, F k → k ≠ g → V'.heap[k]? = V.heap[k]? := fun k hF hne => hK.block k (h.flt k hF) hne
  refine ⟨(same m h.fm (fun e => h.gm hg e.symm)).trans h.head, h.map.kept (same b h.fb (fun e => h.gb hg e.symm)), h.good.lay _ hb, h.dn, ?_, ?_, h.apart, h.fm, h.fb, h.fg, fun k hk => Nat.lt_of_lt_of_le (h.flt k hk) hK.size⟩
  · intro k hk hd j hj
    have hki : k ≠ i := fun e => by subst e; rw [hg] at hd; cases hd
    have := h.noughts k hk hd j hj
    simp only [Mm.lay]
    rw [if_neg (by omega)]
    exact this
  · intro k g' hg'
    by_cases hki : k = i
    · subst hki
      rw [hg] at hg'
      cases hg'
      exact (h.page k g hg).laid hoff hL hV'
    · exact (h.page k g' hg').other hoff hki (same g' (h.fg k g' hg') (fun e => by subst e; exact hki (h.apart k i g' hg' hg)))

theorem PMx.gave {V V' : World} {m b : Nat} {dt : Nat → Option Nat} {S : Mm} {F : Nat → Prop} (h : PMx V m b dt S F) {i g : Nat} (hp : S.perm i ≠ 0) (hd : dt i = none) (hg : ¬ F g)
    (hmap : MapAt V' b S.count (upd (fun j => if S.perm j = 0 then none else some (pv (S.perm j) (dt j))) i (pv (S.perm i) (some g))))
    {cs : List Value} (hcs : V'.heap[g]? = some (.cells cs.toArray 5 (0, 0))) (hl : cs.length = 4096) (hz : ∀ j, j < 4096 → cs[j]? = some (.int .u8 0)) (hK : Kept (fun k => k = b) V V') :
    PMx V' m b (fun j => if j = i then some g else dt j) S (fun k => F k ∨ k = g) := by
  have same : ∀ k, F k → k ≠ b → V'.heap[k]? = V.heap[k]? := fun k hF hne => hK.block k (h.flt k hF) hne
  refine ⟨(same m h.fm h.mb).trans h.head, hmap.congr (fun j _ => ?_), h.good, ?_, ?_, ?_, ?_, Or.inl h.fm, Or.inl h.fb, ?_, ?_⟩
  · unfold upd
    by_cases hji : j = i
    · subst hji; simp [hp]
    · simp [hji]
  · intro j hj
    have hji : j ≠ i := fun e => hp (by rw [← e]; exact hj)
    simp [hji, h.dn j hj]
  · intro j hj hn k hk
    by_cases hji : j = i
    · simp [hji] at hn
    · simp [hji] at hn
      exact h.noughts j hj hn k hk
  · intro j g' hg'
    by_cases hji : j = i
    · simp [hji] at hg'
      subst hg'
      subst hji
      exact ⟨cs, hcs, hl, fun k hk => by rw [hz k hk, h.noughts j hp hd k hk]⟩
    · simp [hji] at hg'
      exact (h.page j g' hg').kept (same g' (h.fg j g' hg') (h.gb hg'))
  · intro j k g' hj hk
    by_cases hji : j = i
    · by_cases hki : k = i
      · rw [hji, hki]
      · simp [hji] at hj
        simp [hki] at hk
        subst hj
        exact absurd (h.fg k _ hk) hg
    · by_cases hki : k = i
      · simp [hki] at hk
        simp [hji] at hj
        subst hk
        exact absurd (h.fg j _ hj) hg
      · simp [hji] at hj
        simp [hki] at hk
        exact h.apart j k g' hj hk
  · intro j g' hj
    by_cases hji : j = i
    · simp [hji] at hj
      exact Or.inr hj.symm
    · simp [hji] at hj
      exact Or.inl (h.fg j g' hj)
  · rintro k (hk | rfl)
    · exact Nat.lt_of_lt_of_le (h.flt k hk) hK.size
    · exact (Array.getElem?_eq_some_iff.1 hcs).1

end Go.Proofs.Ytggmeopohpbmlaa
