/- The contract of the document's Map. -/
import Derived.Test.YtggmeopohpbmlaaMemRefS
namespace Go.Proofs.Ytggmeopohpbmlaa
open Go.RowKit Go.Maps
set_option linter.unusedVariables false

/-- A page more: its node and its bytes are new. -/
theorem RMx.more {V V' : World} {m b : Nat} {pb db : Nat → Nat} {S : Mm} {F : Nat → Prop} (h : RMx V m b pb db S F) {i P D : Nat} {p : Int} (h0 : S.perm i = 0) (hp : 1 ≤ p ∧ p ≤ 7) (hi : i < 34359738368) (hc : S.count + 1 ≤ 65536)
    (hP : ¬ F P) (hD : ¬ F D) (hPD : P ≠ D) {cs : List Int} (hcs : cs.length ≤ 4096) (hb : Bytes cs)
    (hmap : MapAt V' b (S.count + 1) (upd (fun j => if S.perm j = 0 then none else some (.pointer (some ⟨pb j, 0, none⟩))) i (.pointer (some ⟨P, 0, none⟩))))
    (hnode : V'.heap[P]? = some (.cells #[.int .i64 p, .slice (some ⟨D, 0, none⟩) 4096 4096] 67 (0, 0)))
    {L : List Value} (hL : V'.heap[D]? = some (.cells L.toArray 5 (0, 0))) (hLl : L.length = 4096) (hLb : ∀ j, j < 4096 → L[j]? = some (.int .u8 (cs.getD j 0)))
    (hK : Kept (fun k => k = b) V V') :
    RMx V' m b (fun j => if j = i then P else pb j) (fun j => if j = i then D else db j) ((S.mapped i 1 p).lay (i * 4096) cs) (fun k => F k ∨ k = P ∨ k = D) := by
  have same : ∀ k, F k → k ≠ b → V'.heap[k]? = V.heap[k]? := fun k hF hne => hK.block k (h.flt k hF) hne
  have hpe : ∀ j, ((S.mapped i 1 p).lay (i * 4096) cs).perm j = if j = i then p else S.perm j := fun j => by
    simp only [Mm.mapped, Mm.lay]
    by_cases hji : j = i
    · rw [if_pos hji, if_pos (by omega)]
    · rw [if_neg hji, if_neg (by omega)]
  have hby : ∀ j k, k < 4096 → ((S.mapped i 1 p).lay (i * 4096) cs).byte (j * 4096 + k) = if j = i then cs.getD k 0 else S.byte (j * 4096 + k) := fun j k hk => by
    simp only [Mm.mapped, Mm.lay]
    have e : (j * 4096 + k) / 4096 = j := by omega
    rw [e]
    by_cases hji : j = i
    · subst hji
      rw [if_pos rfl]
      by_cases hkc : k < cs.length
      · rw [if_pos (by omega), show j * 4096 + k - j * 4096 = k by omega]
      · rw [if_neg (by omega), if_pos (by omega), List.getD_eq_getElem?_getD, List.getElem?_eq_none (by omega)]; rfl
    · rw [if_neg hji, if_neg (by omega), if_neg (by omega)]
  refine ⟨(same m h.fm h.mb).trans h.head, hmap.congr (fun j _ => ?_), (h.good.mapped i 1 hp hc (by omega)).lay _ hb, ?_, ?_, ?_, Or.inl h.fm, Or.inl h.fb, ?_, ?_, ?_⟩
  · unfold upd
    rw [hpe j]
    by_cases hji : j = i
    · have hp0 : p ≠ 0 := by omega
      rw [if_pos hji, if_pos hji, if_neg hp0, if_pos hji]
    · rw [if_neg hji, if_neg hji, if_neg hji]
  · intro j hj
    rw [hpe j] at hj ⊢
    by_cases hji : j = i
    · simp only [if_pos hji]; exact hnode
    · simp only [if_neg hji] at hj ⊢
      exact (same _ (h.fp j hj) (h.pbb hj)).trans (h.node j hj)
  · intro j hj
    rw [hpe j] at hj
    by_cases hji : j = i
    · simp only [if_pos hji]
      exact ⟨L, hL, hLl, fun k hk => by rw [hLb k hk, hby j k hk, if_pos hji]⟩
    · simp only [if_neg hji] at hj ⊢
      obtain ⟨cs', h1, h2, h3⟩ := h.page j hj
      exact ⟨cs', (same _ (h.fd j hj) (h.dbb hj)).trans h1, h2, fun k hk => by rw [h3 k hk, hby j k hk, if_neg hji]⟩
  · intro j k hj hk he
    rw [hpe] at hj hk
    by_cases hji : j = i
    · by_cases hki : k = i
      · rw [hji, hki]
      · simp only [if_pos hji, if_neg hki] at he hk
        exact absurd (he ▸ h.fd k hk) hD
    · by_cases hki : k = i
      · simp only [if_neg hji, if_pos hki] at he hj
        exact absurd (he ▸ h.fd j hj) hD
      · simp only [if_neg hji, if_neg hki] at he hj hk
        exact h.apart j k hj hk he
  · intro j hj
    rw [hpe] at hj
    by_cases hji : j = i
    · simp [hji]
    · simp only [if_neg hji] at hj ⊢
      exact Or.inl (h.fp j hj)
  · intro j hj
    rw [hpe] at hj
    by_cases hji : j = i
    · simp [hji]
    · simp only [if_neg hji] at hj ⊢
      exact Or.inl (h.fd j hj)
  · rintro k (hk | rfl | rfl)
    · exact Nat.lt_of_lt_of_le (h.flt k hk) hK.size
    · exact (Array.getElem?_eq_some_iff.1 hnode).1
    · exact (Array.getElem?_eq_some_iff.1 hL).1

/-- The store of a page more. -/
theorem RMx.step {W : World} {m b : Nat} {pb db : Nat → Nat} {T : Mm} {F : Nat → Prop} (h : RMx W m b pb db T F) {i P D : Nat} {p : Int} (h0 : T.perm i = 0) (hp : 1 ≤ p ∧ p ≤ 7) (hi : i < 34359738368) (hc : T.count + 1 ≤ 65536)
    (hP : ¬ F P) (hD : ¬ F D) (hPD : P ≠ D) {cs : List Int} (hcs : cs.length ≤ 4096) (hb : Bytes cs)
    (hnode : W.heap[P]? = some (.cells #[.int .i64 p, .slice (some ⟨D, 0, none⟩) 4096 4096] 67 (0, 0)))
    {L : List Value} (hL : W.heap[D]? = some (.cells L.toArray 5 (0, 0))) (hLl : L.length = 4096) (hLb : ∀ j, j < 4096 → L[j]? = some (.int .u8 (cs.getD j 0))) :
    ∃ V, (Instr.mapUpdate 56 (.map (some b)) (.int .u64 (i : Int)) (.pointer (some ⟨P, 0, none⟩))).run Try.prog W = .ok () V ∧ RM V m ((T.mapped i 1 p).lay (i * 4096) cs) (fun k => F k ∨ k = P ∨ k = D) ∧ Kept (fun k => k = b) W V := by
  obtain ⟨V, hrun, hm2, hgr, hsz⟩ := h.map.store (t := 56) Try.underlying56 (by unfold maxLen; omega) i (by omega) (.pointer (some ⟨P, 0, none⟩))
  rw [if_pos h0] at hm2
  simp only [Option.isSome_none, Bool.false_eq_true, if_false] at hm2
  have hK : Kept (fun k => k = b) W V := Kept.of_grown hgr (fun k hk => (Option.some.inj hk).symm)
  have hPb : P ≠ b := fun e => hP (by rw [e]; exact h.fb)
  have hDb : D ≠ b := fun e => hD (by rw [e]; exact h.fb)
  refine ⟨V, hrun, ⟨b, _, _, h.more h0 hp hi hc hP hD hPD hcs hb hm2 ?_ (L := L) ?_ hLl hLb hK⟩, hK⟩
  · rw [hK.block P (Array.getElem?_eq_some_iff.1 hnode).1 hPb]; exact hnode
  · rw [hK.block D (Array.getElem?_eq_some_iff.1 hL).1 hDb]; exact hL

theorem addr_add (b o n : Nat) : (⟨b, o, none⟩ : Addr).add n = ⟨b, o + n, none⟩ := by unfold Addr.add; split <;> simp_all

theorem lay_in (S : Mm) (a : Nat) (bs : List Int) (x : Nat) (h1 : a ≤ x) (h2 : x < a + bs.length) : (S.lay a bs).byte x = bs[x - a]?.getD 0 := by
  simp only [Mm.lay]; rw [if_pos ⟨h1, h2⟩, List.getD_eq_getElem?_getD]
theorem lay_out (S : Mm) (a : Nat) (bs : List Int) (x : Nat) (h : ¬ (a ≤ x ∧ x < a + bs.length)) : (S.lay a bs).byte x = S.byte x := by
  simp only [Mm.lay]; rw [if_neg h]
theorem mapped_in (S : Mm) (f n : Nat) (p : Int) (x : Nat) (h : f ≤ x / 4096 ∧ x / 4096 < f + n) : (S.mapped f n p).byte x = 0 := by
  simp only [Mm.mapped]; rw [if_pos h]
theorem mapped_out (S : Mm) (f n : Nat) (p : Int) (x : Nat) (h : ¬ (f ≤ x / 4096 ∧ x / 4096 < f + n)) : (S.mapped f n p).byte x = S.byte x := by
  simp only [Mm.mapped]; rw [if_neg h]

set_option maxRecDepth 20000 in
/-- So much of the bytes as the first k pages take. -/
theorem Mm.mapped_more (S : Mm) (f k : Nat) (p : Int) (bs : List Int) :
    (((S.mapped f k p).lay (f * 4096) (bs.take (k * 4096))).mapped (f + k) 1 p).lay ((f + k) * 4096) ((bs.drop (k * 4096)).take 4096) = (S.mapped f (k + 1) p).lay (f * 4096) (bs.take ((k + 1) * 4096)) :=
  Mm.ext (fun i => by
      have := congrArg (fun T : Mm => T.perm i) (Mm.mapped_succ S f k p)
      simp only [Mm.mapped, Mm.lay] at this ⊢
      exact this)
    (fun x => by
      have l1 : ((bs.drop (k * 4096)).take 4096).length = min 4096 (bs.length - k * 4096) := by simp
      have l2 : (bs.take (k * 4096)).length = min (k * 4096) bs.length := by simp
      have l3 : (bs.take ((k + 1) * 4096)).length = min ((k + 1) * 4096) bs.length := by simp
      by_cases h1 : (f + k) * 4096 ≤ x ∧ x < (f + k) * 4096 + min 4096 (bs.length - k * 4096)
      · rw [lay_in _ _ _ _ h1.1 (by rw [l1]; exact h1.2), lay_in _ _ _ _ (by omega) (by rw [l3]; omega)]
        rw [List.getElem?_take, if_pos (by omega), List.getElem?_drop, List.getElem?_take, if_pos (by omega)]
        congr 2; omega
      · rw [lay_out _ _ _ _ (by rw [l1]; exact h1)]
        by_cases h2 : f + k ≤ x / 4096 ∧ x / 4096 < f + k + 1
        · rw [mapped_in _ _ _ _ _ h2, lay_out _ _ _ _ (by rw [l3]; omega), mapped_in _ _ _ _ _ (by omega)]
        · rw [mapped_out _ _ _ _ _ h2]
          by_cases h3 : f * 4096 ≤ x ∧ x < f * 4096 + min (k * 4096) bs.length
          · rw [lay_in _ _ _ _ h3.1 (by rw [l2]; exact h3.2), lay_in _ _ _ _ h3.1 (by rw [l3]; omega), List.getElem?_take, if_pos (by omega), List.getElem?_take, if_pos (by omega)]
          · rw [lay_out _ _ _ _ (by rw [l2]; exact h3), lay_out _ _ _ _ (by rw [l3]; omega)]
            by_cases h4 : f ≤ x / 4096 ∧ x / 4096 < f + k
            · rw [mapped_in _ _ _ _ _ h4, mapped_in _ _ _ _ _ (by omega)]
            · rw [mapped_out _ _ _ _ _ h4, mapped_out _ _ _ _ _ (by omega)])
    (by simp [Mm.mapped, Mm.lay]; omega)

end Go.Proofs.Ytggmeopohpbmlaa
