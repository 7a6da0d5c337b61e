/- What an object defines, the document's way: the contract of its Defines; that both ways tell the same. -/
import Derived.Test.YteknmlcgdjoccaaArmAdd
namespace Go.Proofs.Yteknmlcgdjoccaa
open Go.RowKit Go.Maps
set_option linter.unusedVariables false
set_option maxRecDepth 20000
set_option linter.unusedSimpArgs false

def doStep (N : List T8) (s : Sm) : List T8 := if dfB s = true then insS s.nm N else N
def docN (l : List Sm) : List T8 := l.foldl doStep []
theorem docN_take (l : List Sm) (k : Nat) (s : Sm) (h : l[k]? = some s) : docN (l.take (k + 1)) = doStep (docN (l.take k)) s := by
  unfold docN
  rw [List.take_add_one, h, List.foldl_append]
  rfl
theorem insS_len (s : T8) (N : List T8) : (insS s N).length ≤ N.length + 1 := by
  unfold insS
  split
  · omega
  · have := posS_le s N
    simp
    omega
theorem docN_len (l : List Sm) : (docN l).length ≤ l.length := by
  have : ∀ (l : List Sm) (N : List T8), (l.foldl doStep N).length ≤ N.length + l.length := by
    intro l
    induction l with
    | nil => intro N; simp
    | cons a l ih =>
      intro N
      have h1 := ih (doStep N a)
      have h2 : (doStep N a).length ≤ N.length + 1 := by
        unfold doStep
        split
        · exact insS_len _ _
        · omega
      simp only [List.foldl_cons, List.length_cons]
      omega
  simpa [docN] using this l []

/-! Both tell the same: names in order, each once. -/
theorem posS_cons (s a : T8) (N : List T8) (h : a < s) : posS s (a :: N) = posS s N + 1 := by
  unfold posS
  rw [List.takeWhile_cons_of_pos (by simpa using h)]
  rfl
theorem posS_zero (s a : T8) (N : List T8) (h : ¬ a < s) : posS s (a :: N) = 0 := by
  unfold posS
  rw [List.takeWhile_cons_of_neg (by simpa using h)]
  rfl
theorem insS_nil (s : T8) : insS s [] = [s] := by simp [insS, posS]
theorem insS_lt (s a : T8) (N : List T8) (h : a < s) : insS s (a :: N) = a :: insS s N := by
  unfold insS
  rw [posS_cons s a N h]
  simp only [List.getElem?_cons_succ, List.take_succ_cons, List.drop_succ_cons]
  split <;> rfl
theorem insS_eq (a : T8) (N : List T8) : insS a (a :: N) = a :: N := by
  unfold insS
  rw [posS_zero a a N (List.lt_irrefl a)]
  simp
theorem insS_gt (s a : T8) (N : List T8) (h : s < a) : insS s (a :: N) = s :: a :: N := by
  have h1 : ¬ a < s := fun h2 => List.lt_irrefl s (List.lt_trans h h2)
  unfold insS
  rw [posS_zero s a N h1, if_neg]
  · simp
  · intro e
    simp at e
    subst e
    exact List.lt_irrefl _ h
theorem insS_mem (s : T8) : ∀ (N : List T8) (x : T8), x ∈ insS s N ↔ x = s ∨ x ∈ N
  | [], x => by rw [insS_nil]; simp
  | a :: N, x => by
    by_cases h : a < s
    · rw [insS_lt s a N h, List.mem_cons, insS_mem s N x, List.mem_cons]
      constructor
      · rintro (h | h | h)
        · exact .inr (.inl h)
        · exact .inl h
        · exact .inr (.inr h)
      · rintro (h | h | h)
        · exact .inr (.inl h)
        · exact .inl h
        · exact .inr (.inr h)
    · by_cases h2 : s < a
      · rw [insS_gt s a N h2, List.mem_cons]
      · obtain rfl : a = s := List.le_antisymm (List.not_lt.1 h2) (List.not_lt.1 h)
        rw [insS_eq, List.mem_cons]
        constructor
        · exact fun h => .inr h
        · rintro (h | h)
          · exact .inl h
          · exact h
theorem insS_sorted (s : T8) : ∀ (N : List T8), N.Pairwise (· < ·) → (insS s N).Pairwise (· < ·)
  | [], _ => by rw [insS_nil]; simp
  | a :: N, hp => by
    obtain ⟨h1, h2⟩ := List.pairwise_cons.1 hp
    by_cases h : a < s
    · rw [insS_lt s a N h]
      refine List.pairwise_cons.2 ⟨fun x hx => ?_, insS_sorted s N h2⟩
      rcases (insS_mem s N x).1 hx with rfl | hx
      · exact h
      · exact h1 x hx
    · by_cases h3 : s < a
      · rw [insS_gt s a N h3]
        refine List.pairwise_cons.2 ⟨fun x hx => ?_, hp⟩
        rcases List.mem_cons.1 hx with rfl | hx
        · exact h3
        · exact List.lt_trans h3 (h1 x hx)
      · obtain rfl : a = s := List.le_antisymm (List.not_lt.1 h3) (List.not_lt.1 h)
        rw [insS_eq]
        exact hp
theorem sorted_ext : ∀ (l m : List T8), l.Pairwise (· < ·) → m.Pairwise (· < ·) → (∀ x, x ∈ l ↔ x ∈ m) → l = m
  | [], [], _, _, _ => rfl
  | [], b :: m, _, _, h => by have := (h b).2 (by simp); simp at this
  | a :: l, [], _, _, h => by have := (h a).1 (by simp); simp at this
  | a :: l, b :: m, hl, hm, h => by
    obtain ⟨l1, l2⟩ := List.pairwise_cons.1 hl
    obtain ⟨m1, m2⟩ := List.pairwise_cons.1 hm
    have hab : a = b := by
      rcases List.mem_cons.1 ((h a).1 (by simp)) with e | h1
      · exact e
      · rcases List.mem_cons.1 ((h b).2 (by simp)) with e | h2
        · exact e.symm
        · exact absurd (List.lt_trans (l1 b h2) (m1 a h1)) (List.lt_irrefl a)
    subst hab
    rw [sorted_ext l m l2 m2 (fun x => ?_)]
    constructor
    · intro hx
      rcases List.mem_cons.1 ((h x).1 (List.mem_cons_of_mem _ hx)) with e | h1
      · subst e; exact absurd (l1 x hx) (List.lt_irrefl x)
      · exact h1
    · intro hx
      rcases List.mem_cons.1 ((h x).2 (List.mem_cons_of_mem _ hx)) with e | h1
      · subst e; exact absurd (m1 x hx) (List.lt_irrefl x)
      · exact h1
theorem dfN_nodup (l : List Sm) : (dfN l).Nodup := by
  have : ∀ (l : List Sm) (N : List T8), N.Nodup → (l.foldl dfStep N).Nodup := by
    intro l
    induction l with
    | nil => intro N h; exact h
    | cons a l ih =>
      intro N h
      refine ih _ ?_
      unfold dfStep
      split
      · rename_i hc
        rw [List.nodup_append]
        refine ⟨h, by simp, fun x hx y hy e => ?_⟩
        rw [List.mem_singleton.1 hy] at e
        subst e
        exact hc.2 hx
      · exact h
  exact this l [] (by simp)
theorem dfN_mem (l : List Sm) : ∀ (N M : List T8), (∀ x, x ∈ N ↔ x ∈ M) → ∀ x, x ∈ l.foldl dfStep N ↔ x ∈ l.foldl doStep M := by
  induction l with
  | nil => intro N M h; exact h
  | cons a l ih =>
    intro N M h
    refine ih _ _ (fun x => ?_)
    unfold dfStep doStep
    by_cases hb : dfB a = true
    · rw [if_pos hb, insS_mem]
      by_cases hm : a.nm ∈ N
      · rw [if_neg (fun hc => hc.2 hm), h x]
        constructor
        · exact fun h => .inr h
        · rintro (rfl | hx)
          · exact (h _).1 hm
          · exact hx
      · rw [if_pos ⟨hb, hm⟩, List.mem_append, h x, List.mem_singleton]
        exact Or.comm
    · rw [if_neg hb, if_neg (fun hc => hb hc.1)]
      exact h x
theorem docN_sorted (l : List Sm) : (docN l).Pairwise (· < ·) := by
  have : ∀ (l : List Sm) (N : List T8), N.Pairwise (· < ·) → (l.foldl doStep N).Pairwise (· < ·) := by
    intro l
    induction l with
    | nil => intro N h; exact h
    | cons a l ih =>
      intro N h
      refine ih _ ?_
      unfold doStep
      split
      · exact insS_sorted _ _ h
      · exact h
  exact this l [] (by simp)
theorem srt_sorted (N : List T8) (h : N.Nodup) : (srt N).Pairwise (· < ·) := by
  have h1 : (srt N).Pairwise (fun a b => (!(Sort.ltStr b a)) = true) := List.pairwise_mergeSort (le := fun x y => !(Sort.ltStr y x))
    (fun a b c hab hbc => by
      simp only [Sort.ltStr, Bool.not_eq_true', decide_eq_false_iff_not, List.not_lt] at *
      exact List.le_trans hab hbc)
    (fun a b => by
      simp only [Sort.ltStr, Bool.or_eq_true, Bool.not_eq_true', decide_eq_false_iff_not, List.not_lt]
      exact List.le_total a b) N
  have h2 : (srt N).Nodup := (List.mergeSort_perm N _).nodup_iff.2 h
  have h3 := h1.and h2
  refine h3.imp (fun {a b} ⟨x, y⟩ => ?_)
  simp only [Sort.ltStr, Bool.not_eq_true', decide_eq_false_iff_not, List.not_lt] at x
  rcases List.le_iff_lt_or_eq.1 x with h | h
  · exact h
  · exact absurd h y
theorem both_same (l : List Sm) : srt (dfN l) = docN l :=
  sorted_ext _ _ (srt_sorted _ (dfN_nodup l)) (docN_sorted l) (fun x => by
    have h1 : x ∈ srt (dfN l) ↔ x ∈ dfN l := List.mem_mergeSort
    rw [h1]
    exact dfN_mem l [] [] (fun _ => Iff.rfl) x)

set_option maxHeartbeats 8000000 in
theorem rdfn_any (vs vg : Value) (a : Option Addr) (n cap : Nat) (l : List Sm) (w : World) (r : Rm w a n cap l) (hn : n ≤ 1000000) :
    Calls Try.prog 13 #[.agg #[vs, .slice a n cap, vg]] w fun e w' => ∃ v, e = .returned v ∧ w'.ownsRow w.heap.size 9 1 v (docN l).length (csT (docN l)) ∧ Below w.heap.size w w' := by
  have hl := r.length
  have hle := r.le
  have hmx := r.max
  have HR := hide r
  clear r
  go_enter Try.func13, Try.ntmps13
  go_upto_region 2 with fail
  have hOb : Hid ((w.alloc (.cells #[vs, .slice a n cap, vg] 46)).heap[w.heap.size]? = some (.cells #[vs, .slice a n cap, vg] 46 (0, 0))) := heap_alloc_new w _
  have hbl : w.heap.size < (w.alloc (.cells #[vs, .slice a n cap, vg] 46)).heap.size := by simp
  have HB0 : Hid (Below w.heap.size w (w.alloc (.cells #[vs, .slice a n cap, vg] 46))) := (Below.refl _ _).alloc (Nat.le_refl _) _
  generalize w.alloc (.cells #[vs, .slice a n cap, vg] 46) = W0 at *
  have z0 := HB0.out.size
  have hO0 : Hid (W0.ownsRow W0.heap.size 9 1 (.slice none 0 0) (docN (l.take 0)).length (csT (docN (l.take 0)))) := World.ownsRow_nil _ _ _ _
  go_wp2_with fail
  go_loopg [3, 4] n (fun gg v i wr => ∃ k : Nat, k ≤ n ∧ gg = n - k ∧ i = .int .i64 (k : Int) ∧ Hid (wr.ownsRow W0.heap.size 9 1 v (docN (l.take k)).length (csT (docN (l.take k)))) ∧ Hid (Below W0.heap.size W0 wr))
  case atStart => exact ⟨0, by omega, rfl, rfl, hO0, Below.refl _ _⟩
  case round =>
    obtain ⟨k, hk, rfl, rfl, HW, HB⟩ := hrel
    clear hO0
    have hx := (HB.out.block _ hbl).trans hOb.out
    have c9 : wr.cell? ⟨w.heap.size, 1, none⟩ = some (.slice a n cap) := by rw [cell_of_row _ _ 1 _ _ (0, 0) hx]; rfl
    have zr := HB.out.size
    have HB2 := hide (HB0.out.trans (HB.out.mono z0))
    clear hx
    by_cases hlt : k < n
    · have hlt' : (k : Int) < (n : Int) := by omega
      obtain ⟨t, ht⟩ : ∃ t, l[k]? = some t := ⟨_, List.getElem?_eq_getElem (by omega)⟩
      obtain ⟨b2, o2, rfl, hc⟩ := Rm.addr (Rr.below HR.out HB2.out) (by omega)
      obtain ⟨c0, c1, c2, c3, c4, c5⟩ := hc k t ht
      have HT := hide (docN_take l k t ht)
      have hNl := docN_len (l.take k)
      rw [List.length_take] at hNl
      obtain ⟨nm, bd, ty, se, va, sz⟩ := t
      simp only at c0 c1 c2 c3 c4 c5
      generalize docN (l.take k) = N at *
      have HA := hide (radd_any W0.heap.size u3 N nm wr HW.out zr (by omega))
      obtain ⟨b1, h1⟩ : ∃ b, (bd == 1) = b := ⟨_, rfl⟩
      obtain ⟨b3, h3⟩ : ∃ b, (bd == 2) = b := ⟨_, rfl⟩
      obtain ⟨b4, h4⟩ : ∃ b, (se != 0) = b := ⟨_, rfl⟩
      have HD : Hid (dfB ⟨nm, bd, ty, se, va, sz⟩ = ((b1 || b3) && b4)) := by
        show dfB _ = _
        unfold dfB
        rw [h1, h3, h4]
      clear hc ht c2 c4 c5
      generalize str nm = S at *
      have yes : ((b1 || b3) && b4) = true → Hid (docN (l.take (k + 1)) = insS nm N) := fun hb => by
        show _ = _
        rw [HT.out]
        unfold doStep
        rw [if_pos (by rw [HD.out]; exact hb)]
      have no : ((b1 || b3) && b4) = false → Hid (docN (l.take (k + 1)) = N) := fun hb => by
        show _ = _
        rw [HT.out]
        unfold doStep
        rw [if_neg (by rw [HD.out, hb]; simp)]
      have HY := hide yes
      have HN := hide no
      clear yes no HD HT
      by_cases hb : ((b1 || b3) && b4) = true
      · have HE := HY.out hb
        clear HY HN
        cases b1 <;> cases b3 <;> cases b4 <;> first | (exact absurd hb (by decide)) | skip
        all_goals
          clear hb
          go_wp2_with fail
          refine HA.out.mono ?_
          rintro e W4 ⟨v4, rfl, ho4, hb4⟩
          have HW4 : Hid (W4.ownsRow W0.heap.size 9 1 v4 (docN (l.take (k + 1))).length (csT (docN (l.take (k + 1))))) := by rw [HE.out]; exact ho4
          have HB4 := hide (HB.out.trans (hb4.mono zr))
          clear ho4 hb4 HA HW HB HB2 HE
          go_wp2_with fail
          go_roundg (n - (k + 1))
          case measure => omega
          case rel => exact ⟨k + 1, by omega, rfl, by go_num, HW4.out, HB4.out⟩
      · have HE := HN.out (by simpa using hb)
        clear HY HN HA
        cases b1 <;> cases b3 <;> cases b4 <;> first | (exact absurd rfl hb) | skip
        all_goals
          clear hb
          go_wp2_with fail
          go_roundg (n - (k + 1))
          case measure => omega
          case rel => exact ⟨k + 1, by omega, rfl, by go_num, by rw [HE.out]; exact HW.out, HB.out⟩
    · obtain rfl : k = n := by omega
      have hall : l.take k = l := List.take_of_length_le (by omega)
      rw [hall] at HW
      have HF := hide (row_low HW.out z0)
      clear HW HB
      go_wp2_with fail
      go_ret
      exact ⟨_, rfl, HF.out, HB2.out⟩

end Go.Proofs.Yteknmlcgdjoccaa
