/- Lines with blanks, empty lines and comments about them. -/
import Derived.Test.YtcghekkhbiomgaaGreatDoorAsmTrip
namespace Go.Proofs.YtcghekkhbiomgaaGreatDoor
open Go.RowKit
set_option linter.unusedVariables false
set_option maxRecDepth 100000
set_option linter.unusedSimpArgs false

theorem names_44 : ∀ k, k < 66 → (44 : UInt8) ∉ namesL.getD k [] := by decide +kernel
theorem pat_44 (op : Int) : pat op = [] ∨ (pat op).getLastD 0 ≠ 44 := by
  unfold pat
  generalize thr op = b
  rcases fmo_cases op with h | h | h | h | h | h | h <;> rw [h] <;> cases b <;> decide
theorem isN_44 {c : UInt8} (h : isN c = true) : c ≠ 44 := fun e => by subst e; revert h; decide
theorem last_app' {a b : List UInt8} (hb : b ≠ []) (h : ∀ c ∈ b, c ≠ 44) : ∀ c, (a ++ b)[(a ++ b).length - 1]? = some c → c ≠ 44 := fun c hc => by
  have hl : 0 < b.length := List.length_pos_iff.2 hb
  rw [List.length_append, List.getElem?_append_right (by omega)] at hc
  exact h c (List.mem_of_getElem? hc)
theorem tx_last {k : Nat} (hk : 1 ≤ k) (hk' : k < 66) (m : Ns) : ∀ c, (tx k m)[(tx k m).length - 1]? = some c → c ≠ 44 := by
  obtain ⟨n32, n10, hn⟩ := names_no k hk'
  obtain ⟨ne, nh, _⟩ := hn hk
  have n44 := names_44 k hk'
  unfold tx
  rw [if_pos (knw_nat hk hk'), nml_nat hk hk']
  generalize namesL.getD k [] = nm at *
  by_cases hp : pat k = []
  · rw [if_pos hp, List.append_nil]
    exact last_app' (a := []) ne (fun d hd e => n44 (by rw [← e]; exact hd))
  · rw [if_neg hp]
    obtain ⟨e1, e2, e3⟩ := (pat_good k).resolve_left hp
    have e5 := (pat_44 k).resolve_left hp
    rw [e1]
    have e4 : nm ++ 32 :: fil m ((pat k).dropLast ++ [(pat k).getLastD 0]) = (nm ++ 32 :: fil m (pat k).dropLast) ++ fch m ((pat k).getLastD 0) := by
      simp [fil]
    rw [e4]
    refine last_app' (fch_ne _ _) (fun d hd e => ?_)
    rcases fch_mem hd with h | h
    · exact e5 (by rw [← h, e])
    · exact isN_44 h e
/-- A text with a comma behind it is none. -/
theorem prs_comma (t : List UInt8) : prsA (t ++ [44]) = none := by
  cases h : prsA (t ++ [44]) with
  | none => rfl
  | some y =>
    obtain ⟨k, m⟩ := y
    obtain ⟨h1, h2, _, _, e⟩ := prsA_some h
    have := tx_last h1 h2 m 44
    rw [e] at this
    exact absurd rfl (this (by simp))
theorem plain_comma {t : List UInt8} (h : Plain t) : Plain (t ++ [44]) := by
  obtain ⟨c, r, rfl⟩ : ∃ c r, t = c :: r := by
    cases t with
    | nil => exact absurd rfl h.ne
    | cons c r => exact ⟨c, r, rfl⟩
  refine ⟨fun hm => ?_, by simp, by simpa using h.head, fun b hb => h.first b (by simpa using hb), last_app (by simp) (fun d hd => by simp at hd; rw [hd]; decide)⟩
  rcases List.mem_append.1 hm with h1 | h1
  · exact h.lf h1
  · simp at h1
theorem trim_pad {t : List UInt8} (h : Plain t) (a b : Nat) : Lib.trimB (List.replicate a 32 ++ (t ++ List.replicate b 32)) 32 = t := by
  have ht : 0 < t.length := List.length_pos_iff.2 h.ne
  unfold Lib.trimB
  rw [Lib.trimRightB_take _ 32 (a + t.length) (by simp) (fun j c hj hc => by
      rw [List.getElem?_append_right (by simp; omega), List.getElem?_append_right (by simp; omega)] at hc
      exact (List.mem_replicate.1 (List.mem_of_getElem? hc)).2) (fun c _ hc => by
      rw [List.getElem?_append_right (by simp; omega), List.getElem?_append_left (by simp; omega)] at hc
      refine h.last c ?_
      rw [← hc]; congr 1; simp; omega)]
  have e : (List.replicate a (32 : UInt8) ++ (t ++ List.replicate b 32)).take (a + t.length) = List.replicate a 32 ++ t := by
    rw [← List.append_assoc, List.take_left' (by simp)]
  rw [e, Lib.trimLeftB_drop _ 32 a (by simp) (fun j c hj hc => by
      rw [List.getElem?_append_left (by simpa using hj)] at hc
      exact (List.mem_replicate.1 (List.mem_of_getElem? hc)).2) (fun c hc => by
      rw [List.getElem?_append_right (by simp)] at hc
      exact h.first c (by simpa using hc)), List.drop_left' (by simp)]
/-- A line with blanks about it. -/
theorem lnG_pad {t : List UInt8} (hp : Plain t) (a b f n : Nat) (l : List UInt8) (ws : List Int) : lnG (f + 1) n (List.replicate a 32 ++ (t ++ (List.replicate b 32 ++ 10 :: l))) ws = match prsA t with
    | none => ([], n)
    | some (k, m) => lnG f (n + 1) l (ws ++ [encW k m.d m.s m.t m.i]) := by
  have hlf : (10 : UInt8) ∉ List.replicate a (32 : UInt8) ++ (t ++ List.replicate b 32) := fun h => by
    rcases List.mem_append.1 h with h | h
    · exact absurd (List.mem_replicate.1 h).2 (by decide)
    · rcases List.mem_append.1 h with h | h
      · exact hp.lf h
      · exact absurd (List.mem_replicate.1 h).2 (by decide)
  obtain ⟨a1, a2⟩ := hdB_app l hlf
  have ee : List.replicate a (32 : UInt8) ++ (t ++ (List.replicate b 32 ++ 10 :: l)) = (List.replicate a 32 ++ (t ++ List.replicate b 32)) ++ 10 :: l := by simp
  have hT : lnT (List.replicate a 32 ++ (t ++ (List.replicate b 32 ++ 10 :: l))) = t := by unfold lnT; rw [ee, a1, trim_pad hp]
  rw [lnG, if_neg (by simp), hT, if_neg (fun h => h.elim hp.ne hp.head), ee, a2]
  rfl
theorem lnG_empty (f n : Nat) (l : List UInt8) (ws : List Int) : lnG (f + 1) n (10 :: l) ws = lnG f (n + 1) l ws := by
  rw [lnG, if_neg (by simp), if_pos (.inl (by simp [lnT, hdB, Lib.trimB, Lib.trimLeftB, Lib.trimRightB]))]
  simp [tlB]
theorem lnG_note (f n : Nat) (l : List UInt8) (ws : List Int) : lnG (f + 1) n (35 :: 32 :: 110 :: 111 :: 10 :: l) ws = lnG f (n + 1) l ws := by
  have e : hdB 10 (35 :: 32 :: 110 :: 111 :: 10 :: l) = [35, 32, 110, 111] ∧ tlB 10 (35 :: 32 :: 110 :: 111 :: 10 :: l) = l := hdB_app (a := [35, 32, 110, 111]) l (by decide)
  rw [lnG, if_neg (by simp), if_pos (.inr (by unfold lnT; rw [e.1]; decide)), e.2]

/-- What stands ahead of a line, and how many lines it is; what stands behind. -/
def pre5 (q : Nat) : List UInt8 := match q with
  | 1 => [10]
  | 2 => [35, 32, 110, 111, 10]
  | 3 => [32, 32]
  | 4 => [10, 10, 32]
  | _ => []
def pre5n (q : Nat) : Nat := match q with
  | 1 => 1
  | 2 => 1
  | 4 => 2
  | _ => 0
def suf3 (q : Nat) : List UInt8 := match q with
  | 1 => [32]
  | 2 => [32, 32, 32]
  | _ => []
theorem suf3_is (q : Nat) : ∃ b, suf3 q = List.replicate b 32 := by
  unfold suf3
  split
  · exact ⟨1, rfl⟩
  · exact ⟨3, rfl⟩
  · exact ⟨0, rfl⟩
theorem lnG_seg {t : List UInt8} (hp : Plain t) (p q f n : Nat) (l : List UInt8) (ws : List Int) : lnG (f + (1 + pre5n p)) n (pre5 p ++ (t ++ (suf3 q ++ 10 :: l))) ws = match prsA t with
    | none => ([], n + pre5n p)
    | some (k, m) => lnG f (n + 1 + pre5n p) l (ws ++ [encW k m.d m.s m.t m.i]) := by
  obtain ⟨b, hb⟩ := suf3_is q
  rw [hb]
  have h5 : p = 1 ∨ p = 2 ∨ p = 3 ∨ p = 4 ∨ (pre5 p = [] ∧ pre5n p = 0) := by
    match p with
    | 0 => exact .inr (.inr (.inr (.inr ⟨rfl, rfl⟩)))
    | 1 => exact .inl rfl
    | 2 => exact .inr (.inl rfl)
    | 3 => exact .inr (.inr (.inl rfl))
    | 4 => exact .inr (.inr (.inr (.inl rfl)))
    | p + 5 => exact .inr (.inr (.inr (.inr ⟨rfl, rfl⟩)))
  rcases h5 with rfl | rfl | rfl | rfl | ⟨h1, h2⟩
  · have := lnG_pad hp 0 b f (n + 1) l ws
    rw [List.replicate_zero, List.nil_append] at this
    show lnG (f + 1 + 1) n (10 :: _) ws = _
    rw [lnG_empty]; exact this
  · have := lnG_pad hp 0 b f (n + 1) l ws
    rw [List.replicate_zero, List.nil_append] at this
    show lnG (f + 1 + 1) n (35 :: 32 :: 110 :: 111 :: 10 :: _) ws = _
    rw [lnG_note]; exact this
  · exact lnG_pad hp 2 b f n l ws
  · have := lnG_pad hp 1 b f (n + 1 + 1) l ws
    show lnG (f + 1 + 1 + 1) n (10 :: 10 :: 32 :: _) ws = _
    rw [lnG_empty, lnG_empty]; exact this
  · rw [h1, h2]
    have := lnG_pad hp 0 b f n l ws
    rw [List.replicate_zero, List.nil_append] at this
    exact this

/-- What the text so far says: so many lines, the first that is wrong, the words. -/
structure Said (L : List UInt8) (n bad : Nat) (ws : List Int) : Prop where
  fuel : n ≤ L.length
  good : bad = 0 → ∀ f l, lnG (f + n) 1 (L ++ l) [] = lnG f (1 + n) l ws
  wrong : 0 < bad → ∀ f l, lnG (f + n) 1 (L ++ l) [] = ([], bad)
theorem Said.nil : Said [] 0 0 [] := ⟨Nat.le_refl _, fun _ f l => rfl, fun h => absurd h (by omega)⟩
theorem Said.ends {L : List UInt8} {n bad : Nat} {ws : List Int} (h : Said L n bad ws) : (bad = 0 → lns L = (ws, 0)) ∧ (0 < bad → lns L = ([], bad)) := by
  have hf := h.fuel
  have e : lns L = lnG (L.length - n + n) 1 (L ++ []) [] := by unfold lns; rw [List.append_nil, Nat.sub_add_cancel hf]
  refine ⟨fun hb => ?_, fun hb => ?_⟩
  · rw [e, h.good hb, lnG_nil]
  · rw [e, h.wrong hb]
theorem fuel_step {L t : List UInt8} {n p q : Nat} (hf : n ≤ L.length) (ht : 0 < t.length) : n + (1 + pre5n p) ≤ (L ++ (pre5 p ++ (t ++ (suf3 q ++ [10])))).length := by
  have : pre5n p ≤ (pre5 p).length := by unfold pre5 pre5n; split <;> simp
  simp
  omega
theorem Said.step {L t : List UInt8} {n bad : Nat} {ws : List Int} (h : Said L n bad ws) (p q : Nat) {k : Nat} {m : Ns} (hp : Plain t) (hr : prsA t = some (k, m)) :
    Said (L ++ (pre5 p ++ (t ++ (suf3 q ++ [10])))) (n + (1 + pre5n p)) bad (ws ++ [encW k m.d m.s m.t m.i]) := by
  have e : ∀ l, (L ++ (pre5 p ++ (t ++ (suf3 q ++ [10])))) ++ l = L ++ (pre5 p ++ (t ++ (suf3 q ++ 10 :: l))) := fun l => by simp
  refine ⟨fuel_step h.fuel (List.length_pos_iff.2 hp.ne), fun hb f l => ?_, fun hb f l => ?_⟩
  · rw [e, show f + (n + (1 + pre5n p)) = f + (1 + pre5n p) + n by omega, h.good hb, lnG_seg hp, hr]
    show lnG f _ l _ = _
    rw [show 1 + n + 1 + pre5n p = 1 + (n + (1 + pre5n p)) by omega]
  · rw [e, show f + (n + (1 + pre5n p)) = f + (1 + pre5n p) + n by omega, h.wrong hb]
theorem Said.fault {L t : List UInt8} {n : Nat} {ws : List Int} (h : Said L n 0 ws) (p q : Nat) (hp : Plain t) (hr : prsA t = none) (ws' : List Int) :
    Said (L ++ (pre5 p ++ (t ++ (suf3 q ++ [10])))) (n + (1 + pre5n p)) (n + (1 + pre5n p)) ws' := by
  have e : ∀ l, (L ++ (pre5 p ++ (t ++ (suf3 q ++ [10])))) ++ l = L ++ (pre5 p ++ (t ++ (suf3 q ++ 10 :: l))) := fun l => by simp
  refine ⟨fuel_step h.fuel (List.length_pos_iff.2 hp.ne), fun hb => by omega, fun hb f l => ?_⟩
  rw [e, show f + (n + (1 + pre5n p)) = f + (1 + pre5n p) + n by omega, h.good rfl, lnG_seg hp, hr]
  show (([] : List Int), _) = _
  rw [show 1 + n + pre5n p = n + (1 + pre5n p) by omega]

end Go.Proofs.YtcghekkhbiomgaaGreatDoor
