/- Plain facts on instructions as text: an operation's pattern, an instruction's text, two ways of reading it that are one. Nothing is walked here. -/
import Derived.Test.YtcghekkhbiomgaaGreatDoorInstKnown
import Derived.Test.YtcghekkhbiomgaaGreatDoorAsmText
namespace Go.Proofs.YtcghekkhbiomgaaGreatDoor
set_option linter.unusedVariables false
set_option maxRecDepth 100000
set_option linter.unusedSimpArgs false

/-- Loads, and the jump by a register. -/
def thr (op : Int) : Bool := decide (op = 4) || (decide (11 ≤ op) && decide (op ≤ 17))
/-- How an operation's operands are written. -/
def patF (f : Int) (b : Bool) : List UInt8 :=
  if f = 0 then [120, 68, 44, 32, 120, 83, 44, 32, 120, 84]
  else if f = 1 then (if b = true then [120, 68, 44, 32, 73, 40, 120, 83, 41] else [120, 68, 44, 32, 120, 83, 44, 32, 73])
  else if f = 2 then [120, 84, 44, 32, 73, 40, 120, 83, 41]
  else if f = 3 then [120, 83, 44, 32, 120, 84, 44, 32, 73]
  else if f = 4 ∨ f = 5 then [120, 68, 44, 32, 73] else []
def pat (op : Int) : List UInt8 := patF (fmo op) (thr op)

theorem fmo_cases (op : Int) : fmo op = 0 ∨ fmo op = 1 ∨ fmo op = 2 ∨ fmo op = 3 ∨ fmo op = 4 ∨ fmo op = 5 ∨ fmo op = 6 := by
  have : 0 ≤ fmo op ∧ fmo op ≤ 6 := by
    unfold fmo; split
    · exact fmc_bd _
    · decide
  omega

/-- An instruction's text. -/
def nml (op : Int) : List UInt8 := if knw op = true then namesL.getD op.toNat [] else []
def tx (op : Int) (m : Ns) : List UInt8 := if knw op = true then nml op ++ (if pat op = [] then [] else 32 :: fil m (pat op)) else [63]

def fnd (l : List UInt8) : Option Nat := (List.range 66).find? fun k => decide (1 ≤ k) && decide (namesL.getD k [] = l)
theorem fnd_some {l : List UInt8} {k : Nat} (h : fnd l = some k) : 1 ≤ k ∧ k < 66 ∧ namesL.getD k [] = l := by
  unfold fnd at h
  have h1 := List.find?_some h
  have h2 := List.mem_of_find?_eq_some h
  simp at h1 h2
  exact ⟨h1.1, h2, by simpa using h1.2⟩
theorem fnd_none {l : List UInt8} (h : fnd l = none) : ∀ k, 1 ≤ k → k < 66 → namesL.getD k [] ≠ l := by
  intro k h1 h2 h3
  unfold fnd at h
  rw [List.find?_eq_none] at h
  have := h k (by simp; exact h2)
  simp [h1] at this
  exact this (by simpa using h3)
theorem names_one : ∀ j, j < 66 → ∀ k, k < 66 → namesL.getD j [] = namesL.getD k [] → j = k := by decide +kernel
theorem names_no : ∀ k, k < 66 → ((32 : UInt8) ∉ namesL.getD k [] ∧ (10 : UInt8) ∉ namesL.getD k [] ∧ (1 ≤ k → namesL.getD k [] ≠ [] ∧ (namesL.getD k []).head? ≠ some 35 ∧ (63 : UInt8) ∉ namesL.getD k [])) := by decide +kernel
theorem fnd_of {k : Nat} (hk : 1 ≤ k) (hk' : k < 66) : fnd (namesL.getD k []) = some k := by
  cases h : fnd (namesL.getD k []) with
  | none => exact absurd rfl (fnd_none h k hk hk')
  | some j =>
    obtain ⟨h1, h2, h3⟩ := fnd_some h
    rw [names_one j h2 k hk' h3]

/-- What an operation's text doesn't tell is 0. -/
def Can (op : Int) (m : Ns) : Prop := (hasD (fmo op) = false → m.d = 0) ∧ (has1 (fmo op) = false → m.s = 0) ∧ (has2 (fmo op) = false → m.t = 0) ∧ (fmo op = 0 ∨ fmo op = 6 → m.i = 0)
def okN (op : Int) (m : Ns) : Bool := encOk op m.d m.s m.t m.i

theorem ok_bds {op : Int} {m : Ns} (h : okN op m = true) (hc : Can op m) : (0 ≤ m.d ∧ m.d < 32) ∧ (0 ≤ m.s ∧ m.s < 32) ∧ (0 ≤ m.t ∧ m.t < 32) ∧ (-1048576 ≤ m.i ∧ m.i ≤ 1048575) := by
  obtain ⟨c1, c2, c3, c4⟩ := hc
  unfold okN encOk at h
  simp only [Bool.and_eq_true, Bool.or_eq_true, decide_eq_true_eq] at h
  obtain ⟨_, h⟩ := h
  by_cases h6 : fmo op = 6
  · rw [h6] at c1 c2 c3
    have e1 := c1 (by decide)
    have e2 := c2 (by decide)
    have e3 := c3 (by decide)
    have e4 := c4 (.inr h6)
    omega
  · rcases h with h | ⟨hi, hr⟩
    · exact absurd h h6
    · have hi' : -1048576 ≤ m.i ∧ m.i ≤ 1048575 := by
        unfold imOk at hi
        split at hi
        · simp at hi; omega
        · split at hi
          · simp at hi; omega
          · unfold fitsOf at hi
            repeat' (split at hi)
            all_goals (simp at hi; omega)
      unfold rgOk isr at hr
      simp only [Bool.and_eq_true, Bool.or_eq_true, Bool.not_eq_true', decide_eq_true_eq] at hr
      obtain ⟨⟨r1, r2⟩, r3⟩ := hr
      refine ⟨?_, ?_, ?_, hi'⟩
      · rcases r1 with r | r
        · have := c1 r; omega
        · exact r
      · rcases r2 with r | r
        · have := c2 r; omega
        · exact r
      · rcases r3 with r | r
        · have := c3 r; omega
        · exact r
theorem ok_knw {op : Int} {m : Ns} (h : okN op m = true) : knw op = true := by
  unfold okN encOk at h
  simp only [Bool.and_eq_true] at h
  exact h.1

/-- A text read by its operation's pattern. -/
def prsA (l : List UInt8) : Option (Nat × Ns) :=
  match fnd (hdB 32 l) with
  | none => none
  | some k =>
    match rdn (pat k) (tlB 32 l) ⟨0, 0, 0, 0⟩ with
    | none => none
    | some m => if okN k m = true ∧ tx k m = l then some (k, m) else none

/-- By its numbers, in order. -/
def asg (op : Int) (n : List Int) : Ns :=
  if fmo op = 0 then ⟨n.getD 0 0, n.getD 1 0, n.getD 2 0, 0⟩
  else if fmo op = 1 then (if thr op = true then ⟨n.getD 0 0, n.getD 2 0, 0, n.getD 1 0⟩ else ⟨n.getD 0 0, n.getD 1 0, 0, n.getD 2 0⟩)
  else if fmo op = 2 then ⟨0, n.getD 2 0, n.getD 0 0, n.getD 1 0⟩
  else if fmo op = 3 then ⟨0, n.getD 0 0, n.getD 1 0, n.getD 2 0⟩
  else if fmo op = 4 ∨ fmo op = 5 then ⟨n.getD 0 0, 0, 0, n.getD 1 0⟩ else ⟨0, 0, 0, 0⟩
def prsR (l : List UInt8) : Option (Nat × Ns) :=
  match fnd (hdB 32 l) with
  | none => none
  | some k => if okN k (asg k (nms false (tlB 32 l))) = true ∧ tx k (asg k (nms false (tlB 32 l))) = l then some (k, asg k (nms false (tlB 32 l))) else none

theorem asg_can (op : Int) (n : List Int) : Can op (asg op n) := by
  unfold Can asg
  rcases fmo_cases op with h | h | h | h | h | h | h
  all_goals (rw [h]; simp [hasD, has1, has2])
  split <;> simp
theorem rdn_can {op : Int} {l : List UInt8} {m : Ns} (h : rdn (pat op) l ⟨0, 0, 0, 0⟩ = some m) : Can op m := by
  have kd := fun hx => rdn_keep (f := Ns.d) (x := 68) (fun m c n hc => by unfold Ns.set; rw [if_neg (fun e => hc e)]; (repeat' split) <;> rfl) _ _ _ _ hx h
  have ks := fun hx => rdn_keep (f := Ns.s) (x := 83) (fun m c n hc => by unfold Ns.set; (repeat' split) <;> first | rfl | contradiction) _ _ _ _ hx h
  have kt := fun hx => rdn_keep (f := Ns.t) (x := 84) (fun m c n hc => by unfold Ns.set; (repeat' split) <;> first | rfl | contradiction) _ _ _ _ hx h
  have ki := fun hx => rdn_keep (f := Ns.i) (x := 73) (fun m c n hc => by unfold Ns.set; (repeat' split) <;> first | rfl | contradiction) _ _ _ _ hx h
  unfold pat at kd ks kt ki
  unfold Can
  rcases fmo_cases op with hf | hf | hf | hf | hf | hf | hf
  all_goals
    rw [hf] at kd ks kt ki ⊢
    generalize thr op = b at kd ks kt ki
    refine ⟨fun hh => ?_, fun hh => ?_, fun hh => ?_, fun hh => ?_⟩
    · first | (refine absurd hh ?_; decide) | (refine kd ?_; cases b <;> decide)
    · first | (refine absurd hh ?_; decide) | (refine ks ?_; cases b <;> decide)
    · first | (refine absurd hh ?_; decide) | (refine kt ?_; cases b <;> decide)
    · first | (refine absurd hh ?_; decide) | (refine ki ?_; cases b <;> decide)

theorem prsA_some {l : List UInt8} {k : Nat} {m : Ns} (h : prsA l = some (k, m)) : 1 ≤ k ∧ k < 66 ∧ Can k m ∧ okN k m = true ∧ tx k m = l := by
  unfold prsA at h
  split at h
  · cases h
  · rename_i j hj
    split at h
    · cases h
    · rename_i m' hm
      split at h
      · rename_i hh
        obtain ⟨rfl, rfl⟩ : j = k ∧ m' = m := by simpa using h
        obtain ⟨h1, h2, _⟩ := fnd_some hj
        exact ⟨h1, h2, rdn_can hm, hh.1, hh.2⟩
      · cases h
theorem prsR_some {l : List UInt8} {k : Nat} {m : Ns} (h : prsR l = some (k, m)) : 1 ≤ k ∧ k < 66 ∧ Can k m ∧ okN k m = true ∧ tx k m = l := by
  unfold prsR at h
  split at h
  · cases h
  · rename_i j hj
    split at h
    · rename_i hh
      obtain ⟨rfl, rfl⟩ : j = k ∧ asg j (nms false (tlB 32 l)) = m := by simpa using h
      obtain ⟨h1, h2, _⟩ := fnd_some hj
      exact ⟨h1, h2, asg_can _ _, hh.1, hh.2⟩
    · cases h

theorem knw_nat {k : Nat} (hk : 1 ≤ k) (hk' : k < 66) : knw k = true := by unfold knw; simp; omega
theorem nml_nat {k : Nat} (hk : 1 ≤ k) (hk' : k < 66) : nml k = namesL.getD k [] := by unfold nml; rw [if_pos (knw_nat hk hk')]; rfl
theorem tx_cut {k : Nat} (hk : 1 ≤ k) (hk' : k < 66) (m : Ns) : hdB 32 (tx k m) = namesL.getD k [] ∧ tlB 32 (tx k m) = fil m (pat k) := by
  have hn := (names_no k hk').1
  unfold tx
  rw [if_pos (knw_nat hk hk'), nml_nat hk hk']
  by_cases hp : pat k = []
  · rw [if_pos hp, hp, List.append_nil]
    exact ⟨(hdB_no hn).1, by rw [(hdB_no hn).2]; rfl⟩
  · rw [if_neg hp]
    exact hdB_app _ hn

theorem i64_of {x : Int} (h : -1048576 ≤ x ∧ x ≤ 1048575) : -9223372036854775808 ≤ x ∧ x ≤ 9223372036854775807 := by omega
theorem fil_nil (m : Ns) : fil m [] = [] := rfl
theorem fil_c (m : Ns) {c : UInt8} (hc : isL c = false) (p : List UInt8) : fil m (c :: p) = c :: fil m p := by
  simp [isL] at hc
  simp [fil, fch, hc]
theorem fil_d (m : Ns) (p : List UInt8) : fil m (68 :: p) = Lib.itoa m.d ++ fil m p := by simp [fil, fch]
theorem fil_s (m : Ns) (p : List UInt8) : fil m (83 :: p) = Lib.itoa m.s ++ fil m p := by simp [fil, fch]
theorem fil_t (m : Ns) (p : List UInt8) : fil m (84 :: p) = Lib.itoa m.t ++ fil m p := by simp [fil, fch]
theorem fil_i (m : Ns) (p : List UInt8) : fil m (73 :: p) = Lib.itoa m.i ++ fil m p := by simp [fil, fch]
theorem fil_R {b : Bool} (m : Ns) : fil m (patF 0 b) = 120 :: (Lib.itoa m.d ++ 44 :: 32 :: 120 :: (Lib.itoa m.s ++ 44 :: 32 :: 120 :: (Lib.itoa m.t ++ []))) := by simp [patF, fil, fch]
theorem fil_L (m : Ns) : fil m (patF 1 true) = 120 :: (Lib.itoa m.d ++ 44 :: 32 :: (Lib.itoa m.i ++ 40 :: 120 :: (Lib.itoa m.s ++ [41]))) := by simp [patF, fil, fch]
theorem fil_I (m : Ns) : fil m (patF 1 false) = 120 :: (Lib.itoa m.d ++ 44 :: 32 :: 120 :: (Lib.itoa m.s ++ 44 :: 32 :: (Lib.itoa m.i ++ []))) := by simp [patF, fil, fch]
theorem fil_S {b : Bool} (m : Ns) : fil m (patF 2 b) = 120 :: (Lib.itoa m.t ++ 44 :: 32 :: (Lib.itoa m.i ++ 40 :: 120 :: (Lib.itoa m.s ++ [41]))) := by simp [patF, fil, fch]
theorem fil_B {b : Bool} (m : Ns) : fil m (patF 3 b) = 120 :: (Lib.itoa m.s ++ 44 :: 32 :: 120 :: (Lib.itoa m.t ++ 44 :: 32 :: (Lib.itoa m.i ++ []))) := by simp [patF, fil, fch]
theorem fil_U {b : Bool} (m : Ns) {f : Int} (hf : f = 4 ∨ f = 5) : fil m (patF f b) = 120 :: (Lib.itoa m.d ++ 44 :: 32 :: (Lib.itoa m.i ++ [])) := by rcases hf with rfl | rfl <;> simp [patF, fil, fch]

theorem head_no {p : UInt8 → Bool} {e : UInt8} {r : List UInt8} (h : p e = false) : ∀ c, (e :: r).head? = some c → p c = false := fun c hc => by
  simp at hc; rw [← hc]; exact h
theorem head_nil {p : UInt8 → Bool} : ∀ c, ([] : List UInt8).head? = some c → p c = false := fun c hc => by cases hc

theorem rdn_fil {op : Int} {m : Ns} (h : okN op m = true) (hc : Can op m) : rdn (pat op) (fil m (pat op)) ⟨0, 0, 0, 0⟩ = some m := by
  obtain ⟨⟨a0, a1⟩, ⟨b0, b1⟩, ⟨c0, c1⟩, ⟨d0, d1⟩⟩ := ok_bds h hc
  obtain ⟨k1, k2, k3, k4⟩ := hc
  unfold pat
  rcases fmo_cases op with hf | hf | hf | hf | hf | hf | hf
  all_goals rw [hf] at k1 k2 k3 k4 ⊢
  · rw [fil_R]
    simp only [patF, if_true]
    rw [rdn_lit (by decide), rdn_num (by decide) _ _ _ (by omega) (by omega) (head_no (by decide)), rdn_lit (by decide), rdn_lit (by decide), rdn_lit (by decide), rdn_num (by decide) _ _ _ (by omega) (by omega) (head_no (by decide)), rdn_lit (by decide), rdn_lit (by decide), rdn_lit (by decide), rdn_num (by decide) _ _ _ (by omega) (by omega) head_nil]
    have := k4 (.inl rfl)
    simp only [rdn, Option.some.injEq]
    exact Ns.ext' rfl rfl rfl this.symm
  · by_cases ht : thr op = true
    · rw [ht, fil_L]
      simp only [patF, if_true, show ¬ ((1 : Int) = 0) by decide, if_false]
      rw [rdn_lit (by decide), rdn_num (by decide) _ _ _ (by omega) (by omega) (head_no (by decide)), rdn_lit (by decide), rdn_lit (by decide), rdn_num (by decide) _ _ _ (by omega) (by omega) (head_no (by decide)), rdn_lit (by decide), rdn_lit (by decide), rdn_num (by decide) _ _ _ (by omega) (by omega) (head_no (by decide)), rdn_lit (by decide)]
      have := k3 (by decide)
      simp only [rdn, Option.some.injEq]
      exact Ns.ext' rfl rfl this.symm rfl
    · rw [show thr op = false by simpa using ht, fil_I]
      simp only [patF, if_true, show ¬ ((1 : Int) = 0) by decide, if_false, Bool.false_eq_true]
      rw [rdn_lit (by decide), rdn_num (by decide) _ _ _ (by omega) (by omega) (head_no (by decide)), rdn_lit (by decide), rdn_lit (by decide), rdn_lit (by decide), rdn_num (by decide) _ _ _ (by omega) (by omega) (head_no (by decide)), rdn_lit (by decide), rdn_lit (by decide), rdn_num (by decide) _ _ _ (by omega) (by omega) head_nil]
      have := k3 (by decide)
      simp only [rdn, Option.some.injEq]
      exact Ns.ext' rfl rfl this.symm rfl
  · rw [fil_S]
    simp only [patF, if_true, show ¬ ((2 : Int) = 0) by decide, show ¬ ((2 : Int) = 1) by decide, if_false]
    rw [rdn_lit (by decide), rdn_num (by decide) _ _ _ (by omega) (by omega) (head_no (by decide)), rdn_lit (by decide), rdn_lit (by decide), rdn_num (by decide) _ _ _ (by omega) (by omega) (head_no (by decide)), rdn_lit (by decide), rdn_lit (by decide), rdn_num (by decide) _ _ _ (by omega) (by omega) (head_no (by decide)), rdn_lit (by decide)]
    have := k1 (by decide)
    simp only [rdn, Option.some.injEq]
    exact Ns.ext' this.symm rfl rfl rfl
  · rw [fil_B]
    simp only [patF, if_true, show ¬ ((3 : Int) = 0) by decide, show ¬ ((3 : Int) = 1) by decide, show ¬ ((3 : Int) = 2) by decide, if_false]
    rw [rdn_lit (by decide), rdn_num (by decide) _ _ _ (by omega) (by omega) (head_no (by decide)), rdn_lit (by decide), rdn_lit (by decide), rdn_lit (by decide), rdn_num (by decide) _ _ _ (by omega) (by omega) (head_no (by decide)), rdn_lit (by decide), rdn_lit (by decide), rdn_num (by decide) _ _ _ (by omega) (by omega) head_nil]
    have := k1 (by decide)
    simp only [rdn, Option.some.injEq]
    exact Ns.ext' this.symm rfl rfl rfl
  · rw [fil_U m (.inl rfl)]
    simp only [patF, show ¬ ((4 : Int) = 0) by decide, show ¬ ((4 : Int) = 1) by decide, show ¬ ((4 : Int) = 2) by decide, show ¬ ((4 : Int) = 3) by decide, if_false, true_or, if_true]
    rw [rdn_lit (by decide), rdn_num (by decide) _ _ _ (by omega) (by omega) (head_no (by decide)), rdn_lit (by decide), rdn_lit (by decide), rdn_num (by decide) _ _ _ (by omega) (by omega) head_nil]
    have := k2 (by decide)
    have := k3 (by decide)
    simp only [rdn, Option.some.injEq]
    exact Ns.ext' rfl (by simp_all [Ns.set]) (by simp_all [Ns.set]) rfl
  · rw [fil_U m (.inr rfl)]
    simp only [patF, show ¬ ((5 : Int) = 0) by decide, show ¬ ((5 : Int) = 1) by decide, show ¬ ((5 : Int) = 2) by decide, show ¬ ((5 : Int) = 3) by decide, show ¬ ((5 : Int) = 4) by decide, if_false, or_true, if_true]
    rw [rdn_lit (by decide), rdn_num (by decide) _ _ _ (by omega) (by omega) (head_no (by decide)), rdn_lit (by decide), rdn_lit (by decide), rdn_num (by decide) _ _ _ (by omega) (by omega) head_nil]
    have := k2 (by decide)
    have := k3 (by decide)
    simp only [rdn, Option.some.injEq]
    exact Ns.ext' rfl (by simp_all [Ns.set]) (by simp_all [Ns.set]) rfl
  · have e1 := k1 (by decide)
    have e2 := k2 (by decide)
    have e3 := k3 (by decide)
    have e4 := k4 (.inr rfl)
    simp [patF, rdn]
    exact Ns.ext' e1.symm e2.symm e3.symm e4.symm

theorem nms_fil {op : Int} {m : Ns} (h : okN op m = true) (hc : Can op m) : asg op (nms false (fil m (pat op))) = m := by
  obtain ⟨⟨a0, a1⟩, ⟨b0, b1⟩, ⟨c0, c1⟩, ⟨d0, d1⟩⟩ := ok_bds h hc
  obtain ⟨k1, k2, k3, k4⟩ := hc
  unfold pat asg
  have n44 : decide ((44 : UInt8) = 45) = false := by decide
  have n32 : decide ((32 : UInt8) = 45) = false := by decide
  have n40 : decide ((40 : UInt8) = 45) = false := by decide
  have n120 : decide ((120 : UInt8) = 45) = false := by decide
  rcases fmo_cases op with hf | hf | hf | hf | hf | hf | hf
  all_goals rw [hf] at k1 k2 k3 k4 ⊢
  · rw [fil_R, nms_skip (by decide), n120, nms_num (by omega) (by omega) _ (head_no (by decide))]
    simp only [n44]
    rw [nms_skip (by decide), n32, nms_skip (by decide), n120, nms_num (by omega) (by omega) _ (head_no (by decide))]
    simp only [n44]
    rw [nms_skip (by decide), n32, nms_skip (by decide), n120, nms_num (by omega) (by omega) _ head_nil]
    exact Ns.ext' rfl rfl rfl (k4 (.inl rfl)).symm
  · by_cases ht : thr op = true
    · rw [ht, fil_L, nms_skip (by decide), n120, nms_num (by omega) (by omega) _ (head_no (by decide))]
      simp only [n44]
      rw [nms_skip (by decide), n32, nms_num (by omega) (by omega) _ (head_no (by decide))]
      simp only [n40]
      rw [nms_skip (by decide), n120, nms_num (by omega) (by omega) _ (head_no (by decide))]
      exact Ns.ext' rfl rfl (k3 (by decide)).symm rfl
    · rw [show thr op = false by simpa using ht, fil_I, nms_skip (by decide), n120, nms_num (by omega) (by omega) _ (head_no (by decide))]
      simp only [n44]
      rw [nms_skip (by decide), n32, nms_skip (by decide), n120, nms_num (by omega) (by omega) _ (head_no (by decide))]
      simp only [n44]
      rw [nms_skip (by decide), n32, nms_num (by omega) (by omega) _ head_nil]
      exact Ns.ext' rfl rfl (k3 (by decide)).symm rfl
  · rw [fil_S, nms_skip (by decide), n120, nms_num (by omega) (by omega) _ (head_no (by decide))]
    simp only [n44]
    rw [nms_skip (by decide), n32, nms_num (by omega) (by omega) _ (head_no (by decide))]
    simp only [n40]
    rw [nms_skip (by decide), n120, nms_num (by omega) (by omega) _ (head_no (by decide))]
    exact Ns.ext' (k1 (by decide)).symm rfl rfl rfl
  · rw [fil_B, nms_skip (by decide), n120, nms_num (by omega) (by omega) _ (head_no (by decide))]
    simp only [n44]
    rw [nms_skip (by decide), n32, nms_skip (by decide), n120, nms_num (by omega) (by omega) _ (head_no (by decide))]
    simp only [n44]
    rw [nms_skip (by decide), n32, nms_num (by omega) (by omega) _ head_nil]
    exact Ns.ext' (k1 (by decide)).symm rfl rfl rfl
  · rw [fil_U m (.inl rfl), nms_skip (by decide), n120, nms_num (by omega) (by omega) _ (head_no (by decide))]
    simp only [n44]
    rw [nms_skip (by decide), n32, nms_num (by omega) (by omega) _ head_nil]
    exact Ns.ext' rfl (k2 (by decide)).symm (k3 (by decide)).symm rfl
  · rw [fil_U m (.inr rfl), nms_skip (by decide), n120, nms_num (by omega) (by omega) _ (head_no (by decide))]
    simp only [n44]
    rw [nms_skip (by decide), n32, nms_num (by omega) (by omega) _ head_nil]
    exact Ns.ext' rfl (k2 (by decide)).symm (k3 (by decide)).symm rfl
  · exact Ns.ext' (k1 (by decide)).symm (k2 (by decide)).symm (k3 (by decide)).symm (k4 (.inr rfl)).symm

/-- What has a word is read by its text, by either way. -/
theorem prsA_of {k : Nat} {m : Ns} (hk : 1 ≤ k) (hk' : k < 66) (hc : Can k m) (h : okN k m = true) : prsA (tx k m) = some (k, m) := by
  have ⟨e1, e2⟩ := tx_cut hk hk' m
  unfold prsA
  rw [e1, e2, fnd_of hk hk']
  simp only [rdn_fil h hc]
  rw [if_pos ⟨h, trivial⟩]
theorem prsR_of {k : Nat} {m : Ns} (hk : 1 ≤ k) (hk' : k < 66) (hc : Can k m) (h : okN k m = true) : prsR (tx k m) = some (k, m) := by
  have ⟨e1, e2⟩ := tx_cut hk hk' m
  unfold prsR
  rw [e1, e2, fnd_of hk hk']
  simp only [nms_fil h hc]
  rw [if_pos ⟨h, trivial⟩]
theorem prs_eq (l : List UInt8) : prsR l = prsA l := by
  cases h : prsA l with
  | some x =>
    obtain ⟨k, m⟩ := x
    obtain ⟨h1, h2, h3, h4, rfl⟩ := prsA_some h
    exact prsR_of h1 h2 h3 h4
  | none =>
    cases h' : prsR l with
    | none => rfl
    | some x =>
      obtain ⟨k, m⟩ := x
      obtain ⟨h1, h2, h3, h4, rfl⟩ := prsR_some h'
      rw [prsA_of h1 h2 h3 h4] at h
      cases h

end Go.Proofs.YtcghekkhbiomgaaGreatDoor
