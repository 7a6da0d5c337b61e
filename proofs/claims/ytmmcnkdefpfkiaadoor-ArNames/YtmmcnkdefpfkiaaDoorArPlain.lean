/- Archives in plain lists of bytes: a part's head, its bytes, what stands behind; what a part's name means; an archive read part by part. Nothing is walked here. -/
import Derived.Test.YtmmcnkdefpfkiaaDoorAsmText
import Derived.Test.YtmmcnkdefpfkiaaDoorBts
namespace Go.Proofs.YtmmcnkdefpfkiaaDoor
set_option linter.unusedVariables false
set_option maxRecDepth 100000
set_option linter.unusedSimpArgs false

/-- A member. -/
structure Mb where
  n : T8
  b : T8

def spc (l : T8) : Bool := l.all (fun c => decide (c = 32))
def dgs (l : T8) : T8 := l.takeWhile isD
def dgR (l : T8) : T8 := l.dropWhile isD
def dv (l : T8) : Nat := l.foldl (fun n c => n * 10 + (c.toNat - 48)) 0
/-- Digits, at most so many, then spaces. -/
def digO (lim : Nat) (l : T8) : Option Nat := if spc (dgR l) = true ∧ 0 < (dgs l).length ∧ (dgs l).length ≤ lim then some (dv (dgs l)) else none

/-- What stands ahead of a slash and a LF. -/
def upE : T8 → Option T8
  | [] => none
  | [_] => none
  | a :: b :: r => if a = 47 ∧ b = 10 then some [] else (upE (b :: r)).map (a :: ·)
def badC (c : UInt8) : Bool := decide (c = 0) || decide (c = 47) || decide (c = 10)
def okN (n : T8) : Bool := decide (1 ≤ n.length) && decide (n.length ≤ 200) && !(n.any badC)
def lkO (lg : T8) (o : Nat) : Option T8 := if o < lg.length then upE (lg.drop o) else none
/-- What the field of a name (16 bytes) names. -/
def nmQ (lim : Nat) (lg f : T8) : Option T8 :=
  if hdB 47 f = [] then (digO lim (f.drop 1)).bind (lkO lg)
  else if (47 : UInt8) ∈ f ∧ spc (tlB 47 f) = true then some (hdB 47 f) else none
def nmG (lim : Nat) (lg f : T8) : Option T8 := (nmQ lim lg f).bind (fun n => if okN n = true then some n else none)

structure ArS where
  ms : List Mb
  ix : T8
  lg : T8
  hl : Bool
  bg : Bool
def s0 : ArS := ⟨[], [], [], false, false⟩
def idF (f : T8) : Bool := decide (f.take 1 = [47]) && spc (f.drop 1)
def lgF (f : T8) : Bool := decide (f.take 2 = [47, 47]) && spc (f.drop 2)
def putG (lim : Nat) (s : ArS) (f d : T8) : Option ArS :=
  if idF f = true then (if s.bg = true then none else some { s with ix := d, bg := true })
  else if lgF f = true then (if s.hl = true ∨ 0 < s.ms.length then none else some { s with lg := d, hl := true, bg := true })
  else (nmG lim s.lg f).bind (fun n => if s.ms.length < 100 then some { s with ms := s.ms ++ [⟨n, d⟩], bg := true } else none)

/-- What stands behind a part's n bytes. -/
def bhO (n : Nat) (q : T8) : Option T8 := if n % 2 = 1 ∧ q ≠ [] then (if q.head? = some 10 then some (q.drop 1) else none) else some q
/-- The next part: its name's field, its bytes, what stands behind. -/
def ptG (r : T8) : Option (T8 × T8 × T8) :=
  if 60 ≤ r.length ∧ (r.drop 58).take 2 = [96, 10] then
    (digO 10 ((r.drop 48).take 10)).bind (fun n => if n ≤ r.length - 60 then (bhO n (r.drop (60 + n))).map (fun q => (r.take 16, (r.drop 60).take n, q)) else none)
  else none
def arG (lim : Nat) : Nat → ArS → T8 → Option ArS
  | 0, _, _ => none
  | k + 1, s, r => if r = [] then some s else (ptG r).bind (fun p => (putG lim s p.1 p.2.1).bind (fun t => arG lim k t p.2.2))
def magc : T8 := [33, 60, 97, 114, 99, 104, 62, 10]
def arR (lim : Nat) (b : T8) : Option ArS := if b.length ≤ 1048576 ∧ b.take 8 = magc then arG lim (b.length + 1) s0 (b.drop 8) else none

theorem bhO_len {n : Nat} {q t : T8} (h : bhO n q = some t) : t.length ≤ q.length := by
  unfold bhO at h
  split at h
  · split at h
    · cases h; simp
    · cases h
  · cases h; omega
theorem ptG_len {r : T8} {p : T8 × T8 × T8} (h : ptG r = some p) : p.2.2.length < r.length ∧ p.1.length = 16 ∧ 60 ≤ r.length := by
  unfold ptG at h
  split at h
  · rename_i h0
    cases hd : digO 10 ((r.drop 48).take 10) with
    | none => rw [hd] at h; cases h
    | some n =>
      rw [hd] at h
      simp only [Option.bind_some] at h
      split at h
      · cases hb : bhO n (r.drop (60 + n)) with
        | none => rw [hb] at h; cases h
        | some q =>
          rw [hb] at h
          cases h
          have h1 := bhO_len hb
          simp at h1 ⊢
          omega
      · cases h
  · cases h
theorem arG_fuel (lim : Nat) : ∀ (k m : Nat) (s : ArS) (r : T8), r.length < k → r.length < m → arG lim k s r = arG lim m s r
  | 0, m, s, r, h, _ => by omega
  | k + 1, 0, s, r, _, h => by omega
  | k + 1, m + 1, s, r, h1, h2 => by
    unfold arG
    split
    · rfl
    · cases hp : ptG r with
      | none => rfl
      | some p =>
        have h3 := ptG_len hp
        simp only [Option.bind_some]
        cases putG lim s p.1 p.2.1 with
        | none => rfl
        | some t => exact arG_fuel lim k m t p.2.2 (by omega) (by omega)
/-- Read from a state on. -/
def arF (lim : Nat) (s : ArS) (r : T8) : Option ArS := arG lim (r.length + 1) s r
theorem arF_nil (lim : Nat) (s : ArS) : arF lim s [] = some s := rfl
theorem arF_step (lim : Nat) (s : ArS) (r : T8) (h : r ≠ []) : arF lim s r = (ptG r).bind (fun p => (putG lim s p.1 p.2.1).bind (fun t => arF lim t p.2.2)) := by
  unfold arF
  rw [arG, if_neg h]
  cases hp : ptG r with
  | none => rfl
  | some p =>
    have h3 := ptG_len hp
    simp only [Option.bind_some]
    cases putG lim s p.1 p.2.1 with
    | none => rfl
    | some t => exact arG_fuel lim _ _ t p.2.2 (by omega) (by omega)
theorem arR_eq (lim : Nat) (b : T8) : arR lim b = if b.length ≤ 1048576 ∧ b.take 8 = magc then arF lim s0 (b.drop 8) else none := by
  unfold arR arF
  split
  · exact arG_fuel lim _ _ _ _ (by simp; omega) (by omega)
  · rfl

theorem takeW {p : UInt8 → Bool} : ∀ (l : T8) (c : UInt8), c ∈ l.takeWhile p → p c = true
  | [], c, h => by simp at h
  | a :: l, c, h => by
    rw [List.takeWhile_cons] at h
    split at h
    · rcases List.mem_cons.1 h with rfl | h
      · assumption
      · exact takeW l c h
    · simp at h

/-! Digits, spaces, a text without the spaces behind it. -/
theorem spc_nil : spc [] = true := rfl
theorem spc_rep (n : Nat) : spc (List.replicate n 32) = true := by simp [spc]
theorem spc_iff (l : T8) : spc l = true ↔ l = List.replicate l.length 32 := by
  unfold spc
  rw [List.all_eq_true, List.eq_replicate_iff]
  simp
theorem trim_sum (l : T8) : ∃ k, l = Lib.trimRightB l 32 ++ List.replicate k 32 ∧ (∀ c, (Lib.trimRightB l 32).getLast? = some c → c ≠ 32) := by
  unfold Lib.trimRightB
  refine ⟨(l.reverse.takeWhile (· == 32)).length, ?_, ?_⟩
  · have h1 : l.reverse.takeWhile (· == 32) = List.replicate (l.reverse.takeWhile (· == 32)).length 32 := by
      rw [List.eq_replicate_iff]
      refine ⟨rfl, fun c hc => ?_⟩
      have := takeW _ _ hc
      simpa using this
    have h2 := List.takeWhile_append_dropWhile (p := (· == (32 : UInt8))) (l := l.reverse)
    have h3 := congrArg List.reverse h2
    rw [List.reverse_append, List.reverse_reverse] at h3
    rw [h1] at h3
    rw [List.reverse_replicate] at h3
    exact h3.symm
  · intro c hc
    rw [List.getLast?_reverse] at hc
    have := List.head?_dropWhile_not (· == (32 : UInt8)) l.reverse
    rw [hc] at this
    simpa using this
theorem trim_app (l : T8) (k : Nat) (h : ∀ c, l.getLast? = some c → c ≠ 32) : Lib.trimRightB (l ++ List.replicate k 32) 32 = l := by
  unfold Lib.trimRightB
  rw [List.reverse_append, List.reverse_replicate]
  have h1 : ((List.replicate k (32 : UInt8)) ++ l.reverse).dropWhile (· == 32) = l.reverse := by
    induction k with
    | zero =>
      simp only [List.replicate_zero, List.nil_append]
      cases hl : l.reverse with
      | nil => rfl
      | cons c r =>
        have h2 : l.getLast? = some c := by rw [← List.head?_reverse, hl]; rfl
        have h3 := h c h2
        simp [h3]
    | succ k ih => rw [List.replicate_succ]; simpa using ih
  rw [h1, List.reverse_reverse]
theorem trim_uni {l m : T8} {k : Nat} (h : l = m ++ List.replicate k 32) (hm : ∀ c, m.getLast? = some c → c ≠ 32) : Lib.trimRightB l 32 = m := by rw [h]; exact trim_app m k hm
theorem trim_len (l : T8) : (Lib.trimRightB l 32).length ≤ l.length := by
  obtain ⟨k, h, _⟩ := trim_sum l
  have := congrArg List.length h
  simp at this
  omega

theorem isD_ne {c : UInt8} (h : isD c = true) : c ≠ 32 ∧ c ≠ 47 := by
  unfold isD at h
  simp at h
  constructor <;> rintro rfl <;> simp at h
theorem dgs_isD (l : T8) : ∀ c ∈ dgs l, isD c = true := fun c hc => takeW _ _ hc
theorem dgs_app (l : T8) : l = dgs l ++ dgR l := (List.takeWhile_append_dropWhile).symm
theorem dig_of {d : T8} {k : Nat} (h : ∀ c ∈ d, isD c = true) : dgs (d ++ List.replicate k 32) = d ∧ dgR (d ++ List.replicate k 32) = List.replicate k 32 :=
  takeWhile_app h (fun c hc => by cases k with | zero => simp at hc | succ k => simp [List.replicate_succ] at hc; subst hc; rfl)

theorem pum_dv (M : Nat) (hM : M ≤ 18446744073709551615) : ∀ (l : T8) (acc : Nat), (∀ c ∈ l, isD c = true) → acc * 10 ^ l.length + 10 ^ l.length ≤ M + 1 → l.length ≤ 18 → acc < 1844674407370955162 →
    Lib.parseUintM M acc l = .ok (l.foldl (fun n c => n * 10 + (c.toNat - 48)) acc)
  | [], acc, _, _, _, _ => rfl
  | c :: r, acc, hd, hb, hl, ha => by
    have hc : 48 ≤ c.toNat ∧ c.toNat ≤ 57 := by have := hd c (by simp); unfold isD at this; simpa using this
    unfold Lib.parseUintM
    rw [if_pos hc, if_neg (by omega)]
    have hp : 0 < 10 ^ r.length := Nat.pow_pos (by decide)
    have e1 : (acc * 10 + (c.toNat - 48) + 1) * 10 ^ r.length ≤ acc * 10 ^ (r.length + 1) + 10 ^ (r.length + 1) := by
      have : acc * 10 + (c.toNat - 48) + 1 ≤ (acc + 1) * 10 := by omega
      have h1 : (acc * 10 + (c.toNat - 48) + 1) * 10 ^ r.length ≤ ((acc + 1) * 10) * 10 ^ r.length := Nat.mul_le_mul_right _ this
      have h2 : ((acc + 1) * 10) * 10 ^ r.length = acc * 10 ^ (r.length + 1) + 10 ^ (r.length + 1) := by rw [Nat.pow_succ, Nat.mul_assoc, Nat.mul_comm 10, Nat.add_mul, Nat.one_mul]
      omega
    have hb' : acc * 10 ^ (r.length + 1) + 10 ^ (r.length + 1) ≤ M + 1 := hb
    have e2 : acc * 10 + (c.toNat - 48) + 1 ≤ (acc * 10 + (c.toNat - 48) + 1) * 10 ^ r.length := Nat.le_mul_of_pos_right _ hp
    rw [if_neg (by omega)]
    by_cases hr : r = []
    · subst hr
      rfl
    · have hrl : 1 ≤ r.length := by cases r with | nil => exact absurd rfl hr | cons _ _ => simp
      have h10 : 10 ^ 1 ≤ 10 ^ r.length := Nat.pow_le_pow_right (by decide) hrl
      have e3 : (acc * 10 + (c.toNat - 48) + 1) * 10 ≤ (acc * 10 + (c.toNat - 48) + 1) * 10 ^ r.length := Nat.mul_le_mul_left _ h10
      refine pum_dv M hM r _ (fun x hx => hd x (List.mem_cons_of_mem _ hx)) ?_ (by simp at hl; omega) (by omega)
      have : (acc * 10 + (c.toNat - 48)) * 10 ^ r.length + 10 ^ r.length = (acc * 10 + (c.toNat - 48) + 1) * 10 ^ r.length := by rw [Nat.add_mul _ 1, Nat.one_mul]
      omega
theorem pum_bad (M : Nat) : ∀ (l : T8) (acc v : Nat), Lib.parseUintM M acc l = .ok v → ∀ c ∈ l, isD c = true
  | [], _, _, _ => by simp
  | c :: r, acc, v, h => by
    unfold Lib.parseUintM at h
    split at h
    · rename_i hc
      split at h
      · cases h
      · split at h
        · cases h
        · have ih := pum_bad M r _ v h
          intro x hx
          rcases List.mem_cons.1 hx with rfl | hx
          · simp [isD, hc]
          · exact ih x hx
    · cases h
theorem pu_all {d : T8} (h : ∀ c ∈ d, isD c = true) (h0 : d ≠ []) (h1 : d.length ≤ 18) : Lib.parseUintB 64 d = .ok (dv d) := by
  unfold Lib.parseUintB
  rw [if_neg h0]
  refine pum_dv _ (by decide) d 0 h ?_ h1 (by decide)
  have : 10 ^ d.length ≤ 10 ^ 18 := Nat.pow_le_pow_right (by decide) h1
  have e : (10 : Nat) ^ 18 = 1000000000000000000 := by decide
  have e2 : (2 : Nat) ^ 64 - 1 = 18446744073709551615 := by decide
  omega
theorem pu_digits {d : T8} {v : Nat} (h : Lib.parseUintB 64 d = .ok v) : (∀ c ∈ d, isD c = true) ∧ d ≠ [] := by
  unfold Lib.parseUintB at h
  split at h
  · cases h
  · exact ⟨pum_bad _ _ _ _ h, by assumption⟩
/-- A number of digits, spaces behind: as it is read of the text without them. -/
theorem digO_pu {l : T8} {lim : Nat} (hl : l.length ≤ lim) (h18 : lim ≤ 18) (v : Nat) : digO lim l = some v ↔ Lib.parseUintB 64 (Lib.trimRightB l 32) = .ok v := by
  constructor
  · intro h
    unfold digO at h
    split at h
    · rename_i hc
      cases h
      have h1 := dgs_isD l
      have h2 := (spc_iff _).1 hc.1
      have h3 : l = dgs l ++ List.replicate (dgR l).length 32 := by rw [← h2]; exact dgs_app l
      have h4 : Lib.trimRightB l 32 = dgs l := trim_uni h3 (fun c hc => (isD_ne (h1 c (List.mem_of_getLast? hc))).1)
      rw [h4]
      exact pu_all h1 (by intro e; rw [e] at hc; simp at hc) (by omega)
    · cases h
  · intro h
    obtain ⟨h1, h2⟩ := pu_digits h
    obtain ⟨k, h3, _⟩ := trim_sum l
    have h4 := trim_len l
    have h5 := dig_of (k := k) h1
    rw [← h3] at h5
    have h6 : 0 < (Lib.trimRightB l 32).length := List.length_pos_iff.2 h2
    unfold digO
    rw [h5.1, h5.2, if_pos ⟨spc_rep k, h6, by omega⟩]
    have h7 := pu_all h1 h2 (by omega)
    rw [h] at h7
    cases h7
    rfl
theorem digO_lim {l : T8} (a b : Nat) (ha : l.length ≤ a) (hb : l.length ≤ b) : digO a l = digO b l := by
  have : (dgs l).length ≤ l.length := by have := congrArg List.length (dgs_app l); simp at this; omega
  unfold digO
  by_cases h : spc (dgR l) = true ∧ 0 < (dgs l).length
  · rw [if_pos ⟨h.1, h.2, by omega⟩, if_pos ⟨h.1, h.2, by omega⟩]
  · rw [if_neg (fun x => h ⟨x.1, x.2.1⟩), if_neg (fun x => h ⟨x.1, x.2.1⟩)]

end Go.Proofs.YtmmcnkdefpfkiaaDoor
