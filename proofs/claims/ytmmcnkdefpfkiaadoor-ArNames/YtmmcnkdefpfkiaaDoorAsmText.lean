/- Plain facts on texts: the bytes ahead of a byte and behind it, numerals read by a pattern, numbers found in a text. Nothing is walked here. -/
import Derived.Test.YtmmcnkdefpfkiaaDoorRows
import Derived.Lib.ItoaMem
import Derived.Lib.ItoaLen
import Derived.Lib.ParseIntB
import Derived.Lib.IndexMore
import Derived.Lib.TrimByte
namespace Go.Proofs.YtmmcnkdefpfkiaaDoor
set_option linter.unusedVariables false
set_option maxRecDepth 100000

/-- The bytes ahead of the first c; those behind it. -/
def hdB (c : UInt8) : List UInt8 → List UInt8
  | [] => []
  | b :: l => if b = c then [] else b :: hdB c l
def tlB (c : UInt8) : List UInt8 → List UInt8
  | [] => []
  | b :: l => if b = c then l else tlB c l

theorem cut_nil (c : UInt8) : Lib.cut [] [c] = ([], [], false) := by simp [Lib.cut, Lib.index]
theorem cut_same (c : UInt8) (l : List UInt8) : Lib.cut (c :: l) [c] = ([], l, true) := by simp [Lib.cut, Lib.index]
theorem cut_other {b c : UInt8} (h : b ≠ c) (l : List UInt8) : (Lib.cut (b :: l) [c]).1 = b :: (Lib.cut l [c]).1 ∧ (Lib.cut (b :: l) [c]).2.1 = (Lib.cut l [c]).2.1 := by
  have hp : List.isPrefixOf [c] (b :: l) = false := by simp [List.isPrefixOf]; exact fun e => h e.symm
  have hi : Lib.index (b :: l) [c] = if Lib.index l [c] == -1 then -1 else Lib.index l [c] + 1 := by
    conv => lhs; unfold Lib.index
    rw [hp]; simp
  have hg := Lib.index_ge l [c]
  by_cases hn : Lib.index l [c] = -1
  · simp [Lib.cut, hi, hn]
  · have h0 : 0 ≤ Lib.index l [c] := by omega
    obtain ⟨i, hi'⟩ := Int.eq_ofNat_of_zero_le h0
    have h1 : Lib.index (b :: l) [c] = ((i + 1 : Nat) : Int) := by rw [hi, hi']; simp
    unfold Lib.cut
    rw [if_pos (by rw [h1]; omega), if_pos h0, h1, hi']
    simp
theorem cut1 (c : UInt8) : ∀ l, (Lib.cut l [c]).1 = hdB c l ∧ (Lib.cut l [c]).2.1 = tlB c l
  | [] => by rw [cut_nil]; exact ⟨rfl, rfl⟩
  | b :: l => by
    unfold hdB tlB
    by_cases h : b = c
    · subst h; rw [cut_same, if_pos rfl, if_pos rfl]; exact ⟨rfl, rfl⟩
    · rw [if_neg h, if_neg h, (cut_other h l).1, (cut_other h l).2, (cut1 c l).1, (cut1 c l).2]; exact ⟨rfl, rfl⟩

theorem hdB_app {c : UInt8} : ∀ {a : List UInt8} (r : List UInt8), c ∉ a → hdB c (a ++ c :: r) = a ∧ tlB c (a ++ c :: r) = r
  | [], r, _ => by simp [hdB, tlB]
  | b :: a, r, h => by
    have hb : b ≠ c := fun e => h (by simp [e])
    have := hdB_app r (a := a) (fun e => h (List.mem_cons_of_mem _ e))
    simp [hdB, tlB, hb, this]
theorem hdB_no {c : UInt8} : ∀ {a : List UInt8}, c ∉ a → hdB c a = a ∧ tlB c a = []
  | [], _ => ⟨rfl, rfl⟩
  | b :: a, h => by
    have hb : b ≠ c := fun e => h (by simp [e])
    have := hdB_no (a := a) (fun e => h (List.mem_cons_of_mem _ e))
    simp [hdB, tlB, hb, this]
theorem hdB_sum (c : UInt8) : ∀ l : List UInt8, l = hdB c l ∨ l = hdB c l ++ c :: tlB c l
  | [] => .inl rfl
  | b :: l => by
    unfold hdB tlB
    by_cases h : b = c
    · simp [h]
    · rcases hdB_sum c l with e | e
      · left; simp [h, ← e]
      · right; simp [h, ← e]
theorem hdB_len (c : UInt8) (l : List UInt8) : (hdB c l).length ≤ l.length := by
  induction l with
  | nil => simp [hdB]
  | cons b l ih => unfold hdB; split <;> simp; omega
theorem tlB_len (c : UInt8) (l : List UInt8) : (tlB c l).length ≤ l.length := by
  induction l with
  | nil => simp [tlB]
  | cons b l ih => unfold tlB; split <;> simp; omega
theorem tlB_lt {c : UInt8} {l : List UInt8} (h : l ≠ []) : (tlB c l).length < l.length := by
  cases l with
  | nil => exact absurd rfl h
  | cons b l =>
    unfold tlB
    have := tlB_len c l
    split <;> simp; omega

/-- A numeral's bytes: a digit; a digit or a minus. -/
def isD (c : UInt8) : Bool := decide (48 ≤ c.toNat ∧ c.toNat ≤ 57)
def isN (c : UInt8) : Bool := decide (c.toNat = 45) || isD c

theorem dec_isD : ∀ u c, c ∈ Lib.decDigits u → isD c = true := by
  intro u
  induction u using Nat.strongRecOn with
  | _ u ih =>
    intro c hc
    rw [Lib.decDigits] at hc
    split at hc
    · simp at hc
      subst hc
      simp [isD, UInt8.toNat_ofNat]; omega
    · rw [List.mem_append] at hc
      rcases hc with hc | hc
      · exact ih (u / 10) (by omega) c hc
      · simp at hc
        subst hc
        simp [isD, UInt8.toNat_ofNat]; omega
theorem dec_ne (u : Nat) : Lib.decDigits u ≠ [] := by
  rw [Lib.decDigits]; split <;> simp
theorem itoa_cases (n : Int) : (0 ≤ n ∧ Lib.itoa n = Lib.decDigits n.toNat) ∨ (n < 0 ∧ Lib.itoa n = 45 :: Lib.decDigits n.natAbs) := by
  unfold Lib.itoa
  by_cases h : n < 0
  · right; simp [h]
  · left; simp [h]; omega
theorem itoa_isN (n : Int) : ∀ c ∈ Lib.itoa n, isN c = true := by
  intro c hc
  rcases itoa_cases n with ⟨_, e⟩ | ⟨_, e⟩
  · rw [e] at hc; simp [isN, dec_isD _ _ hc]
  · rw [e] at hc
    rcases List.mem_cons.1 hc with rfl | hc
    · decide
    · simp [isN, dec_isD _ _ hc]
theorem itoa_ne (n : Int) : Lib.itoa n ≠ [] := by
  rcases itoa_cases n with ⟨_, e⟩ | ⟨_, e⟩
  · rw [e]; exact dec_ne _
  · rw [e]; simp

theorem takeWhile_app {p : UInt8 → Bool} {a r : List UInt8} (h : ∀ c ∈ a, p c = true) (hr : ∀ c, r.head? = some c → p c = false) : (a ++ r).takeWhile p = a ∧ (a ++ r).dropWhile p = r := by
  induction a with
  | nil =>
    cases r with
    | nil => simp
    | cons c r => have := hr c rfl; simp [this]
  | cons b a ih =>
    have hb := h b (by simp)
    have := ih (fun c hc => h c (by simp [hc]))
    simp [hb, this]

/-- The numeral of a number is read as it, digit by digit. -/
theorem pu_snoc (M : Nat) : ∀ (l : List UInt8) (acc v : Nat) (c : UInt8), Lib.parseUintM M acc l = .ok v → isD c = true → v < 1844674407370955162 → v * 10 + (c.toNat - 48) ≤ M → Lib.parseUintM M acc (l ++ [c]) = .ok (v * 10 + (c.toNat - 48))
  | [], acc, v, c, h, hc, hv, hM => by
    simp [Lib.parseUintM] at h
    subst h
    have hc' : 48 ≤ c.toNat ∧ c.toNat ≤ 57 := by simpa [isD] using hc
    show Lib.parseUintM M acc [c] = _
    unfold Lib.parseUintM
    rw [if_pos hc', if_neg (by omega), if_neg (by omega)]
    simp [Lib.parseUintM]
  | b :: l, acc, v, c, h, hc, hv, hM => by
    rw [List.cons_append]
    unfold Lib.parseUintM at h ⊢
    split at h
    · rename_i hb
      rw [if_pos hb]
      split at h
      · cases h
      · rename_i h1
        rw [if_neg h1]
        split at h
        · cases h
        · rename_i h2
          rw [if_neg h2]
          exact pu_snoc M l _ v c h hc hv hM
    · cases h
theorem pu_dec (M : Nat) (hM : M ≤ 18446744073709551615) : ∀ u, u ≤ M → Lib.parseUintM M 0 (Lib.decDigits u) = .ok u := by
  intro u
  induction u using Nat.strongRecOn with
  | _ u ih =>
    intro hu
    rw [Lib.decDigits]
    by_cases h : u < 10
    · rw [dif_pos h]
      have e : (UInt8.ofNat (48 + u)).toNat = 48 + u := by simp [UInt8.toNat_ofNat]; omega
      simp only [Lib.parseUintM, e]
      rw [if_pos (by omega), if_neg (by omega), if_neg (by omega)]
      congr 1; omega
    · rw [dif_neg h]
      have e : (UInt8.ofNat (48 + u % 10)).toNat = 48 + u % 10 := by simp [UInt8.toNat_ofNat]; omega
      rw [pu_snoc M _ 0 (u / 10) _ (ih (u / 10) (by omega) (by omega)) (by simp only [isD, e]; simp; omega) (by omega) (by rw [e]; omega), e]
      congr 1; omega

theorem pi_pos {c : UInt8} {r : List UInt8} {u : Nat} (hc : 48 ≤ c.toNat ∧ c.toNat ≤ 57) (h : Lib.parseUintM (2 ^ 64 - 1) 0 (c :: r) = .ok u) (hu : u ≤ 9223372036854775807) : Lib.parseIntB 64 (c :: r) = .ok (u : Int) := by
  have q1 : ¬ (c.toNat = 43 ∨ c.toNat = 45) := by omega
  have q2 : ¬ (c.toNat = 45) := by omega
  have e : Lib.parseUintB 64 (c :: r) = .ok u := by
    unfold Lib.parseUintB; rw [if_neg (by simp)]; exact h
  unfold Lib.parseIntB
  simp only [q2]
  rw [show (if c.toNat = 43 ∨ False then r else c :: r) = c :: r from if_neg (fun h => h.elim (fun h => by omega) id)]
  rw [e]
  simp; omega

theorem parse_itoa {n : Int} (h0 : -9223372036854775808 ≤ n) (h1 : n ≤ 9223372036854775807) : Lib.parseIntB 64 (Lib.itoa n) = .ok n := by
  rcases itoa_cases n with ⟨hn, e⟩ | ⟨hn, e⟩
  · rw [e]
    obtain ⟨u, rfl⟩ := Int.eq_ofNat_of_zero_le hn
    have hpu := pu_dec (2 ^ 64 - 1) (by decide) u (by simp; omega)
    have hne := dec_ne u
    have hd := dec_isD u
    simp only [Int.toNat_natCast]
    cases hl : Lib.decDigits u with
    | nil => exact absurd hl hne
    | cons c r =>
      have hc : 48 ≤ c.toNat ∧ c.toNat ≤ 57 := by have := hd c (by rw [hl]; simp); simpa [isD] using this
      rw [hl] at hpu
      unfold Lib.parseIntB Lib.parseUintB
      exact pi_pos hc hpu (by omega)
  · rw [e]
    have hpu := pu_dec (2 ^ 64 - 1) (by decide) n.natAbs (by simp; omega)
    have hne := dec_ne n.natAbs
    unfold Lib.parseIntB Lib.parseUintB
    simp only [show (45 : UInt8).toNat = 45 by rfl, or_true, if_true, hne, if_false, hpu, not_true, false_and, true_and]
    rw [if_neg (by omega)]
    congr 1; omega

/-- The numbers of a pattern's letters D, S, T, I. -/
structure Ns where
  d : Int
  s : Int
  t : Int
  i : Int
theorem Ns.ext' {a b : Ns} (h1 : a.d = b.d) (h2 : a.s = b.s) (h3 : a.t = b.t) (h4 : a.i = b.i) : a = b := by
  cases a; cases b; simp_all
def isL (c : UInt8) : Bool := decide (c = 68) || decide (c = 83) || decide (c = 84) || decide (c = 73)
def Ns.set (m : Ns) (c : UInt8) (n : Int) : Ns :=
  if c = 68 then { m with d := n } else if c = 83 then { m with s := n } else if c = 84 then { m with t := n } else if c = 73 then { m with i := n } else m
/-- What stands for a pattern's byte; for a pattern. -/
def fch (m : Ns) (c : UInt8) : List UInt8 := if c = 68 then Lib.itoa m.d else if c = 83 then Lib.itoa m.s else if c = 84 then Lib.itoa m.t else if c = 73 then Lib.itoa m.i else [c]
def fil (m : Ns) (p : List UInt8) : List UInt8 := p.flatMap (fch m)

/-- A text read by a pattern. -/
def rdn : List UInt8 → List UInt8 → Ns → Option Ns
  | [], _, m => some m
  | c :: p, l, m =>
    if isL c = true then
      match Lib.parseIntB 64 (l.takeWhile isN) with
      | .ok n => rdn p (l.dropWhile isN) (m.set c n)
      | _ => none
    else match l with
      | [] => none
      | b :: r => if b = c then rdn p r m else none

theorem rdn_lit {c : UInt8} (hc : isL c = false) (p r : List UInt8) (m : Ns) : rdn (c :: p) (c :: r) m = rdn p r m := by simp [rdn, hc]
theorem rdn_num {c : UInt8} (hc : isL c = true) (p r : List UInt8) (m : Ns) {n : Int} (h0 : -9223372036854775808 ≤ n) (h1 : n ≤ 9223372036854775807) (hr : ∀ c, r.head? = some c → isN c = false) :
    rdn (c :: p) (Lib.itoa n ++ r) m = rdn p r (m.set c n) := by
  have := takeWhile_app (itoa_isN n) hr
  simp [rdn, hc, this, parse_itoa h0 h1]
theorem rdn_keep {f : Ns → Int} {x : UInt8} (hf : ∀ m c n, c ≠ x → f (Ns.set m c n) = f m) : ∀ (p l : List UInt8) (m m' : Ns), x ∉ p → rdn p l m = some m' → f m' = f m
  | [], l, m, m', _, h => by simp [rdn] at h; rw [h]
  | c :: p, l, m, m', hx, h => by
    have hc : c ≠ x := fun e => hx (by simp [e])
    have hp : x ∉ p := fun e => hx (by simp [e])
    unfold rdn at h
    split at h
    · split at h
      · rw [rdn_keep hf p _ _ m' hp h, hf _ _ _ hc]
      · cases h
    · split at h
      · cases h
      · split at h
        · exact rdn_keep hf p _ _ m' hp h
        · cases h

/-- The clipped sum of digits; the numbers of a text, in order. -/
def acc : Int → List UInt8 → Int
  | n, [] => n
  | n, c :: r => acc (if n < 1099511627776 then 10 * n + ((c.toNat : Int) - 48) else n) r
def nmsG : Nat → Bool → List UInt8 → List Int
  | 0, _, _ => []
  | f + 1, _, [] => []
  | f + 1, b, c :: r =>
    if isD c = true then
      (if b = true then -(acc 0 ((c :: r).takeWhile isD)) else acc 0 ((c :: r).takeWhile isD)) ::
        (match (c :: r).dropWhile isD with
        | [] => []
        | e :: r' => nmsG f (decide (e = 45)) r')
    else nmsG f (decide (c = 45)) r

theorem acc_app (n : Int) (c : UInt8) : ∀ l, acc n (l ++ [c]) = (if acc n l < 1099511627776 then 10 * acc n l + ((c.toNat : Int) - 48) else acc n l) := by
  intro l
  induction l generalizing n with
  | nil => rfl
  | cons b l ih => rw [List.cons_append]; unfold acc; rw [ih]
theorem acc_dec : ∀ u, u < 1099511627776 → acc 0 (Lib.decDigits u) = u := by
  intro u
  induction u using Nat.strongRecOn with
  | _ u ih =>
    intro hu
    rw [Lib.decDigits]
    by_cases h : u < 10
    · rw [dif_pos h]
      have e : (UInt8.ofNat (48 + u)).toNat = 48 + u := by simp [UInt8.toNat_ofNat]; omega
      simp only [acc, e]
      rw [if_pos (by omega)]; omega
    · rw [dif_neg h]
      have e : (UInt8.ofNat (48 + u % 10)).toNat = 48 + u % 10 := by simp [UInt8.toNat_ofNat]; omega
      rw [acc_app, ih (u / 10) (by omega) (by omega), e, if_pos (by omega)]; omega
/-- A byte that is no digit. -/
theorem nms_lit {f : Nat} {b : Bool} {c : UInt8} (hc : isD c = false) (r : List UInt8) : nmsG (f + 1) b (c :: r) = nmsG f (decide (c = 45)) r := by simp [nmsG, hc]
/-- How many rounds there may be says nothing, once there are enough. -/
theorem nms_fuel : ∀ (f : Nat) (b : Bool) (l : List UInt8), l.length ≤ f → nmsG f b l = nmsG l.length b l
  | 0, b, [], _ => rfl
  | 0, b, c :: r, h => by simp at h
  | f + 1, b, [], _ => rfl
  | f + 1, b, c :: r, h => by
    simp at h
    have hd : (List.dropWhile isD (c :: r)).length ≤ (c :: r).length := (List.dropWhile_sublist _).length_le
    show nmsG (f + 1) b (c :: r) = nmsG (r.length + 1) b (c :: r)
    unfold nmsG
    by_cases hc : isD c = true
    · rw [if_pos hc, if_pos hc]
      congr 1
      have hd2 : (List.dropWhile isD (c :: r)).length ≤ r.length := by
        rw [List.dropWhile_cons_of_pos hc]
        exact (List.dropWhile_sublist _).length_le
      cases hl : List.dropWhile isD (c :: r) with
      | nil => rfl
      | cons e r' =>
        rw [hl] at hd2
        simp at hd2
        show nmsG f _ r' = nmsG r.length _ r'
        rw [nms_fuel f _ r' (by omega), nms_fuel r.length _ r' (by omega)]
    · rw [if_neg hc, if_neg hc, nms_fuel f _ r (by omega)]

/-- The numbers of a text. -/
def nms (b : Bool) (l : List UInt8) : List Int := nmsG l.length b l
theorem nms_nil (b : Bool) : nms b [] = [] := rfl
theorem nms_skip {b : Bool} {c : UInt8} (hc : isD c = false) (r : List UInt8) : nms b (c :: r) = nms (decide (c = 45)) r := nms_lit hc r
theorem nms_run {b : Bool} {u : Nat} (h1 : u < 1099511627776) (r : List UInt8) (hr : ∀ c, r.head? = some c → isD c = false) :
    nms b (Lib.decDigits u ++ r) = (if b = true then -(u : Int) else u) :: (match r with | [] => [] | e :: r' => nms (decide (e = 45)) r') := by
  have ht := takeWhile_app (r := r) (dec_isD u) hr
  cases hl : Lib.decDigits u with
  | nil => exact absurd hl (dec_ne _)
  | cons c l =>
    have hc := dec_isD u c (by rw [hl]; simp)
    rw [hl] at ht
    rw [List.cons_append] at ht ⊢
    rw [show nms b (c :: (l ++ r)) = nmsG ((l ++ r).length + 1) b (c :: (l ++ r)) from rfl, nmsG, if_pos hc, ht.1, ht.2, ← hl, acc_dec _ h1]
    congr 1
    cases r with
    | nil => rfl
    | cons e r' =>
      show nmsG (l ++ e :: r').length (decide (e = 45)) r' = nmsG r'.length (decide (e = 45)) r'
      exact nms_fuel (l ++ e :: r').length _ r' (by rw [List.length_append, List.length_cons]; omega)
theorem nms_num {n : Int} (h0 : -1099511627776 < n) (h1 : n < 1099511627776) (r : List UInt8) (hr : ∀ c, r.head? = some c → isD c = false) :
    nms false (Lib.itoa n ++ r) = n :: (match r with | [] => [] | e :: r' => nms (decide (e = 45)) r') := by
  rcases itoa_cases n with ⟨hn, ee⟩ | ⟨hn, ee⟩
  · rw [ee, nms_run (by omega) r hr]
    simp; omega
  · rw [ee, List.cons_append, nms_skip (by decide), nms_run (by omega) r hr]
    simp; omega

end Go.Proofs.YtmmcnkdefpfkiaaDoor
