/- The lines of a dump are the words that it tells. -/
import Derived.Test.YtcghekkhbiomgaaGreatDoorAsmKnown
namespace Go.Proofs.YtcghekkhbiomgaaGreatDoor
open Go.RowKit
set_option linter.unusedVariables false
set_option maxRecDepth 100000
set_option linter.unusedSimpArgs false

theorem pat_good (op : Int) : pat op = [] ∨ (pat op = (pat op).dropLast ++ [(pat op).getLastD 0] ∧ (pat op).getLastD 0 ≠ 32 ∧ (10 : UInt8) ∉ pat op) := by
  unfold pat
  generalize thr op = b
  rcases fmo_cases op with h | h | h | h | h | h | h <;> rw [h] <;> cases b <;> decide
theorem isN_no {c : UInt8} (h : isN c = true) : c ≠ 32 ∧ c ≠ 10 := by
  refine ⟨fun e => ?_, fun e => ?_⟩ <;> subst e <;> revert h <;> decide
theorem fch_mem {m : Ns} {c d : UInt8} (h : d ∈ fch m c) : d = c ∨ isN d = true := by
  unfold fch at h
  split at h
  · exact .inr (itoa_isN _ _ h)
  · split at h
    · exact .inr (itoa_isN _ _ h)
    · split at h
      · exact .inr (itoa_isN _ _ h)
      · split at h
        · exact .inr (itoa_isN _ _ h)
        · exact .inl (by simpa using h)
theorem fch_ne (m : Ns) (c : UInt8) : fch m c ≠ [] := by
  unfold fch
  split
  · exact itoa_ne _
  · split
    · exact itoa_ne _
    · split
      · exact itoa_ne _
      · split
        · exact itoa_ne _
        · simp
theorem fil_mem {m : Ns} {p : List UInt8} {d : UInt8} (h : d ∈ fil m p) : d ∈ p ∨ isN d = true := by
  unfold fil at h
  obtain ⟨c, hc, hd⟩ := List.mem_flatMap.1 h
  rcases fch_mem hd with e | e
  · exact .inl (by rw [e]; exact hc)
  · exact .inr e
theorem last_app {a b : List UInt8} (hb : b ≠ []) (h : ∀ c ∈ b, c ≠ 32) : ∀ c, (a ++ b)[(a ++ b).length - 1]? = some c → c ≠ 32 := fun c hc => by
  have hl : 0 < b.length := List.length_pos_iff.2 hb
  rw [List.length_append, List.getElem?_append_right (by omega)] at hc
  exact h c (List.mem_of_getElem? hc)
/-- A text that a line may be: no end of line, no blank about it, no comment. -/
structure Plain (l : List UInt8) : Prop where
  lf : (10 : UInt8) ∉ l
  ne : l ≠ []
  head : l.head? ≠ some 35
  first : ∀ b, l[0]? = some b → b ≠ 32
  last : ∀ b, l[l.length - 1]? = some b → b ≠ 32
theorem tx_plain {k : Nat} (hk : 1 ≤ k) (hk' : k < 66) (m : Ns) : Plain (tx k m) := by
  obtain ⟨n32, n10, hn⟩ := names_no k hk'
  obtain ⟨ne, nh, _⟩ := hn hk
  unfold tx
  rw [if_pos (knw_nat hk hk'), nml_nat hk hk']
  generalize namesL.getD k [] = nm at *
  obtain ⟨c, r, rfl⟩ : ∃ c r, nm = c :: r := by
    cases nm with
    | nil => exact absurd rfl ne
    | cons c r => exact ⟨c, r, rfl⟩
  have hc32 : c ≠ 32 := fun e => n32 (by simp [e])
  by_cases hp : pat k = []
  · rw [if_pos hp, List.append_nil]
    refine ⟨n10, ne, nh, fun b hb => by simp at hb; rw [← hb]; exact hc32, ?_⟩
    exact last_app (a := []) ne (fun d hd e => n32 (by rw [← e]; exact hd))
  · rw [if_neg hp]
    obtain ⟨e1, e2, e3⟩ := (pat_good k).resolve_left hp
    refine ⟨fun h => ?_, by simp, by simpa using nh, fun b hb => by simp at hb; rw [← hb]; exact hc32, ?_⟩
    · rcases List.mem_append.1 h with h | h
      · exact n10 h
      · rcases List.mem_cons.1 h with h | h
        · exact absurd h (by decide)
        · rcases fil_mem h with h | h
          · exact e3 h
          · exact (isN_no h).2 rfl
    · rw [e1]
      have e4 : c :: r ++ 32 :: fil m ((pat k).dropLast ++ [(pat k).getLastD 0]) = (c :: r ++ 32 :: fil m (pat k).dropLast) ++ fch m ((pat k).getLastD 0) := by
        simp [fil]
      rw [e4]
      refine last_app (fch_ne _ _) (fun d hd e => ?_)
      rcases fch_mem hd with h | h
      · exact e2 (by rw [← h, e])
      · exact (isN_no h).1 e
theorem trim_plain {l : List UInt8} (h : Plain l) : Lib.trimB l 32 = l := by
  unfold Lib.trimB
  rw [Lib.trimRightB_take l 32 l.length (Nat.le_refl _) (fun j b hj hb => by rw [List.getElem?_eq_none hj] at hb; cases hb) (fun b _ hb => h.last b hb), List.take_length]
  exact Lib.trimLeftB_drop l 32 0 (Nat.zero_le _) (fun j b hj => absurd hj (Nat.not_lt_zero _)) (fun b hb => h.first b hb)

/-- A word that has an instruction other than FENCE. -/
def Good (x : Int) : Prop := 0 ≤ x ∧ x ≤ 4294967295 ∧ ∃ k m, decN x = some (k, m) ∧ k ≠ 63
theorem Good.is {x : Int} (h : Good x) : ∃ (k : Nat) (m : Ns), dtx x = tx k m ∧ Plain (tx k m) ∧ prsA (tx k m) = some (k, m) ∧ encW k m.d m.s m.t m.i = x := by
  obtain ⟨h0, h1, k, m, hd, hk⟩ := h
  obtain ⟨a1, a2, _, _, a5⟩ := decN_some h0 h1 hd
  exact ⟨k, m, by unfold dtx; rw [hd], tx_plain a1 a2 m, decN_prs h0 h1 hd, a5 hk⟩

/-- A word's bytes; words' bytes. -/
def b4 (x : Int) : List Int := [x % 256, x / 256 % 256, x / 65536 % 256, x / 16777216 % 256]
def byt (ws : List Int) : List Int := ws.flatMap b4
theorem byt_snoc (ws : List Int) (x : Int) : byt (ws ++ [x]) = byt ws ++ b4 x := by simp [byt]
theorem byt_len (ws : List Int) : (byt ws).length = 4 * ws.length := by
  induction ws with
  | nil => rfl
  | cons x r ih => simp [byt, b4] at ih ⊢; omega
theorem byt_bd {ws : List Int} : ∀ y ∈ byt ws, 0 ≤ y ∧ y ≤ 255 := fun y hy => by
  obtain ⟨x, _, hx⟩ := List.mem_flatMap.1 hy
  simp [b4] at hx
  omega
theorem wrd_b4 {x : Int} (h0 : 0 ≤ x) (h1 : x ≤ 4294967295) : wrd (x % 256) (x / 256 % 256) (x / 65536 % 256) (x / 16777216 % 256) = x := by unfold wrd; omega
theorem dmp_byt {x : Int} (h0 : 0 ≤ x) (h1 : x ≤ 4294967295) (r : List Int) : dmp (byt (x :: r)) = dtx x ++ 10 :: dmp (byt r) := by
  show dtx (wrd (x % 256) (x / 256 % 256) (x / 65536 % 256) (x / 16777216 % 256)) ++ 10 :: dmp (byt r) = _
  rw [wrd_b4 h0 h1]
theorem dmp_len : ∀ {ws : List Int}, (∀ x ∈ ws, Good x) → (dmp (byt ws)).length ≤ 251 * ws.length
  | [], _ => Nat.zero_le _
  | x :: r, h => by
    have hx := h x (by simp)
    have ih := dmp_len (ws := r) (fun y hy => h y (by simp [hy]))
    have := dtx_len hx.1 hx.2.1
    rw [dmp_byt hx.1 hx.2.1]
    simp
    omega
/-- A line that is read. -/
theorem lnG_line {t : List UInt8} {k : Nat} {m : Ns} (hp : Plain t) (hr : prsA t = some (k, m)) (f n : Nat) (l : List UInt8) (ws : List Int) : lnG (f + 1) n (t ++ 10 :: l) ws = lnG f (n + 1) l (ws ++ [encW k m.d m.s m.t m.i]) := by
  obtain ⟨a1, a2⟩ := hdB_app l hp.lf
  have hT : lnT (t ++ 10 :: l) = t := by unfold lnT; rw [a1, trim_plain hp]
  rw [lnG, if_neg (by simp), hT, if_neg (fun h => h.elim hp.ne hp.head), hr, a2]
theorem lnG_dmp : ∀ {ws : List Int}, (∀ x ∈ ws, Good x) → ∀ (f n : Nat) (acc : List Int), (dmp (byt ws)).length ≤ f → lnG f n (dmp (byt ws)) acc = (acc ++ ws, 0)
  | [], _, f, n, acc, _ => by
    show lnG f n [] acc = _
    rw [lnG_nil, List.append_nil]
  | x :: r, h, f, n, acc, hf => by
    have hx := h x (by simp)
    obtain ⟨k, m, e1, e2, e3, e4⟩ := hx.is
    rw [dmp_byt hx.1 hx.2.1, e1] at hf ⊢
    obtain ⟨f', rfl⟩ : ∃ f', f = f' + 1 := ⟨f - 1, by simp at hf; omega⟩
    rw [lnG_line e2 e3, e4, lnG_dmp (fun y hy => h y (by simp [hy])) f' (n + 1) _ (by simp at hf; omega)]
    simp
theorem lns_dmp {ws : List Int} (h : ∀ x ∈ ws, Good x) : lns (dmp (byt ws)) = (ws, 0) := by
  unfold lns
  rw [lnG_dmp h _ _ _ (Nat.le_refl _), List.nil_append]

end Go.Proofs.YtcghekkhbiomgaaGreatDoor
