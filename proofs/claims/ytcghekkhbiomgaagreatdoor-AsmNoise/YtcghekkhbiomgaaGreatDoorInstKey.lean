/- Contracts of package inst's keys, of the search by a name, of the operation that a word has. -/
import Derived.Test.YtcghekkhbiomgaaGreatDoorInst
import Derived.Maps.OwnSet
import Derived.DeepKeys4
import Derived.Deep.QuietTactic
import Derived.BigQuiet
namespace Go.Proofs.YtcghekkhbiomgaaGreatDoor
open Go.RowKit
set_option linter.unusedVariables false
set_option maxRecDepth 100000

theorem key_ret {a b c a' b' c' : Int} {w w' : World} (h : a = a' ∧ b = b' ∧ c = c') (hb : Below w.heap.size w w') :
    Ending.returned (Value.agg #[.int .u32 a, .int .u32 b, .int .u32 c]) = .returned (.agg #[.int .u32 a', .int .u32 b', .int .u32 c']) ∧ Below w.heap.size w w' := by
  obtain ⟨rfl, rfl, rfl⟩ := h
  exact ⟨rfl, hb⟩

theorem key_any (x : Int) (w : World) (h0 : 0 ≤ x) (h1 : x ≤ 4294967295) :
    Calls Tryz.prog 80 #[.int .u32 x] w fun e w' => e = .returned (.agg #[.int .u32 (cd x), .int .u32 (ke2 x), .int .u32 (ke3 x)]) ∧ Below w.heap.size w w' := by
  have HF : Hid (∀ w, Calls Tryz.prog 64 #[.int .u32 x, .int .u64 12, .int .u64 3] w fun e w' => e = .returned (.int .u32 (f3 x)) ∧ w' = w) := hide (fun w => ifield_any x 12 3 w h0 h1 (by decide) (by decide))
  have HC := hide (fun w => code_any x w h0 h1)
  have HU := hide (fun w => upper_any x w h0 h1)
  have b1 := cd_bd x
  have b2 := f3_bd x
  have b3 := upp_bd h0 h1
  have HY := hide (show ke2 x = if cd x = 55 ∨ cd x = 23 ∨ cd x = 111 ∨ cd x = 115 then 0 else f3 x from rfl)
  have HZ := hide (show ke3 x = if cd x = 55 ∨ cd x = 23 ∨ cd x = 111 then 0 else if cd x = 115 then x / 128 else upp x from rfl)
  generalize ke2 x = y at *
  generalize ke3 x = z at *
  generalize cd x = c at *
  generalize f3 x = f at *
  generalize upp x = u at *
  go_enter Tryz.func80, Tryz.ntmps80
  go_wp2_with fail
  refine (HC.out _).mono ?_
  rintro e W ⟨rfl, hW⟩
  rw [hW]
  clear hW W HC
  go_wp2_with fail
  all_goals try (refine (HF.out _).mono ?_; rintro e W ⟨rfl, hW⟩; rw [hW]; clear hW W HF; go_wp2_with fail; refine (HU.out _).mono ?_; rintro e W ⟨rfl, hW⟩; rw [hW]; clear hW W HU; go_wp2)
  all_goals go_returns
  all_goals go_light
  all_goals refine key_ret ⟨by simp_all, by rw [HY.out]; simp_all, by rw [HZ.out]; simp_all⟩ ?_
  all_goals go_grown

theorem str_eq (a b : ByteArray) : (a.toList == b.toList) = decide (a = b) := by
  rw [ByteArray.toList_eq, ByteArray.toList_eq, Bool.eq_iff_iff]
  simp only [beq_iff_eq, decide_eq_true_eq]
  constructor
  · intro h; exact ByteArray.ext (Array.toList_inj.1 h)
  · rintro rfl; rfl
theorem str_yes {a b : ByteArray} (h : a = b) : (a.toList == b.toList) = true := by rw [str_eq]; simp [h]
theorem str_no {a b : ByteArray} (h : a ≠ b) : (a.toList == b.toList) = false := by rw [str_eq]; simp [h]

/-- What a search by a name tells. -/
def FindIs (s : ByteArray) (e : Ending) : Prop :=
  (∃ k : Nat, 1 ≤ k ∧ k < 66 ∧ nm k = s ∧ e = .returned (.tuple #[.int .i64 k, .bool true])) ∨ ((∀ k : Nat, 1 ≤ k → k < 66 → nm k ≠ s) ∧ e = .returned (.tuple #[.int .i64 0, .bool false]))

theorem find_any (s : ByteArray) (w : World) (h : Laid w) :
    Calls Tryz.prog 30 #[.string s] w fun e w' => FindIs s e ∧ w' = w := by
  have HN := hide h.2.2
  clear h
  go_enter Tryz.func30, Tryz.ntmps30
  go_wp2
  go_loop [4] (fun i => ∃ k : Nat, 1 ≤ k ∧ k ≤ 66 ∧ i = .int .i64 k ∧ ∀ j : Nat, 1 ≤ j → j < k → nm j ≠ s) (fun i => 66 - (intOf i).toNat)
  case atStart => exact ⟨1, by decide, by decide, rfl, fun j h1 h2 => by omega⟩
  case round =>
    obtain ⟨k, hk1, hk, rfl, hno⟩ := hrel
    have HO := hide hno
    clear hno
    by_cases hlt : k < 66
    · have hcell := HN.out k hlt
      obtain ⟨t, ht⟩ : ∃ t, t = nm k := ⟨_, rfl⟩
      rw [← ht] at hcell
      have HT := hide ht
      clear ht HN
      have hlt' : (k : Int) < 66 := by omega
      by_cases he : t = s
      · have he' := str_yes he
        have HE := hide he
        clear he
        go_wp2
        go_ret2
        exact ⟨Or.inl ⟨k, hk1, hlt, by rw [← HT.out, HE.out], rfl⟩, rfl⟩
      · have he' := str_no he
        have HE := hide he
        clear he
        go_wp2
        go_round
        case rel => exact ⟨k + 1, by omega, by omega, by go_num, fun j h1 h2 => by
          rcases Nat.lt_or_ge j k with h3 | h3
          · exact HO.out j h1 h3
          · obtain rfl : j = k := by omega
            rw [← HT.out]; exact HE.out⟩
        case measure => simp [intOf]; omega
    · have : k = 66 := by omega
      subst this
      clear HN
      go_wp2
      go_ret2
      exact ⟨Or.inr ⟨fun j h1 h2 => HO.out j h1 h2, rfl⟩, rfl⟩

theorem laidOut : laidOutB Tryz.prog = true := by kernel_rfl
theorem rowKey : (105 : TypeId) < Tryz.prog.types.size := of_decide_eq_true (by kernel_rfl)
theorem wideKey : (match Tryz.prog.underlying 105 with | some (.array _ _) | some (.struct _) => true | _ => false) = true := by kernel_rfl
theorem lawKey : Maps.Keyed Tryz.prog 105 := Maps.Keyed.of_law (deep_law_laid laidOut (m := 3) (by omega) rowKey (by kernel_rfl) wideKey)
theorem isKey : Tryz.prog.keyType 105 = true := by kernel_rfl
theorem zeroInt (w : World) : (zeroValue 3).run Tryz.prog w = .ok (.int .i64 0) w := by kernel_rfl

theorem cellsKey : Tryz.prog.cellsOf 105 = 3 := by kernel_rfl
theorem cellsU : Tryz.prog.cellsOf 24 = 1 := by kernel_rfl

/-- What a key reads as. -/
def kv (a b c : Int) : Value := .agg #[.int .u32 a, .int .u32 b, .int .u32 c]
noncomputable def kl (a b c : Int) : Lit := (keyOf Tryz.prog 105 (kv a b c)).getD (.bool false)
theorem wf_u32 {a : Int} (h0 : 0 ≤ a) (h1 : a ≤ 4294967295) : (Lit.int .u32 a).wf = true := by simp [Lit.wf, IntKind.min, IntKind.max, IntKind.signed, IntKind.bits]; omega
theorem kl_of {a b c : Int} (a0 : 0 ≤ a) (a1 : a ≤ 4294967295) (b0 : 0 ≤ b) (b1 : b ≤ 4294967295) (c0 : 0 ≤ c) (c1 : c ≤ 4294967295) : keyOf Tryz.prog 105 (kv a b c) = some (kl a b c) := by
  have wa := wf_u32 a0 a1
  have wb := wf_u32 b0 b1
  have wc := wf_u32 c0 c1
  have h : ∃ l, keyOf Tryz.prog 105 (kv a b c) = some l := by
    obtain ⟨m, hm⟩ : ∃ m, Tryz.prog.types.size = m + 1 := ⟨Tryz.prog.types.size - 1, (Nat.succ_pred_eq_of_pos (Nat.lt_of_le_of_lt (Nat.zero_le _) rowKey)).symm⟩
    unfold keyOf kv
    simp only [Tryz.underlying105]
    rw [if_pos (by simp [isKey, Value.formed, Tryz.underlying105, cellsKey]), hm]
    unfold Program.keyLits
    simp only [Tryz.underlying105, Value.cells]
    rw [if_pos (by rw [cellsKey]; exact ⟨rfl, by simp⟩)]
    simp [cellsU, Program.keyLits, Tryz.underlying24, wa, wb, wc]
  obtain ⟨l, hl⟩ := h
  unfold kl
  rw [hl]; rfl

end Go.Proofs.YtcghekkhbiomgaaGreatDoor
