/- Texts of this claim, joined: Inst, InstKey, InstOp. -/
import Derived.Test.YtgjfelkbblbjfaaGreatDoorJ04
import Derived.Maps.OwnSet
import Derived.DeepKeys4
import Derived.Deep.QuietTactic
import Derived.BigQuiet
/- Contracts of package inst's small calls: each returns what the plain functions say. -/
namespace Go.Proofs.YtgjfelkbblbjfaaGreatDoor
open Go.RowKit
set_option linter.unusedVariables false
set_option maxRecDepth 100000

theorem ifield_val {x : Int} {f n : Nat} (h0 : 0 ≤ x) (h1 : x ≤ 4294967295) (hn : n ≤ 31) :
    bits .and .u32 (x / 2 ^ f) ((2 ^ n - 1) % 4294967296) = x / 2 ^ f % 2 ^ n := by
  have hn0 : (0 : Int) < 2 ^ n := Int.pow_pos (by decide)
  have hf0 : (0 : Int) < 2 ^ f := Int.pow_pos (by decide)
  have hn1 : (2 : Int) ^ n ≤ 2147483648 := by
    have := Nat.pow_le_pow_right (n := 2) (by decide) hn
    rw [two_cast]; omega
  have y0 : 0 ≤ x / 2 ^ f := Int.ediv_nonneg h0 (by omega)
  have y1 : x / 2 ^ f ≤ x := Int.ediv_le_self _ h0
  rw [Int.emod_eq_of_lt (a := 2 ^ n - 1) (by omega) (by omega), bits_mask .u32 32 (by decide) wraps_u32 n (by omega) _ y0 (by omega)]

theorem ifield_any (x : Int) (f n : Nat) (w : World) (h0 : 0 ≤ x) (h1 : x ≤ 4294967295) (hf : f ≤ 31) (hn : n ≤ 31) :
    Calls Tryz.prog 108 #[.int .u32 x, .int .u64 f, .int .u64 n] w fun e w' => e = .returned (.int .u32 (x / 2 ^ f % 2 ^ n)) ∧ w' = w := by
  have H := hide (ifield_val (f := f) h0 h1 hn)
  go_enter Tryz.func108, Tryz.ntmps108
  go_wp2
  go_ret
  exact ⟨by rw [← H.out]; rfl, rfl⟩

theorem code_any (x : Int) (w : World) (h0 : 0 ≤ x) (h1 : x ≤ 4294967295) :
    Calls Tryz.prog 118 #[.int .u32 x] w fun e w' => e = .returned (.int .u32 (cd x)) ∧ w' = w := by
  have hc : Calls Tryz.prog 108 #[.int .u32 x, .int .u64 0, .int .u64 7] w fun e w' => e = .returned (.int .u32 (cd x)) ∧ w' = w := ifield_any x 0 7 w h0 h1 (by decide) (by decide)
  have HC := hide hc
  clear hc
  go_enter Tryz.func118, Tryz.ntmps118
  go_wp2_with fail
  refine HC.out.mono ?_
  rintro e W ⟨rfl, hW⟩
  rw [hW]
  clear hW W
  go_wp2
  go_ret
  exact ⟨rfl, rfl⟩

theorem formc_any (c : Int) (w : World) (h0 : 0 ≤ c) (h1 : c ≤ 4294967295) :
    Calls Tryz.prog 120 #[.int .u32 c] w fun e w' => e = .returned (.int .i64 (fmc c)) ∧ w' = w := by
  go_enter Tryz.func120, Tryz.ntmps120
  go_wp2
  all_goals go_ret
  all_goals exact ⟨ret_int (by unfold fmc; simp_all), rfl⟩

theorem knw_any (op : Int) (w : World) :
    Calls Tryz.prog 119 #[.int .i64 op] w fun e w' => e = .returned (.bool (knw op)) ∧ w' = w := by
  go_enter Tryz.func119, Tryz.ntmps119
  go_wp2
  all_goals go_ret
  all_goals exact ⟨ret_bool (by unfold knw; simp_all <;> omega), rfl⟩



theorem slots_ret {f : Int} {a b c : Bool} {w : World} (h : hasD f = a ∧ has1 f = b ∧ has2 f = c) : Ending.returned (Value.agg #[.bool a, .bool b, .bool c]) = .returned (.agg #[.bool (hasD f), .bool (has1 f), .bool (has2 f)]) ∧
    w.alloc (.cells #[.bool a, .bool b, .bool c] 142) = w.alloc (.cells #[.bool (hasD f), .bool (has1 f), .bool (has2 f)] 142) := by
  obtain ⟨rfl, rfl, rfl⟩ := h
  exact ⟨rfl, rfl⟩

theorem slots_any (f : Int) (w : World) :
    Calls Tryz.prog 105 #[.int .i64 f] w fun e w' => e = .returned (.agg #[.bool (hasD f), .bool (has1 f), .bool (has2 f)]) ∧ w' = w.alloc (.cells #[.bool (hasD f), .bool (has1 f), .bool (has2 f)] 142) := by
  go_enter Tryz.func105, Tryz.ntmps105
  go_wp2
  all_goals go_returns
  all_goals go_light
  all_goals exact slots_ret (by unfold hasD has1 has2; simp_all)

theorem shift_any (x : Int) (w : World) (h0 : 0 ≤ x) (h1 : x ≤ 4294967295) :
    Calls Tryz.prog 107 #[.int .u32 x] w fun e w' => e = .returned (.int .u64 (shb x)) ∧ w' = w := by
  have hc : Calls Tryz.prog 108 #[.int .u32 x, .int .u64 12, .int .u64 3] w fun e w' => e = .returned (.int .u32 (f3 x)) ∧ w' = w := ifield_any x 12 3 w h0 h1 (by decide) (by decide)
  have HC := hide hc
  have HD := hide (code_any x w h0 h1)
  have b1 := cd_bd x
  have b2 := f3_bd x
  obtain ⟨c, hcd⟩ : ∃ c, c = cd x := ⟨_, rfl⟩
  obtain ⟨f, hf3⟩ : ∃ f, f = f3 x := ⟨_, rfl⟩
  have e : shb x = if f ≠ 1 ∧ f ≠ 5 then 0 else if c = 19 then 6 else if c = 27 then 5 else 0 := by rw [hf3, hcd]; rfl
  have HY := hide e
  generalize shb x = y at *
  rw [← hcd] at HD b1
  rw [← hf3] at HC b2
  clear hcd hf3 e hc
  go_enter Tryz.func107, Tryz.ntmps107
  go_wp2_with fail
  refine HC.out.mono ?_
  rintro e W ⟨rfl, hW⟩
  rw [hW]
  clear hW W HC
  go_wp2_with fail
  all_goals try (refine HD.out.mono ?_; rintro e W ⟨rfl, hW⟩; rw [hW]; clear hW W HD; go_wp2)
  all_goals go_ret
  all_goals go_light
  all_goals exact ⟨ret_int (by rw [HY.out]; simp_all), rfl⟩

theorem upper_any (x : Int) (w : World) (h0 : 0 ≤ x) (h1 : x ≤ 4294967295) :
    Calls Tryz.prog 128 #[.int .u32 x] w fun e w' => e = .returned (.int .u32 (upp x)) ∧ w' = w := by
  have HS := hide (shift_any x w h0 h1)
  have HC := hide (code_any x w h0 h1)
  have b1 := cd_bd x
  have HF := hide (formc_any (cd x) w b1.1 (by omega))
  have b2 := fmc_bd (cd x)
  obtain ⟨c, hcd⟩ : ∃ c, c = cd x := ⟨_, rfl⟩
  obtain ⟨f, hf3⟩ : ∃ f, f = fmc (cd x) := ⟨_, rfl⟩
  obtain ⟨s, hs⟩ : ∃ s, s = shb x := ⟨_, rfl⟩
  have e : upp x = if s = 6 then x / 67108864 else if s = 5 then x / 33554432 else if f = 0 then x / 33554432 else 0 := by rw [hf3, hs]; rfl
  have HY := hide e
  generalize upp x = y at *
  rw [← hf3, ← hcd] at HF
  rw [← hf3] at b2
  rw [← hcd] at HC b1
  rw [← hs] at HS
  have hss : s = 0 ∨ s = 5 ∨ s = 6 := by rw [hs]; exact shb_cases x
  clear hcd hf3 e hs
  rcases hss with rfl | rfl | rfl
  · go_enter Tryz.func128, Tryz.ntmps128
    go_wp2_with fail
    refine HS.out.mono ?_
    rintro e W ⟨rfl, hW⟩
    rw [hW]
    clear hW W HS
    go_wp2_with fail
    refine HC.out.mono ?_
    rintro e W ⟨rfl, hW⟩
    rw [hW]
    clear hW W HC
    go_wp2_with fail
    refine HF.out.mono ?_
    rintro e W ⟨rfl, hW⟩
    rw [hW]
    clear hW W HF
    go_wp2
    all_goals go_ret
    all_goals go_light
    all_goals exact ⟨ret_int (by rw [HY.out]; simp_all), rfl⟩
  all_goals
    clear HC HF
    go_enter Tryz.func128, Tryz.ntmps128
    go_wp2_with fail
    refine HS.out.mono ?_
    rintro e W ⟨rfl, hW⟩
    rw [hW]
    clear hW W HS
    go_wp2
    go_ret
    go_light
    exact ⟨ret_int (by rw [HY.out]; simp), rfl⟩

theorem reg_any (x : Int) (f : Nat) (w : World) (h0 : 0 ≤ x) (h1 : x ≤ 4294967295) (hf : f ≤ 31) :
    Calls Tryz.prog 109 #[.int .u32 x, .int .u64 f] w fun e w' => e = .returned (.int .i64 (x / 2 ^ f % 32)) ∧ w' = w := by
  have hc := ifield_any x f 5 w h0 h1 hf (by decide)
  rw [show ((5 : Nat) : Int) = 5 by rfl, show (2 : Int) ^ 5 = 32 by rfl] at hc
  have HC := hide hc
  clear hc
  have b0 := Int.emod_nonneg (x / 2 ^ f) (show (32 : Int) ≠ 0 by decide)
  have b1 := Int.emod_lt_of_pos (x / 2 ^ f) (show (0 : Int) < 32 by decide)
  generalize x / 2 ^ f % 32 = y at *
  go_enter Tryz.func109, Tryz.ntmps109
  go_wp2_with fail
  refine HC.out.mono ?_
  rintro e W ⟨rfl, hW⟩
  rw [hW]
  clear hW W HC
  go_wp2
  go_ret
  exact ⟨rfl, rfl⟩

/-- What the program's table holds. -/
def Laid (w : World) : Prop := 0 < w.heap.size ∧ (∀ k : Nat, k < 66 → w.cell? ⟨0, k, none⟩ = some (.int .u32 (wd k))) ∧ True
theorem Laid.below {w w' : World} (h : Laid w) {B : Nat} (hb : Below B w w') (hB : 1 ≤ B) : Laid w' :=
  ⟨Nat.lt_of_lt_of_le h.1 hb.size, fun k hk => (hb.cell (p := ⟨0, k, none⟩) (by show 0 < B; omega)).trans (h.2.1 k hk), trivial⟩



theorem form_any (op : Int) (w : World) (h : Laid w) :
    Calls Tryz.prog 104 #[.int .i64 op] w fun e w' => e = .returned (.int .i64 (fmo op)) ∧ w' = w := by
  have HK := hide (knw_any op w)
  by_cases hk : knw op = true
  · have hr : 0 < op ∧ op < 66 := by simpa [knw] using hk
    obtain ⟨k, rfl⟩ := Int.eq_ofNat_of_zero_le (show 0 ≤ op by omega)
    have hcell := h.2.1 k (by omega)
    have bw := wd_bd k
    have HC := hide (code_any (wd k) w bw.1 bw.2)
    have bc := cd_bd (wd k)
    have HF := hide (formc_any (cd (wd k)) w bc.1 (by omega))
    have e : fmo k = fmc (cd (wd k)) := by unfold fmo; rw [if_pos hk]; rfl
    rw [e]
    rw [hk] at HK
    generalize fmc (cd (wd k)) = f at *
    generalize cd (wd k) = c at *
    generalize wd k = x at *
    clear e h hk
    have hr2 : k < 66 := by omega
    go_enter Tryz.func104, Tryz.ntmps104
    go_wp2_with fail
    refine HK.out.mono ?_
    rintro e W ⟨rfl, hW⟩
    rw [hW]
    clear hW W HK
    go_wp2_with fail
    refine HC.out.mono ?_
    rintro e W ⟨rfl, hW⟩
    rw [hW]
    clear hW W HC
    go_wp2_with fail
    refine HF.out.mono ?_
    rintro e W ⟨rfl, hW⟩
    rw [hW]
    clear hW W HF
    go_wp2
    go_ret
    exact ⟨rfl, rfl⟩
  · have hk' : knw op = false := by simpa using hk
    have e : fmo op = 6 := by unfold fmo; rw [if_neg hk]
    rw [e]
    rw [hk'] at HK
    clear hk hk' e h
    go_enter Tryz.func104, Tryz.ntmps104
    go_wp2_with fail
    refine HK.out.mono ?_
    rintro e W ⟨rfl, hW⟩
    rw [hW]
    clear hW W HK
    go_wp2
    go_ret
    exact ⟨rfl, rfl⟩



end Go.Proofs.YtgjfelkbblbjfaaGreatDoor

/- Contracts of package inst's keys, of the search by a name, of the operation that a word has. -/
namespace Go.Proofs.YtgjfelkbblbjfaaGreatDoor
open Go.RowKit
set_option linter.unusedVariables false
set_option maxRecDepth 100000

theorem key_ret {a b c a' b' c' : Int} {w w' : World} (h : a = a' ∧ b = b' ∧ c = c') (hb : Below w.heap.size w w') :
    Ending.returned (Value.agg #[.int .u32 a, .int .u32 b, .int .u32 c]) = .returned (.agg #[.int .u32 a', .int .u32 b', .int .u32 c']) ∧ Below w.heap.size w w' := by
  obtain ⟨rfl, rfl, rfl⟩ := h
  exact ⟨rfl, hb⟩

theorem key_any (x : Int) (w : World) (h0 : 0 ≤ x) (h1 : x ≤ 4294967295) :
    Calls Tryz.prog 117 #[.int .u32 x] w fun e w' => e = .returned (.agg #[.int .u32 (cd x), .int .u32 (ke2 x), .int .u32 (ke3 x)]) ∧ Below w.heap.size w w' := by
  have HF : Hid (∀ w, Calls Tryz.prog 108 #[.int .u32 x, .int .u64 12, .int .u64 3] w fun e w' => e = .returned (.int .u32 (f3 x)) ∧ w' = w) := hide (fun w => ifield_any x 12 3 w h0 h1 (by decide) (by decide))
  have HC := hide (fun w => code_any x w h0 h1)
  have HU := hide (fun w => upper_any x w h0 h1)
  have b1 := cd_bd x
  have b2 := f3_bd x
  have b3 := upp_bd h0 h1
  have HY := hide (show ke2 x = if cd x = 55 ∨ cd x = 23 ∨ cd x = 111 ∨ cd x = 115 then 0 else f3 x from rfl)
  have HZ := hide (show ke3 x = if cd x = 55 ∨ cd x = 23 ∨ cd x = 111 then 0 else if cd x = 115 then x / 128 else upp x from rfl)
  generalize ke2 x = y at *
  generalize ke3 x = z at *
  generalize cd x = c at *
  generalize f3 x = f at *
  generalize upp x = u at *
  go_enter Tryz.func117, Tryz.ntmps117
  go_wp2_with fail
  refine (HC.out _).mono ?_
  rintro e W ⟨rfl, hW⟩
  rw [hW]
  clear hW W HC
  go_wp2_with fail
  all_goals try (refine (HF.out _).mono ?_; rintro e W ⟨rfl, hW⟩; rw [hW]; clear hW W HF; go_wp2_with fail; refine (HU.out _).mono ?_; rintro e W ⟨rfl, hW⟩; rw [hW]; clear hW W HU; go_wp2)
  all_goals go_returns
  all_goals go_light
  all_goals refine key_ret ⟨by simp_all, by rw [HY.out]; simp_all, by rw [HZ.out]; simp_all⟩ ?_
  all_goals go_grown

theorem str_eq (a b : ByteArray) : (a.toList == b.toList) = decide (a = b) := by
  rw [ByteArray.toList_eq, ByteArray.toList_eq, Bool.eq_iff_iff]
  simp only [beq_iff_eq, decide_eq_true_eq]
  constructor
  · intro h; exact ByteArray.ext (Array.toList_inj.1 h)
  · rintro rfl; rfl
theorem str_yes {a b : ByteArray} (h : a = b) : (a.toList == b.toList) = true := by rw [str_eq]; simp [h]
theorem str_no {a b : ByteArray} (h : a ≠ b) : (a.toList == b.toList) = false := by rw [str_eq]; simp [h]

/-- What a search by a name tells. -/
def FindIs (s : ByteArray) (e : Ending) : Prop :=
  (∃ k : Nat, 1 ≤ k ∧ k < 66 ∧ nm k = s ∧ e = .returned (.tuple #[.int .i64 k, .bool true])) ∨ ((∀ k : Nat, 1 ≤ k → k < 66 → nm k ≠ s) ∧ e = .returned (.tuple #[.int .i64 0, .bool false]))



theorem laidOut : laidOutB Tryz.prog = true := by kernel_rfl
theorem rowKey : (151 : TypeId) < Tryz.prog.types.size := of_decide_eq_true (by kernel_rfl)
theorem wideKey : (match Tryz.prog.underlying 151 with | some (.array _ _) | some (.struct _) => true | _ => false) = true := by kernel_rfl
theorem lawKey : Maps.Keyed Tryz.prog 151 := Maps.Keyed.of_law (deep_law_laid laidOut (m := 3) (by omega) rowKey (by kernel_rfl) wideKey)
theorem isKey : Tryz.prog.keyType 151 = true := by kernel_rfl
theorem zeroInt (w : World) : (zeroValue 3).run Tryz.prog w = .ok (.int .i64 0) w := by kernel_rfl

theorem cellsKey : Tryz.prog.cellsOf 151 = 3 := by kernel_rfl
theorem cellsU : Tryz.prog.cellsOf 31 = 1 := by kernel_rfl

/-- What a key reads as. -/
def kv (a b c : Int) : Value := .agg #[.int .u32 a, .int .u32 b, .int .u32 c]
noncomputable def kl (a b c : Int) : Lit := (keyOf Tryz.prog 151 (kv a b c)).getD (.bool false)
theorem wf_u32 {a : Int} (h0 : 0 ≤ a) (h1 : a ≤ 4294967295) : (Lit.int .u32 a).wf = true := by simp [Lit.wf, IntKind.min, IntKind.max, IntKind.signed, IntKind.bits]; omega
theorem kl_of {a b c : Int} (a0 : 0 ≤ a) (a1 : a ≤ 4294967295) (b0 : 0 ≤ b) (b1 : b ≤ 4294967295) (c0 : 0 ≤ c) (c1 : c ≤ 4294967295) : keyOf Tryz.prog 151 (kv a b c) = some (kl a b c) := by
  have wa := wf_u32 a0 a1
  have wb := wf_u32 b0 b1
  have wc := wf_u32 c0 c1
  have h : ∃ l, keyOf Tryz.prog 151 (kv a b c) = some l := by
    obtain ⟨m, hm⟩ : ∃ m, Tryz.prog.types.size = m + 1 := ⟨Tryz.prog.types.size - 1, (Nat.succ_pred_eq_of_pos (Nat.lt_of_le_of_lt (Nat.zero_le _) rowKey)).symm⟩
    unfold keyOf kv
    simp only [Tryz.underlying151]
    rw [if_pos (by simp [isKey, Value.formed, Tryz.underlying151, cellsKey]), hm]
    unfold Program.keyLits
    simp only [Tryz.underlying151, Value.cells]
    rw [if_pos (by rw [cellsKey]; exact ⟨rfl, by simp⟩)]
    simp [cellsU, Program.keyLits, Tryz.underlying31, wa, wb, wc]
  obtain ⟨l, hl⟩ := h
  unfold kl
  rw [hl]; rfl

end Go.Proofs.YtgjfelkbblbjfaaGreatDoor

/- The contract of package inst's operation: which operation a word is, found by a map of keys. -/
namespace Go.Proofs.YtgjfelkbblbjfaaGreatDoor
open Go.RowKit Go.Maps
set_option linter.unusedVariables false
set_option maxRecDepth 100000

theorem kl_inj {a b c a' b' c' : Int} (ha : 0 ≤ a ∧ a ≤ 4294967295) (hb : 0 ≤ b ∧ b ≤ 4294967295) (hc : 0 ≤ c ∧ c ≤ 4294967295) (ha' : 0 ≤ a' ∧ a' ≤ 4294967295) (hb' : 0 ≤ b' ∧ b' ≤ 4294967295) (hc' : 0 ≤ c' ∧ c' ≤ 4294967295)
    (h : kl a b c = kl a' b' c') : a = a' ∧ b = b' ∧ c = c' := by
  have h1 := kl_of ha.1 ha.2 hb.1 hb.2 hc.1 hc.2
  have h2 := kl_of ha'.1 ha'.2 hb'.1 hb'.2 hc'.1 hc'.2
  rw [← h] at h2
  have := lawKey.inj h1 h2
  simpa [kv] using this

noncomputable def kx (x : Int) : Lit := kl (cd x) (ke2 x) (ke3 x)
theorem kx_of {x : Int} (h0 : 0 ≤ x) (h1 : x ≤ 4294967295) : keyOf Tryz.prog 151 (kv (cd x) (ke2 x) (ke3 x)) = some (kx x) := by
  have b1 := cd_bd x
  have b2 := ke2_bd x
  have b3 := ke3_bd h0 h1
  exact kl_of b1.1 (by omega) b2.1 (by omega) b3.1 (by omega)
theorem kx_inj {x y : Int} (h0 : 0 ≤ x) (h1 : x ≤ 4294967295) (g0 : 0 ≤ y) (g1 : y ≤ 4294967295) (h : kx x = kx y) : cd x = cd y ∧ ke2 x = ke2 y ∧ ke3 x = ke3 y := by
  have b1 := cd_bd x
  have b2 := ke2_bd x
  have b3 := ke3_bd h0 h1
  have c1 := cd_bd y
  have c2 := ke2_bd y
  have c3 := ke3_bd g0 g1
  exact kl_inj ⟨b1.1, by omega⟩ ⟨b2.1, by omega⟩ ⟨b3.1, by omega⟩ ⟨c1.1, by omega⟩ ⟨c2.1, by omega⟩ ⟨c3.1, by omega⟩ h

/-- The map behind the first n operations. -/
noncomputable def Cm (x : Int) : Nat → DataW Unit
  | 0 => .map []
  | n + 1 => if cd (wd (n + 1)) = cd x ∧ ke3 (wd (n + 1)) = ke3 x then (Cm x n).put (kx (wd (n + 1))) (.lit (.int .i64 ((n + 1 : Nat) : Int))) else Cm x n

theorem Cm_map (x : Int) : ∀ n, IsMap (Cm x n)
  | 0 => isMap_empty
  | n + 1 => by unfold Cm; split; exact (Cm_map x n).put _ _; exact Cm_map x n

theorem keys_apart : ∀ j, j < 66 → ∀ k, k < 66 → (cd (wd j) = cd (wd k) ∧ ke2 (wd j) = ke2 (wd k) ∧ ke3 (wd j) = ke3 (wd k) ∧ 1 ≤ j ∧ 1 ≤ k) → j = k := by decide +kernel
theorem Mt_one {x : Int} {j k : Nat} (hj : 1 ≤ j) (hj' : j < 66) (hk : 1 ≤ k) (hk' : k < 66) (h : Mt j x) (h' : Mt k x) : j = k :=
  keys_apart j hj' k hk' ⟨h.1.trans h'.1.symm, h.2.1.trans h'.2.1.symm, h.2.2.trans h'.2.2.symm, hj, hk⟩

theorem kx_key {x : Int} (h0 : 0 ≤ x) (h1 : x ≤ 4294967295) : WideAt.IsKeyLit (kx x) := lawKey.key (kx_of h0 h1)

theorem Cm_none {x : Int} (h0 : 0 ≤ x) (h1 : x ≤ 4294967295) : ∀ n, (∀ j, 1 ≤ j → j ≤ n → ¬ Mt j x) → Maps.has (Cm x n) (kx x) = false
  | 0, _ => rfl
  | n + 1, h => by
    have ih := Cm_none h0 h1 n (fun j h2 h3 => h j h2 (by omega))
    unfold Cm
    split
    · rename_i hc
      rw [has_put_other, ih]
      intro he
      have := kx_inj (wd_bd (n + 1)).1 (wd_bd (n + 1)).2 h0 h1 he.symm
      exact h (n + 1) (by omega) (by omega) this
    · exact ih
theorem Cm_one {x : Int} (h0 : 0 ≤ x) (h1 : x ≤ 4294967295) {k : Nat} (hk : 1 ≤ k) (hM : Mt k x) : ∀ n, k ≤ n → n < 66 → Maps.has (Cm x n) (kx x) = true ∧ (Cm x n).atKey (kx x) (.lit (.int .i64 0)) = .lit (.int .i64 k)
  | 0, h, _ => by omega
  | n + 1, h, h' => by
    by_cases he : k = n + 1
    · subst he
      have e : kx (wd (n + 1)) = kx x := by unfold kx; rw [hM.1, hM.2.1, hM.2.2]
      unfold Cm
      rw [if_pos ⟨hM.1, hM.2.2⟩, e]
      exact ⟨has_put_same (Cm_map x n) (kx_key h0 h1) _, atKey_put_same (Cm_map x n) (kx_key h0 h1) _ _⟩
    · have ih := Cm_one h0 h1 hk hM n (by omega) (by omega)
      unfold Cm
      split
      · have hne : kx x ≠ kx (wd (n + 1)) := fun e => by
          have := kx_inj (wd_bd (n + 1)).1 (wd_bd (n + 1)).2 h0 h1 e.symm
          exact he (Mt_one hk (by omega) (by omega) (by omega) hM this)
        rw [has_put_other hne, atKey_put_other hne]
        exact ih
      · exact ih

/-- Which operation a word is; 0: none. -/
def IsOp (x : Int) (o : Nat) : Prop := (o = 0 ∧ ∀ j, 1 ≤ j → j < 66 → ¬ Mt j x) ∨ (1 ≤ o ∧ o < 66 ∧ Mt o x)
theorem isOp_ex (x : Int) : ∃ o, IsOp x o := by
  by_cases h : ∃ j, 1 ≤ j ∧ j < 66 ∧ Mt j x
  · obtain ⟨j, h1, h2, h3⟩ := h
    exact ⟨j, Or.inr ⟨h1, h2, h3⟩⟩
  · exact ⟨0, Or.inl ⟨rfl, fun j h1 h2 h3 => h ⟨j, h1, h2, h3⟩⟩⟩
theorem IsOp.has {x : Int} (h0 : 0 ≤ x) (h1 : x ≤ 4294967295) {o : Nat} (h : IsOp x o) : Maps.has (Cm x 65) (kx x) = decide (o ≠ 0) ∧ (Cm x 65).atKey (kx x) (.lit (.int .i64 0)) = .lit (.int .i64 o) := by
  rcases h with ⟨rfl, h⟩ | ⟨h2, h3, h4⟩
  · have := Cm_none h0 h1 65 (fun j h2 h3 => h j h2 (by omega))
    exact ⟨by rw [this]; rfl, atKey_of_not_has this _⟩
  · have := Cm_one h0 h1 h2 h4 65 (by omega) (by omega)
    exact ⟨by rw [this.1]; simp; omega, this.2⟩

theorem cell_alloc {W : World} {o : Obj} {p : Addr} {v : Value} (h : W.cell? p = some v) : (W.alloc o).cell? p = some v := (World.cell?_alloc_lt _ _ _ (World.block_lt_of_cell? _ _ h)).trans h
theorem cell_grown {W W' : World} {b : Nat} (hg : W.grownBy W' (some b)) {p : Addr} {v : Value} (h : W.cell? p = some v) (hp : p.block ≠ b) : W'.cell? p = some v :=
  (World.cell?_of_block (w := W) (hg.block p.block (World.block_lt_of_cell? _ _ h) (fun e => hp (Option.some.inj e)))).trans h

set_option maxHeartbeats 1600000 in
theorem op_any (x : Int) (o : Nat) (w : World) (h0 : 0 ≤ x) (h1 : x ≤ 4294967295) (ho : IsOp x o) (hL : Laid w) :
    Calls Tryz.prog 103 #[.int .u32 x] w fun e w' => e = .returned (.tuple #[.int .i64 o, .bool (decide (o ≠ 0))]) ∧ Below w.heap.size w w' := by
  have hmm := @run_makeMap Tryz.prog
  have HK := hide (fun w => key_any x w h0 h1)
  have HKX := hide (kx_of h0 h1)
  have HH := hide (ho.has h0 h1)
  have HCM := hide (show ∀ n, Cm x (n + 1) = if cd (wd (n + 1)) = cd x ∧ ke3 (wd (n + 1)) = ke3 x then (Cm x n).put (kx (wd (n + 1))) (.lit (.int .i64 ((n + 1 : Nat) : Int))) else Cm x n from fun n => rfl)
  have HC0 := hide (show Cm x 0 = .map [] from rfl)
  have b1 := cd_bd x
  have b2 := ke2_bd x
  have b3 := ke3_bd h0 h1
  have HL := hide hL
  clear hL ho
  generalize Cm x = C at *
  generalize kx x = l at *
  generalize cd x = c at *
  generalize ke2 x = f at *
  generalize ke3 x = u at *
  go_enter Tryz.func103, Tryz.ntmps103
  go_wp2_with fail
  refine (HK.out _).mono ?_
  rintro e W1 ⟨rfl, hB1⟩
  have HB1 := hide hB1
  clear hB1 HK
  go_wp2
  go_loopw [6] (fun i wr => ∃ k : Nat, 1 ≤ k ∧ k ≤ 66 ∧ i = .int .i64 k ∧ wr.ownsMap Tryz.prog 151 (plainElem Tryz.prog 3) (W1.heap.size + 1) (k - 1) (C (k - 1)) ∧ wr.cell? ⟨W1.heap.size, 0, none⟩ = some (.int .u32 c) ∧
      wr.cell? ⟨W1.heap.size, 1, none⟩ = some (.int .u32 f) ∧ wr.cell? ⟨W1.heap.size, 2, none⟩ = some (.int .u32 u) ∧ Below w.heap.size w wr ∧ W1.heap.size + 1 < wr.heap.size)
    (fun i _ => 66 - (intOf i).toNat)
  case atStart =>
    refine ⟨1, by decide, by decide, rfl, ?_, by go_simp, by go_simp, by go_simp, ?_, by simp⟩
    · rw [HC0.out]
      have := World.ownsMap_made (H := Unit) (W1.alloc (.cells #[.int .u32 c, .int .u32 f, .int .u32 u] 151)) Tryz.prog 151 (plainElem Tryz.prog 3)
      simpa using this
    · exact (HB1.out.alloc HB1.out.size _).alloc (by have := HB1.out.size; simp; omega) _
  case round =>
    obtain ⟨k, hk1, hk, rfl, hown, q0, q1, q2, hbel, hsz⟩ := hrel
    have HO := hide hown
    have HB := hide hbel
    have HW := hide (HL.out.below hbel HL.out.1)
    clear hown hbel
    by_cases hlt : k < 66
    · have hlt' : (k : Int) < 66 := by omega
      have hcell := HW.out.2.1 k hlt
      obtain ⟨y, hy⟩ : ∃ y, y = wd k := ⟨_, rfl⟩
      have bw := wd_bd k
      rw [← hy] at hcell bw
      have HY := hide hy
      clear hy
      have HC := hide (fun w => code_any y w bw.1 bw.2)
      have HK := hide (fun w => key_any y w bw.1 bw.2)
      have HKY := hide (kx_of bw.1 bw.2)
      have c1 := cd_bd y
      have c2 := ke2_bd y
      have c3 := ke3_bd bw.1 bw.2
      have HN : Hid (C k = if cd y = c ∧ ke3 y = u then (C (k - 1)).put (kx y) (.lit (.int .i64 (k : Int))) else C (k - 1)) := by
        have := HCM.out (k - 1)
        rw [show k - 1 + 1 = k by omega, ← HY.out] at this
        exact this
      generalize kx y = ly at *
      generalize cd y = cy at *
      generalize ke2 y = fy at *
      generalize ke3 y = uy at *
      by_cases he : cy = c
      · have he' : (cy == c) = true := by simp [he]
        have HE := hide he
        clear he
        go_wp2_with fail
        go_quiet (first | (go_at_call 118; refine Calls.quiet_of_same (HC.out _)))
        clear HC
        go_wp2_with fail
        refine (HK.out _).mono ?_
        rintro e W2 ⟨rfl, hB2⟩
        have hB3 : Below wr.heap.size wr W2 := Below.trans (b := wr.drewN nq) ⟨rfl, rfl, rfl, Nat.le_refl _, fun _ _ => rfl⟩ hB2
        have hs2 := hB3.size
        have p0 := (hB3.cell (p := ⟨W1.heap.size, 0, none⟩) (by show W1.heap.size < _; omega)).trans q0
        have p1 := (hB3.cell (p := ⟨W1.heap.size, 1, none⟩) (by show W1.heap.size < _; omega)).trans q1
        have p2 := (hB3.cell (p := ⟨W1.heap.size, 2, none⟩) (by show W1.heap.size < _; omega)).trans q2
        have hm : W1.heap.size < W2.heap.size := by omega
        have HB2 := hide hB3
        clear hB2 hB3 HK
        have hown2 : (W2.alloc (.cells #[.int .u32 cy, .int .u32 fy, .int .u32 uy] 151)).ownsMap Tryz.prog 151 (plainElem Tryz.prog 3) (W1.heap.size + 1) (k - 1) (C (k - 1)) :=
          (HO.out.kept (row := none) (w' := W2) ⟨HB2.out.os, HB2.out.tape, HB2.out.output, HB2.out.size, fun i hi _ => HB2.out.block i hi⟩ (by simp)).alloc _
        have HO2 := hide hown2
        clear hown2
        by_cases hu : uy = u
        · have hu' : (uy == u) = true := by simp [hu]
          have HU := hide hu
          clear hu
          go_wp2_with (first
            | (at_mapUpdate; refine wpList_mapUpdate_own _ rfl _ _ _ 153 rfl 151 3 lawKey Tryz.underlying153 _ (W1.heap.size + 1) (k - 1) _ rfl HO2.out (by unfold maxLen; omega) _ _ ly rfl rfl HKY.out _ [] (plainElem_int Tryz.underlying3 (WalkArith.wf_i64 (by omega))) ?_; intro w1 hown1 hgrow1)
            | go_in)
          have g2 := hgrow1.size
          simp at g2
          have s1 := HB1.out.size
          go_roundw
          case rel =>
            refine ⟨k + 1, by omega, by omega, by go_num, ?_, cell_grown hgrow1 (cell_alloc p0) (by simp), cell_grown hgrow1 (cell_alloc p1) (by simp), cell_grown hgrow1 (cell_alloc p2) (by simp), ?_, by omega⟩
            · rw [show k + 1 - 1 = k by omega, HN.out, if_pos ⟨HE.out, HU.out⟩]
              rw [show k - 1 + 1 = k by omega] at hown1
              exact hown1
            · have hb := HB.out
              have := hb.size
              exact (((hb.trans (HB2.out.mono this)).alloc (by omega) _).grown hgrow1 (by simp; omega) (fun j hj => by cases hj; omega))
          case measure => simp [intOf]; omega
        · have hu' : (uy == u) = false := by simp [hu]
          have HU := hide hu
          clear hu
          go_wp2
          go_roundw
          case rel =>
            refine ⟨k + 1, by omega, by omega, by go_num, ?_, cell_alloc p0, cell_alloc p1, cell_alloc p2, ?_, by simp; omega⟩
            · rw [show k + 1 - 1 = k by omega, HN.out, if_neg (fun h => HU.out h.2)]
              exact HO2.out.mono (by omega)
            · have hb := HB.out
              have := hb.size
              exact (hb.trans (HB2.out.mono this)).alloc (by omega) _
          case measure => simp [intOf]; omega
      · have he' : (cy == c) = false := by simp [he]
        have HE := hide he
        clear he
        go_wp2_with fail
        go_quiet (first | (go_at_call 118; refine Calls.quiet_of_same (HC.out _)))
        go_wp2
        go_roundw
        case rel =>
          refine ⟨k + 1, by omega, by omega, by go_num, ?_, q0, q1, q2, HB.out.trans ⟨rfl, rfl, rfl, Nat.le_refl _, fun _ _ => rfl⟩, hsz⟩
          rw [show k + 1 - 1 = k by omega, HN.out, if_neg (fun h => HE.out h.1)]
          exact HO.out.mono (by omega)
        case measure => simp [intOf]; omega
    · have : k = 66 := by omega
      subst this
      go_wp2_with (first
        | (at_lookup; refine wpList_lookup_own_ok_int _ rfl _ _ 153 rfl 151 3 .i64 lawKey Tryz.underlying153 Tryz.underlying3 (zeroInt _) (W1.heap.size + 1) 65 (C 65) rfl HO.out (kv c f u) l rfl HKX.out ?_; intro c' hat hwc)
        | go_in)
      go_ret2
      have hh := HH.out
      rw [hat] at hh
      have hc : c' = (o : Int) := by
        have := hh.2
        injection this with this
        injection this
      rw [hc, hh.1]
      exact ⟨rfl, HB.out⟩

end Go.Proofs.YtgjfelkbblbjfaaGreatDoor
