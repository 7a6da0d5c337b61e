/- Texts of this claim, joined: Inst, InstKey, InstOp, InstDec, InstDecs, MachPlain, MachMap, MachHead, AluMath. -/
import Derived.Test.YtdhjjlnabbpinaaGreatDoorJ00
import Derived.Maps.OwnSet
import Derived.DeepKeys4
import Derived.Deep.QuietTactic
import Derived.BigQuiet
/- Contracts of package inst's small calls: each returns what the plain functions say. -/
namespace Go.Proofs.YtdhjjlnabbpinaaGreatDoor
open Go.RowKit
set_option linter.unusedVariables false
set_option maxRecDepth 100000

theorem ifield_val {x : Int} {f n : Nat} (h0 : 0 ≤ x) (h1 : x ≤ 4294967295) (hn : n ≤ 31) :
    bits .and .u32 (x / 2 ^ f) ((2 ^ n - 1) % 4294967296) = x / 2 ^ f % 2 ^ n := by
  have hn0 : (0 : Int) < 2 ^ n := Int.pow_pos (by decide)
  have hf0 : (0 : Int) < 2 ^ f := Int.pow_pos (by decide)
  have hn1 : (2 : Int) ^ n ≤ 2147483648 := by
    have := Nat.pow_le_pow_right (n := 2) (by decide) hn
    rw [two_cast]; omega
  have y0 : 0 ≤ x / 2 ^ f := Int.ediv_nonneg h0 (by omega)
  have y1 : x / 2 ^ f ≤ x := Int.ediv_le_self _ h0
  rw [Int.emod_eq_of_lt (a := 2 ^ n - 1) (by omega) (by omega), bits_mask .u32 32 (by decide) wraps_u32 n (by omega) _ y0 (by omega)]

theorem ifield_any (x : Int) (f n : Nat) (w : World) (h0 : 0 ≤ x) (h1 : x ≤ 4294967295) (hf : f ≤ 31) (hn : n ≤ 31) :
    Calls Tryz.prog 110 #[.int .u32 x, .int .u64 f, .int .u64 n] w fun e w' => e = .returned (.int .u32 (x / 2 ^ f % 2 ^ n)) ∧ w' = w := by
  have H := hide (ifield_val (f := f) h0 h1 hn)
  go_enter Tryz.func110, Tryz.ntmps110
  go_wp2
  go_ret
  exact ⟨by rw [← H.out]; rfl, rfl⟩

theorem code_any (x : Int) (w : World) (h0 : 0 ≤ x) (h1 : x ≤ 4294967295) :
    Calls Tryz.prog 121 #[.int .u32 x] w fun e w' => e = .returned (.int .u32 (cd x)) ∧ w' = w := by
  have hc : Calls Tryz.prog 110 #[.int .u32 x, .int .u64 0, .int .u64 7] w fun e w' => e = .returned (.int .u32 (cd x)) ∧ w' = w := ifield_any x 0 7 w h0 h1 (by decide) (by decide)
  have HC := hide hc
  clear hc
  go_enter Tryz.func121, Tryz.ntmps121
  go_wp2_with fail
  refine HC.out.mono ?_
  rintro e W ⟨rfl, hW⟩
  rw [hW]
  clear hW W
  go_wp2
  go_ret
  exact ⟨rfl, rfl⟩

theorem formc_any (c : Int) (w : World) (h0 : 0 ≤ c) (h1 : c ≤ 4294967295) :
    Calls Tryz.prog 123 #[.int .u32 c] w fun e w' => e = .returned (.int .i64 (fmc c)) ∧ w' = w := by
  go_enter Tryz.func123, Tryz.ntmps123
  go_wp2
  all_goals go_ret
  all_goals exact ⟨ret_int (by unfold fmc; simp_all), rfl⟩

theorem knw_any (op : Int) (w : World) :
    Calls Tryz.prog 122 #[.int .i64 op] w fun e w' => e = .returned (.bool (knw op)) ∧ w' = w := by
  go_enter Tryz.func122, Tryz.ntmps122
  go_wp2
  all_goals go_ret
  all_goals exact ⟨ret_bool (by unfold knw; simp_all <;> omega), rfl⟩



theorem slots_ret {f : Int} {a b c : Bool} {w : World} (h : hasD f = a ∧ has1 f = b ∧ has2 f = c) : Ending.returned (Value.agg #[.bool a, .bool b, .bool c]) = .returned (.agg #[.bool (hasD f), .bool (has1 f), .bool (has2 f)]) ∧
    w.alloc (.cells #[.bool a, .bool b, .bool c] 143) = w.alloc (.cells #[.bool (hasD f), .bool (has1 f), .bool (has2 f)] 143) := by
  obtain ⟨rfl, rfl, rfl⟩ := h
  exact ⟨rfl, rfl⟩

theorem slots_any (f : Int) (w : World) :
    Calls Tryz.prog 107 #[.int .i64 f] w fun e w' => e = .returned (.agg #[.bool (hasD f), .bool (has1 f), .bool (has2 f)]) ∧ w' = w.alloc (.cells #[.bool (hasD f), .bool (has1 f), .bool (has2 f)] 143) := by
  go_enter Tryz.func107, Tryz.ntmps107
  go_wp2
  all_goals go_returns
  all_goals go_light
  all_goals exact slots_ret (by unfold hasD has1 has2; simp_all)

theorem shift_any (x : Int) (w : World) (h0 : 0 ≤ x) (h1 : x ≤ 4294967295) :
    Calls Tryz.prog 109 #[.int .u32 x] w fun e w' => e = .returned (.int .u64 (shb x)) ∧ w' = w := by
  have hc : Calls Tryz.prog 110 #[.int .u32 x, .int .u64 12, .int .u64 3] w fun e w' => e = .returned (.int .u32 (f3 x)) ∧ w' = w := ifield_any x 12 3 w h0 h1 (by decide) (by decide)
  have HC := hide hc
  have HD := hide (code_any x w h0 h1)
  have b1 := cd_bd x
  have b2 := f3_bd x
  obtain ⟨c, hcd⟩ : ∃ c, c = cd x := ⟨_, rfl⟩
  obtain ⟨f, hf3⟩ : ∃ f, f = f3 x := ⟨_, rfl⟩
  have e : shb x = if f ≠ 1 ∧ f ≠ 5 then 0 else if c = 19 then 6 else if c = 27 then 5 else 0 := by rw [hf3, hcd]; rfl
  have HY := hide e
  generalize shb x = y at *
  rw [← hcd] at HD b1
  rw [← hf3] at HC b2
  clear hcd hf3 e hc
  go_enter Tryz.func109, Tryz.ntmps109
  go_wp2_with fail
  refine HC.out.mono ?_
  rintro e W ⟨rfl, hW⟩
  rw [hW]
  clear hW W HC
  go_wp2_with fail
  all_goals try (refine HD.out.mono ?_; rintro e W ⟨rfl, hW⟩; rw [hW]; clear hW W HD; go_wp2)
  all_goals go_ret
  all_goals go_light
  all_goals exact ⟨ret_int (by rw [HY.out]; simp_all), rfl⟩

theorem upper_any (x : Int) (w : World) (h0 : 0 ≤ x) (h1 : x ≤ 4294967295) :
    Calls Tryz.prog 131 #[.int .u32 x] w fun e w' => e = .returned (.int .u32 (upp x)) ∧ w' = w := by
  have HS := hide (shift_any x w h0 h1)
  have HC := hide (code_any x w h0 h1)
  have b1 := cd_bd x
  have HF := hide (formc_any (cd x) w b1.1 (by omega))
  have b2 := fmc_bd (cd x)
  obtain ⟨c, hcd⟩ : ∃ c, c = cd x := ⟨_, rfl⟩
  obtain ⟨f, hf3⟩ : ∃ f, f = fmc (cd x) := ⟨_, rfl⟩
  obtain ⟨s, hs⟩ : ∃ s, s = shb x := ⟨_, rfl⟩
  have e : upp x = if s = 6 then x / 67108864 else if s = 5 then x / 33554432 else if f = 0 then x / 33554432 else 0 := by rw [hf3, hs]; rfl
  have HY := hide e
  generalize upp x = y at *
  rw [← hf3, ← hcd] at HF
  rw [← hf3] at b2
  rw [← hcd] at HC b1
  rw [← hs] at HS
  have hss : s = 0 ∨ s = 5 ∨ s = 6 := by rw [hs]; exact shb_cases x
  clear hcd hf3 e hs
  rcases hss with rfl | rfl | rfl
  · go_enter Tryz.func131, Tryz.ntmps131
    go_wp2_with fail
    refine HS.out.mono ?_
    rintro e W ⟨rfl, hW⟩
    rw [hW]
    clear hW W HS
    go_wp2_with fail
    refine HC.out.mono ?_
    rintro e W ⟨rfl, hW⟩
    rw [hW]
    clear hW W HC
    go_wp2_with fail
    refine HF.out.mono ?_
    rintro e W ⟨rfl, hW⟩
    rw [hW]
    clear hW W HF
    go_wp2
    all_goals go_ret
    all_goals go_light
    all_goals exact ⟨ret_int (by rw [HY.out]; simp_all), rfl⟩
  all_goals
    clear HC HF
    go_enter Tryz.func131, Tryz.ntmps131
    go_wp2_with fail
    refine HS.out.mono ?_
    rintro e W ⟨rfl, hW⟩
    rw [hW]
    clear hW W HS
    go_wp2
    go_ret
    go_light
    exact ⟨ret_int (by rw [HY.out]; simp), rfl⟩

theorem reg_any (x : Int) (f : Nat) (w : World) (h0 : 0 ≤ x) (h1 : x ≤ 4294967295) (hf : f ≤ 31) :
    Calls Tryz.prog 111 #[.int .u32 x, .int .u64 f] w fun e w' => e = .returned (.int .i64 (x / 2 ^ f % 32)) ∧ w' = w := by
  have hc := ifield_any x f 5 w h0 h1 hf (by decide)
  rw [show ((5 : Nat) : Int) = 5 by rfl, show (2 : Int) ^ 5 = 32 by rfl] at hc
  have HC := hide hc
  clear hc
  have b0 := Int.emod_nonneg (x / 2 ^ f) (show (32 : Int) ≠ 0 by decide)
  have b1 := Int.emod_lt_of_pos (x / 2 ^ f) (show (0 : Int) < 32 by decide)
  generalize x / 2 ^ f % 32 = y at *
  go_enter Tryz.func111, Tryz.ntmps111
  go_wp2_with fail
  refine HC.out.mono ?_
  rintro e W ⟨rfl, hW⟩
  rw [hW]
  clear hW W HC
  go_wp2
  go_ret
  exact ⟨rfl, rfl⟩

/-- What the program's table holds. -/
def Laid (w : World) : Prop := 0 < w.heap.size ∧ (∀ k : Nat, k < 66 → w.cell? ⟨0, k, none⟩ = some (.int .u32 (wd k))) ∧ True
theorem Laid.below {w w' : World} (h : Laid w) {B : Nat} (hb : Below B w w') (hB : 1 ≤ B) : Laid w' :=
  ⟨Nat.lt_of_lt_of_le h.1 hb.size, fun k hk => (hb.cell (p := ⟨0, k, none⟩) (by show 0 < B; omega)).trans (h.2.1 k hk), trivial⟩



theorem form_any (op : Int) (w : World) (h : Laid w) :
    Calls Tryz.prog 106 #[.int .i64 op] w fun e w' => e = .returned (.int .i64 (fmo op)) ∧ w' = w := by
  have HK := hide (knw_any op w)
  by_cases hk : knw op = true
  · have hr : 0 < op ∧ op < 66 := by simpa [knw] using hk
    obtain ⟨k, rfl⟩ := Int.eq_ofNat_of_zero_le (show 0 ≤ op by omega)
    have hcell := h.2.1 k (by omega)
    have bw := wd_bd k
    have HC := hide (code_any (wd k) w bw.1 bw.2)
    have bc := cd_bd (wd k)
    have HF := hide (formc_any (cd (wd k)) w bc.1 (by omega))
    have e : fmo k = fmc (cd (wd k)) := by unfold fmo; rw [if_pos hk]; rfl
    rw [e]
    rw [hk] at HK
    generalize fmc (cd (wd k)) = f at *
    generalize cd (wd k) = c at *
    generalize wd k = x at *
    clear e h hk
    have hr2 : k < 66 := by omega
    go_enter Tryz.func106, Tryz.ntmps106
    go_wp2_with fail
    refine HK.out.mono ?_
    rintro e W ⟨rfl, hW⟩
    rw [hW]
    clear hW W HK
    go_wp2_with fail
    refine HC.out.mono ?_
    rintro e W ⟨rfl, hW⟩
    rw [hW]
    clear hW W HC
    go_wp2_with fail
    refine HF.out.mono ?_
    rintro e W ⟨rfl, hW⟩
    rw [hW]
    clear hW W HF
    go_wp2
    go_ret
    exact ⟨rfl, rfl⟩
  · have hk' : knw op = false := by simpa using hk
    have e : fmo op = 6 := by unfold fmo; rw [if_neg hk]
    rw [e]
    rw [hk'] at HK
    clear hk hk' e h
    go_enter Tryz.func106, Tryz.ntmps106
    go_wp2_with fail
    refine HK.out.mono ?_
    rintro e W ⟨rfl, hW⟩
    rw [hW]
    clear hW W HK
    go_wp2
    go_ret
    exact ⟨rfl, rfl⟩



end Go.Proofs.YtdhjjlnabbpinaaGreatDoor

/- Contracts of package inst's keys, of the search by a name, of the operation that a word has. -/
namespace Go.Proofs.YtdhjjlnabbpinaaGreatDoor
open Go.RowKit
set_option linter.unusedVariables false
set_option maxRecDepth 100000

theorem key_ret {a b c a' b' c' : Int} {w w' : World} (h : a = a' ∧ b = b' ∧ c = c') (hb : Below w.heap.size w w') :
    Ending.returned (Value.agg #[.int .u32 a, .int .u32 b, .int .u32 c]) = .returned (.agg #[.int .u32 a', .int .u32 b', .int .u32 c']) ∧ Below w.heap.size w w' := by
  obtain ⟨rfl, rfl, rfl⟩ := h
  exact ⟨rfl, hb⟩

theorem key_any (x : Int) (w : World) (h0 : 0 ≤ x) (h1 : x ≤ 4294967295) :
    Calls Tryz.prog 120 #[.int .u32 x] w fun e w' => e = .returned (.agg #[.int .u32 (cd x), .int .u32 (ke2 x), .int .u32 (ke3 x)]) ∧ Below w.heap.size w w' := by
  have HF : Hid (∀ w, Calls Tryz.prog 110 #[.int .u32 x, .int .u64 12, .int .u64 3] w fun e w' => e = .returned (.int .u32 (f3 x)) ∧ w' = w) := hide (fun w => ifield_any x 12 3 w h0 h1 (by decide) (by decide))
  have HC := hide (fun w => code_any x w h0 h1)
  have HU := hide (fun w => upper_any x w h0 h1)
  have b1 := cd_bd x
  have b2 := f3_bd x
  have b3 := upp_bd h0 h1
  have HY := hide (show ke2 x = if cd x = 55 ∨ cd x = 23 ∨ cd x = 111 ∨ cd x = 115 then 0 else f3 x from rfl)
  have HZ := hide (show ke3 x = if cd x = 55 ∨ cd x = 23 ∨ cd x = 111 then 0 else if cd x = 115 then x / 128 else upp x from rfl)
  generalize ke2 x = y at *
  generalize ke3 x = z at *
  generalize cd x = c at *
  generalize f3 x = f at *
  generalize upp x = u at *
  go_enter Tryz.func120, Tryz.ntmps120
  go_wp2_with fail
  refine (HC.out _).mono ?_
  rintro e W ⟨rfl, hW⟩
  rw [hW]
  clear hW W HC
  go_wp2_with fail
  all_goals try (refine (HF.out _).mono ?_; rintro e W ⟨rfl, hW⟩; rw [hW]; clear hW W HF; go_wp2_with fail; refine (HU.out _).mono ?_; rintro e W ⟨rfl, hW⟩; rw [hW]; clear hW W HU; go_wp2)
  all_goals go_returns
  all_goals go_light
  all_goals refine key_ret ⟨by simp_all, by rw [HY.out]; simp_all, by rw [HZ.out]; simp_all⟩ ?_
  all_goals go_grown

theorem str_eq (a b : ByteArray) : (a.toList == b.toList) = decide (a = b) := by
  rw [ByteArray.toList_eq, ByteArray.toList_eq, Bool.eq_iff_iff]
  simp only [beq_iff_eq, decide_eq_true_eq]
  constructor
  · intro h; exact ByteArray.ext (Array.toList_inj.1 h)
  · rintro rfl; rfl
theorem str_yes {a b : ByteArray} (h : a = b) : (a.toList == b.toList) = true := by rw [str_eq]; simp [h]
theorem str_no {a b : ByteArray} (h : a ≠ b) : (a.toList == b.toList) = false := by rw [str_eq]; simp [h]

/-- What a search by a name tells. -/
def FindIs (s : ByteArray) (e : Ending) : Prop :=
  (∃ k : Nat, 1 ≤ k ∧ k < 66 ∧ nm k = s ∧ e = .returned (.tuple #[.int .i64 k, .bool true])) ∨ ((∀ k : Nat, 1 ≤ k → k < 66 → nm k ≠ s) ∧ e = .returned (.tuple #[.int .i64 0, .bool false]))



theorem laidOut : laidOutB Tryz.prog = true := by kernel_rfl
theorem rowKey : (153 : TypeId) < Tryz.prog.types.size := of_decide_eq_true (by kernel_rfl)
theorem wideKey : (match Tryz.prog.underlying 153 with | some (.array _ _) | some (.struct _) => true | _ => false) = true := by kernel_rfl
theorem lawKey : Maps.Keyed Tryz.prog 153 := Maps.Keyed.of_law (deep_law_laid laidOut (m := 3) (by omega) rowKey (by kernel_rfl) wideKey)
theorem isKey : Tryz.prog.keyType 153 = true := by kernel_rfl
theorem zeroInt (w : World) : (zeroValue 3).run Tryz.prog w = .ok (.int .i64 0) w := by kernel_rfl

theorem cellsKey : Tryz.prog.cellsOf 153 = 3 := by kernel_rfl
theorem cellsU : Tryz.prog.cellsOf 48 = 1 := by kernel_rfl

/-- What a key reads as. -/
def kv (a b c : Int) : Value := .agg #[.int .u32 a, .int .u32 b, .int .u32 c]
noncomputable def kl (a b c : Int) : Lit := (keyOf Tryz.prog 153 (kv a b c)).getD (.bool false)
theorem wf_u32 {a : Int} (h0 : 0 ≤ a) (h1 : a ≤ 4294967295) : (Lit.int .u32 a).wf = true := by simp [Lit.wf, IntKind.min, IntKind.max, IntKind.signed, IntKind.bits]; omega
theorem kl_of {a b c : Int} (a0 : 0 ≤ a) (a1 : a ≤ 4294967295) (b0 : 0 ≤ b) (b1 : b ≤ 4294967295) (c0 : 0 ≤ c) (c1 : c ≤ 4294967295) : keyOf Tryz.prog 153 (kv a b c) = some (kl a b c) := by
  have wa := wf_u32 a0 a1
  have wb := wf_u32 b0 b1
  have wc := wf_u32 c0 c1
  have h : ∃ l, keyOf Tryz.prog 153 (kv a b c) = some l := by
    obtain ⟨m, hm⟩ : ∃ m, Tryz.prog.types.size = m + 1 := ⟨Tryz.prog.types.size - 1, (Nat.succ_pred_eq_of_pos (Nat.lt_of_le_of_lt (Nat.zero_le _) rowKey)).symm⟩
    unfold keyOf kv
    simp only [Tryz.underlying153]
    rw [if_pos (by simp [isKey, Value.formed, Tryz.underlying153, cellsKey]), hm]
    unfold Program.keyLits
    simp only [Tryz.underlying153, Value.cells]
    rw [if_pos (by rw [cellsKey]; exact ⟨rfl, by simp⟩)]
    simp [cellsU, Program.keyLits, Tryz.underlying48, wa, wb, wc]
  obtain ⟨l, hl⟩ := h
  unfold kl
  rw [hl]; rfl

end Go.Proofs.YtdhjjlnabbpinaaGreatDoor

/- The contract of package inst's operation: which operation a word is, found by a map of keys. -/
namespace Go.Proofs.YtdhjjlnabbpinaaGreatDoor
open Go.RowKit Go.Maps
set_option linter.unusedVariables false
set_option maxRecDepth 100000

theorem kl_inj {a b c a' b' c' : Int} (ha : 0 ≤ a ∧ a ≤ 4294967295) (hb : 0 ≤ b ∧ b ≤ 4294967295) (hc : 0 ≤ c ∧ c ≤ 4294967295) (ha' : 0 ≤ a' ∧ a' ≤ 4294967295) (hb' : 0 ≤ b' ∧ b' ≤ 4294967295) (hc' : 0 ≤ c' ∧ c' ≤ 4294967295)
    (h : kl a b c = kl a' b' c') : a = a' ∧ b = b' ∧ c = c' := by
  have h1 := kl_of ha.1 ha.2 hb.1 hb.2 hc.1 hc.2
  have h2 := kl_of ha'.1 ha'.2 hb'.1 hb'.2 hc'.1 hc'.2
  rw [← h] at h2
  have := lawKey.inj h1 h2
  simpa [kv] using this

noncomputable def kx (x : Int) : Lit := kl (cd x) (ke2 x) (ke3 x)
theorem kx_of {x : Int} (h0 : 0 ≤ x) (h1 : x ≤ 4294967295) : keyOf Tryz.prog 153 (kv (cd x) (ke2 x) (ke3 x)) = some (kx x) := by
  have b1 := cd_bd x
  have b2 := ke2_bd x
  have b3 := ke3_bd h0 h1
  exact kl_of b1.1 (by omega) b2.1 (by omega) b3.1 (by omega)
theorem kx_inj {x y : Int} (h0 : 0 ≤ x) (h1 : x ≤ 4294967295) (g0 : 0 ≤ y) (g1 : y ≤ 4294967295) (h : kx x = kx y) : cd x = cd y ∧ ke2 x = ke2 y ∧ ke3 x = ke3 y := by
  have b1 := cd_bd x
  have b2 := ke2_bd x
  have b3 := ke3_bd h0 h1
  have c1 := cd_bd y
  have c2 := ke2_bd y
  have c3 := ke3_bd g0 g1
  exact kl_inj ⟨b1.1, by omega⟩ ⟨b2.1, by omega⟩ ⟨b3.1, by omega⟩ ⟨c1.1, by omega⟩ ⟨c2.1, by omega⟩ ⟨c3.1, by omega⟩ h

/-- The map behind the first n operations. -/
noncomputable def Cm (x : Int) : Nat → DataW Unit
  | 0 => .map []
  | n + 1 => if cd (wd (n + 1)) = cd x ∧ ke3 (wd (n + 1)) = ke3 x then (Cm x n).put (kx (wd (n + 1))) (.lit (.int .i64 ((n + 1 : Nat) : Int))) else Cm x n

theorem Cm_map (x : Int) : ∀ n, IsMap (Cm x n)
  | 0 => isMap_empty
  | n + 1 => by unfold Cm; split; exact (Cm_map x n).put _ _; exact Cm_map x n

theorem keys_apart : ∀ j, j < 66 → ∀ k, k < 66 → (cd (wd j) = cd (wd k) ∧ ke2 (wd j) = ke2 (wd k) ∧ ke3 (wd j) = ke3 (wd k) ∧ 1 ≤ j ∧ 1 ≤ k) → j = k := by decide +kernel
theorem Mt_one {x : Int} {j k : Nat} (hj : 1 ≤ j) (hj' : j < 66) (hk : 1 ≤ k) (hk' : k < 66) (h : Mt j x) (h' : Mt k x) : j = k :=
  keys_apart j hj' k hk' ⟨h.1.trans h'.1.symm, h.2.1.trans h'.2.1.symm, h.2.2.trans h'.2.2.symm, hj, hk⟩

theorem kx_key {x : Int} (h0 : 0 ≤ x) (h1 : x ≤ 4294967295) : WideAt.IsKeyLit (kx x) := lawKey.key (kx_of h0 h1)

theorem Cm_none {x : Int} (h0 : 0 ≤ x) (h1 : x ≤ 4294967295) : ∀ n, (∀ j, 1 ≤ j → j ≤ n → ¬ Mt j x) → Maps.has (Cm x n) (kx x) = false
  | 0, _ => rfl
  | n + 1, h => by
    have ih := Cm_none h0 h1 n (fun j h2 h3 => h j h2 (by omega))
    unfold Cm
    split
    · rename_i hc
      rw [has_put_other, ih]
      intro he
      have := kx_inj (wd_bd (n + 1)).1 (wd_bd (n + 1)).2 h0 h1 he.symm
      exact h (n + 1) (by omega) (by omega) this
    · exact ih
theorem Cm_one {x : Int} (h0 : 0 ≤ x) (h1 : x ≤ 4294967295) {k : Nat} (hk : 1 ≤ k) (hM : Mt k x) : ∀ n, k ≤ n → n < 66 → Maps.has (Cm x n) (kx x) = true ∧ (Cm x n).atKey (kx x) (.lit (.int .i64 0)) = .lit (.int .i64 k)
  | 0, h, _ => by omega
  | n + 1, h, h' => by
    by_cases he : k = n + 1
    · subst he
      have e : kx (wd (n + 1)) = kx x := by unfold kx; rw [hM.1, hM.2.1, hM.2.2]
      unfold Cm
      rw [if_pos ⟨hM.1, hM.2.2⟩, e]
      exact ⟨has_put_same (Cm_map x n) (kx_key h0 h1) _, atKey_put_same (Cm_map x n) (kx_key h0 h1) _ _⟩
    · have ih := Cm_one h0 h1 hk hM n (by omega) (by omega)
      unfold Cm
      split
      · have hne : kx x ≠ kx (wd (n + 1)) := fun e => by
          have := kx_inj (wd_bd (n + 1)).1 (wd_bd (n + 1)).2 h0 h1 e.symm
          exact he (Mt_one hk (by omega) (by omega) (by omega) hM this)
        rw [has_put_other hne, atKey_put_other hne]
        exact ih
      · exact ih

/-- Which operation a word is; 0: none. -/
def IsOp (x : Int) (o : Nat) : Prop := (o = 0 ∧ ∀ j, 1 ≤ j → j < 66 → ¬ Mt j x) ∨ (1 ≤ o ∧ o < 66 ∧ Mt o x)
theorem isOp_ex (x : Int) : ∃ o, IsOp x o := by
  by_cases h : ∃ j, 1 ≤ j ∧ j < 66 ∧ Mt j x
  · obtain ⟨j, h1, h2, h3⟩ := h
    exact ⟨j, Or.inr ⟨h1, h2, h3⟩⟩
  · exact ⟨0, Or.inl ⟨rfl, fun j h1 h2 h3 => h ⟨j, h1, h2, h3⟩⟩⟩
theorem IsOp.has {x : Int} (h0 : 0 ≤ x) (h1 : x ≤ 4294967295) {o : Nat} (h : IsOp x o) : Maps.has (Cm x 65) (kx x) = decide (o ≠ 0) ∧ (Cm x 65).atKey (kx x) (.lit (.int .i64 0)) = .lit (.int .i64 o) := by
  rcases h with ⟨rfl, h⟩ | ⟨h2, h3, h4⟩
  · have := Cm_none h0 h1 65 (fun j h2 h3 => h j h2 (by omega))
    exact ⟨by rw [this]; rfl, atKey_of_not_has this _⟩
  · have := Cm_one h0 h1 h2 h4 65 (by omega) (by omega)
    exact ⟨by rw [this.1]; simp; omega, this.2⟩

theorem cell_alloc {W : World} {o : Obj} {p : Addr} {v : Value} (h : W.cell? p = some v) : (W.alloc o).cell? p = some v := (World.cell?_alloc_lt _ _ _ (World.block_lt_of_cell? _ _ h)).trans h
theorem cell_grown {W W' : World} {b : Nat} (hg : W.grownBy W' (some b)) {p : Addr} {v : Value} (h : W.cell? p = some v) (hp : p.block ≠ b) : W'.cell? p = some v :=
  (World.cell?_of_block (w := W) (hg.block p.block (World.block_lt_of_cell? _ _ h) (fun e => hp (Option.some.inj e)))).trans h

set_option maxHeartbeats 1600000 in
theorem op_any (x : Int) (o : Nat) (w : World) (h0 : 0 ≤ x) (h1 : x ≤ 4294967295) (ho : IsOp x o) (hL : Laid w) :
    Calls Tryz.prog 105 #[.int .u32 x] w fun e w' => e = .returned (.tuple #[.int .i64 o, .bool (decide (o ≠ 0))]) ∧ Below w.heap.size w w' := by
  have hmm := @run_makeMap Tryz.prog
  have HK := hide (fun w => key_any x w h0 h1)
  have HKX := hide (kx_of h0 h1)
  have HH := hide (ho.has h0 h1)
  have HCM := hide (show ∀ n, Cm x (n + 1) = if cd (wd (n + 1)) = cd x ∧ ke3 (wd (n + 1)) = ke3 x then (Cm x n).put (kx (wd (n + 1))) (.lit (.int .i64 ((n + 1 : Nat) : Int))) else Cm x n from fun n => rfl)
  have HC0 := hide (show Cm x 0 = .map [] from rfl)
  have b1 := cd_bd x
  have b2 := ke2_bd x
  have b3 := ke3_bd h0 h1
  have HL := hide hL
  clear hL ho
  generalize Cm x = C at *
  generalize kx x = l at *
  generalize cd x = c at *
  generalize ke2 x = f at *
  generalize ke3 x = u at *
  go_enter Tryz.func105, Tryz.ntmps105
  go_wp2_with fail
  refine (HK.out _).mono ?_
  rintro e W1 ⟨rfl, hB1⟩
  have HB1 := hide hB1
  clear hB1 HK
  go_wp2
  go_loopw [6] (fun i wr => ∃ k : Nat, 1 ≤ k ∧ k ≤ 66 ∧ i = .int .i64 k ∧ wr.ownsMap Tryz.prog 153 (plainElem Tryz.prog 3) (W1.heap.size + 1) (k - 1) (C (k - 1)) ∧ wr.cell? ⟨W1.heap.size, 0, none⟩ = some (.int .u32 c) ∧
      wr.cell? ⟨W1.heap.size, 1, none⟩ = some (.int .u32 f) ∧ wr.cell? ⟨W1.heap.size, 2, none⟩ = some (.int .u32 u) ∧ Below w.heap.size w wr ∧ W1.heap.size + 1 < wr.heap.size)
    (fun i _ => 66 - (intOf i).toNat)
  case atStart =>
    refine ⟨1, by decide, by decide, rfl, ?_, by go_simp, by go_simp, by go_simp, ?_, by simp⟩
    · rw [HC0.out]
      have := World.ownsMap_made (H := Unit) (W1.alloc (.cells #[.int .u32 c, .int .u32 f, .int .u32 u] 153)) Tryz.prog 153 (plainElem Tryz.prog 3)
      simpa using this
    · exact (HB1.out.alloc HB1.out.size _).alloc (by have := HB1.out.size; simp; omega) _
  case round =>
    obtain ⟨k, hk1, hk, rfl, hown, q0, q1, q2, hbel, hsz⟩ := hrel
    have HO := hide hown
    have HB := hide hbel
    have HW := hide (HL.out.below hbel HL.out.1)
    clear hown hbel
    by_cases hlt : k < 66
    · have hlt' : (k : Int) < 66 := by omega
      have hcell := HW.out.2.1 k hlt
      obtain ⟨y, hy⟩ : ∃ y, y = wd k := ⟨_, rfl⟩
      have bw := wd_bd k
      rw [← hy] at hcell bw
      have HY := hide hy
      clear hy
      have HC := hide (fun w => code_any y w bw.1 bw.2)
      have HK := hide (fun w => key_any y w bw.1 bw.2)
      have HKY := hide (kx_of bw.1 bw.2)
      have c1 := cd_bd y
      have c2 := ke2_bd y
      have c3 := ke3_bd bw.1 bw.2
      have HN : Hid (C k = if cd y = c ∧ ke3 y = u then (C (k - 1)).put (kx y) (.lit (.int .i64 (k : Int))) else C (k - 1)) := by
        have := HCM.out (k - 1)
        rw [show k - 1 + 1 = k by omega, ← HY.out] at this
        exact this
      generalize kx y = ly at *
      generalize cd y = cy at *
      generalize ke2 y = fy at *
      generalize ke3 y = uy at *
      by_cases he : cy = c
      · have he' : (cy == c) = true := by simp [he]
        have HE := hide he
        clear he
        go_wp2_with fail
        go_quiet (first | (go_at_call 121; refine Calls.quiet_of_same (HC.out _)))
        clear HC
        go_wp2_with fail
        refine (HK.out _).mono ?_
        rintro e W2 ⟨rfl, hB2⟩
        have hB3 : Below wr.heap.size wr W2 := Below.trans (b := wr.drewN nq) ⟨rfl, rfl, rfl, Nat.le_refl _, fun _ _ => rfl⟩ hB2
        have hs2 := hB3.size
        have p0 := (hB3.cell (p := ⟨W1.heap.size, 0, none⟩) (by show W1.heap.size < _; omega)).trans q0
        have p1 := (hB3.cell (p := ⟨W1.heap.size, 1, none⟩) (by show W1.heap.size < _; omega)).trans q1
        have p2 := (hB3.cell (p := ⟨W1.heap.size, 2, none⟩) (by show W1.heap.size < _; omega)).trans q2
        have hm : W1.heap.size < W2.heap.size := by omega
        have HB2 := hide hB3
        clear hB2 hB3 HK
        have hown2 : (W2.alloc (.cells #[.int .u32 cy, .int .u32 fy, .int .u32 uy] 153)).ownsMap Tryz.prog 153 (plainElem Tryz.prog 3) (W1.heap.size + 1) (k - 1) (C (k - 1)) :=
          (HO.out.kept (row := none) (w' := W2) ⟨HB2.out.os, HB2.out.tape, HB2.out.output, HB2.out.size, fun i hi _ => HB2.out.block i hi⟩ (by simp)).alloc _
        have HO2 := hide hown2
        clear hown2
        by_cases hu : uy = u
        · have hu' : (uy == u) = true := by simp [hu]
          have HU := hide hu
          clear hu
          go_wp2_with (first
            | (at_mapUpdate; refine wpList_mapUpdate_own _ rfl _ _ _ 155 rfl 153 3 lawKey Tryz.underlying155 _ (W1.heap.size + 1) (k - 1) _ rfl HO2.out (by unfold maxLen; omega) _ _ ly rfl rfl HKY.out _ [] (plainElem_int Tryz.underlying3 (WalkArith.wf_i64 (by omega))) ?_; intro w1 hown1 hgrow1)
            | go_in)
          have g2 := hgrow1.size
          simp at g2
          have s1 := HB1.out.size
          go_roundw
          case rel =>
            refine ⟨k + 1, by omega, by omega, by go_num, ?_, cell_grown hgrow1 (cell_alloc p0) (by simp), cell_grown hgrow1 (cell_alloc p1) (by simp), cell_grown hgrow1 (cell_alloc p2) (by simp), ?_, by omega⟩
            · rw [show k + 1 - 1 = k by omega, HN.out, if_pos ⟨HE.out, HU.out⟩]
              rw [show k - 1 + 1 = k by omega] at hown1
              exact hown1
            · have hb := HB.out
              have := hb.size
              exact (((hb.trans (HB2.out.mono this)).alloc (by omega) _).grown hgrow1 (by simp; omega) (fun j hj => by cases hj; omega))
          case measure => simp [intOf]; omega
        · have hu' : (uy == u) = false := by simp [hu]
          have HU := hide hu
          clear hu
          go_wp2
          go_roundw
          case rel =>
            refine ⟨k + 1, by omega, by omega, by go_num, ?_, cell_alloc p0, cell_alloc p1, cell_alloc p2, ?_, by simp; omega⟩
            · rw [show k + 1 - 1 = k by omega, HN.out, if_neg (fun h => HU.out h.2)]
              exact HO2.out.mono (by omega)
            · have hb := HB.out
              have := hb.size
              exact (hb.trans (HB2.out.mono this)).alloc (by omega) _
          case measure => simp [intOf]; omega
      · have he' : (cy == c) = false := by simp [he]
        have HE := hide he
        clear he
        go_wp2_with fail
        go_quiet (first | (go_at_call 121; refine Calls.quiet_of_same (HC.out _)))
        go_wp2
        go_roundw
        case rel =>
          refine ⟨k + 1, by omega, by omega, by go_num, ?_, q0, q1, q2, HB.out.trans ⟨rfl, rfl, rfl, Nat.le_refl _, fun _ _ => rfl⟩, hsz⟩
          rw [show k + 1 - 1 = k by omega, HN.out, if_neg (fun h => HE.out h.1)]
          exact HO.out.mono (by omega)
        case measure => simp [intOf]; omega
    · have : k = 66 := by omega
      subst this
      go_wp2_with (first
        | (at_lookup; refine wpList_lookup_own_ok_int _ rfl _ _ 155 rfl 153 3 .i64 lawKey Tryz.underlying155 Tryz.underlying3 (zeroInt _) (W1.heap.size + 1) 65 (C 65) rfl HO.out (kv c f u) l rfl HKX.out ?_; intro c' hat hwc)
        | go_in)
      go_ret2
      have hh := HH.out
      rw [hat] at hh
      have hc : c' = (o : Int) := by
        have := hh.2
        injection this with this
        injection this
      rw [hc, hh.1]
      exact ⟨rfl, HB.out⟩

end Go.Proofs.YtdhjjlnabbpinaaGreatDoor

/- The contract of package inst's Decode. -/
namespace Go.Proofs.YtdhjjlnabbpinaaGreatDoor
open Go.RowKit Go.Maps
set_option linter.unusedVariables false
set_option maxRecDepth 100000
set_option linter.unusedSimpArgs false

/-- The fields of an instruction, by its form, of its word. -/
def rdO (f x : Int) : Int := if hasD f = true then x / 2 ^ 7 % 32 else 0
def r1O (f x : Int) : Int := if has1 f = true then x / 2 ^ 15 % 32 else 0
def r2O (f x : Int) : Int := if has2 f = true then x / 2 ^ 20 % 32 else 0
def imO (f x : Int) : Int := if shb x = 6 then x / 2 ^ 20 % 2 ^ 6 else if shb x = 5 then x / 2 ^ 20 % 2 ^ 5 else getOf f x
def inst (o r1 r2 r3 i : Int) : Value := .agg #[.int .i64 o, .int .i64 r1, .int .i64 r2, .int .i64 r3, .int .i64 i]

theorem has_cases (f : Int) : (hasD f = true ∧ has1 f = true ∧ has2 f = true) ∨ (hasD f = true ∧ has1 f = true ∧ has2 f = false) ∨ (hasD f = false ∧ has1 f = true ∧ has2 f = true) ∨ (hasD f = true ∧ has1 f = false ∧ has2 f = false) ∨ (hasD f = false ∧ has1 f = false ∧ has2 f = false) := by
  unfold hasD has1 has2
  simp only [decide_eq_true_eq, decide_eq_false_iff_not]
  omega

set_option maxHeartbeats 3200000 in
theorem dec_none (x : Int) (w : World) (h0 : 0 ≤ x) (h1 : x ≤ 4294967295) (ho : IsOp x 0) (hL : Laid w) :
    Calls Tryz.prog 72 #[.int .u32 x] w fun e w' => e = .returned (.tuple #[inst 0 0 0 0 0, .bool false]) ∧ Below w.heap.size w w' := by
  have HO := hide (fun w hL => op_any x 0 w h0 h1 ho hL)
  have HL := hide hL
  clear hL ho
  go_enter Tryz.func72, Tryz.ntmps72
  go_wp2_with fail
  refine (HO.out _ (HL.out.below ((Below.refl _ _).alloc (Nat.le_refl _) _) HL.out.1)).mono ?_
  rintro e W1 ⟨rfl, hB1⟩
  have hlt : w.heap.size < W1.heap.size := by have := hB1.size; simp at this; omega
  have q0 : W1.cell? ⟨w.heap.size, 0, none⟩ = some (.int .i64 0) := (hB1.cell (p := ⟨w.heap.size, 0, none⟩) (by simp)).trans (by simp)
  have q1 : W1.cell? ⟨w.heap.size, 1, none⟩ = some (.int .i64 0) := (hB1.cell (p := ⟨w.heap.size, 1, none⟩) (by simp)).trans (by simp)
  have q2 : W1.cell? ⟨w.heap.size, 2, none⟩ = some (.int .i64 0) := (hB1.cell (p := ⟨w.heap.size, 2, none⟩) (by simp)).trans (by simp)
  have q3 : W1.cell? ⟨w.heap.size, 3, none⟩ = some (.int .i64 0) := (hB1.cell (p := ⟨w.heap.size, 3, none⟩) (by simp)).trans (by simp)
  have q4 : W1.cell? ⟨w.heap.size, 4, none⟩ = some (.int .i64 0) := (hB1.cell (p := ⟨w.heap.size, 4, none⟩) (by simp)).trans (by simp)
  have z : ∀ j, W1.frozen? ⟨w.heap.size, j, none⟩ = false := fun j => (hB1.frozen (p := ⟨w.heap.size, j, none⟩) (by simp)).trans (by simp)
  have z0 := z 0
  have z1 := z 1
  have z2 := z 2
  have z3 := z 3
  have z4 := z 4
  have HB : Hid (Below w.heap.size w W1) := hide (((Below.refl _ w).alloc (Nat.le_refl _) _).trans (hB1.mono (by simp)))
  clear hB1 z HO HL
  go_wp2
  refine bodyPost_ret (v := .tuple #[inst 0 0 0 0 0, .bool false]) (by simp [results, Tryz.results72, go_sem, inst, q0, q1, q2, q3, q4, hlt]) rfl ⟨rfl, ?_⟩
  have hb := HB.out
  clear HB
  go_grown

set_option maxHeartbeats 400000 in
theorem dec_0_0 (x f g yi y0 y1 y2 : Int) (o : Nat) (w : World) (h0 : 0 ≤ x) (h1 : x ≤ 4294967295) (ho : 1 ≤ o) (ho' : o < 66) (bi : 0 ≤ yi ∧ yi ≤ 63)
    (HO : Hid (∀ w, Laid w → Calls Tryz.prog 105 #[.int .u32 x] w fun e w' => e = .returned (.tuple #[.int .i64 o, .bool true]) ∧ Below w.heap.size w w'))
    (HL : Hid (Laid w))
    (HF : Hid (∀ w, Laid w → Calls Tryz.prog 106 #[.int .i64 o] w fun e w' => e = .returned (.int .i64 f) ∧ w' = w))
    (HS : Hid (∀ w, Calls Tryz.prog 107 #[.int .i64 f] w fun e w' => e = .returned (.agg #[.bool true, .bool true, .bool true]) ∧ w' = w.alloc (.cells #[.bool true, .bool true, .bool true] 143)))
    (HG : Hid (∀ w, Calls Tryz.prog 108 #[.int .i64 f, .int .u32 x] w fun e w' => e = .returned (.int .i64 g) ∧ w' = w))
    (HT : Hid (∀ w, Calls Tryz.prog 109 #[.int .u32 x] w fun e w' => e = .returned (.int .u64 0) ∧ w' = w))
    (HR0 : Hid (∀ w, Calls Tryz.prog 111 #[.int .u32 x, .int .u64 7] w fun e w' => e = .returned (.int .i64 y0) ∧ w' = w))
    (HR1 : Hid (∀ w, Calls Tryz.prog 111 #[.int .u32 x, .int .u64 15] w fun e w' => e = .returned (.int .i64 y1) ∧ w' = w))
    (HR2 : Hid (∀ w, Calls Tryz.prog 111 #[.int .u32 x, .int .u64 20] w fun e w' => e = .returned (.int .i64 y2) ∧ w' = w)) :
    Calls Tryz.prog 72 #[.int .u32 x] w fun e w' => e = .returned (.tuple #[inst o y0 y1 y2 g, .bool true]) ∧ Below w.heap.size w w' := by
  go_enter Tryz.func72, Tryz.ntmps72
  go_wp2_with fail
  refine (HO.out _ (HL.out.below ((Below.refl _ _).alloc (Nat.le_refl _) _) HL.out.1)).mono ?_
  rintro e W1 ⟨rfl, hB1⟩
  have hlt : w.heap.size < W1.heap.size := by have := hB1.size; simp at this; omega
  have hlt1 : w.heap.size < W1.heap.size + 1 := by omega
  have hlt2 : w.heap.size < W1.heap.size + 1 + 1 := by omega
  have q0 : W1.cell? ⟨w.heap.size, 0, none⟩ = some (.int .i64 0) := (hB1.cell (p := ⟨w.heap.size, 0, none⟩) (by simp)).trans (by simp)
  have q1 : W1.cell? ⟨w.heap.size, 1, none⟩ = some (.int .i64 0) := (hB1.cell (p := ⟨w.heap.size, 1, none⟩) (by simp)).trans (by simp)
  have q2 : W1.cell? ⟨w.heap.size, 2, none⟩ = some (.int .i64 0) := (hB1.cell (p := ⟨w.heap.size, 2, none⟩) (by simp)).trans (by simp)
  have q3 : W1.cell? ⟨w.heap.size, 3, none⟩ = some (.int .i64 0) := (hB1.cell (p := ⟨w.heap.size, 3, none⟩) (by simp)).trans (by simp)
  have q4 : W1.cell? ⟨w.heap.size, 4, none⟩ = some (.int .i64 0) := (hB1.cell (p := ⟨w.heap.size, 4, none⟩) (by simp)).trans (by simp)
  have z : ∀ j, W1.frozen? ⟨w.heap.size, j, none⟩ = false := fun j => (hB1.frozen (p := ⟨w.heap.size, j, none⟩) (by simp)).trans (by simp)
  have z0 := z 0
  have z1 := z 1
  have z2 := z 2
  have z3 := z 3
  have z4 := z 4
  have HB : Hid (Below w.heap.size w W1) := hide (((Below.refl _ w).alloc (Nat.le_refl _) _).trans (hB1.mono (by simp)))
  have HL1 := hide (HL.out.below HB.out HL.out.1)
  clear hB1 z HO HL
  go_wp2_with fail
  refine (HF.out _ HL1.out).mono ?_
  rintro e W ⟨rfl, hW⟩
  rw [hW]
  clear hW W HF HL1
  go_wp2_with fail
  refine (HS.out _).mono ?_
  rintro e W ⟨rfl, hW⟩
  rw [hW]
  clear hW W HS
  go_wp2_with fail
  refine (HG.out _).mono ?_
  rintro e W ⟨rfl, hW⟩
  rw [hW]
  clear hW W HG
  go_wp2_with fail
  refine (HT.out _).mono ?_
  rintro e W3 ⟨rfl, hW⟩
  have c0 : W3.cell? ⟨W1.heap.size + 1 + 1, 0, none⟩ = some (.int .i64 o) := by rw [hW]; go_simp
  have y0' : W3.frozen? ⟨W1.heap.size + 1 + 1, 0, none⟩ = false := by rw [hW]; go_simp
  have p0 : W3.cell? ⟨w.heap.size, 0, none⟩ = some (.int .i64 0) := by rw [hW]; exact cell_alloc (cell_alloc (cell_alloc q0))
  have u0 : W3.frozen? ⟨w.heap.size, 0, none⟩ = false := by rw [hW]; go_simp
  have c1 : W3.cell? ⟨W1.heap.size + 1 + 1, 1, none⟩ = some (.int .i64 0) := by rw [hW]; go_simp
  have y1' : W3.frozen? ⟨W1.heap.size + 1 + 1, 1, none⟩ = false := by rw [hW]; go_simp
  have p1 : W3.cell? ⟨w.heap.size, 1, none⟩ = some (.int .i64 0) := by rw [hW]; exact cell_alloc (cell_alloc (cell_alloc q1))
  have u1 : W3.frozen? ⟨w.heap.size, 1, none⟩ = false := by rw [hW]; go_simp
  have c2 : W3.cell? ⟨W1.heap.size + 1 + 1, 2, none⟩ = some (.int .i64 0) := by rw [hW]; go_simp
  have y2' : W3.frozen? ⟨W1.heap.size + 1 + 1, 2, none⟩ = false := by rw [hW]; go_simp
  have p2 : W3.cell? ⟨w.heap.size, 2, none⟩ = some (.int .i64 0) := by rw [hW]; exact cell_alloc (cell_alloc (cell_alloc q2))
  have u2 : W3.frozen? ⟨w.heap.size, 2, none⟩ = false := by rw [hW]; go_simp
  have c3 : W3.cell? ⟨W1.heap.size + 1 + 1, 3, none⟩ = some (.int .i64 0) := by rw [hW]; go_simp
  have y3' : W3.frozen? ⟨W1.heap.size + 1 + 1, 3, none⟩ = false := by rw [hW]; go_simp
  have p3 : W3.cell? ⟨w.heap.size, 3, none⟩ = some (.int .i64 0) := by rw [hW]; exact cell_alloc (cell_alloc (cell_alloc q3))
  have u3 : W3.frozen? ⟨w.heap.size, 3, none⟩ = false := by rw [hW]; go_simp
  have c4 : W3.cell? ⟨W1.heap.size + 1 + 1, 4, none⟩ = some (.int .i64 g) := by rw [hW]; go_simp
  have y4' : W3.frozen? ⟨W1.heap.size + 1 + 1, 4, none⟩ = false := by rw [hW]; go_simp
  have p4 : W3.cell? ⟨w.heap.size, 4, none⟩ = some (.int .i64 0) := by rw [hW]; exact cell_alloc (cell_alloc (cell_alloc q4))
  have u4 : W3.frozen? ⟨w.heap.size, 4, none⟩ = false := by rw [hW]; go_simp
  have s0 : W3.cell? ⟨W1.heap.size + 1, 0, none⟩ = some (.bool true) := by rw [hW]; go_simp
  have s1 : W3.cell? ⟨W1.heap.size + 1, 1, none⟩ = some (.bool true) := by rw [hW]; go_simp
  have s2 : W3.cell? ⟨W1.heap.size + 1, 2, none⟩ = some (.bool true) := by rw [hW]; go_simp
  have HB3 : Hid (Below w.heap.size w W3) := hide (by rw [hW]; exact ((HB.out.alloc (by omega) _).alloc (by simp; omega) _).alloc (by simp; omega) _)
  have hs3 : W3.heap.size = W1.heap.size + 1 + 1 + 1 := by rw [hW]; simp
  clear hW HT HB q0 q1 q2 q3 q4 z0 z1 z2 z3 z4
  generalize hb2 : W1.heap.size + 1 + 1 = b2 at *
  generalize hb1 : W1.heap.size + 1 = b1 at *
  have n1 : w.heap.size < b2 := by omega
  have n2 : w.heap.size ≠ b2 := by omega
  have n3 : b2 ≠ w.heap.size := by omega
  have n4 : b2 < W3.heap.size := by omega
  have n5 : b1 ≠ b2 := by omega
  have n6 : b2 ≠ b1 := by omega
  clear hlt hlt1 hlt2 hs3 hb1 hb2
  go_wp2_with fail
  refine (HR0.out _).mono ?_
  rintro e W ⟨rfl, hW⟩
  rw [hW]
  clear hW W HR0
  go_wp2_with fail
  refine (HR1.out _).mono ?_
  rintro e V1 ⟨rfl, hW⟩
  have c0_1 : V1.cell? ⟨b2, 0, none⟩ = some (.int .i64 o) := by rw [hW]; go_simp
  have y0_1 : V1.frozen? ⟨b2, 0, none⟩ = false := by rw [hW]; go_simp
  have p0_1 : V1.cell? ⟨w.heap.size, 0, none⟩ = some (.int .i64 0) := by rw [hW]; go_simp
  have u0_1 : V1.frozen? ⟨w.heap.size, 0, none⟩ = false := by rw [hW]; go_simp
  have c1_1 : V1.cell? ⟨b2, 1, none⟩ = some (.int .i64 y0) := by rw [hW]; go_simp
  have y1_1 : V1.frozen? ⟨b2, 1, none⟩ = false := by rw [hW]; go_simp
  have p1_1 : V1.cell? ⟨w.heap.size, 1, none⟩ = some (.int .i64 0) := by rw [hW]; go_simp
  have u1_1 : V1.frozen? ⟨w.heap.size, 1, none⟩ = false := by rw [hW]; go_simp
  have c2_1 : V1.cell? ⟨b2, 2, none⟩ = some (.int .i64 0) := by rw [hW]; go_simp
  have y2_1 : V1.frozen? ⟨b2, 2, none⟩ = false := by rw [hW]; go_simp
  have p2_1 : V1.cell? ⟨w.heap.size, 2, none⟩ = some (.int .i64 0) := by rw [hW]; go_simp
  have u2_1 : V1.frozen? ⟨w.heap.size, 2, none⟩ = false := by rw [hW]; go_simp
  have c3_1 : V1.cell? ⟨b2, 3, none⟩ = some (.int .i64 0) := by rw [hW]; go_simp
  have y3_1 : V1.frozen? ⟨b2, 3, none⟩ = false := by rw [hW]; go_simp
  have p3_1 : V1.cell? ⟨w.heap.size, 3, none⟩ = some (.int .i64 0) := by rw [hW]; go_simp
  have u3_1 : V1.frozen? ⟨w.heap.size, 3, none⟩ = false := by rw [hW]; go_simp
  have c4_1 : V1.cell? ⟨b2, 4, none⟩ = some (.int .i64 g) := by rw [hW]; go_simp
  have y4_1 : V1.frozen? ⟨b2, 4, none⟩ = false := by rw [hW]; go_simp
  have p4_1 : V1.cell? ⟨w.heap.size, 4, none⟩ = some (.int .i64 0) := by rw [hW]; go_simp
  have u4_1 : V1.frozen? ⟨w.heap.size, 4, none⟩ = false := by rw [hW]; go_simp
  have s0_1 : V1.cell? ⟨b1, 0, none⟩ = some (.bool true) := by rw [hW]; go_simp
  have s1_1 : V1.cell? ⟨b1, 1, none⟩ = some (.bool true) := by rw [hW]; go_simp
  have s2_1 : V1.cell? ⟨b1, 2, none⟩ = some (.bool true) := by rw [hW]; go_simp
  have HV1 : Hid (Below w.heap.size w V1) := hide (by rw [hW]; exact HB3.out.setCell (by show w.heap.size ≤ b2; omega) _)
  have n4_1 : b2 < V1.heap.size := by rw [hW]; simpa using n4
  clear hW HR1 c0 c1 c2 c3 c4 y0' y1' y2' y3' y4' p0 p1 p2 p3 p4 u0 u1 u2 u3 u4 s0 s1 s2 HB3 n4
  go_wp2_with fail
  refine (HR2.out _).mono ?_
  rintro e V2 ⟨rfl, hW⟩
  have c0_2 : V2.cell? ⟨b2, 0, none⟩ = some (.int .i64 o) := by rw [hW]; go_simp
  have y0_2 : V2.frozen? ⟨b2, 0, none⟩ = false := by rw [hW]; go_simp
  have p0_2 : V2.cell? ⟨w.heap.size, 0, none⟩ = some (.int .i64 0) := by rw [hW]; go_simp
  have u0_2 : V2.frozen? ⟨w.heap.size, 0, none⟩ = false := by rw [hW]; go_simp
  have c1_2 : V2.cell? ⟨b2, 1, none⟩ = some (.int .i64 y0) := by rw [hW]; go_simp
  have y1_2 : V2.frozen? ⟨b2, 1, none⟩ = false := by rw [hW]; go_simp
  have p1_2 : V2.cell? ⟨w.heap.size, 1, none⟩ = some (.int .i64 0) := by rw [hW]; go_simp
  have u1_2 : V2.frozen? ⟨w.heap.size, 1, none⟩ = false := by rw [hW]; go_simp
  have c2_2 : V2.cell? ⟨b2, 2, none⟩ = some (.int .i64 y1) := by rw [hW]; go_simp
  have y2_2 : V2.frozen? ⟨b2, 2, none⟩ = false := by rw [hW]; go_simp
  have p2_2 : V2.cell? ⟨w.heap.size, 2, none⟩ = some (.int .i64 0) := by rw [hW]; go_simp
  have u2_2 : V2.frozen? ⟨w.heap.size, 2, none⟩ = false := by rw [hW]; go_simp
  have c3_2 : V2.cell? ⟨b2, 3, none⟩ = some (.int .i64 0) := by rw [hW]; go_simp
  have y3_2 : V2.frozen? ⟨b2, 3, none⟩ = false := by rw [hW]; go_simp
  have p3_2 : V2.cell? ⟨w.heap.size, 3, none⟩ = some (.int .i64 0) := by rw [hW]; go_simp
  have u3_2 : V2.frozen? ⟨w.heap.size, 3, none⟩ = false := by rw [hW]; go_simp
  have c4_2 : V2.cell? ⟨b2, 4, none⟩ = some (.int .i64 g) := by rw [hW]; go_simp
  have y4_2 : V2.frozen? ⟨b2, 4, none⟩ = false := by rw [hW]; go_simp
  have p4_2 : V2.cell? ⟨w.heap.size, 4, none⟩ = some (.int .i64 0) := by rw [hW]; go_simp
  have u4_2 : V2.frozen? ⟨w.heap.size, 4, none⟩ = false := by rw [hW]; go_simp
  have s0_2 : V2.cell? ⟨b1, 0, none⟩ = some (.bool true) := by rw [hW]; go_simp
  have s1_2 : V2.cell? ⟨b1, 1, none⟩ = some (.bool true) := by rw [hW]; go_simp
  have s2_2 : V2.cell? ⟨b1, 2, none⟩ = some (.bool true) := by rw [hW]; go_simp
  have HV2 : Hid (Below w.heap.size w V2) := hide (by rw [hW]; exact HV1.out.setCell (by show w.heap.size ≤ b2; omega) _)
  have n4_2 : b2 < V2.heap.size := by rw [hW]; simpa using n4_1
  clear hW HR2 c0_1 c1_1 c2_1 c3_1 c4_1 y0_1 y1_1 y2_1 y3_1 y4_1 p0_1 p1_1 p2_1 p3_1 p4_1 u0_1 u1_1 u2_1 u3_1 u4_1 s0_1 s1_1 s2_1 HV1 n4_1
  go_wp2
  refine bodyPost_ret (v := .tuple #[inst o y0 y1 y2 g, .bool true]) (by simp [results, Tryz.results72, go_sem, inst, p0_2, p1_2, p2_2, p3_2, p4_2]) rfl ⟨rfl, ?_⟩
  have hb := HV2.out
  clear HV2
  go_grown

set_option maxHeartbeats 400000 in
theorem dec_0_1 (x f g yi y0 y1 y2 : Int) (o : Nat) (w : World) (h0 : 0 ≤ x) (h1 : x ≤ 4294967295) (ho : 1 ≤ o) (ho' : o < 66) (bi : 0 ≤ yi ∧ yi ≤ 63)
    (HO : Hid (∀ w, Laid w → Calls Tryz.prog 105 #[.int .u32 x] w fun e w' => e = .returned (.tuple #[.int .i64 o, .bool true]) ∧ Below w.heap.size w w'))
    (HL : Hid (Laid w))
    (HF : Hid (∀ w, Laid w → Calls Tryz.prog 106 #[.int .i64 o] w fun e w' => e = .returned (.int .i64 f) ∧ w' = w))
    (HS : Hid (∀ w, Calls Tryz.prog 107 #[.int .i64 f] w fun e w' => e = .returned (.agg #[.bool true, .bool true, .bool false]) ∧ w' = w.alloc (.cells #[.bool true, .bool true, .bool false] 143)))
    (HG : Hid (∀ w, Calls Tryz.prog 108 #[.int .i64 f, .int .u32 x] w fun e w' => e = .returned (.int .i64 g) ∧ w' = w))
    (HT : Hid (∀ w, Calls Tryz.prog 109 #[.int .u32 x] w fun e w' => e = .returned (.int .u64 0) ∧ w' = w))
    (HR0 : Hid (∀ w, Calls Tryz.prog 111 #[.int .u32 x, .int .u64 7] w fun e w' => e = .returned (.int .i64 y0) ∧ w' = w))
    (HR1 : Hid (∀ w, Calls Tryz.prog 111 #[.int .u32 x, .int .u64 15] w fun e w' => e = .returned (.int .i64 y1) ∧ w' = w)) :
    Calls Tryz.prog 72 #[.int .u32 x] w fun e w' => e = .returned (.tuple #[inst o y0 y1 0 g, .bool true]) ∧ Below w.heap.size w w' := by
  go_enter Tryz.func72, Tryz.ntmps72
  go_wp2_with fail
  refine (HO.out _ (HL.out.below ((Below.refl _ _).alloc (Nat.le_refl _) _) HL.out.1)).mono ?_
  rintro e W1 ⟨rfl, hB1⟩
  have hlt : w.heap.size < W1.heap.size := by have := hB1.size; simp at this; omega
  have hlt1 : w.heap.size < W1.heap.size + 1 := by omega
  have hlt2 : w.heap.size < W1.heap.size + 1 + 1 := by omega
  have q0 : W1.cell? ⟨w.heap.size, 0, none⟩ = some (.int .i64 0) := (hB1.cell (p := ⟨w.heap.size, 0, none⟩) (by simp)).trans (by simp)
  have q1 : W1.cell? ⟨w.heap.size, 1, none⟩ = some (.int .i64 0) := (hB1.cell (p := ⟨w.heap.size, 1, none⟩) (by simp)).trans (by simp)
  have q2 : W1.cell? ⟨w.heap.size, 2, none⟩ = some (.int .i64 0) := (hB1.cell (p := ⟨w.heap.size, 2, none⟩) (by simp)).trans (by simp)
  have q3 : W1.cell? ⟨w.heap.size, 3, none⟩ = some (.int .i64 0) := (hB1.cell (p := ⟨w.heap.size, 3, none⟩) (by simp)).trans (by simp)
  have q4 : W1.cell? ⟨w.heap.size, 4, none⟩ = some (.int .i64 0) := (hB1.cell (p := ⟨w.heap.size, 4, none⟩) (by simp)).trans (by simp)
  have z : ∀ j, W1.frozen? ⟨w.heap.size, j, none⟩ = false := fun j => (hB1.frozen (p := ⟨w.heap.size, j, none⟩) (by simp)).trans (by simp)
  have z0 := z 0
  have z1 := z 1
  have z2 := z 2
  have z3 := z 3
  have z4 := z 4
  have HB : Hid (Below w.heap.size w W1) := hide (((Below.refl _ w).alloc (Nat.le_refl _) _).trans (hB1.mono (by simp)))
  have HL1 := hide (HL.out.below HB.out HL.out.1)
  clear hB1 z HO HL
  go_wp2_with fail
  refine (HF.out _ HL1.out).mono ?_
  rintro e W ⟨rfl, hW⟩
  rw [hW]
  clear hW W HF HL1
  go_wp2_with fail
  refine (HS.out _).mono ?_
  rintro e W ⟨rfl, hW⟩
  rw [hW]
  clear hW W HS
  go_wp2_with fail
  refine (HG.out _).mono ?_
  rintro e W ⟨rfl, hW⟩
  rw [hW]
  clear hW W HG
  go_wp2_with fail
  refine (HT.out _).mono ?_
  rintro e W3 ⟨rfl, hW⟩
  have c0 : W3.cell? ⟨W1.heap.size + 1 + 1, 0, none⟩ = some (.int .i64 o) := by rw [hW]; go_simp
  have y0' : W3.frozen? ⟨W1.heap.size + 1 + 1, 0, none⟩ = false := by rw [hW]; go_simp
  have p0 : W3.cell? ⟨w.heap.size, 0, none⟩ = some (.int .i64 0) := by rw [hW]; exact cell_alloc (cell_alloc (cell_alloc q0))
  have u0 : W3.frozen? ⟨w.heap.size, 0, none⟩ = false := by rw [hW]; go_simp
  have c1 : W3.cell? ⟨W1.heap.size + 1 + 1, 1, none⟩ = some (.int .i64 0) := by rw [hW]; go_simp
  have y1' : W3.frozen? ⟨W1.heap.size + 1 + 1, 1, none⟩ = false := by rw [hW]; go_simp
  have p1 : W3.cell? ⟨w.heap.size, 1, none⟩ = some (.int .i64 0) := by rw [hW]; exact cell_alloc (cell_alloc (cell_alloc q1))
  have u1 : W3.frozen? ⟨w.heap.size, 1, none⟩ = false := by rw [hW]; go_simp
  have c2 : W3.cell? ⟨W1.heap.size + 1 + 1, 2, none⟩ = some (.int .i64 0) := by rw [hW]; go_simp
  have y2' : W3.frozen? ⟨W1.heap.size + 1 + 1, 2, none⟩ = false := by rw [hW]; go_simp
  have p2 : W3.cell? ⟨w.heap.size, 2, none⟩ = some (.int .i64 0) := by rw [hW]; exact cell_alloc (cell_alloc (cell_alloc q2))
  have u2 : W3.frozen? ⟨w.heap.size, 2, none⟩ = false := by rw [hW]; go_simp
  have c3 : W3.cell? ⟨W1.heap.size + 1 + 1, 3, none⟩ = some (.int .i64 0) := by rw [hW]; go_simp
  have y3' : W3.frozen? ⟨W1.heap.size + 1 + 1, 3, none⟩ = false := by rw [hW]; go_simp
  have p3 : W3.cell? ⟨w.heap.size, 3, none⟩ = some (.int .i64 0) := by rw [hW]; exact cell_alloc (cell_alloc (cell_alloc q3))
  have u3 : W3.frozen? ⟨w.heap.size, 3, none⟩ = false := by rw [hW]; go_simp
  have c4 : W3.cell? ⟨W1.heap.size + 1 + 1, 4, none⟩ = some (.int .i64 g) := by rw [hW]; go_simp
  have y4' : W3.frozen? ⟨W1.heap.size + 1 + 1, 4, none⟩ = false := by rw [hW]; go_simp
  have p4 : W3.cell? ⟨w.heap.size, 4, none⟩ = some (.int .i64 0) := by rw [hW]; exact cell_alloc (cell_alloc (cell_alloc q4))
  have u4 : W3.frozen? ⟨w.heap.size, 4, none⟩ = false := by rw [hW]; go_simp
  have s0 : W3.cell? ⟨W1.heap.size + 1, 0, none⟩ = some (.bool true) := by rw [hW]; go_simp
  have s1 : W3.cell? ⟨W1.heap.size + 1, 1, none⟩ = some (.bool true) := by rw [hW]; go_simp
  have s2 : W3.cell? ⟨W1.heap.size + 1, 2, none⟩ = some (.bool false) := by rw [hW]; go_simp
  have HB3 : Hid (Below w.heap.size w W3) := hide (by rw [hW]; exact ((HB.out.alloc (by omega) _).alloc (by simp; omega) _).alloc (by simp; omega) _)
  have hs3 : W3.heap.size = W1.heap.size + 1 + 1 + 1 := by rw [hW]; simp
  clear hW HT HB q0 q1 q2 q3 q4 z0 z1 z2 z3 z4
  generalize hb2 : W1.heap.size + 1 + 1 = b2 at *
  generalize hb1 : W1.heap.size + 1 = b1 at *
  have n1 : w.heap.size < b2 := by omega
  have n2 : w.heap.size ≠ b2 := by omega
  have n3 : b2 ≠ w.heap.size := by omega
  have n4 : b2 < W3.heap.size := by omega
  have n5 : b1 ≠ b2 := by omega
  have n6 : b2 ≠ b1 := by omega
  clear hlt hlt1 hlt2 hs3 hb1 hb2
  go_wp2_with fail
  refine (HR0.out _).mono ?_
  rintro e W ⟨rfl, hW⟩
  rw [hW]
  clear hW W HR0
  go_wp2_with fail
  refine (HR1.out _).mono ?_
  rintro e V1 ⟨rfl, hW⟩
  have c0_1 : V1.cell? ⟨b2, 0, none⟩ = some (.int .i64 o) := by rw [hW]; go_simp
  have y0_1 : V1.frozen? ⟨b2, 0, none⟩ = false := by rw [hW]; go_simp
  have p0_1 : V1.cell? ⟨w.heap.size, 0, none⟩ = some (.int .i64 0) := by rw [hW]; go_simp
  have u0_1 : V1.frozen? ⟨w.heap.size, 0, none⟩ = false := by rw [hW]; go_simp
  have c1_1 : V1.cell? ⟨b2, 1, none⟩ = some (.int .i64 y0) := by rw [hW]; go_simp
  have y1_1 : V1.frozen? ⟨b2, 1, none⟩ = false := by rw [hW]; go_simp
  have p1_1 : V1.cell? ⟨w.heap.size, 1, none⟩ = some (.int .i64 0) := by rw [hW]; go_simp
  have u1_1 : V1.frozen? ⟨w.heap.size, 1, none⟩ = false := by rw [hW]; go_simp
  have c2_1 : V1.cell? ⟨b2, 2, none⟩ = some (.int .i64 0) := by rw [hW]; go_simp
  have y2_1 : V1.frozen? ⟨b2, 2, none⟩ = false := by rw [hW]; go_simp
  have p2_1 : V1.cell? ⟨w.heap.size, 2, none⟩ = some (.int .i64 0) := by rw [hW]; go_simp
  have u2_1 : V1.frozen? ⟨w.heap.size, 2, none⟩ = false := by rw [hW]; go_simp
  have c3_1 : V1.cell? ⟨b2, 3, none⟩ = some (.int .i64 0) := by rw [hW]; go_simp
  have y3_1 : V1.frozen? ⟨b2, 3, none⟩ = false := by rw [hW]; go_simp
  have p3_1 : V1.cell? ⟨w.heap.size, 3, none⟩ = some (.int .i64 0) := by rw [hW]; go_simp
  have u3_1 : V1.frozen? ⟨w.heap.size, 3, none⟩ = false := by rw [hW]; go_simp
  have c4_1 : V1.cell? ⟨b2, 4, none⟩ = some (.int .i64 g) := by rw [hW]; go_simp
  have y4_1 : V1.frozen? ⟨b2, 4, none⟩ = false := by rw [hW]; go_simp
  have p4_1 : V1.cell? ⟨w.heap.size, 4, none⟩ = some (.int .i64 0) := by rw [hW]; go_simp
  have u4_1 : V1.frozen? ⟨w.heap.size, 4, none⟩ = false := by rw [hW]; go_simp
  have s0_1 : V1.cell? ⟨b1, 0, none⟩ = some (.bool true) := by rw [hW]; go_simp
  have s1_1 : V1.cell? ⟨b1, 1, none⟩ = some (.bool true) := by rw [hW]; go_simp
  have s2_1 : V1.cell? ⟨b1, 2, none⟩ = some (.bool false) := by rw [hW]; go_simp
  have HV1 : Hid (Below w.heap.size w V1) := hide (by rw [hW]; exact HB3.out.setCell (by show w.heap.size ≤ b2; omega) _)
  have n4_1 : b2 < V1.heap.size := by rw [hW]; simpa using n4
  clear hW HR1 c0 c1 c2 c3 c4 y0' y1' y2' y3' y4' p0 p1 p2 p3 p4 u0 u1 u2 u3 u4 s0 s1 s2 HB3 n4
  go_wp2
  refine bodyPost_ret (v := .tuple #[inst o y0 y1 0 g, .bool true]) (by simp [results, Tryz.results72, go_sem, inst, p0_1, p1_1, p2_1, p3_1, p4_1]) rfl ⟨rfl, ?_⟩
  have hb := HV1.out
  clear HV1
  go_grown

set_option maxHeartbeats 400000 in
theorem dec_0_2 (x f g yi y0 y1 y2 : Int) (o : Nat) (w : World) (h0 : 0 ≤ x) (h1 : x ≤ 4294967295) (ho : 1 ≤ o) (ho' : o < 66) (bi : 0 ≤ yi ∧ yi ≤ 63)
    (HO : Hid (∀ w, Laid w → Calls Tryz.prog 105 #[.int .u32 x] w fun e w' => e = .returned (.tuple #[.int .i64 o, .bool true]) ∧ Below w.heap.size w w'))
    (HL : Hid (Laid w))
    (HF : Hid (∀ w, Laid w → Calls Tryz.prog 106 #[.int .i64 o] w fun e w' => e = .returned (.int .i64 f) ∧ w' = w))
    (HS : Hid (∀ w, Calls Tryz.prog 107 #[.int .i64 f] w fun e w' => e = .returned (.agg #[.bool false, .bool true, .bool true]) ∧ w' = w.alloc (.cells #[.bool false, .bool true, .bool true] 143)))
    (HG : Hid (∀ w, Calls Tryz.prog 108 #[.int .i64 f, .int .u32 x] w fun e w' => e = .returned (.int .i64 g) ∧ w' = w))
    (HT : Hid (∀ w, Calls Tryz.prog 109 #[.int .u32 x] w fun e w' => e = .returned (.int .u64 0) ∧ w' = w))
    (HR1 : Hid (∀ w, Calls Tryz.prog 111 #[.int .u32 x, .int .u64 15] w fun e w' => e = .returned (.int .i64 y1) ∧ w' = w))
    (HR2 : Hid (∀ w, Calls Tryz.prog 111 #[.int .u32 x, .int .u64 20] w fun e w' => e = .returned (.int .i64 y2) ∧ w' = w)) :
    Calls Tryz.prog 72 #[.int .u32 x] w fun e w' => e = .returned (.tuple #[inst o 0 y1 y2 g, .bool true]) ∧ Below w.heap.size w w' := by
  go_enter Tryz.func72, Tryz.ntmps72
  go_wp2_with fail
  refine (HO.out _ (HL.out.below ((Below.refl _ _).alloc (Nat.le_refl _) _) HL.out.1)).mono ?_
  rintro e W1 ⟨rfl, hB1⟩
  have hlt : w.heap.size < W1.heap.size := by have := hB1.size; simp at this; omega
  have hlt1 : w.heap.size < W1.heap.size + 1 := by omega
  have hlt2 : w.heap.size < W1.heap.size + 1 + 1 := by omega
  have q0 : W1.cell? ⟨w.heap.size, 0, none⟩ = some (.int .i64 0) := (hB1.cell (p := ⟨w.heap.size, 0, none⟩) (by simp)).trans (by simp)
  have q1 : W1.cell? ⟨w.heap.size, 1, none⟩ = some (.int .i64 0) := (hB1.cell (p := ⟨w.heap.size, 1, none⟩) (by simp)).trans (by simp)
  have q2 : W1.cell? ⟨w.heap.size, 2, none⟩ = some (.int .i64 0) := (hB1.cell (p := ⟨w.heap.size, 2, none⟩) (by simp)).trans (by simp)
  have q3 : W1.cell? ⟨w.heap.size, 3, none⟩ = some (.int .i64 0) := (hB1.cell (p := ⟨w.heap.size, 3, none⟩) (by simp)).trans (by simp)
  have q4 : W1.cell? ⟨w.heap.size, 4, none⟩ = some (.int .i64 0) := (hB1.cell (p := ⟨w.heap.size, 4, none⟩) (by simp)).trans (by simp)
  have z : ∀ j, W1.frozen? ⟨w.heap.size, j, none⟩ = false := fun j => (hB1.frozen (p := ⟨w.heap.size, j, none⟩) (by simp)).trans (by simp)
  have z0 := z 0
  have z1 := z 1
  have z2 := z 2
  have z3 := z 3
  have z4 := z 4
  have HB : Hid (Below w.heap.size w W1) := hide (((Below.refl _ w).alloc (Nat.le_refl _) _).trans (hB1.mono (by simp)))
  have HL1 := hide (HL.out.below HB.out HL.out.1)
  clear hB1 z HO HL
  go_wp2_with fail
  refine (HF.out _ HL1.out).mono ?_
  rintro e W ⟨rfl, hW⟩
  rw [hW]
  clear hW W HF HL1
  go_wp2_with fail
  refine (HS.out _).mono ?_
  rintro e W ⟨rfl, hW⟩
  rw [hW]
  clear hW W HS
  go_wp2_with fail
  refine (HG.out _).mono ?_
  rintro e W ⟨rfl, hW⟩
  rw [hW]
  clear hW W HG
  go_wp2_with fail
  refine (HT.out _).mono ?_
  rintro e W3 ⟨rfl, hW⟩
  have c0 : W3.cell? ⟨W1.heap.size + 1 + 1, 0, none⟩ = some (.int .i64 o) := by rw [hW]; go_simp
  have y0' : W3.frozen? ⟨W1.heap.size + 1 + 1, 0, none⟩ = false := by rw [hW]; go_simp
  have p0 : W3.cell? ⟨w.heap.size, 0, none⟩ = some (.int .i64 0) := by rw [hW]; exact cell_alloc (cell_alloc (cell_alloc q0))
  have u0 : W3.frozen? ⟨w.heap.size, 0, none⟩ = false := by rw [hW]; go_simp
  have c1 : W3.cell? ⟨W1.heap.size + 1 + 1, 1, none⟩ = some (.int .i64 0) := by rw [hW]; go_simp
  have y1' : W3.frozen? ⟨W1.heap.size + 1 + 1, 1, none⟩ = false := by rw [hW]; go_simp
  have p1 : W3.cell? ⟨w.heap.size, 1, none⟩ = some (.int .i64 0) := by rw [hW]; exact cell_alloc (cell_alloc (cell_alloc q1))
  have u1 : W3.frozen? ⟨w.heap.size, 1, none⟩ = false := by rw [hW]; go_simp
  have c2 : W3.cell? ⟨W1.heap.size + 1 + 1, 2, none⟩ = some (.int .i64 0) := by rw [hW]; go_simp
  have y2' : W3.frozen? ⟨W1.heap.size + 1 + 1, 2, none⟩ = false := by rw [hW]; go_simp
  have p2 : W3.cell? ⟨w.heap.size, 2, none⟩ = some (.int .i64 0) := by rw [hW]; exact cell_alloc (cell_alloc (cell_alloc q2))
  have u2 : W3.frozen? ⟨w.heap.size, 2, none⟩ = false := by rw [hW]; go_simp
  have c3 : W3.cell? ⟨W1.heap.size + 1 + 1, 3, none⟩ = some (.int .i64 0) := by rw [hW]; go_simp
  have y3' : W3.frozen? ⟨W1.heap.size + 1 + 1, 3, none⟩ = false := by rw [hW]; go_simp
  have p3 : W3.cell? ⟨w.heap.size, 3, none⟩ = some (.int .i64 0) := by rw [hW]; exact cell_alloc (cell_alloc (cell_alloc q3))
  have u3 : W3.frozen? ⟨w.heap.size, 3, none⟩ = false := by rw [hW]; go_simp
  have c4 : W3.cell? ⟨W1.heap.size + 1 + 1, 4, none⟩ = some (.int .i64 g) := by rw [hW]; go_simp
  have y4' : W3.frozen? ⟨W1.heap.size + 1 + 1, 4, none⟩ = false := by rw [hW]; go_simp
  have p4 : W3.cell? ⟨w.heap.size, 4, none⟩ = some (.int .i64 0) := by rw [hW]; exact cell_alloc (cell_alloc (cell_alloc q4))
  have u4 : W3.frozen? ⟨w.heap.size, 4, none⟩ = false := by rw [hW]; go_simp
  have s0 : W3.cell? ⟨W1.heap.size + 1, 0, none⟩ = some (.bool false) := by rw [hW]; go_simp
  have s1 : W3.cell? ⟨W1.heap.size + 1, 1, none⟩ = some (.bool true) := by rw [hW]; go_simp
  have s2 : W3.cell? ⟨W1.heap.size + 1, 2, none⟩ = some (.bool true) := by rw [hW]; go_simp
  have HB3 : Hid (Below w.heap.size w W3) := hide (by rw [hW]; exact ((HB.out.alloc (by omega) _).alloc (by simp; omega) _).alloc (by simp; omega) _)
  have hs3 : W3.heap.size = W1.heap.size + 1 + 1 + 1 := by rw [hW]; simp
  clear hW HT HB q0 q1 q2 q3 q4 z0 z1 z2 z3 z4
  generalize hb2 : W1.heap.size + 1 + 1 = b2 at *
  generalize hb1 : W1.heap.size + 1 = b1 at *
  have n1 : w.heap.size < b2 := by omega
  have n2 : w.heap.size ≠ b2 := by omega
  have n3 : b2 ≠ w.heap.size := by omega
  have n4 : b2 < W3.heap.size := by omega
  have n5 : b1 ≠ b2 := by omega
  have n6 : b2 ≠ b1 := by omega
  clear hlt hlt1 hlt2 hs3 hb1 hb2
  go_wp2_with fail
  refine (HR1.out _).mono ?_
  rintro e W ⟨rfl, hW⟩
  rw [hW]
  clear hW W HR1
  go_wp2_with fail
  refine (HR2.out _).mono ?_
  rintro e V1 ⟨rfl, hW⟩
  have c0_1 : V1.cell? ⟨b2, 0, none⟩ = some (.int .i64 o) := by rw [hW]; go_simp
  have y0_1 : V1.frozen? ⟨b2, 0, none⟩ = false := by rw [hW]; go_simp
  have p0_1 : V1.cell? ⟨w.heap.size, 0, none⟩ = some (.int .i64 0) := by rw [hW]; go_simp
  have u0_1 : V1.frozen? ⟨w.heap.size, 0, none⟩ = false := by rw [hW]; go_simp
  have c1_1 : V1.cell? ⟨b2, 1, none⟩ = some (.int .i64 0) := by rw [hW]; go_simp
  have y1_1 : V1.frozen? ⟨b2, 1, none⟩ = false := by rw [hW]; go_simp
  have p1_1 : V1.cell? ⟨w.heap.size, 1, none⟩ = some (.int .i64 0) := by rw [hW]; go_simp
  have u1_1 : V1.frozen? ⟨w.heap.size, 1, none⟩ = false := by rw [hW]; go_simp
  have c2_1 : V1.cell? ⟨b2, 2, none⟩ = some (.int .i64 y1) := by rw [hW]; go_simp
  have y2_1 : V1.frozen? ⟨b2, 2, none⟩ = false := by rw [hW]; go_simp
  have p2_1 : V1.cell? ⟨w.heap.size, 2, none⟩ = some (.int .i64 0) := by rw [hW]; go_simp
  have u2_1 : V1.frozen? ⟨w.heap.size, 2, none⟩ = false := by rw [hW]; go_simp
  have c3_1 : V1.cell? ⟨b2, 3, none⟩ = some (.int .i64 0) := by rw [hW]; go_simp
  have y3_1 : V1.frozen? ⟨b2, 3, none⟩ = false := by rw [hW]; go_simp
  have p3_1 : V1.cell? ⟨w.heap.size, 3, none⟩ = some (.int .i64 0) := by rw [hW]; go_simp
  have u3_1 : V1.frozen? ⟨w.heap.size, 3, none⟩ = false := by rw [hW]; go_simp
  have c4_1 : V1.cell? ⟨b2, 4, none⟩ = some (.int .i64 g) := by rw [hW]; go_simp
  have y4_1 : V1.frozen? ⟨b2, 4, none⟩ = false := by rw [hW]; go_simp
  have p4_1 : V1.cell? ⟨w.heap.size, 4, none⟩ = some (.int .i64 0) := by rw [hW]; go_simp
  have u4_1 : V1.frozen? ⟨w.heap.size, 4, none⟩ = false := by rw [hW]; go_simp
  have s0_1 : V1.cell? ⟨b1, 0, none⟩ = some (.bool false) := by rw [hW]; go_simp
  have s1_1 : V1.cell? ⟨b1, 1, none⟩ = some (.bool true) := by rw [hW]; go_simp
  have s2_1 : V1.cell? ⟨b1, 2, none⟩ = some (.bool true) := by rw [hW]; go_simp
  have HV1 : Hid (Below w.heap.size w V1) := hide (by rw [hW]; exact HB3.out.setCell (by show w.heap.size ≤ b2; omega) _)
  have n4_1 : b2 < V1.heap.size := by rw [hW]; simpa using n4
  clear hW HR2 c0 c1 c2 c3 c4 y0' y1' y2' y3' y4' p0 p1 p2 p3 p4 u0 u1 u2 u3 u4 s0 s1 s2 HB3 n4
  go_wp2
  refine bodyPost_ret (v := .tuple #[inst o 0 y1 y2 g, .bool true]) (by simp [results, Tryz.results72, go_sem, inst, p0_1, p1_1, p2_1, p3_1, p4_1]) rfl ⟨rfl, ?_⟩
  have hb := HV1.out
  clear HV1
  go_grown

set_option maxHeartbeats 400000 in
theorem dec_0_3 (x f g yi y0 y1 y2 : Int) (o : Nat) (w : World) (h0 : 0 ≤ x) (h1 : x ≤ 4294967295) (ho : 1 ≤ o) (ho' : o < 66) (bi : 0 ≤ yi ∧ yi ≤ 63)
    (HO : Hid (∀ w, Laid w → Calls Tryz.prog 105 #[.int .u32 x] w fun e w' => e = .returned (.tuple #[.int .i64 o, .bool true]) ∧ Below w.heap.size w w'))
    (HL : Hid (Laid w))
    (HF : Hid (∀ w, Laid w → Calls Tryz.prog 106 #[.int .i64 o] w fun e w' => e = .returned (.int .i64 f) ∧ w' = w))
    (HS : Hid (∀ w, Calls Tryz.prog 107 #[.int .i64 f] w fun e w' => e = .returned (.agg #[.bool true, .bool false, .bool false]) ∧ w' = w.alloc (.cells #[.bool true, .bool false, .bool false] 143)))
    (HG : Hid (∀ w, Calls Tryz.prog 108 #[.int .i64 f, .int .u32 x] w fun e w' => e = .returned (.int .i64 g) ∧ w' = w))
    (HT : Hid (∀ w, Calls Tryz.prog 109 #[.int .u32 x] w fun e w' => e = .returned (.int .u64 0) ∧ w' = w))
    (HR0 : Hid (∀ w, Calls Tryz.prog 111 #[.int .u32 x, .int .u64 7] w fun e w' => e = .returned (.int .i64 y0) ∧ w' = w)) :
    Calls Tryz.prog 72 #[.int .u32 x] w fun e w' => e = .returned (.tuple #[inst o y0 0 0 g, .bool true]) ∧ Below w.heap.size w w' := by
  go_enter Tryz.func72, Tryz.ntmps72
  go_wp2_with fail
  refine (HO.out _ (HL.out.below ((Below.refl _ _).alloc (Nat.le_refl _) _) HL.out.1)).mono ?_
  rintro e W1 ⟨rfl, hB1⟩
  have hlt : w.heap.size < W1.heap.size := by have := hB1.size; simp at this; omega
  have hlt1 : w.heap.size < W1.heap.size + 1 := by omega
  have hlt2 : w.heap.size < W1.heap.size + 1 + 1 := by omega
  have q0 : W1.cell? ⟨w.heap.size, 0, none⟩ = some (.int .i64 0) := (hB1.cell (p := ⟨w.heap.size, 0, none⟩) (by simp)).trans (by simp)
  have q1 : W1.cell? ⟨w.heap.size, 1, none⟩ = some (.int .i64 0) := (hB1.cell (p := ⟨w.heap.size, 1, none⟩) (by simp)).trans (by simp)
  have q2 : W1.cell? ⟨w.heap.size, 2, none⟩ = some (.int .i64 0) := (hB1.cell (p := ⟨w.heap.size, 2, none⟩) (by simp)).trans (by simp)
  have q3 : W1.cell? ⟨w.heap.size, 3, none⟩ = some (.int .i64 0) := (hB1.cell (p := ⟨w.heap.size, 3, none⟩) (by simp)).trans (by simp)
  have q4 : W1.cell? ⟨w.heap.size, 4, none⟩ = some (.int .i64 0) := (hB1.cell (p := ⟨w.heap.size, 4, none⟩) (by simp)).trans (by simp)
  have z : ∀ j, W1.frozen? ⟨w.heap.size, j, none⟩ = false := fun j => (hB1.frozen (p := ⟨w.heap.size, j, none⟩) (by simp)).trans (by simp)
  have z0 := z 0
  have z1 := z 1
  have z2 := z 2
  have z3 := z 3
  have z4 := z 4
  have HB : Hid (Below w.heap.size w W1) := hide (((Below.refl _ w).alloc (Nat.le_refl _) _).trans (hB1.mono (by simp)))
  have HL1 := hide (HL.out.below HB.out HL.out.1)
  clear hB1 z HO HL
  go_wp2_with fail
  refine (HF.out _ HL1.out).mono ?_
  rintro e W ⟨rfl, hW⟩
  rw [hW]
  clear hW W HF HL1
  go_wp2_with fail
  refine (HS.out _).mono ?_
  rintro e W ⟨rfl, hW⟩
  rw [hW]
  clear hW W HS
  go_wp2_with fail
  refine (HG.out _).mono ?_
  rintro e W ⟨rfl, hW⟩
  rw [hW]
  clear hW W HG
  go_wp2_with fail
  refine (HT.out _).mono ?_
  rintro e W3 ⟨rfl, hW⟩
  have c0 : W3.cell? ⟨W1.heap.size + 1 + 1, 0, none⟩ = some (.int .i64 o) := by rw [hW]; go_simp
  have y0' : W3.frozen? ⟨W1.heap.size + 1 + 1, 0, none⟩ = false := by rw [hW]; go_simp
  have p0 : W3.cell? ⟨w.heap.size, 0, none⟩ = some (.int .i64 0) := by rw [hW]; exact cell_alloc (cell_alloc (cell_alloc q0))
  have u0 : W3.frozen? ⟨w.heap.size, 0, none⟩ = false := by rw [hW]; go_simp
  have c1 : W3.cell? ⟨W1.heap.size + 1 + 1, 1, none⟩ = some (.int .i64 0) := by rw [hW]; go_simp
  have y1' : W3.frozen? ⟨W1.heap.size + 1 + 1, 1, none⟩ = false := by rw [hW]; go_simp
  have p1 : W3.cell? ⟨w.heap.size, 1, none⟩ = some (.int .i64 0) := by rw [hW]; exact cell_alloc (cell_alloc (cell_alloc q1))
  have u1 : W3.frozen? ⟨w.heap.size, 1, none⟩ = false := by rw [hW]; go_simp
  have c2 : W3.cell? ⟨W1.heap.size + 1 + 1, 2, none⟩ = some (.int .i64 0) := by rw [hW]; go_simp
  have y2' : W3.frozen? ⟨W1.heap.size + 1 + 1, 2, none⟩ = false := by rw [hW]; go_simp
  have p2 : W3.cell? ⟨w.heap.size, 2, none⟩ = some (.int .i64 0) := by rw [hW]; exact cell_alloc (cell_alloc (cell_alloc q2))
  have u2 : W3.frozen? ⟨w.heap.size, 2, none⟩ = false := by rw [hW]; go_simp
  have c3 : W3.cell? ⟨W1.heap.size + 1 + 1, 3, none⟩ = some (.int .i64 0) := by rw [hW]; go_simp
  have y3' : W3.frozen? ⟨W1.heap.size + 1 + 1, 3, none⟩ = false := by rw [hW]; go_simp
  have p3 : W3.cell? ⟨w.heap.size, 3, none⟩ = some (.int .i64 0) := by rw [hW]; exact cell_alloc (cell_alloc (cell_alloc q3))
  have u3 : W3.frozen? ⟨w.heap.size, 3, none⟩ = false := by rw [hW]; go_simp
  have c4 : W3.cell? ⟨W1.heap.size + 1 + 1, 4, none⟩ = some (.int .i64 g) := by rw [hW]; go_simp
  have y4' : W3.frozen? ⟨W1.heap.size + 1 + 1, 4, none⟩ = false := by rw [hW]; go_simp
  have p4 : W3.cell? ⟨w.heap.size, 4, none⟩ = some (.int .i64 0) := by rw [hW]; exact cell_alloc (cell_alloc (cell_alloc q4))
  have u4 : W3.frozen? ⟨w.heap.size, 4, none⟩ = false := by rw [hW]; go_simp
  have s0 : W3.cell? ⟨W1.heap.size + 1, 0, none⟩ = some (.bool true) := by rw [hW]; go_simp
  have s1 : W3.cell? ⟨W1.heap.size + 1, 1, none⟩ = some (.bool false) := by rw [hW]; go_simp
  have s2 : W3.cell? ⟨W1.heap.size + 1, 2, none⟩ = some (.bool false) := by rw [hW]; go_simp
  have HB3 : Hid (Below w.heap.size w W3) := hide (by rw [hW]; exact ((HB.out.alloc (by omega) _).alloc (by simp; omega) _).alloc (by simp; omega) _)
  have hs3 : W3.heap.size = W1.heap.size + 1 + 1 + 1 := by rw [hW]; simp
  clear hW HT HB q0 q1 q2 q3 q4 z0 z1 z2 z3 z4
  generalize hb2 : W1.heap.size + 1 + 1 = b2 at *
  generalize hb1 : W1.heap.size + 1 = b1 at *
  have n1 : w.heap.size < b2 := by omega
  have n2 : w.heap.size ≠ b2 := by omega
  have n3 : b2 ≠ w.heap.size := by omega
  have n4 : b2 < W3.heap.size := by omega
  have n5 : b1 ≠ b2 := by omega
  have n6 : b2 ≠ b1 := by omega
  clear hlt hlt1 hlt2 hs3 hb1 hb2
  go_wp2_with fail
  refine (HR0.out _).mono ?_
  rintro e W ⟨rfl, hW⟩
  rw [hW]
  clear hW W HR0
  go_wp2
  refine bodyPost_ret (v := .tuple #[inst o y0 0 0 g, .bool true]) (by simp [results, Tryz.results72, go_sem, inst, p0, p1, p2, p3, p4]) rfl ⟨rfl, ?_⟩
  have hb := HB3.out
  clear HB3
  go_grown

set_option maxHeartbeats 400000 in
theorem dec_0_4 (x f g yi y0 y1 y2 : Int) (o : Nat) (w : World) (h0 : 0 ≤ x) (h1 : x ≤ 4294967295) (ho : 1 ≤ o) (ho' : o < 66) (bi : 0 ≤ yi ∧ yi ≤ 63)
    (HO : Hid (∀ w, Laid w → Calls Tryz.prog 105 #[.int .u32 x] w fun e w' => e = .returned (.tuple #[.int .i64 o, .bool true]) ∧ Below w.heap.size w w'))
    (HL : Hid (Laid w))
    (HF : Hid (∀ w, Laid w → Calls Tryz.prog 106 #[.int .i64 o] w fun e w' => e = .returned (.int .i64 f) ∧ w' = w))
    (HS : Hid (∀ w, Calls Tryz.prog 107 #[.int .i64 f] w fun e w' => e = .returned (.agg #[.bool false, .bool false, .bool false]) ∧ w' = w.alloc (.cells #[.bool false, .bool false, .bool false] 143)))
    (HG : Hid (∀ w, Calls Tryz.prog 108 #[.int .i64 f, .int .u32 x] w fun e w' => e = .returned (.int .i64 g) ∧ w' = w))
    (HT : Hid (∀ w, Calls Tryz.prog 109 #[.int .u32 x] w fun e w' => e = .returned (.int .u64 0) ∧ w' = w)) :
    Calls Tryz.prog 72 #[.int .u32 x] w fun e w' => e = .returned (.tuple #[inst o 0 0 0 g, .bool true]) ∧ Below w.heap.size w w' := by
  go_enter Tryz.func72, Tryz.ntmps72
  go_wp2_with fail
  refine (HO.out _ (HL.out.below ((Below.refl _ _).alloc (Nat.le_refl _) _) HL.out.1)).mono ?_
  rintro e W1 ⟨rfl, hB1⟩
  have hlt : w.heap.size < W1.heap.size := by have := hB1.size; simp at this; omega
  have hlt1 : w.heap.size < W1.heap.size + 1 := by omega
  have hlt2 : w.heap.size < W1.heap.size + 1 + 1 := by omega
  have q0 : W1.cell? ⟨w.heap.size, 0, none⟩ = some (.int .i64 0) := (hB1.cell (p := ⟨w.heap.size, 0, none⟩) (by simp)).trans (by simp)
  have q1 : W1.cell? ⟨w.heap.size, 1, none⟩ = some (.int .i64 0) := (hB1.cell (p := ⟨w.heap.size, 1, none⟩) (by simp)).trans (by simp)
  have q2 : W1.cell? ⟨w.heap.size, 2, none⟩ = some (.int .i64 0) := (hB1.cell (p := ⟨w.heap.size, 2, none⟩) (by simp)).trans (by simp)
  have q3 : W1.cell? ⟨w.heap.size, 3, none⟩ = some (.int .i64 0) := (hB1.cell (p := ⟨w.heap.size, 3, none⟩) (by simp)).trans (by simp)
  have q4 : W1.cell? ⟨w.heap.size, 4, none⟩ = some (.int .i64 0) := (hB1.cell (p := ⟨w.heap.size, 4, none⟩) (by simp)).trans (by simp)
  have z : ∀ j, W1.frozen? ⟨w.heap.size, j, none⟩ = false := fun j => (hB1.frozen (p := ⟨w.heap.size, j, none⟩) (by simp)).trans (by simp)
  have z0 := z 0
  have z1 := z 1
  have z2 := z 2
  have z3 := z 3
  have z4 := z 4
  have HB : Hid (Below w.heap.size w W1) := hide (((Below.refl _ w).alloc (Nat.le_refl _) _).trans (hB1.mono (by simp)))
  have HL1 := hide (HL.out.below HB.out HL.out.1)
  clear hB1 z HO HL
  go_wp2_with fail
  refine (HF.out _ HL1.out).mono ?_
  rintro e W ⟨rfl, hW⟩
  rw [hW]
  clear hW W HF HL1
  go_wp2_with fail
  refine (HS.out _).mono ?_
  rintro e W ⟨rfl, hW⟩
  rw [hW]
  clear hW W HS
  go_wp2_with fail
  refine (HG.out _).mono ?_
  rintro e W ⟨rfl, hW⟩
  rw [hW]
  clear hW W HG
  go_wp2_with fail
  refine (HT.out _).mono ?_
  rintro e W3 ⟨rfl, hW⟩
  have c0 : W3.cell? ⟨W1.heap.size + 1 + 1, 0, none⟩ = some (.int .i64 o) := by rw [hW]; go_simp
  have y0' : W3.frozen? ⟨W1.heap.size + 1 + 1, 0, none⟩ = false := by rw [hW]; go_simp
  have p0 : W3.cell? ⟨w.heap.size, 0, none⟩ = some (.int .i64 0) := by rw [hW]; exact cell_alloc (cell_alloc (cell_alloc q0))
  have u0 : W3.frozen? ⟨w.heap.size, 0, none⟩ = false := by rw [hW]; go_simp
  have c1 : W3.cell? ⟨W1.heap.size + 1 + 1, 1, none⟩ = some (.int .i64 0) := by rw [hW]; go_simp
  have y1' : W3.frozen? ⟨W1.heap.size + 1 + 1, 1, none⟩ = false := by rw [hW]; go_simp
  have p1 : W3.cell? ⟨w.heap.size, 1, none⟩ = some (.int .i64 0) := by rw [hW]; exact cell_alloc (cell_alloc (cell_alloc q1))
  have u1 : W3.frozen? ⟨w.heap.size, 1, none⟩ = false := by rw [hW]; go_simp
  have c2 : W3.cell? ⟨W1.heap.size + 1 + 1, 2, none⟩ = some (.int .i64 0) := by rw [hW]; go_simp
  have y2' : W3.frozen? ⟨W1.heap.size + 1 + 1, 2, none⟩ = false := by rw [hW]; go_simp
  have p2 : W3.cell? ⟨w.heap.size, 2, none⟩ = some (.int .i64 0) := by rw [hW]; exact cell_alloc (cell_alloc (cell_alloc q2))
  have u2 : W3.frozen? ⟨w.heap.size, 2, none⟩ = false := by rw [hW]; go_simp
  have c3 : W3.cell? ⟨W1.heap.size + 1 + 1, 3, none⟩ = some (.int .i64 0) := by rw [hW]; go_simp
  have y3' : W3.frozen? ⟨W1.heap.size + 1 + 1, 3, none⟩ = false := by rw [hW]; go_simp
  have p3 : W3.cell? ⟨w.heap.size, 3, none⟩ = some (.int .i64 0) := by rw [hW]; exact cell_alloc (cell_alloc (cell_alloc q3))
  have u3 : W3.frozen? ⟨w.heap.size, 3, none⟩ = false := by rw [hW]; go_simp
  have c4 : W3.cell? ⟨W1.heap.size + 1 + 1, 4, none⟩ = some (.int .i64 g) := by rw [hW]; go_simp
  have y4' : W3.frozen? ⟨W1.heap.size + 1 + 1, 4, none⟩ = false := by rw [hW]; go_simp
  have p4 : W3.cell? ⟨w.heap.size, 4, none⟩ = some (.int .i64 0) := by rw [hW]; exact cell_alloc (cell_alloc (cell_alloc q4))
  have u4 : W3.frozen? ⟨w.heap.size, 4, none⟩ = false := by rw [hW]; go_simp
  have s0 : W3.cell? ⟨W1.heap.size + 1, 0, none⟩ = some (.bool false) := by rw [hW]; go_simp
  have s1 : W3.cell? ⟨W1.heap.size + 1, 1, none⟩ = some (.bool false) := by rw [hW]; go_simp
  have s2 : W3.cell? ⟨W1.heap.size + 1, 2, none⟩ = some (.bool false) := by rw [hW]; go_simp
  have HB3 : Hid (Below w.heap.size w W3) := hide (by rw [hW]; exact ((HB.out.alloc (by omega) _).alloc (by simp; omega) _).alloc (by simp; omega) _)
  have hs3 : W3.heap.size = W1.heap.size + 1 + 1 + 1 := by rw [hW]; simp
  clear hW HT HB q0 q1 q2 q3 q4 z0 z1 z2 z3 z4
  generalize hb2 : W1.heap.size + 1 + 1 = b2 at *
  generalize hb1 : W1.heap.size + 1 = b1 at *
  have n1 : w.heap.size < b2 := by omega
  have n2 : w.heap.size ≠ b2 := by omega
  have n3 : b2 ≠ w.heap.size := by omega
  have n4 : b2 < W3.heap.size := by omega
  have n5 : b1 ≠ b2 := by omega
  have n6 : b2 ≠ b1 := by omega
  clear hlt hlt1 hlt2 hs3 hb1 hb2
  go_wp2
  refine bodyPost_ret (v := .tuple #[inst o 0 0 0 g, .bool true]) (by simp [results, Tryz.results72, go_sem, inst, p0, p1, p2, p3, p4]) rfl ⟨rfl, ?_⟩
  have hb := HB3.out
  clear HB3
  go_grown

set_option maxHeartbeats 400000 in
theorem dec_5_1 (x f g yi y0 y1 y2 : Int) (o : Nat) (w : World) (h0 : 0 ≤ x) (h1 : x ≤ 4294967295) (ho : 1 ≤ o) (ho' : o < 66) (bi : 0 ≤ yi ∧ yi ≤ 63)
    (HO : Hid (∀ w, Laid w → Calls Tryz.prog 105 #[.int .u32 x] w fun e w' => e = .returned (.tuple #[.int .i64 o, .bool true]) ∧ Below w.heap.size w w'))
    (HL : Hid (Laid w))
    (HF : Hid (∀ w, Laid w → Calls Tryz.prog 106 #[.int .i64 o] w fun e w' => e = .returned (.int .i64 f) ∧ w' = w))
    (HS : Hid (∀ w, Calls Tryz.prog 107 #[.int .i64 f] w fun e w' => e = .returned (.agg #[.bool true, .bool true, .bool false]) ∧ w' = w.alloc (.cells #[.bool true, .bool true, .bool false] 143)))
    (HG : Hid (∀ w, Calls Tryz.prog 108 #[.int .i64 f, .int .u32 x] w fun e w' => e = .returned (.int .i64 g) ∧ w' = w))
    (HT : Hid (∀ w, Calls Tryz.prog 109 #[.int .u32 x] w fun e w' => e = .returned (.int .u64 5) ∧ w' = w))
    (HI : Hid (∀ w, Calls Tryz.prog 110 #[.int .u32 x, .int .u64 20, .int .u64 5] w fun e w' => e = .returned (.int .u32 yi) ∧ w' = w))
    (HR0 : Hid (∀ w, Calls Tryz.prog 111 #[.int .u32 x, .int .u64 7] w fun e w' => e = .returned (.int .i64 y0) ∧ w' = w))
    (HR1 : Hid (∀ w, Calls Tryz.prog 111 #[.int .u32 x, .int .u64 15] w fun e w' => e = .returned (.int .i64 y1) ∧ w' = w)) :
    Calls Tryz.prog 72 #[.int .u32 x] w fun e w' => e = .returned (.tuple #[inst o y0 y1 0 yi, .bool true]) ∧ Below w.heap.size w w' := by
  go_enter Tryz.func72, Tryz.ntmps72
  go_wp2_with fail
  refine (HO.out _ (HL.out.below ((Below.refl _ _).alloc (Nat.le_refl _) _) HL.out.1)).mono ?_
  rintro e W1 ⟨rfl, hB1⟩
  have hlt : w.heap.size < W1.heap.size := by have := hB1.size; simp at this; omega
  have hlt1 : w.heap.size < W1.heap.size + 1 := by omega
  have hlt2 : w.heap.size < W1.heap.size + 1 + 1 := by omega
  have q0 : W1.cell? ⟨w.heap.size, 0, none⟩ = some (.int .i64 0) := (hB1.cell (p := ⟨w.heap.size, 0, none⟩) (by simp)).trans (by simp)
  have q1 : W1.cell? ⟨w.heap.size, 1, none⟩ = some (.int .i64 0) := (hB1.cell (p := ⟨w.heap.size, 1, none⟩) (by simp)).trans (by simp)
  have q2 : W1.cell? ⟨w.heap.size, 2, none⟩ = some (.int .i64 0) := (hB1.cell (p := ⟨w.heap.size, 2, none⟩) (by simp)).trans (by simp)
  have q3 : W1.cell? ⟨w.heap.size, 3, none⟩ = some (.int .i64 0) := (hB1.cell (p := ⟨w.heap.size, 3, none⟩) (by simp)).trans (by simp)
  have q4 : W1.cell? ⟨w.heap.size, 4, none⟩ = some (.int .i64 0) := (hB1.cell (p := ⟨w.heap.size, 4, none⟩) (by simp)).trans (by simp)
  have z : ∀ j, W1.frozen? ⟨w.heap.size, j, none⟩ = false := fun j => (hB1.frozen (p := ⟨w.heap.size, j, none⟩) (by simp)).trans (by simp)
  have z0 := z 0
  have z1 := z 1
  have z2 := z 2
  have z3 := z 3
  have z4 := z 4
  have HB : Hid (Below w.heap.size w W1) := hide (((Below.refl _ w).alloc (Nat.le_refl _) _).trans (hB1.mono (by simp)))
  have HL1 := hide (HL.out.below HB.out HL.out.1)
  clear hB1 z HO HL
  go_wp2_with fail
  refine (HF.out _ HL1.out).mono ?_
  rintro e W ⟨rfl, hW⟩
  rw [hW]
  clear hW W HF HL1
  go_wp2_with fail
  refine (HS.out _).mono ?_
  rintro e W ⟨rfl, hW⟩
  rw [hW]
  clear hW W HS
  go_wp2_with fail
  refine (HG.out _).mono ?_
  rintro e W ⟨rfl, hW⟩
  rw [hW]
  clear hW W HG
  go_wp2_with fail
  refine (HT.out _).mono ?_
  rintro e W3 ⟨rfl, hW⟩
  have c0 : W3.cell? ⟨W1.heap.size + 1 + 1, 0, none⟩ = some (.int .i64 o) := by rw [hW]; go_simp
  have y0' : W3.frozen? ⟨W1.heap.size + 1 + 1, 0, none⟩ = false := by rw [hW]; go_simp
  have p0 : W3.cell? ⟨w.heap.size, 0, none⟩ = some (.int .i64 0) := by rw [hW]; exact cell_alloc (cell_alloc (cell_alloc q0))
  have u0 : W3.frozen? ⟨w.heap.size, 0, none⟩ = false := by rw [hW]; go_simp
  have c1 : W3.cell? ⟨W1.heap.size + 1 + 1, 1, none⟩ = some (.int .i64 0) := by rw [hW]; go_simp
  have y1' : W3.frozen? ⟨W1.heap.size + 1 + 1, 1, none⟩ = false := by rw [hW]; go_simp
  have p1 : W3.cell? ⟨w.heap.size, 1, none⟩ = some (.int .i64 0) := by rw [hW]; exact cell_alloc (cell_alloc (cell_alloc q1))
  have u1 : W3.frozen? ⟨w.heap.size, 1, none⟩ = false := by rw [hW]; go_simp
  have c2 : W3.cell? ⟨W1.heap.size + 1 + 1, 2, none⟩ = some (.int .i64 0) := by rw [hW]; go_simp
  have y2' : W3.frozen? ⟨W1.heap.size + 1 + 1, 2, none⟩ = false := by rw [hW]; go_simp
  have p2 : W3.cell? ⟨w.heap.size, 2, none⟩ = some (.int .i64 0) := by rw [hW]; exact cell_alloc (cell_alloc (cell_alloc q2))
  have u2 : W3.frozen? ⟨w.heap.size, 2, none⟩ = false := by rw [hW]; go_simp
  have c3 : W3.cell? ⟨W1.heap.size + 1 + 1, 3, none⟩ = some (.int .i64 0) := by rw [hW]; go_simp
  have y3' : W3.frozen? ⟨W1.heap.size + 1 + 1, 3, none⟩ = false := by rw [hW]; go_simp
  have p3 : W3.cell? ⟨w.heap.size, 3, none⟩ = some (.int .i64 0) := by rw [hW]; exact cell_alloc (cell_alloc (cell_alloc q3))
  have u3 : W3.frozen? ⟨w.heap.size, 3, none⟩ = false := by rw [hW]; go_simp
  have c4 : W3.cell? ⟨W1.heap.size + 1 + 1, 4, none⟩ = some (.int .i64 g) := by rw [hW]; go_simp
  have y4' : W3.frozen? ⟨W1.heap.size + 1 + 1, 4, none⟩ = false := by rw [hW]; go_simp
  have p4 : W3.cell? ⟨w.heap.size, 4, none⟩ = some (.int .i64 0) := by rw [hW]; exact cell_alloc (cell_alloc (cell_alloc q4))
  have u4 : W3.frozen? ⟨w.heap.size, 4, none⟩ = false := by rw [hW]; go_simp
  have s0 : W3.cell? ⟨W1.heap.size + 1, 0, none⟩ = some (.bool true) := by rw [hW]; go_simp
  have s1 : W3.cell? ⟨W1.heap.size + 1, 1, none⟩ = some (.bool true) := by rw [hW]; go_simp
  have s2 : W3.cell? ⟨W1.heap.size + 1, 2, none⟩ = some (.bool false) := by rw [hW]; go_simp
  have HB3 : Hid (Below w.heap.size w W3) := hide (by rw [hW]; exact ((HB.out.alloc (by omega) _).alloc (by simp; omega) _).alloc (by simp; omega) _)
  have hs3 : W3.heap.size = W1.heap.size + 1 + 1 + 1 := by rw [hW]; simp
  clear hW HT HB q0 q1 q2 q3 q4 z0 z1 z2 z3 z4
  generalize hb2 : W1.heap.size + 1 + 1 = b2 at *
  generalize hb1 : W1.heap.size + 1 = b1 at *
  have n1 : w.heap.size < b2 := by omega
  have n2 : w.heap.size ≠ b2 := by omega
  have n3 : b2 ≠ w.heap.size := by omega
  have n4 : b2 < W3.heap.size := by omega
  have n5 : b1 ≠ b2 := by omega
  have n6 : b2 ≠ b1 := by omega
  clear hlt hlt1 hlt2 hs3 hb1 hb2
  go_wp2_with fail
  refine (HI.out _).mono ?_
  rintro e W ⟨rfl, hW⟩
  rw [hW]
  clear hW W HI
  go_wp2_with fail
  refine (HR0.out _).mono ?_
  rintro e V1 ⟨rfl, hW⟩
  have c0_1 : V1.cell? ⟨b2, 0, none⟩ = some (.int .i64 o) := by rw [hW]; go_simp
  have y0_1 : V1.frozen? ⟨b2, 0, none⟩ = false := by rw [hW]; go_simp
  have p0_1 : V1.cell? ⟨w.heap.size, 0, none⟩ = some (.int .i64 0) := by rw [hW]; go_simp
  have u0_1 : V1.frozen? ⟨w.heap.size, 0, none⟩ = false := by rw [hW]; go_simp
  have c1_1 : V1.cell? ⟨b2, 1, none⟩ = some (.int .i64 0) := by rw [hW]; go_simp
  have y1_1 : V1.frozen? ⟨b2, 1, none⟩ = false := by rw [hW]; go_simp
  have p1_1 : V1.cell? ⟨w.heap.size, 1, none⟩ = some (.int .i64 0) := by rw [hW]; go_simp
  have u1_1 : V1.frozen? ⟨w.heap.size, 1, none⟩ = false := by rw [hW]; go_simp
  have c2_1 : V1.cell? ⟨b2, 2, none⟩ = some (.int .i64 0) := by rw [hW]; go_simp
  have y2_1 : V1.frozen? ⟨b2, 2, none⟩ = false := by rw [hW]; go_simp
  have p2_1 : V1.cell? ⟨w.heap.size, 2, none⟩ = some (.int .i64 0) := by rw [hW]; go_simp
  have u2_1 : V1.frozen? ⟨w.heap.size, 2, none⟩ = false := by rw [hW]; go_simp
  have c3_1 : V1.cell? ⟨b2, 3, none⟩ = some (.int .i64 0) := by rw [hW]; go_simp
  have y3_1 : V1.frozen? ⟨b2, 3, none⟩ = false := by rw [hW]; go_simp
  have p3_1 : V1.cell? ⟨w.heap.size, 3, none⟩ = some (.int .i64 0) := by rw [hW]; go_simp
  have u3_1 : V1.frozen? ⟨w.heap.size, 3, none⟩ = false := by rw [hW]; go_simp
  have c4_1 : V1.cell? ⟨b2, 4, none⟩ = some (.int .i64 yi) := by rw [hW]; go_simp
  have y4_1 : V1.frozen? ⟨b2, 4, none⟩ = false := by rw [hW]; go_simp
  have p4_1 : V1.cell? ⟨w.heap.size, 4, none⟩ = some (.int .i64 0) := by rw [hW]; go_simp
  have u4_1 : V1.frozen? ⟨w.heap.size, 4, none⟩ = false := by rw [hW]; go_simp
  have s0_1 : V1.cell? ⟨b1, 0, none⟩ = some (.bool true) := by rw [hW]; go_simp
  have s1_1 : V1.cell? ⟨b1, 1, none⟩ = some (.bool true) := by rw [hW]; go_simp
  have s2_1 : V1.cell? ⟨b1, 2, none⟩ = some (.bool false) := by rw [hW]; go_simp
  have HV1 : Hid (Below w.heap.size w V1) := hide (by rw [hW]; exact HB3.out.setCell (by show w.heap.size ≤ b2; omega) _)
  have n4_1 : b2 < V1.heap.size := by rw [hW]; simpa using n4
  clear hW HR0 c0 c1 c2 c3 c4 y0' y1' y2' y3' y4' p0 p1 p2 p3 p4 u0 u1 u2 u3 u4 s0 s1 s2 HB3 n4
  go_wp2_with fail
  refine (HR1.out _).mono ?_
  rintro e V2 ⟨rfl, hW⟩
  have c0_2 : V2.cell? ⟨b2, 0, none⟩ = some (.int .i64 o) := by rw [hW]; go_simp
  have y0_2 : V2.frozen? ⟨b2, 0, none⟩ = false := by rw [hW]; go_simp
  have p0_2 : V2.cell? ⟨w.heap.size, 0, none⟩ = some (.int .i64 0) := by rw [hW]; go_simp
  have u0_2 : V2.frozen? ⟨w.heap.size, 0, none⟩ = false := by rw [hW]; go_simp
  have c1_2 : V2.cell? ⟨b2, 1, none⟩ = some (.int .i64 y0) := by rw [hW]; go_simp
  have y1_2 : V2.frozen? ⟨b2, 1, none⟩ = false := by rw [hW]; go_simp
  have p1_2 : V2.cell? ⟨w.heap.size, 1, none⟩ = some (.int .i64 0) := by rw [hW]; go_simp
  have u1_2 : V2.frozen? ⟨w.heap.size, 1, none⟩ = false := by rw [hW]; go_simp
  have c2_2 : V2.cell? ⟨b2, 2, none⟩ = some (.int .i64 0) := by rw [hW]; go_simp
  have y2_2 : V2.frozen? ⟨b2, 2, none⟩ = false := by rw [hW]; go_simp
  have p2_2 : V2.cell? ⟨w.heap.size, 2, none⟩ = some (.int .i64 0) := by rw [hW]; go_simp
  have u2_2 : V2.frozen? ⟨w.heap.size, 2, none⟩ = false := by rw [hW]; go_simp
  have c3_2 : V2.cell? ⟨b2, 3, none⟩ = some (.int .i64 0) := by rw [hW]; go_simp
  have y3_2 : V2.frozen? ⟨b2, 3, none⟩ = false := by rw [hW]; go_simp
  have p3_2 : V2.cell? ⟨w.heap.size, 3, none⟩ = some (.int .i64 0) := by rw [hW]; go_simp
  have u3_2 : V2.frozen? ⟨w.heap.size, 3, none⟩ = false := by rw [hW]; go_simp
  have c4_2 : V2.cell? ⟨b2, 4, none⟩ = some (.int .i64 yi) := by rw [hW]; go_simp
  have y4_2 : V2.frozen? ⟨b2, 4, none⟩ = false := by rw [hW]; go_simp
  have p4_2 : V2.cell? ⟨w.heap.size, 4, none⟩ = some (.int .i64 0) := by rw [hW]; go_simp
  have u4_2 : V2.frozen? ⟨w.heap.size, 4, none⟩ = false := by rw [hW]; go_simp
  have s0_2 : V2.cell? ⟨b1, 0, none⟩ = some (.bool true) := by rw [hW]; go_simp
  have s1_2 : V2.cell? ⟨b1, 1, none⟩ = some (.bool true) := by rw [hW]; go_simp
  have s2_2 : V2.cell? ⟨b1, 2, none⟩ = some (.bool false) := by rw [hW]; go_simp
  have HV2 : Hid (Below w.heap.size w V2) := hide (by rw [hW]; exact HV1.out.setCell (by show w.heap.size ≤ b2; omega) _)
  have n4_2 : b2 < V2.heap.size := by rw [hW]; simpa using n4_1
  clear hW HR1 c0_1 c1_1 c2_1 c3_1 c4_1 y0_1 y1_1 y2_1 y3_1 y4_1 p0_1 p1_1 p2_1 p3_1 p4_1 u0_1 u1_1 u2_1 u3_1 u4_1 s0_1 s1_1 s2_1 HV1 n4_1
  go_wp2
  refine bodyPost_ret (v := .tuple #[inst o y0 y1 0 yi, .bool true]) (by simp [results, Tryz.results72, go_sem, inst, p0_2, p1_2, p2_2, p3_2, p4_2]) rfl ⟨rfl, ?_⟩
  have hb := HV2.out
  clear HV2
  go_grown

set_option maxHeartbeats 400000 in
theorem dec_6_1 (x f g yi y0 y1 y2 : Int) (o : Nat) (w : World) (h0 : 0 ≤ x) (h1 : x ≤ 4294967295) (ho : 1 ≤ o) (ho' : o < 66) (bi : 0 ≤ yi ∧ yi ≤ 63)
    (HO : Hid (∀ w, Laid w → Calls Tryz.prog 105 #[.int .u32 x] w fun e w' => e = .returned (.tuple #[.int .i64 o, .bool true]) ∧ Below w.heap.size w w'))
    (HL : Hid (Laid w))
    (HF : Hid (∀ w, Laid w → Calls Tryz.prog 106 #[.int .i64 o] w fun e w' => e = .returned (.int .i64 f) ∧ w' = w))
    (HS : Hid (∀ w, Calls Tryz.prog 107 #[.int .i64 f] w fun e w' => e = .returned (.agg #[.bool true, .bool true, .bool false]) ∧ w' = w.alloc (.cells #[.bool true, .bool true, .bool false] 143)))
    (HG : Hid (∀ w, Calls Tryz.prog 108 #[.int .i64 f, .int .u32 x] w fun e w' => e = .returned (.int .i64 g) ∧ w' = w))
    (HT : Hid (∀ w, Calls Tryz.prog 109 #[.int .u32 x] w fun e w' => e = .returned (.int .u64 6) ∧ w' = w))
    (HI : Hid (∀ w, Calls Tryz.prog 110 #[.int .u32 x, .int .u64 20, .int .u64 6] w fun e w' => e = .returned (.int .u32 yi) ∧ w' = w))
    (HR0 : Hid (∀ w, Calls Tryz.prog 111 #[.int .u32 x, .int .u64 7] w fun e w' => e = .returned (.int .i64 y0) ∧ w' = w))
    (HR1 : Hid (∀ w, Calls Tryz.prog 111 #[.int .u32 x, .int .u64 15] w fun e w' => e = .returned (.int .i64 y1) ∧ w' = w)) :
    Calls Tryz.prog 72 #[.int .u32 x] w fun e w' => e = .returned (.tuple #[inst o y0 y1 0 yi, .bool true]) ∧ Below w.heap.size w w' := by
  go_enter Tryz.func72, Tryz.ntmps72
  go_wp2_with fail
  refine (HO.out _ (HL.out.below ((Below.refl _ _).alloc (Nat.le_refl _) _) HL.out.1)).mono ?_
  rintro e W1 ⟨rfl, hB1⟩
  have hlt : w.heap.size < W1.heap.size := by have := hB1.size; simp at this; omega
  have hlt1 : w.heap.size < W1.heap.size + 1 := by omega
  have hlt2 : w.heap.size < W1.heap.size + 1 + 1 := by omega
  have q0 : W1.cell? ⟨w.heap.size, 0, none⟩ = some (.int .i64 0) := (hB1.cell (p := ⟨w.heap.size, 0, none⟩) (by simp)).trans (by simp)
  have q1 : W1.cell? ⟨w.heap.size, 1, none⟩ = some (.int .i64 0) := (hB1.cell (p := ⟨w.heap.size, 1, none⟩) (by simp)).trans (by simp)
  have q2 : W1.cell? ⟨w.heap.size, 2, none⟩ = some (.int .i64 0) := (hB1.cell (p := ⟨w.heap.size, 2, none⟩) (by simp)).trans (by simp)
  have q3 : W1.cell? ⟨w.heap.size, 3, none⟩ = some (.int .i64 0) := (hB1.cell (p := ⟨w.heap.size, 3, none⟩) (by simp)).trans (by simp)
  have q4 : W1.cell? ⟨w.heap.size, 4, none⟩ = some (.int .i64 0) := (hB1.cell (p := ⟨w.heap.size, 4, none⟩) (by simp)).trans (by simp)
  have z : ∀ j, W1.frozen? ⟨w.heap.size, j, none⟩ = false := fun j => (hB1.frozen (p := ⟨w.heap.size, j, none⟩) (by simp)).trans (by simp)
  have z0 := z 0
  have z1 := z 1
  have z2 := z 2
  have z3 := z 3
  have z4 := z 4
  have HB : Hid (Below w.heap.size w W1) := hide (((Below.refl _ w).alloc (Nat.le_refl _) _).trans (hB1.mono (by simp)))
  have HL1 := hide (HL.out.below HB.out HL.out.1)
  clear hB1 z HO HL
  go_wp2_with fail
  refine (HF.out _ HL1.out).mono ?_
  rintro e W ⟨rfl, hW⟩
  rw [hW]
  clear hW W HF HL1
  go_wp2_with fail
  refine (HS.out _).mono ?_
  rintro e W ⟨rfl, hW⟩
  rw [hW]
  clear hW W HS
  go_wp2_with fail
  refine (HG.out _).mono ?_
  rintro e W ⟨rfl, hW⟩
  rw [hW]
  clear hW W HG
  go_wp2_with fail
  refine (HT.out _).mono ?_
  rintro e W3 ⟨rfl, hW⟩
  have c0 : W3.cell? ⟨W1.heap.size + 1 + 1, 0, none⟩ = some (.int .i64 o) := by rw [hW]; go_simp
  have y0' : W3.frozen? ⟨W1.heap.size + 1 + 1, 0, none⟩ = false := by rw [hW]; go_simp
  have p0 : W3.cell? ⟨w.heap.size, 0, none⟩ = some (.int .i64 0) := by rw [hW]; exact cell_alloc (cell_alloc (cell_alloc q0))
  have u0 : W3.frozen? ⟨w.heap.size, 0, none⟩ = false := by rw [hW]; go_simp
  have c1 : W3.cell? ⟨W1.heap.size + 1 + 1, 1, none⟩ = some (.int .i64 0) := by rw [hW]; go_simp
  have y1' : W3.frozen? ⟨W1.heap.size + 1 + 1, 1, none⟩ = false := by rw [hW]; go_simp
  have p1 : W3.cell? ⟨w.heap.size, 1, none⟩ = some (.int .i64 0) := by rw [hW]; exact cell_alloc (cell_alloc (cell_alloc q1))
  have u1 : W3.frozen? ⟨w.heap.size, 1, none⟩ = false := by rw [hW]; go_simp
  have c2 : W3.cell? ⟨W1.heap.size + 1 + 1, 2, none⟩ = some (.int .i64 0) := by rw [hW]; go_simp
  have y2' : W3.frozen? ⟨W1.heap.size + 1 + 1, 2, none⟩ = false := by rw [hW]; go_simp
  have p2 : W3.cell? ⟨w.heap.size, 2, none⟩ = some (.int .i64 0) := by rw [hW]; exact cell_alloc (cell_alloc (cell_alloc q2))
  have u2 : W3.frozen? ⟨w.heap.size, 2, none⟩ = false := by rw [hW]; go_simp
  have c3 : W3.cell? ⟨W1.heap.size + 1 + 1, 3, none⟩ = some (.int .i64 0) := by rw [hW]; go_simp
  have y3' : W3.frozen? ⟨W1.heap.size + 1 + 1, 3, none⟩ = false := by rw [hW]; go_simp
  have p3 : W3.cell? ⟨w.heap.size, 3, none⟩ = some (.int .i64 0) := by rw [hW]; exact cell_alloc (cell_alloc (cell_alloc q3))
  have u3 : W3.frozen? ⟨w.heap.size, 3, none⟩ = false := by rw [hW]; go_simp
  have c4 : W3.cell? ⟨W1.heap.size + 1 + 1, 4, none⟩ = some (.int .i64 g) := by rw [hW]; go_simp
  have y4' : W3.frozen? ⟨W1.heap.size + 1 + 1, 4, none⟩ = false := by rw [hW]; go_simp
  have p4 : W3.cell? ⟨w.heap.size, 4, none⟩ = some (.int .i64 0) := by rw [hW]; exact cell_alloc (cell_alloc (cell_alloc q4))
  have u4 : W3.frozen? ⟨w.heap.size, 4, none⟩ = false := by rw [hW]; go_simp
  have s0 : W3.cell? ⟨W1.heap.size + 1, 0, none⟩ = some (.bool true) := by rw [hW]; go_simp
  have s1 : W3.cell? ⟨W1.heap.size + 1, 1, none⟩ = some (.bool true) := by rw [hW]; go_simp
  have s2 : W3.cell? ⟨W1.heap.size + 1, 2, none⟩ = some (.bool false) := by rw [hW]; go_simp
  have HB3 : Hid (Below w.heap.size w W3) := hide (by rw [hW]; exact ((HB.out.alloc (by omega) _).alloc (by simp; omega) _).alloc (by simp; omega) _)
  have hs3 : W3.heap.size = W1.heap.size + 1 + 1 + 1 := by rw [hW]; simp
  clear hW HT HB q0 q1 q2 q3 q4 z0 z1 z2 z3 z4
  generalize hb2 : W1.heap.size + 1 + 1 = b2 at *
  generalize hb1 : W1.heap.size + 1 = b1 at *
  have n1 : w.heap.size < b2 := by omega
  have n2 : w.heap.size ≠ b2 := by omega
  have n3 : b2 ≠ w.heap.size := by omega
  have n4 : b2 < W3.heap.size := by omega
  have n5 : b1 ≠ b2 := by omega
  have n6 : b2 ≠ b1 := by omega
  clear hlt hlt1 hlt2 hs3 hb1 hb2
  go_wp2_with fail
  refine (HI.out _).mono ?_
  rintro e W ⟨rfl, hW⟩
  rw [hW]
  clear hW W HI
  go_wp2_with fail
  refine (HR0.out _).mono ?_
  rintro e V1 ⟨rfl, hW⟩
  have c0_1 : V1.cell? ⟨b2, 0, none⟩ = some (.int .i64 o) := by rw [hW]; go_simp
  have y0_1 : V1.frozen? ⟨b2, 0, none⟩ = false := by rw [hW]; go_simp
  have p0_1 : V1.cell? ⟨w.heap.size, 0, none⟩ = some (.int .i64 0) := by rw [hW]; go_simp
  have u0_1 : V1.frozen? ⟨w.heap.size, 0, none⟩ = false := by rw [hW]; go_simp
  have c1_1 : V1.cell? ⟨b2, 1, none⟩ = some (.int .i64 0) := by rw [hW]; go_simp
  have y1_1 : V1.frozen? ⟨b2, 1, none⟩ = false := by rw [hW]; go_simp
  have p1_1 : V1.cell? ⟨w.heap.size, 1, none⟩ = some (.int .i64 0) := by rw [hW]; go_simp
  have u1_1 : V1.frozen? ⟨w.heap.size, 1, none⟩ = false := by rw [hW]; go_simp
  have c2_1 : V1.cell? ⟨b2, 2, none⟩ = some (.int .i64 0) := by rw [hW]; go_simp
  have y2_1 : V1.frozen? ⟨b2, 2, none⟩ = false := by rw [hW]; go_simp
  have p2_1 : V1.cell? ⟨w.heap.size, 2, none⟩ = some (.int .i64 0) := by rw [hW]; go_simp
  have u2_1 : V1.frozen? ⟨w.heap.size, 2, none⟩ = false := by rw [hW]; go_simp
  have c3_1 : V1.cell? ⟨b2, 3, none⟩ = some (.int .i64 0) := by rw [hW]; go_simp
  have y3_1 : V1.frozen? ⟨b2, 3, none⟩ = false := by rw [hW]; go_simp
  have p3_1 : V1.cell? ⟨w.heap.size, 3, none⟩ = some (.int .i64 0) := by rw [hW]; go_simp
  have u3_1 : V1.frozen? ⟨w.heap.size, 3, none⟩ = false := by rw [hW]; go_simp
  have c4_1 : V1.cell? ⟨b2, 4, none⟩ = some (.int .i64 yi) := by rw [hW]; go_simp
  have y4_1 : V1.frozen? ⟨b2, 4, none⟩ = false := by rw [hW]; go_simp
  have p4_1 : V1.cell? ⟨w.heap.size, 4, none⟩ = some (.int .i64 0) := by rw [hW]; go_simp
  have u4_1 : V1.frozen? ⟨w.heap.size, 4, none⟩ = false := by rw [hW]; go_simp
  have s0_1 : V1.cell? ⟨b1, 0, none⟩ = some (.bool true) := by rw [hW]; go_simp
  have s1_1 : V1.cell? ⟨b1, 1, none⟩ = some (.bool true) := by rw [hW]; go_simp
  have s2_1 : V1.cell? ⟨b1, 2, none⟩ = some (.bool false) := by rw [hW]; go_simp
  have HV1 : Hid (Below w.heap.size w V1) := hide (by rw [hW]; exact HB3.out.setCell (by show w.heap.size ≤ b2; omega) _)
  have n4_1 : b2 < V1.heap.size := by rw [hW]; simpa using n4
  clear hW HR0 c0 c1 c2 c3 c4 y0' y1' y2' y3' y4' p0 p1 p2 p3 p4 u0 u1 u2 u3 u4 s0 s1 s2 HB3 n4
  go_wp2_with fail
  refine (HR1.out _).mono ?_
  rintro e V2 ⟨rfl, hW⟩
  have c0_2 : V2.cell? ⟨b2, 0, none⟩ = some (.int .i64 o) := by rw [hW]; go_simp
  have y0_2 : V2.frozen? ⟨b2, 0, none⟩ = false := by rw [hW]; go_simp
  have p0_2 : V2.cell? ⟨w.heap.size, 0, none⟩ = some (.int .i64 0) := by rw [hW]; go_simp
  have u0_2 : V2.frozen? ⟨w.heap.size, 0, none⟩ = false := by rw [hW]; go_simp
  have c1_2 : V2.cell? ⟨b2, 1, none⟩ = some (.int .i64 y0) := by rw [hW]; go_simp
  have y1_2 : V2.frozen? ⟨b2, 1, none⟩ = false := by rw [hW]; go_simp
  have p1_2 : V2.cell? ⟨w.heap.size, 1, none⟩ = some (.int .i64 0) := by rw [hW]; go_simp
  have u1_2 : V2.frozen? ⟨w.heap.size, 1, none⟩ = false := by rw [hW]; go_simp
  have c2_2 : V2.cell? ⟨b2, 2, none⟩ = some (.int .i64 0) := by rw [hW]; go_simp
  have y2_2 : V2.frozen? ⟨b2, 2, none⟩ = false := by rw [hW]; go_simp
  have p2_2 : V2.cell? ⟨w.heap.size, 2, none⟩ = some (.int .i64 0) := by rw [hW]; go_simp
  have u2_2 : V2.frozen? ⟨w.heap.size, 2, none⟩ = false := by rw [hW]; go_simp
  have c3_2 : V2.cell? ⟨b2, 3, none⟩ = some (.int .i64 0) := by rw [hW]; go_simp
  have y3_2 : V2.frozen? ⟨b2, 3, none⟩ = false := by rw [hW]; go_simp
  have p3_2 : V2.cell? ⟨w.heap.size, 3, none⟩ = some (.int .i64 0) := by rw [hW]; go_simp
  have u3_2 : V2.frozen? ⟨w.heap.size, 3, none⟩ = false := by rw [hW]; go_simp
  have c4_2 : V2.cell? ⟨b2, 4, none⟩ = some (.int .i64 yi) := by rw [hW]; go_simp
  have y4_2 : V2.frozen? ⟨b2, 4, none⟩ = false := by rw [hW]; go_simp
  have p4_2 : V2.cell? ⟨w.heap.size, 4, none⟩ = some (.int .i64 0) := by rw [hW]; go_simp
  have u4_2 : V2.frozen? ⟨w.heap.size, 4, none⟩ = false := by rw [hW]; go_simp
  have s0_2 : V2.cell? ⟨b1, 0, none⟩ = some (.bool true) := by rw [hW]; go_simp
  have s1_2 : V2.cell? ⟨b1, 1, none⟩ = some (.bool true) := by rw [hW]; go_simp
  have s2_2 : V2.cell? ⟨b1, 2, none⟩ = some (.bool false) := by rw [hW]; go_simp
  have HV2 : Hid (Below w.heap.size w V2) := hide (by rw [hW]; exact HV1.out.setCell (by show w.heap.size ≤ b2; omega) _)
  have n4_2 : b2 < V2.heap.size := by rw [hW]; simpa using n4_1
  clear hW HR1 c0_1 c1_1 c2_1 c3_1 c4_1 y0_1 y1_1 y2_1 y3_1 y4_1 p0_1 p1_1 p2_1 p3_1 p4_1 u0_1 u1_1 u2_1 u3_1 u4_1 s0_1 s1_1 s2_1 HV1 n4_1
  go_wp2
  refine bodyPost_ret (v := .tuple #[inst o y0 y1 0 yi, .bool true]) (by simp [results, Tryz.results72, go_sem, inst, p0_2, p1_2, p2_2, p3_2, p4_2]) rfl ⟨rfl, ?_⟩
  have hb := HV2.out
  clear HV2
  go_grown

end Go.Proofs.YtdhjjlnabbpinaaGreatDoor

/- The contract of package inst's Decode, of a word that is an instruction. -/
namespace Go.Proofs.YtdhjjlnabbpinaaGreatDoor
open Go.RowKit Go.Maps
set_option linter.unusedVariables false
set_option maxRecDepth 100000
set_option linter.unusedSimpArgs false

theorem shb_form {x : Int} (h : shb x ≠ 0) : fmc (cd x) = 1 := by
  unfold shb at h
  split at h
  · exact absurd rfl h
  · split at h
    · rename_i h2; rw [h2]; decide
    · split at h
      · rename_i h2; rw [h2]; decide
      · exact absurd rfl h
theorem fmo_of {o : Nat} (ho : 1 ≤ o) (ho' : o < 66) : fmo o = fmc (cd (wd o)) := by
  unfold fmo knw
  rw [if_pos (by simp; omega)]; rfl

theorem dec_some (x : Int) (o : Nat) (w : World) (h0 : 0 ≤ x) (h1 : x ≤ 4294967295) (ho : 1 ≤ o) (ho' : o < 66) (hM : Mt o x) (hL : Laid w) :
    Calls Tryz.prog 72 #[.int .u32 x] w fun e w' => e = .returned (.tuple #[inst o (rdO (fmo o) x) (r1O (fmo o) x) (r2O (fmo o) x) (imO (fmo o) x), .bool true]) ∧ Below w.heap.size w w' := by
  have hoo : decide (o ≠ 0) = true := by simp; omega
  have HO := fun w hL => op_any x o w h0 h1 (Or.inr ⟨ho, ho', hM⟩) hL
  rw [hoo] at HO
  have HF := fun w hL => form_any o w hL
  have HS := fun w => slots_any (fmo o) w
  have HG := fun w => get_any (fmo o) x w h0 h1
  have HT := fun w => shift_any x w h0 h1
  have HI := fun n w hn => ifield_any x 20 n w h0 h1 (by decide) hn
  have HR0 := fun w => reg_any x 7 w h0 h1 (by decide)
  have HR1 := fun w => reg_any x 15 w h0 h1 (by decide)
  have HR2 := fun w => reg_any x 20 w h0 h1 (by decide)
  have hf : shb x ≠ 0 → fmo o = 1 := fun h => by rw [fmo_of ho ho', hM.1]; exact shb_form h
  have b6 : 0 ≤ x / 2 ^ 20 % 2 ^ 6 ∧ x / 2 ^ 20 % 2 ^ 6 ≤ 63 := by simp; omega
  have b5 : 0 ≤ x / 2 ^ 20 % 2 ^ 5 ∧ x / 2 ^ 20 % 2 ^ 5 ≤ 63 := by simp; omega
  unfold rdO r1O r2O imO
  rcases shb_cases x with hs | hs | hs
  · rw [hs] at HT
    simp only [hs, show ¬ ((0 : Int) = 6) by decide, show ¬ ((0 : Int) = 5) by decide, if_false]
    rcases has_cases (fmo o) with ⟨e0, e1, e2⟩ | ⟨e0, e1, e2⟩ | ⟨e0, e1, e2⟩ | ⟨e0, e1, e2⟩ | ⟨e0, e1, e2⟩
    · rw [e0, e1, e2] at HS
      simp only [e0, e1, e2, if_true, Bool.false_eq_true, if_false]
      exact dec_0_0 x _ _ 0 _ _ _ o w h0 h1 ho ho' (by decide) HO hL HF HS HG HT HR0 HR1 HR2
    · rw [e0, e1, e2] at HS
      simp only [e0, e1, e2, if_true, Bool.false_eq_true, if_false]
      exact dec_0_1 x _ _ 0 _ _ 0 o w h0 h1 ho ho' (by decide) HO hL HF HS HG HT HR0 HR1
    · rw [e0, e1, e2] at HS
      simp only [e0, e1, e2, if_true, Bool.false_eq_true, if_false]
      exact dec_0_2 x _ _ 0 0 _ _ o w h0 h1 ho ho' (by decide) HO hL HF HS HG HT HR1 HR2
    · rw [e0, e1, e2] at HS
      simp only [e0, e1, e2, if_true, Bool.false_eq_true, if_false]
      exact dec_0_3 x _ _ 0 _ 0 0 o w h0 h1 ho ho' (by decide) HO hL HF HS HG HT HR0
    · rw [e0, e1, e2] at HS
      simp only [e0, e1, e2, if_true, Bool.false_eq_true, if_false]
      exact dec_0_4 x _ _ 0 0 0 0 o w h0 h1 ho ho' (by decide) HO hL HF HS HG HT
  · have h5 := hf (by rw [hs]; decide)
    rw [hs] at HT
    simp only [hs, show ¬ ((5 : Int) = 6) by decide, if_false, if_true]
    rw [h5] at HF HS HG ⊢
    rw [show hasD 1 = true by decide, show has1 1 = true by decide, show has2 1 = false by decide] at HS
    simp only [show hasD 1 = true by decide, show has1 1 = true by decide, show has2 1 = false by decide, if_true, Bool.false_eq_true, if_false]
    exact dec_5_1 x _ _ _ _ _ 0 o w h0 h1 ho ho' b5 HO hL HF HS HG HT (fun w => HI 5 w (by decide)) HR0 HR1
  · have h5 := hf (by rw [hs]; decide)
    rw [hs] at HT
    simp only [hs, if_true]
    rw [h5] at HF HS HG ⊢
    rw [show hasD 1 = true by decide, show has1 1 = true by decide, show has2 1 = false by decide] at HS
    simp only [show hasD 1 = true by decide, show has1 1 = true by decide, show has2 1 = false by decide, if_true, Bool.false_eq_true, if_false]
    exact dec_6_1 x _ _ _ _ _ 0 o w h0 h1 ho ho' b6 HO hL HF HS HG HT (fun w => HI 6 w (by decide)) HR0 HR1

end Go.Proofs.YtdhjjlnabbpinaaGreatDoor

/- The machine as the document has it, in numbers: what each operation makes of two numbers, what a step makes of registers, place, status, memory, input, events. Nothing is walked here. -/
namespace Go.Proofs.YtdhjjlnabbpinaaGreatDoor
open Go.RowKit Go.Maps
set_option linter.unusedVariables false
set_option maxRecDepth 100000

/-- A machine. -/
structure Mc where
  mem : Mm
  ins : List Int
  tr : List Says
  x : Nat → Int
  pc : Nat
  kind : Int
  code : Int
  trap : Int

/-- Its registers, place, status alone are numbers that fit. -/
structure Fits (x : Nat → Int) (pc : Nat) (k c t : Int) : Prop where
  reg : ∀ i, 0 ≤ x i ∧ x i ≤ 18446744073709551615
  zero : x 0 = 0
  top : ∀ i, 32 ≤ i → x i = 0
  place : pc ≤ 18446744073709551615
  kind : -9223372036854775808 ≤ k ∧ k ≤ 9223372036854775807
  code : -9223372036854775808 ≤ c ∧ c ≤ 9223372036854775807
  trap : -9223372036854775808 ≤ t ∧ t ≤ 9223372036854775807

def xset (x : Nat → Int) (rd v : Int) (i : Nat) : Int := if (i : Int) = rd ∧ 1 ≤ i ∧ i ≤ 31 then v else x i

def Mc.put (M : Mc) (rd v : Int) : Mc := { M with x := xset M.x rd v, pc := (u64 (M.pc + 4)).toNat }
def Mc.next (M : Mc) : Mc := { M with pc := (u64 (M.pc + 4)).toNat }
def Mc.trapped (M : Mc) (k : Int) : Mc := { M with kind := 2, code := 0, trap := k }
def Mc.jump (M : Mc) (rd p : Int) : Mc := if p % 4 = 0 then { M with x := xset M.x rd (u64 (M.pc + 4)), pc := p.toNat } else M.trapped 5

/-- Whether a branch is taken. -/
def takenF (o : Nat) (a b : Int) : Bool :=
  match o with
  | 5 => decide (a = b)
  | 6 => decide (a ≠ b)
  | 7 => decide (s64 a < s64 b)
  | 8 => decide (s64 b ≤ s64 a)
  | 9 => decide (a < b)
  | _ => decide (b ≤ a)

/-- How many bytes a load, a store is of. -/
def widthF (o : Nat) : Int :=
  match o with
  | 11 => 1 | 15 => 1 | 18 => 1
  | 12 => 2 | 16 => 2 | 19 => 2
  | 13 => 4 | 17 => 4 | 20 => 4
  | _ => 8

/-- What a load makes of the number. -/
def loadS (o : Nat) (v : Int) : Int :=
  match o with
  | 11 => u64 ((v + 128) % 256 - 128)
  | 12 => u64 ((v + 32768) % 65536 - 32768)
  | 13 => u64 ((v + 2147483648) % 4294967296 - 2147483648)
  | _ => v

/-- What a call of the service does. -/
noncomputable def Mc.call (M : Mc) : Mc :=
  if M.x 17 = 93 then { M with kind := 1, code := s64 (M.x 10), trap := 0 }
  else if M.x 17 = 64 then
    if 65536 < M.x 12 then M.put 10 18446744073709551594
    else if mayB M.mem (M.x 11).toNat (M.x 12).toNat 4 = true then
      { M.put 10 (M.x 12) with tr := M.tr ++ [⟨0, s64 (M.x 10), M.mem.read (M.x 11).toNat (M.x 12).toNat, 0⟩] }
    else M.put 10 18446744073709551602
  else if M.x 17 = 63 then
    if 65536 < M.x 12 then M.put 10 18446744073709551594
    else if mayB M.mem (M.x 11).toNat (M.x 12).toNat 2 = true then
      { M.put 10 (M.ins.take (M.x 12).toNat).length with
          mem := M.mem.lay (M.x 11).toNat (M.ins.take (M.x 12).toNat)
          ins := M.ins.drop (M.x 12).toNat
          tr := M.tr ++ [⟨1, s64 (M.x 10), [], (M.ins.take (M.x 12).toNat).length⟩] }
    else M.put 10 18446744073709551602
  else M.put 10 18446744073709551578

/-- What an instruction does. -/
noncomputable def Mc.doF (M : Mc) (o : Nat) (rd r1 r2 im : Int) : Mc :=
  if o = 1 then M.put rd (u64 (im * 4096))
  else if o = 2 then M.put rd (u64 (M.pc + im * 4096))
  else if o = 3 then M.jump rd (u64 (M.pc + im))
  else if o = 4 then M.jump rd (u64 (M.x r1.toNat + im) / 2 * 2)
  else if o ≤ 10 then if takenF o (M.x r1.toNat) (M.x r2.toNat) = true then M.jump 0 (u64 (M.pc + im)) else M.next
  else if o ≤ 17 then
    if numOk M.mem (u64 (M.x r1.toNat + im)).toNat (widthF o) 4 = true then M.put rd (loadS o (loadV M.mem (u64 (M.x r1.toNat + im)).toNat (widthF o)))
    else M.trapped 3
  else if o ≤ 21 then
    if numOk M.mem (u64 (M.x r1.toNat + im)).toNat (widthF o) 2 = true then { M.next with mem := stored M.mem (u64 (M.x r1.toNat + im)).toNat (widthF o) (M.x r2.toNat) }
    else M.trapped 4
  else if o ≤ 62 then M.put rd (aluF o (M.x r1.toNat) (if fmo o = 1 then u64 im else M.x r2.toNat))
  else if o = 63 then M.next
  else if o = 64 then M.call
  else M.trapped 6

/-- The operation of a word (0: it is none). -/
noncomputable def opOf (v : Int) : Nat := Classical.choose (isOp_ex v)
theorem opOf_is (v : Int) : IsOp v (opOf v) := Classical.choose_spec (isOp_ex v)

/-- A step. -/
noncomputable def Mc.step (M : Mc) : Mc :=
  if M.kind = 0 then
    if M.pc % 4 = 0 then
      if mayB M.mem M.pc 4 1 = true then
        if opOf (fetchV M.mem M.pc) = 0 then M.trapped 2
        else M.doF (opOf (fetchV M.mem M.pc)) (rdO (fmo (opOf (fetchV M.mem M.pc))) (fetchV M.mem M.pc)) (r1O (fmo (opOf (fetchV M.mem M.pc))) (fetchV M.mem M.pc)) (r2O (fmo (opOf (fetchV M.mem M.pc))) (fetchV M.mem M.pc)) (imO (fmo (opOf (fetchV M.mem M.pc))) (fetchV M.mem M.pc))
      else M.trapped 1
    else M.trapped 5
  else M

end Go.Proofs.YtdhjjlnabbpinaaGreatDoor

/- The machine's registers as the program keeps them: a map by their numbers. -/
namespace Go.Proofs.YtdhjjlnabbpinaaGreatDoor
open Go.RowKit Go.Maps
set_option linter.unusedVariables false
set_option maxRecDepth 100000

theorem lawInt : Keyed Tryz.prog 3 := int_keyed Tryz.underlying3

def InI (z : Int) : Prop := -9223372036854775808 ≤ z ∧ z ≤ 9223372036854775807

/-- A key. -/
def ki (z : Int) : Lit := .int .i64 z
theorem ki_key (z : Int) : WideAt.IsKeyLit (ki z) := trivial
theorem ki_of (z : Int) (h : InI z) : keyOf Tryz.prog 3 (.int .i64 z) = some (ki z) :=
  keyOf_int_mk Tryz.underlying3 (by unfold InI at h; simp [Lit.wf, IntKind.min, IntKind.max, IntKind.signed, IntKind.bits]; omega)
theorem ki_ne {i j : Int} (h : i ≠ j) : ki i ≠ ki j := by
  unfold ki; intro e; injection e with e1 e2; omega

/-- Block b is a map of n entries that holds f z at the key z. -/
def MapI (w : World) (b n : Nat) (f : Int → Option Value) : Prop :=
  ∃ D : DataW Value, w.ownsMap Tryz.prog 3 raw b n D ∧ Maps.size D = n ∧
    ∀ z, InI z → Maps.has D (ki z) = (f z).isSome ∧ ∀ v, f z = some v → ∀ y, D.atKey (ki z) y = .held v

theorem MapI.lt {w : World} {b n : Nat} {f : Int → Option Value} (h : MapI w b n f) : b < w.heap.size := by
  obtain ⟨D, h1, _⟩ := h
  exact h1.lt
theorem MapI.kept {w w' : World} {b n : Nat} {f : Int → Option Value} (h : MapI w b n f) (hb : w'.heap[b]? = w.heap[b]?) : MapI w' b n f := by
  obtain ⟨D, ⟨es, clock, h1, h2⟩, h3⟩ := h
  exact ⟨D, ⟨es, clock, hb.trans h1, h2⟩, h3⟩
theorem MapI.made (w : World) : MapI (w.alloc (.map #[] 0)) w.heap.size 0 (fun _ => none) :=
  ⟨.map [], World.ownsMap_made w _ _ _, rfl, fun i hi => ⟨rfl, fun v hv => by cases hv⟩⟩
theorem MapI.noCells {w : World} {b n : Nat} {f : Int → Option Value} (h : MapI w b n f) {cs : Array Value} {t : TypeId} {fz : Nat × Nat} (hc : w.heap[b]? = some (.cells cs t fz)) : False := by
  obtain ⟨D, ⟨es, clock, h1, h2⟩, h3⟩ := h
  rw [h1] at hc
  cases hc
theorem MapI.look {w : World} {b n : Nat} {f : Int → Option Value} (h : MapI w b n f) {t e : TypeId} (ht : Tryz.prog.underlying t = some (.map 3 e)) {y : Value} (hy : (zeroValue e).run Tryz.prog w = .ok y w) (z : Int) (hz : InI z) :
    (Instr.lookup t (.map (some b)) (.int .i64 z) false).run Tryz.prog w = .ok ((f z).getD y) w := by
  obtain ⟨D, hown, _, hf⟩ := h
  obtain ⟨h1, h2⟩ := hf z hz
  obtain ⟨v, ps, hrun, hv⟩ := hown.lookup lawInt ht hy (zd := .held y) (zp := []) rfl (ki_of z hz)
  have hv' : DataW.held v = D.atKey (ki z) (.held y) := by have h9 := hv; simp [raw] at h9; exact h9.1
  cases hfi : f z with
  | none =>
    rw [hfi] at h1
    rw [atKey_of_not_has h1] at hv'
    injection hv' with e
    subst e
    exact hrun
  | some u =>
    rw [h2 u hfi] at hv'
    injection hv' with e
    subst e
    exact hrun

/-- f with v at i. -/
def updI (f : Int → Option Value) (i : Int) (v : Value) (j : Int) : Option Value := if j = i then some v else f j

theorem MapI.store {w : World} {b n : Nat} {f : Int → Option Value} (h : MapI w b n f) {t e : TypeId} (ht : Tryz.prog.underlying t = some (.map 3 e)) (hn : n < maxLen) (i : Int) (hi : InI i) (v : Value) :
    ∃ w', (Instr.mapUpdate t (.map (some b)) (.int .i64 i) v).run Tryz.prog w = .ok () w' ∧ MapI w' b (if (f i).isSome then n else n + 1) (updI f i v) ∧ w.grownBy w' (some b) ∧ w'.heap.size = w.heap.size := by
  obtain ⟨D, hown, hs, hf⟩ := h
  obtain ⟨w', hrun, hown', hturn⟩ := hown.store lawInt ht hn (ki_of i hi) (d := .held v) (ps := []) rfl
  have htd := hown.tidy lawInt
  have hsz : Maps.size (D.put (ki i) (.held v)) = if (f i).isSome then n else n + 1 := by
    rw [size_put htd, (hf i hi).1, hs]
  refine ⟨w', hrun, ⟨D.put (ki i) (.held v), ?_, hsz, fun j hj => ?_⟩, hturn.grown, ?_⟩
  · obtain ⟨es, clock, h1, h2, h3, h4⟩ := hown'
    refine ⟨es, clock, h1, h2, ?_, h4⟩
    have e1 : Maps.size (D.put (ki i) (.held v)) = es.size := by rw [h4]; simp [Maps.size, length_sorted]
    omega
  · by_cases hji : j = i
    · subst hji
      refine ⟨by rw [has_put_same htd.isMap (ki_key _)]; simp [updI], fun u hu z => ?_⟩
      rw [atKey_put_same htd.isMap (ki_key _)]
      simp [updI] at hu
      rw [hu]
    · rw [has_put_other (ki_ne hji), (hf j hj).1]
      refine ⟨by simp [updI, hji], fun u hu z => ?_⟩
      rw [atKey_put_other (ki_ne hji)]
      exact (hf j hj).2 u (by simpa [updI, hji] using hu) z
  · obtain ⟨es, clock, es', clock', hb, rfl⟩ := hturn
    simp [ChangeMaps.setBlock]

/-! ### How many entries there are -/

theorem cnt_more {p q : Nat → Bool} {i : Nat} (hp : p i = false) (hq : q i = true) (hpq : ∀ j, p j = true → q j = true) : ∀ l : List Nat, i ∈ l → l.countP p + 1 ≤ l.countP q
  | [], h => by cases h
  | a :: l, h => by
    have hm : l.countP p ≤ l.countP q := List.countP_mono_left (fun j _ => hpq j)
    rw [List.countP_cons, List.countP_cons]
    by_cases ha : a = i
    · subst ha
      rw [hp, hq]
      simp
      omega
    · have h1 := cnt_more hp hq hpq l (by simpa [Ne.symm ha] using h)
      cases hpa : p a with
      | false => simp; omega
      | true => rw [hpq a hpa]; simp; omega

def cnt (f : Int → Option Value) : Nat := (List.range 32).countP (fun i : Nat => (f (i : Int)).isSome)
theorem cnt_le (f : Int → Option Value) : cnt f ≤ 32 := by
  have := List.countP_le_length (p := fun i : Nat => (f i).isSome) (l := List.range 32)
  simpa [cnt] using this
theorem cnt_upd {f : Int → Option Value} {i : Nat} (hi : i < 32) (v : Value) {n : Nat} (hn : n ≤ cnt f) : (if (f i).isSome then n else n + 1) ≤ cnt (updI f i v) := by
  have hm : ∀ j : Nat, (f j).isSome = true → (updI f i v j).isSome = true := fun j hj => by unfold updI; split; rfl; exact hj
  by_cases h : (f i).isSome = true
  · rw [if_pos h]
    exact Nat.le_trans hn (List.countP_mono_left (fun (j : Nat) _ => hm j))
  · rw [if_neg h]
    have h1 := cnt_more (p := fun j : Nat => (f j).isSome) (q := fun j : Nat => (updI f i v j).isSome) (i := i) (by simpa using h) (by simp [updI]) hm (List.range 32) (by simpa using hi)
    unfold cnt at hn ⊢
    omega

/-! ### The machine's own block -/

/-- Register i, as Reg tells it. -/
def rg (x : Nat → Int) (i : Int) : Int := if 0 ≤ i ∧ i < 32 then x i.toNat else 0

/-- Block m is the program's machine over the memory mm and the environment me: registers, place, status. -/
structure HDx (w : World) (m mm me b n : Nat) (f : Int → Option Value) (x : Nat → Int) (pc : Nat) (k c t : Int) (F : Nat → Prop) : Prop where
  head : w.heap[m]? = some (.cells #[.pointer (some ⟨mm, 0, none⟩), .pointer (some ⟨me, 0, none⟩), .map (some b), .int .u64 (pc : Int), .int .i64 k, .int .i64 c, .int .i64 t] 76 (0, 0))
  map : MapI w b n f
  cnt : n ≤ cnt f
  val : ∀ z, InI z → (f z).getD (.int .u64 0) = .int .u64 (rg x z)
  fits : Fits x pc k c t
  fm : F m
  fb : F b
  flt : ∀ k, F k → k < w.heap.size

def HD (m mm me : Nat) (x : Nat → Int) (pc : Nat) (k c t : Int) (w : World) (F : Nat → Prop) : Prop := ∃ b n f, HDx w m mm me b n f x pc k c t F

section
variable {w w' : World} {m mm me b n : Nat} {f : Int → Option Value} {x : Nat → Int} {pc : Nat} {k c t : Int} {F G : Nat → Prop}

theorem HDx.kept (h : HDx w m mm me b n f x pc k c t F) (hk : Kept G w w') (hd : ∀ k, F k → ¬ G k) : HDx w' m mm me b n f x pc k c t F :=
  have same : ∀ k, F k → w'.heap[k]? = w.heap[k]? := fun k hF => hk.block k (h.flt k hF) (hd k hF)
  ⟨(same m h.fm).trans h.head, h.map.kept (same b h.fb), h.cnt, h.val, h.fits, h.fm, h.fb, fun k hF => Nat.lt_of_lt_of_le (h.flt k hF) hk.size⟩

theorem hd_stays (B : Nat) (m mm me : Nat) (x : Nat → Int) (pc : Nat) (k c t : Int) : Stays B (HD m mm me x pc k c t) :=
  ⟨fun ⟨b, n, f, h⟩ hk hd hG => ⟨b, n, f, h.kept hk hd⟩, fun ⟨b, n, f, h⟩ => h.flt⟩

theorem HDx.mb (h : HDx w m mm me b n f x pc k c t F) : m ≠ b := fun e => by
  have h1 := h.head
  rw [e] at h1
  exact h.map.noCells h1
theorem HDx.cell (h : HDx w m mm me b n f x pc k c t F) (i : Nat) : w.cell? ⟨m, i, none⟩ = (#[.pointer (some ⟨mm, 0, none⟩), .pointer (some ⟨me, 0, none⟩), .map (some b), .int .u64 (pc : Int), .int .i64 k, .int .i64 c, .int .i64 t] : Array Value)[i]? := cell_of_row _ _ i _ _ _ h.head
theorem HDx.frozen (h : HDx w m mm me b n f x pc k c t F) (i : Nat) : w.frozen? ⟨m, i, none⟩ = false := by
  unfold World.frozen?
  simp only [h.head]
  simp

end

end Go.Proofs.YtdhjjlnabbpinaaGreatDoor

/- Contracts of package mach's calls that touch the machine's own block alone: registers, place, status. -/
namespace Go.Proofs.YtdhjjlnabbpinaaGreatDoor
open Go.RowKit Go.Maps
set_option linter.unusedVariables false
set_option maxRecDepth 100000

section
variable {w w' : World} {m mm me b n : Nat} {f : Int → Option Value} {x : Nat → Int} {pc : Nat} {k c t : Int} {F G : Nat → Prop}

theorem HDx.look (h : HDx w m mm me b n f x pc k c t F) (z : Int) (hz : InI z) : (Instr.lookup 74 (.map (some b)) (.int .i64 z) false).run Tryz.prog w = .ok (.int .u64 (rg x z)) w := by
  have h1 := h.map.look Tryz.underlying74 (y := .int .u64 0) (by kernel_rfl) z hz
  rwa [h.val z hz] at h1

theorem mreg_any (z : Int) (w : World) (h : HD m mm me x pc k c t w F) (hz : InI z) :
    Calls Tryz.prog 13 #[.pointer (some ⟨m, 0, none⟩), .int .i64 z] w fun e w' => e = .returned (.int .u64 (rg x z)) ∧ w' = w := by
  obtain ⟨b, n, f, h⟩ := h
  have hc := h.cell 2
  have hl := h.look z hz
  generalize rg x z = v at *
  clear h hz
  go_enter Tryz.func13, Tryz.ntmps13
  go_wp2
  go_ret
  exact ⟨rfl, rfl⟩

theorem rg_xset (x : Nat → Int) (i v z : Int) (h : 1 ≤ i ∧ i ≤ 31) : rg (xset x i v) z = if z = i then v else rg x z := by
  unfold rg xset
  by_cases h1 : 0 ≤ z ∧ z < 32
  · rw [if_pos h1, if_pos h1]
    by_cases h2 : z = i
    · rw [if_pos h2, if_pos (by omega)]
    · rw [if_neg h2, if_neg (by omega)]
  · rw [if_neg h1, if_neg h1, if_neg (by omega)]

theorem xset_no {x : Nat → Int} {i v : Int} (h : ¬ (1 ≤ i ∧ i ≤ 31)) : xset x i v = x := by
  funext j
  unfold xset
  rw [if_neg (by omega)]

theorem Fits.set (h : Fits x pc k c t) {i v : Int} (hv : 0 ≤ v ∧ v ≤ 18446744073709551615) : Fits (xset x i v) pc k c t :=
  ⟨fun j => by
    unfold xset
    split
    · exact hv
    · exact h.reg j, by unfold xset; rw [if_neg (by omega)]; exact h.zero, fun j hj => by unfold xset; rw [if_neg (by omega)]; exact h.top j hj, h.place, h.kind, h.code, h.trap⟩

theorem set_any (i v : Int) (w : World) (h : HD m mm me x pc k c t w F) (hi : InI i) (hv : 0 ≤ v ∧ v ≤ 18446744073709551615) :
    Calls Tryz.prog 8 #[.pointer (some ⟨m, 0, none⟩), .int .i64 i, .int .u64 v] w fun e w' => e = .returned (.tuple #[]) ∧ HD m mm me (xset x i v) pc k c t w' F ∧ Went F w F w' := by
  by_cases hr : 1 ≤ i ∧ i ≤ 31
  · obtain ⟨b, n, f, h⟩ := h
    have hc := h.cell 2
    have hn : n < maxLen := by have := cnt_le f; have := h.cnt; unfold maxLen; omega
    obtain ⟨w2, hrun, hmap, hgrow, hsz⟩ := h.map.store Tryz.underlying74 hn i hi (.int .u64 v)
    have H : Hid (HD m mm me (xset x i v) pc k c t w2 F ∧ Went F w F w2) := by
      obtain ⟨j, rfl⟩ : ∃ j : Nat, i = j := ⟨i.toNat, by omega⟩
      have hK : Kept F w w2 := Kept.of_grown hgrow (fun k hk => by cases hk; exact h.fb)
      refine ⟨⟨b, _, _, ⟨?_, hmap, cnt_upd (by omega) _ h.cnt, fun z hz => ?_, h.fits.set hv, h.fm, h.fb, fun k hk => by rw [hsz]; exact h.flt k hk⟩⟩, hK, fun k hk => Or.inl hk⟩
      · rw [hgrow.block m (h.flt m h.fm) (fun e => h.mb (Option.some.inj e))]
        exact h.head
      · rw [rg_xset x j v z hr]
        unfold updI
        split
        · rfl
        · exact h.val z hz
    obtain ⟨r1, r2⟩ := hr
    clear h hmap hgrow hsz hn
    go_enter Tryz.func8, Tryz.ntmps8
    go_wp2
    go_end0
    exact ⟨rfl, H.out⟩
  · rw [xset_no hr]
    have H := hide h
    clear h
    by_cases h1 : 1 ≤ i
    · have h2 : ¬ i ≤ 31 := fun e => hr ⟨h1, e⟩
      go_enter Tryz.func8, Tryz.ntmps8
      go_wp2
      go_end0
      exact ⟨rfl, H.out, Went.refl _ _⟩
    · go_enter Tryz.func8, Tryz.ntmps8
      go_wp2
      go_end0
      exact ⟨rfl, H.out, Went.refl _ _⟩

theorem pcset_head {p : Nat} (h : w.heap[m]? = some (.cells #[.pointer (some ⟨mm, 0, none⟩), .pointer (some ⟨me, 0, none⟩), .map (some b), .int .u64 (pc : Int), .int .i64 k, .int .i64 c, .int .i64 t] 76 (0, 0))) :
    (w.setCell ⟨m, 3, none⟩ (.int .u64 (p : Int))).heap[m]? = some (.cells #[.pointer (some ⟨mm, 0, none⟩), .pointer (some ⟨me, 0, none⟩), .map (some b), .int .u64 (p : Int), .int .i64 k, .int .i64 c, .int .i64 t] 76 (0, 0)) := by
  unfold World.setCell
  simp [Array.getElem?_modify, h]

theorem Fits.at (h : Fits x pc k c t) {p : Nat} (hp : p ≤ 18446744073709551615) : Fits x p k c t := ⟨h.reg, h.zero, h.top, hp, h.kind, h.code, h.trap⟩

theorem HDx.moved (h : HDx w m mm me b n f x pc k c t F) {p : Nat} (hp : p ≤ 18446744073709551615) : HD m mm me x p k c t (w.setCell ⟨m, 3, none⟩ (.int .u64 (p : Int))) F ∧ Went F w F (w.setCell ⟨m, 3, none⟩ (.int .u64 (p : Int))) := by
  have hK : Kept F w (w.setCell ⟨m, 3, none⟩ (.int .u64 (p : Int))) := (Kept.refl F w).setCell _ _ (Or.inl h.fm)
  refine ⟨⟨b, n, f, ⟨pcset_head h.head, h.map.kept (Below.heap_setCell _ _ _ _ h.mb.symm), h.cnt, h.val, h.fits.at hp, h.fm, h.fb, fun k hk => Nat.lt_of_lt_of_le (h.flt k hk) hK.size⟩⟩, hK, fun k hk => Or.inl hk⟩

theorem next_any (w : World) (h : HD m mm me x pc k c t w F) :
    Calls Tryz.prog 80 #[.pointer (some ⟨m, 0, none⟩)] w fun e w' => e = .returned (.int .i64 0) ∧ HD m mm me x (u64 (pc + 4)).toNat k c t w' F ∧ Went F w F w' := by
  obtain ⟨b, n, f, h⟩ := h
  have hc := h.cell 3
  have hz := h.frozen 3
  have hb := u64_bd (pc + 4)
  obtain ⟨p, hp⟩ : ∃ p : Nat, p = (u64 (pc + 4)).toNat := ⟨_, rfl⟩
  have hp' : IntKind.u64.wrap ((pc : Int) + 4) = (p : Int) := by rw [wrap_u64]; omega
  rw [← hp]
  have H := hide (h.moved (p := p) (by omega))
  have hpc := h.fits.place
  clear h hp hb
  go_enter Tryz.func80, Tryz.ntmps80
  go_wp2
  go_ret
  exact ⟨rfl, H.out⟩

theorem put_reg (rd v : Int) (w : World) (h : HD m mm me x pc k c t w F) (hi : InI rd) (hv : 0 ≤ v ∧ v ≤ 18446744073709551615) :
    Calls Tryz.prog 73 #[.pointer (some ⟨m, 0, none⟩), .int .i64 rd, .int .u64 v] w fun e w' => e = .returned (.int .i64 0) ∧ HD m mm me (xset x rd v) (u64 (pc + 4)).toNat k c t w' F ∧ Went F w F w' := by
  have HS := hide (set_any rd v w h hi hv)
  clear h hi hv
  go_enter Tryz.func73, Tryz.ntmps73
  go_wp2_with fail
  refine HS.out.mono ?_
  rintro e w' ⟨rfl, h1, h2⟩
  clear HS
  go_wp2_with fail
  refine (next_any _ h1).mono ?_
  rintro e w'' ⟨rfl, h3, h4⟩
  have H := hide (And.intro h3 (h2.trans h4))
  clear h1 h2 h3 h4
  go_wp2
  go_ret
  exact ⟨rfl, H.out⟩

theorem aligned_any (a : Nat) (w : World) (ha : a ≤ 18446744073709551615) :
    Calls Tryz.prog 70 #[.int .u64 (a : Int)] w fun e w' => e = .returned (.bool (decide (a % 4 = 0))) ∧ w' = w := by
  go_enter Tryz.func70, Tryz.ntmps70
  go_wp2
  go_ret
  refine ⟨ret_bool ?_, rfl⟩
  rw [Bool.eq_iff_iff]
  simp
  omega

theorem jump_any (rd : Int) (a : Nat) (w : World) (h : HD m mm me x pc k c t w F) (hi : InI rd) (ha : a ≤ 18446744073709551615) :
    Calls Tryz.prog 75 #[.pointer (some ⟨m, 0, none⟩), .int .i64 rd, .int .u64 (a : Int)] w fun e w' =>
      (a % 4 = 0 → e = .returned (.int .i64 0) ∧ HD m mm me (xset x rd (u64 (pc + 4))) a k c t w' F ∧ Went F w F w') ∧ (a % 4 ≠ 0 → e = .returned (.int .i64 5) ∧ w' = w) := by
  have HA := hide (aligned_any a w ha)
  by_cases h4 : a % 4 = 0
  · rw [decide_eq_true h4] at HA
    have hpc : pc ≤ 18446744073709551615 := by obtain ⟨b, n, f, h⟩ := h; exact h.fits.place
    have hc : w.cell? ⟨m, 3, none⟩ = some (.int .u64 (pc : Int)) := by obtain ⟨b, n, f, h⟩ := h; exact h.cell 3
    obtain ⟨p, hp⟩ : ∃ p : Int, p = u64 (pc + 4) := ⟨_, rfl⟩
    have hp' : IntKind.u64.wrap ((pc : Int) + 4) = p := by rw [wrap_u64, hp]
    have hv := u64_bd (pc + 4)
    rw [← hp] at hv ⊢
    have HS := hide (set_any rd p w h hi hv)
    have H4 := hide h4
    clear h hi hp h4
    go_enter Tryz.func75, Tryz.ntmps75
    go_wp2_with fail
    refine HA.out.mono ?_
    rintro e w' ⟨rfl, rfl⟩
    go_wp2_with fail
    refine HS.out.mono ?_
    rintro e w2 ⟨rfl, h1, h2⟩
    obtain ⟨b, n, f, h1⟩ := h1
    have hz := h1.frozen 3
    have hc3 := h1.cell 3
    have h3 := h1.moved (p := a) ha
    have H := hide (And.intro h3.1 (h2.trans h3.2))
    clear h1 h2 h3 HS HA
    go_wp2
    go_ret
    exact ⟨fun _ => ⟨rfl, H.out⟩, fun h => absurd H4.out h⟩
  · rw [decide_eq_false h4] at HA
    have H4 := hide h4
    clear h hi h4
    go_enter Tryz.func75, Tryz.ntmps75
    go_wp2_with fail
    refine HA.out.mono ?_
    rintro e w' ⟨rfl, rfl⟩
    go_wp2
    go_ret
    exact ⟨fun h => absurd h H4.out, fun _ => ⟨rfl, rfl⟩⟩

theorem pc_any (w : World) (h : HD m mm me x pc k c t w F) :
    Calls Tryz.prog 11 #[.pointer (some ⟨m, 0, none⟩)] w fun e w' => e = .returned (.int .u64 (pc : Int)) ∧ w' = w := by
  obtain ⟨b, n, f, h⟩ := h
  have hc := h.cell 3
  clear h
  go_enter Tryz.func11, Tryz.ntmps11
  go_wp2
  go_ret
  exact ⟨rfl, rfl⟩

theorem cell_new (w : World) (cs : Array Value) (ty : TypeId) (i : Nat) : (w.alloc (.cells cs ty)).cell? ⟨w.heap.size, i, none⟩ = cs[i]? := cell_of_row _ _ i _ _ _ (heap_alloc_new w _)

theorem status_any (w : World) (h : HD m mm me x pc k c t w F) :
    Calls Tryz.prog 12 #[.pointer (some ⟨m, 0, none⟩)] w fun e w' => e = .returned (.agg #[.int .i64 k, .int .i64 c, .int .i64 t]) ∧ Below w.heap.size w w' := by
  obtain ⟨b, n, f, h⟩ := h
  have hc4 := h.cell 4
  have hc5 := h.cell 5
  have hc6 := h.cell 6
  have hlt := h.flt m h.fm
  clear h
  go_enter Tryz.func12, Tryz.ntmps12
  go_wp2
  refine bodyPost_ret (v := .agg #[.int .i64 k, .int .i64 c, .int .i64 t]) (by simp [results, Tryz.results12, go_sem]) rfl ⟨rfl, (Below.refl _ _).alloc (Nat.le_refl _) _⟩

end

end Go.Proofs.YtdhjjlnabbpinaaGreatDoor

/- Facts on numbers of 64 and 32 bits that the contracts of the operations stand on. -/
namespace Go.Proofs.YtdhjjlnabbpinaaGreatDoor
open Go.RowKit
set_option linter.unusedVariables false
set_option maxRecDepth 100000

theorem wrap64_is (z : Int) : wrap64 z = s64 z := by unfold wrap64 s64; rfl
theorem wrap32_is (z : Int) : wrap32 z = s32 z := by unfold wrap32 s32; rfl
theorem s64_s32 (z : Int) : s64 (s32 z) = s32 z := by unfold s64 s32; omega
theorem sx_def (z : Int) : u64 (s64 (s32 z)) = sx z := by unfold sx; rw [s64_s32]
theorem s64_id {z : Int} (h0 : -9223372036854775808 ≤ z) (h1 : z ≤ 9223372036854775807) : s64 z = z := by unfold s64; omega
theorem s32_id {z : Int} (h0 : -2147483648 ≤ z) (h1 : z ≤ 2147483647) : s32 z = z := by unfold s32; omega
theorem u64_id {z : Int} (h0 : 0 ≤ z) (h1 : z ≤ 18446744073709551615) : u64 z = z := by unfold u64; omega
theorem u32_id {z : Int} (h0 : 0 ≤ z) (h1 : z ≤ 4294967295) : u32 z = z := by unfold u32; omega

theorem and63 {b : Int} (h0 : 0 ≤ b) (h1 : b ≤ 18446744073709551615) : ∃ k : Nat, bits .and .u64 b 63 = (k : Int) ∧ k ≤ 63 ∧ (b % 64).toNat = k :=
  ⟨(b % 64).toNat, by
    have := bits_mask .u64 64 (by decide) wraps_u64 6 (by omega) b h0 (by omega)
    rw [show (2 : Int) ^ 6 - 1 = 63 by decide, show (2 : Int) ^ 6 = 64 by decide] at this
    rw [this]; omega, by omega, rfl⟩
theorem and31 {b : Int} (h0 : 0 ≤ b) (h1 : b ≤ 18446744073709551615) : ∃ k : Nat, bits .and .u64 b 31 = (k : Int) ∧ k ≤ 31 ∧ (b % 32).toNat = k :=
  ⟨(b % 32).toNat, by
    have := bits_mask .u64 64 (by decide) wraps_u64 5 (by omega) b h0 (by omega)
    rw [show (2 : Int) ^ 5 - 1 = 31 by decide, show (2 : Int) ^ 5 = 32 by decide] at this
    rw [this]; omega, by omega, rfl⟩
theorem and31w {b : Int} (h0 : 0 ≤ b) (h1 : b ≤ 4294967295) : ∃ k : Nat, bits .and .u32 b 31 = (k : Int) ∧ k ≤ 31 ∧ (b % 32).toNat = k :=
  ⟨(b % 32).toNat, by
    have := bits_mask .u32 32 (by decide) wraps_u32 5 (by omega) b h0 (by omega)
    rw [show (2 : Int) ^ 5 - 1 = 31 by decide, show (2 : Int) ^ 5 = 32 by decide] at this
    rw [this]; omega, by omega, rfl⟩

theorem hi_bd {x y : Nat} (hx : x ≤ 18446744073709551615) (hy : y ≤ 18446744073709551615) : x * y / 18446744073709551616 ≤ 18446744073709551615 := by
  have h : x * y ≤ 18446744073709551615 * 18446744073709551615 := Nat.mul_le_mul hx hy
  omega

theorem sx_congr {y z : Int} (h : y % 4294967296 = z % 4294967296) : sx y = sx z := by
  have e : ∀ t : Int, s32 t = (t % 4294967296 + 2147483648) % 4294967296 - 2147483648 := fun t => by unfold s32; omega
  unfold sx
  rw [e y, e z, h]
theorem sx_u32 (z : Int) : sx (u32 z) = sx z := sx_congr (by unfold u32; omega)
theorem sx_u64 (z : Int) : sx (u64 z) = sx z := sx_congr (by unfold u64; omega)
theorem sx_add (a b : Int) : sx (u32 a + u32 b) = sx (a + b) := sx_congr (by unfold u32; omega)
theorem sx_sub (a b : Int) : sx (u32 a - u32 b) = sx (a - b) := sx_congr (by unfold u32; omega)
theorem sx_mul (a b : Int) : sx (u32 a * u32 b) = sx (a * b) := sx_congr (by unfold u32; rw [← Int.mul_emod])
theorem sx_mul1 (a c : Int) : sx (u32 a * c) = sx (a * c) := sx_congr (by unfold u32; rw [Int.mul_emod, Int.emod_emod, ← Int.mul_emod])
theorem sx_s32 (z : Int) : sx (s32 z) = sx z := sx_congr (by unfold s32; omega)
theorem sx_s64 (z : Int) : sx (s64 z) = sx z := sx_congr (by unfold s64; omega)
theorem s32_u32 (z : Int) : s32 (u32 z) = s32 z := by unfold s32 u32; omega
theorem s64_u64 (z : Int) : s64 (u64 z) = s64 z := by unfold s64 u64; omega
theorem u32_u64 (z : Int) : u32 (u64 z) = u32 z := by unfold u32 u64; omega
theorem u64_s64 (z : Int) : u64 (s64 z) = u64 z := by unfold u64 s64; omega
theorem u32_mod (b : Int) : u32 b % 32 = b % 32 := by unfold u32; omega

theorem ediv_pow_bd (z : Int) (k : Nat) (lo hi : Int) (h0 : lo ≤ z) (h1 : z ≤ hi) (hl : lo ≤ 0) (hh : 0 ≤ hi) : lo ≤ z / 2 ^ k ∧ z / 2 ^ k ≤ hi := by
  have hp : (0 : Int) < 2 ^ k := Int.pow_pos (by decide)
  constructor
  · rw [Int.le_ediv_iff_mul_le hp]
    have : (-lo) * 1 ≤ (-lo) * 2 ^ k := Int.mul_le_mul_of_nonneg_left (by omega) (by omega)
    rw [Int.mul_one, Int.neg_mul] at this
    exact Int.le_trans (Int.le_of_neg_le_neg this) h0
  · apply Int.le_of_lt_add_one
    rw [Int.ediv_lt_iff_lt_mul hp]
    have : (hi + 1) * 1 ≤ (hi + 1) * 2 ^ k := Int.mul_le_mul_of_nonneg_left (by omega) (by omega)
    rw [Int.mul_one] at this
    exact Int.lt_of_lt_of_le (by omega) this
theorem sx_sra (a : Int) (k : Nat) : sx (s32 a / 2 ^ k) = u64 (s32 a / 2 ^ k) := by
  have h := s32_bd a
  have := ediv_pow_bd (s32 a) k (-2147483648) 2147483647 h.1 h.2 (by decide) (by decide)
  unfold sx
  rw [s32_id this.1 this.2]

theorem s64_zero {b : Int} (h0 : 0 ≤ b) (h1 : b ≤ 18446744073709551615) : (s64 b = 0) ↔ b = 0 := by unfold s64; omega
theorem s32_zero (b : Int) : (s32 b = 0) ↔ u32 b = 0 := by unfold s32 u32; omega
theorem s64_m1 {b : Int} (h0 : 0 ≤ b) (h1 : b ≤ 18446744073709551615) : (s64 b = -1) ↔ b = 18446744073709551615 := by unfold s64; omega

theorem tdiv_bd (a b lo : Int) (h0 : lo ≤ a) (h1 : a ≤ -lo - 1) (hb : b ≠ 0) : lo ≤ a.tdiv b ∧ a.tdiv b ≤ -lo := by
  have h2 := Int.natAbs_tdiv_le_natAbs a b
  omega
theorem tmod_bd (a b lo : Int) (h0 : lo ≤ a) (h1 : a ≤ -lo - 1) : lo ≤ a.tmod b ∧ a.tmod b ≤ -lo - 1 := by
  have h2 : (a.tmod b).natAbs ≤ a.natAbs := by
    rw [Int.natAbs_tmod]
    exact Nat.mod_le _ _
  rcases Int.le_total 0 a with h3 | h3
  · have := Int.tmod_nonneg b h3
    omega
  · have h4 : (-a).tmod b = -(a.tmod b) := Int.neg_tmod ..
    have := Int.tmod_nonneg b (show 0 ≤ -a by omega)
    omega

end Go.Proofs.YtdhjjlnabbpinaaGreatDoor
