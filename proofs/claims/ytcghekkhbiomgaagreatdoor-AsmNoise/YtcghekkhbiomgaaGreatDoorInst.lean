/- Contracts of package inst's small calls: each returns what the plain functions say. -/
import Derived.Test.YtcghekkhbiomgaaGreatDoorInstPlain
namespace Go.Proofs.YtcghekkhbiomgaaGreatDoor
open Go.RowKit
set_option linter.unusedVariables false
set_option maxRecDepth 100000

theorem ifield_val {x : Int} {f n : Nat} (h0 : 0 ≤ x) (h1 : x ≤ 4294967295) (hn : n ≤ 31) :
    bits .and .u32 (x / 2 ^ f) ((2 ^ n - 1) % 4294967296) = x / 2 ^ f % 2 ^ n := by
  have hn0 : (0 : Int) < 2 ^ n := Int.pow_pos (by decide)
  have hf0 : (0 : Int) < 2 ^ f := Int.pow_pos (by decide)
  have hn1 : (2 : Int) ^ n ≤ 2147483648 := by
    have := Nat.pow_le_pow_right (n := 2) (by decide) hn
    rw [two_cast]; omega
  have y0 : 0 ≤ x / 2 ^ f := Int.ediv_nonneg h0 (by omega)
  have y1 : x / 2 ^ f ≤ x := Int.ediv_le_self _ h0
  rw [Int.emod_eq_of_lt (a := 2 ^ n - 1) (by omega) (by omega), bits_mask .u32 32 (by decide) wraps_u32 n (by omega) _ y0 (by omega)]

theorem ifield_any (x : Int) (f n : Nat) (w : World) (h0 : 0 ≤ x) (h1 : x ≤ 4294967295) (hf : f ≤ 31) (hn : n ≤ 31) :
    Calls Tryz.prog 64 #[.int .u32 x, .int .u64 f, .int .u64 n] w fun e w' => e = .returned (.int .u32 (x / 2 ^ f % 2 ^ n)) ∧ w' = w := by
  have H := hide (ifield_val (f := f) h0 h1 hn)
  go_enter Tryz.func64, Tryz.ntmps64
  go_wp2
  go_ret
  exact ⟨by rw [← H.out]; rfl, rfl⟩

theorem code_any (x : Int) (w : World) (h0 : 0 ≤ x) (h1 : x ≤ 4294967295) :
    Calls Tryz.prog 71 #[.int .u32 x] w fun e w' => e = .returned (.int .u32 (cd x)) ∧ w' = w := by
  have hc : Calls Tryz.prog 64 #[.int .u32 x, .int .u64 0, .int .u64 7] w fun e w' => e = .returned (.int .u32 (cd x)) ∧ w' = w := ifield_any x 0 7 w h0 h1 (by decide) (by decide)
  have HC := hide hc
  clear hc
  go_enter Tryz.func71, Tryz.ntmps71
  go_wp2_with fail
  refine HC.out.mono ?_
  rintro e W ⟨rfl, hW⟩
  rw [hW]
  clear hW W
  go_wp2
  go_ret
  exact ⟨rfl, rfl⟩

theorem formc_any (c : Int) (w : World) (h0 : 0 ≤ c) (h1 : c ≤ 4294967295) :
    Calls Tryz.prog 70 #[.int .u32 c] w fun e w' => e = .returned (.int .i64 (fmc c)) ∧ w' = w := by
  go_enter Tryz.func70, Tryz.ntmps70
  go_wp2
  all_goals go_ret
  all_goals exact ⟨ret_int (by unfold fmc; simp_all), rfl⟩

theorem knw_any (op : Int) (w : World) :
    Calls Tryz.prog 48 #[.int .i64 op] w fun e w' => e = .returned (.bool (knw op)) ∧ w' = w := by
  go_enter Tryz.func48, Tryz.ntmps48
  go_wp2
  all_goals go_ret
  all_goals exact ⟨ret_bool (by unfold knw; simp_all <;> omega), rfl⟩

theorem isr_any (op : Int) (w : World) :
    Calls Tryz.prog 73 #[.int .i64 op] w fun e w' => e = .returned (.bool (isr op)) ∧ w' = w := by
  go_enter Tryz.func73, Tryz.ntmps73
  go_wp2
  all_goals go_ret
  all_goals exact ⟨ret_bool (by unfold isr; simp_all <;> omega), rfl⟩

theorem slots_ret {f : Int} {a b c : Bool} {w : World} (h : hasD f = a ∧ has1 f = b ∧ has2 f = c) : Ending.returned (Value.agg #[.bool a, .bool b, .bool c]) = .returned (.agg #[.bool (hasD f), .bool (has1 f), .bool (has2 f)]) ∧
    w.alloc (.cells #[.bool a, .bool b, .bool c] 79) = w.alloc (.cells #[.bool (hasD f), .bool (has1 f), .bool (has2 f)] 79) := by
  obtain ⟨rfl, rfl, rfl⟩ := h
  exact ⟨rfl, rfl⟩

theorem slots_any (f : Int) (w : World) :
    Calls Tryz.prog 51 #[.int .i64 f] w fun e w' => e = .returned (.agg #[.bool (hasD f), .bool (has1 f), .bool (has2 f)]) ∧ w' = w.alloc (.cells #[.bool (hasD f), .bool (has1 f), .bool (has2 f)] 79) := by
  go_enter Tryz.func51, Tryz.ntmps51
  go_wp2
  all_goals go_returns
  all_goals go_light
  all_goals exact slots_ret (by unfold hasD has1 has2; simp_all)

theorem shift_any (x : Int) (w : World) (h0 : 0 ≤ x) (h1 : x ≤ 4294967295) :
    Calls Tryz.prog 63 #[.int .u32 x] w fun e w' => e = .returned (.int .u64 (shb x)) ∧ w' = w := by
  have hc : Calls Tryz.prog 64 #[.int .u32 x, .int .u64 12, .int .u64 3] w fun e w' => e = .returned (.int .u32 (f3 x)) ∧ w' = w := ifield_any x 12 3 w h0 h1 (by decide) (by decide)
  have HC := hide hc
  have HD := hide (code_any x w h0 h1)
  have b1 := cd_bd x
  have b2 := f3_bd x
  obtain ⟨c, hcd⟩ : ∃ c, c = cd x := ⟨_, rfl⟩
  obtain ⟨f, hf3⟩ : ∃ f, f = f3 x := ⟨_, rfl⟩
  have e : shb x = if f ≠ 1 ∧ f ≠ 5 then 0 else if c = 19 then 6 else if c = 27 then 5 else 0 := by rw [hf3, hcd]; rfl
  have HY := hide e
  generalize shb x = y at *
  rw [← hcd] at HD b1
  rw [← hf3] at HC b2
  clear hcd hf3 e hc
  go_enter Tryz.func63, Tryz.ntmps63
  go_wp2_with fail
  refine HC.out.mono ?_
  rintro e W ⟨rfl, hW⟩
  rw [hW]
  clear hW W HC
  go_wp2_with fail
  all_goals try (refine HD.out.mono ?_; rintro e W ⟨rfl, hW⟩; rw [hW]; clear hW W HD; go_wp2)
  all_goals go_ret
  all_goals go_light
  all_goals exact ⟨ret_int (by rw [HY.out]; simp_all), rfl⟩

theorem upper_any (x : Int) (w : World) (h0 : 0 ≤ x) (h1 : x ≤ 4294967295) :
    Calls Tryz.prog 99 #[.int .u32 x] w fun e w' => e = .returned (.int .u32 (upp x)) ∧ w' = w := by
  have HS := hide (shift_any x w h0 h1)
  have HC := hide (code_any x w h0 h1)
  have b1 := cd_bd x
  have HF := hide (formc_any (cd x) w b1.1 (by omega))
  have b2 := fmc_bd (cd x)
  obtain ⟨c, hcd⟩ : ∃ c, c = cd x := ⟨_, rfl⟩
  obtain ⟨f, hf3⟩ : ∃ f, f = fmc (cd x) := ⟨_, rfl⟩
  obtain ⟨s, hs⟩ : ∃ s, s = shb x := ⟨_, rfl⟩
  have e : upp x = if s = 6 then x / 67108864 else if s = 5 then x / 33554432 else if f = 0 then x / 33554432 else 0 := by rw [hf3, hs]; rfl
  have HY := hide e
  generalize upp x = y at *
  rw [← hf3, ← hcd] at HF
  rw [← hf3] at b2
  rw [← hcd] at HC b1
  rw [← hs] at HS
  have hss : s = 0 ∨ s = 5 ∨ s = 6 := by rw [hs]; exact shb_cases x
  clear hcd hf3 e hs
  rcases hss with rfl | rfl | rfl
  · go_enter Tryz.func99, Tryz.ntmps99
    go_wp2_with fail
    refine HS.out.mono ?_
    rintro e W ⟨rfl, hW⟩
    rw [hW]
    clear hW W HS
    go_wp2_with fail
    refine HC.out.mono ?_
    rintro e W ⟨rfl, hW⟩
    rw [hW]
    clear hW W HC
    go_wp2_with fail
    refine HF.out.mono ?_
    rintro e W ⟨rfl, hW⟩
    rw [hW]
    clear hW W HF
    go_wp2
    all_goals go_ret
    all_goals go_light
    all_goals exact ⟨ret_int (by rw [HY.out]; simp_all), rfl⟩
  all_goals
    clear HC HF
    go_enter Tryz.func99, Tryz.ntmps99
    go_wp2_with fail
    refine HS.out.mono ?_
    rintro e W ⟨rfl, hW⟩
    rw [hW]
    clear hW W HS
    go_wp2
    go_ret
    go_light
    exact ⟨ret_int (by rw [HY.out]; simp), rfl⟩

theorem reg_any (x : Int) (f : Nat) (w : World) (h0 : 0 ≤ x) (h1 : x ≤ 4294967295) (hf : f ≤ 31) :
    Calls Tryz.prog 65 #[.int .u32 x, .int .u64 f] w fun e w' => e = .returned (.int .i64 (x / 2 ^ f % 32)) ∧ w' = w := by
  have hc := ifield_any x f 5 w h0 h1 hf (by decide)
  rw [show ((5 : Nat) : Int) = 5 by rfl, show (2 : Int) ^ 5 = 32 by rfl] at hc
  have HC := hide hc
  clear hc
  have b0 := Int.emod_nonneg (x / 2 ^ f) (show (32 : Int) ≠ 0 by decide)
  have b1 := Int.emod_lt_of_pos (x / 2 ^ f) (show (0 : Int) < 32 by decide)
  generalize x / 2 ^ f % 32 = y at *
  go_enter Tryz.func65, Tryz.ntmps65
  go_wp2_with fail
  refine HC.out.mono ?_
  rintro e W ⟨rfl, hW⟩
  rw [hW]
  clear hW W HC
  go_wp2
  go_ret
  exact ⟨rfl, rfl⟩

/-- What the program's two tables hold. -/
def Laid (w : World) : Prop := 1 < w.heap.size ∧ (∀ k : Nat, k < 66 → w.cell? ⟨1, k, none⟩ = some (.int .u32 (wd k))) ∧ ∀ k : Nat, k < 66 → w.cell? ⟨0, k, none⟩ = some (.string (nm k))
theorem Laid.below {w w' : World} (h : Laid w) {B : Nat} (hb : Below B w w') (hB : 2 ≤ B) : Laid w' :=
  ⟨Nat.lt_of_lt_of_le h.1 hb.size, fun k hk => (hb.cell (p := ⟨1, k, none⟩) (by show 1 < B; omega)).trans (h.2.1 k hk), fun k hk => (hb.cell (p := ⟨0, k, none⟩) (by show 0 < B; omega)).trans (h.2.2 k hk)⟩

theorem form_any (op : Int) (w : World) (h : Laid w) :
    Calls Tryz.prog 46 #[.int .i64 op] w fun e w' => e = .returned (.int .i64 (fmo op)) ∧ w' = w := by
  have HK := hide (knw_any op w)
  by_cases hk : knw op = true
  · have hr : 0 < op ∧ op < 66 := by simpa [knw] using hk
    obtain ⟨k, rfl⟩ := Int.eq_ofNat_of_zero_le (show 0 ≤ op by omega)
    have hcell := h.2.1 k (by omega)
    have bw := wd_bd k
    have HC := hide (code_any (wd k) w bw.1 bw.2)
    have bc := cd_bd (wd k)
    have HF := hide (formc_any (cd (wd k)) w bc.1 (by omega))
    have e : fmo k = fmc (cd (wd k)) := by unfold fmo; rw [if_pos hk]; rfl
    rw [e]
    rw [hk] at HK
    generalize fmc (cd (wd k)) = f at *
    generalize cd (wd k) = c at *
    generalize wd k = x at *
    clear e h hk
    have hr2 : k < 66 := by omega
    go_enter Tryz.func46, Tryz.ntmps46
    go_wp2_with fail
    refine HK.out.mono ?_
    rintro e W ⟨rfl, hW⟩
    rw [hW]
    clear hW W HK
    go_wp2_with fail
    refine HC.out.mono ?_
    rintro e W ⟨rfl, hW⟩
    rw [hW]
    clear hW W HC
    go_wp2_with fail
    refine HF.out.mono ?_
    rintro e W ⟨rfl, hW⟩
    rw [hW]
    clear hW W HF
    go_wp2
    go_ret
    exact ⟨rfl, rfl⟩
  · have hk' : knw op = false := by simpa using hk
    have e : fmo op = 6 := by unfold fmo; rw [if_neg hk]
    rw [e]
    rw [hk'] at HK
    clear hk hk' e h
    go_enter Tryz.func46, Tryz.ntmps46
    go_wp2_with fail
    refine HK.out.mono ?_
    rintro e W ⟨rfl, hW⟩
    rw [hW]
    clear hW W HK
    go_wp2
    go_ret
    exact ⟨rfl, rfl⟩

theorem name_any (op : Int) (w : World) (h : Laid w) :
    Calls Tryz.prog 40 #[.int .i64 op] w fun e w' => e = .returned (.string (nmo op)) ∧ w' = w := by
  have HK := hide (knw_any op w)
  by_cases hk : knw op = true
  · have hr : 0 < op ∧ op < 66 := by simpa [knw] using hk
    obtain ⟨k, rfl⟩ := Int.eq_ofNat_of_zero_le (show 0 ≤ op by omega)
    have hcell := h.2.2 k (by omega)
    have e : nmo k = nm k := by unfold nmo; rw [if_pos hk]; rfl
    rw [e]
    rw [hk] at HK
    generalize nm k = x at *
    clear e h hk
    have hr2 : k < 66 := by omega
    go_enter Tryz.func40, Tryz.ntmps40
    go_wp2_with fail
    refine HK.out.mono ?_
    rintro e W ⟨rfl, hW⟩
    rw [hW]
    clear hW W HK
    go_wp2
    go_ret
    exact ⟨rfl, rfl⟩
  · have hk' : knw op = false := by simpa using hk
    have e : nmo op = ⟨#[]⟩ := by unfold nmo; rw [if_neg hk]
    rw [e]
    rw [hk'] at HK
    clear hk hk' e h
    go_enter Tryz.func40, Tryz.ntmps40
    go_wp2_with fail
    refine HK.out.mono ?_
    rintro e W ⟨rfl, hW⟩
    rw [hW]
    clear hW W HK
    go_wp2
    go_ret
    exact ⟨rfl, rfl⟩

end Go.Proofs.YtcghekkhbiomgaaGreatDoor
