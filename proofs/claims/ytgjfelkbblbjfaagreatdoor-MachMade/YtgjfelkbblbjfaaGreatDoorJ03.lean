/- Texts of this claim, joined: MemNum, MemOps, MemStore, EnvState. -/
import Derived.Test.YtgjfelkbblbjfaaGreatDoorJ02
import Derived.Test.YtgjfelkbblbjfaaGreatDoorJ01
import Derived.OwnWalk
import Derived.Deep.AppendLies
/- The contract of package mem's number. -/
namespace Go.Proofs.YtgjfelkbblbjfaaGreatDoor
open Go.RowKit Go.Maps
set_option linter.unusedVariables false
set_option maxRecDepth 100000

/-- The byte at j of n from a on; 0 behind them. -/
def Mm.pad (S : Mm) (a n j : Nat) : Int := if j < n then S.byte (a + j) else 0

theorem num_zeros : ∀ k, num (List.replicate k 0) = 0
  | 0 => rfl
  | k + 1 => by simp [List.replicate_succ, num, num_zeros k]

def Mm.eight (S : Mm) (a n : Nat) : List Int := [S.pad a n 0, S.pad a n 1, S.pad a n 2, S.pad a n 3, S.pad a n 4, S.pad a n 5, S.pad a n 6, S.pad a n 7]

theorem Mm.eight_num (S : Mm) (a n : Nat) (h : n ≤ 8) : num (S.eight a n) = num (S.read a n) := by
  have h9 : n = 0 ∨ n = 1 ∨ n = 2 ∨ n = 3 ∨ n = 4 ∨ n = 5 ∨ n = 6 ∨ n = 7 ∨ n = 8 := by omega
  rcases h9 with rfl | rfl | rfl | rfl | rfl | rfl | rfl | rfl | rfl <;> simp [Mm.eight, Mm.pad, Mm.read, List.range_succ, num]

theorem Mm.eight_bytes {S : Mm} (h : S.Good) (a n : Nat) : Bytes (S.eight a n) := by
  have h1 : ∀ j, 0 ≤ S.pad a n j ∧ S.pad a n j ≤ 255 := fun j => by
    unfold Mm.pad
    split
    · exact h.byte _
    · omega
  intro x hx
  simp only [Mm.eight, List.mem_cons, List.not_mem_nil, or_false] at hx
  rcases hx with rfl | rfl | rfl | rfl | rfl | rfl | rfl | rfl <;> exact h1 _

theorem eight_list {R : List Value} {S : Mm} {a n : Nat} (hn : n ≤ 8) (h : Filled R (List.replicate 8 (.int .u8 0)) S a n) : R = (S.eight a n).map (Value.int .u8) := by
  apply List.ext_getElem?
  intro j
  rw [h.2 j]
  by_cases hj : j < 8
  · have h9 : j = 0 ∨ j = 1 ∨ j = 2 ∨ j = 3 ∨ j = 4 ∨ j = 5 ∨ j = 6 ∨ j = 7 := by omega
    rcases h9 with rfl | rfl | rfl | rfl | rfl | rfl | rfl | rfl <;> (simp only [Mm.eight, Mm.pad, List.map_cons, List.map_nil]; split <;> simp)
  · rw [if_neg (by omega), List.getElem?_eq_none (by simp; omega), List.getElem?_eq_none (by simp [Mm.eight]; omega)]

theorem index8_0 (x0 x1 x2 x3 x4 x5 x6 x7 : Int) (w : World) : (Instr.index 149 (.agg #[.int .u8 x0, .int .u8 x1, .int .u8 x2, .int .u8 x3, .int .u8 x4, .int .u8 x5, .int .u8 x6, .int .u8 x7]) (.int .i64 0)).run Tryz.prog w = .ok (.int .u8 x0) w := by kernel_rfl
theorem index8_1 (x0 x1 x2 x3 x4 x5 x6 x7 : Int) (w : World) : (Instr.index 149 (.agg #[.int .u8 x0, .int .u8 x1, .int .u8 x2, .int .u8 x3, .int .u8 x4, .int .u8 x5, .int .u8 x6, .int .u8 x7]) (.int .i64 1)).run Tryz.prog w = .ok (.int .u8 x1) w := by kernel_rfl
theorem index8_2 (x0 x1 x2 x3 x4 x5 x6 x7 : Int) (w : World) : (Instr.index 149 (.agg #[.int .u8 x0, .int .u8 x1, .int .u8 x2, .int .u8 x3, .int .u8 x4, .int .u8 x5, .int .u8 x6, .int .u8 x7]) (.int .i64 2)).run Tryz.prog w = .ok (.int .u8 x2) w := by kernel_rfl
theorem index8_3 (x0 x1 x2 x3 x4 x5 x6 x7 : Int) (w : World) : (Instr.index 149 (.agg #[.int .u8 x0, .int .u8 x1, .int .u8 x2, .int .u8 x3, .int .u8 x4, .int .u8 x5, .int .u8 x6, .int .u8 x7]) (.int .i64 3)).run Tryz.prog w = .ok (.int .u8 x3) w := by kernel_rfl
theorem index8_4 (x0 x1 x2 x3 x4 x5 x6 x7 : Int) (w : World) : (Instr.index 149 (.agg #[.int .u8 x0, .int .u8 x1, .int .u8 x2, .int .u8 x3, .int .u8 x4, .int .u8 x5, .int .u8 x6, .int .u8 x7]) (.int .i64 4)).run Tryz.prog w = .ok (.int .u8 x4) w := by kernel_rfl
theorem index8_5 (x0 x1 x2 x3 x4 x5 x6 x7 : Int) (w : World) : (Instr.index 149 (.agg #[.int .u8 x0, .int .u8 x1, .int .u8 x2, .int .u8 x3, .int .u8 x4, .int .u8 x5, .int .u8 x6, .int .u8 x7]) (.int .i64 5)).run Tryz.prog w = .ok (.int .u8 x5) w := by kernel_rfl
theorem index8_6 (x0 x1 x2 x3 x4 x5 x6 x7 : Int) (w : World) : (Instr.index 149 (.agg #[.int .u8 x0, .int .u8 x1, .int .u8 x2, .int .u8 x3, .int .u8 x4, .int .u8 x5, .int .u8 x6, .int .u8 x7]) (.int .i64 6)).run Tryz.prog w = .ok (.int .u8 x6) w := by kernel_rfl
theorem index8_7 (x0 x1 x2 x3 x4 x5 x6 x7 : Int) (w : World) : (Instr.index 149 (.agg #[.int .u8 x0, .int .u8 x1, .int .u8 x2, .int .u8 x3, .int .u8 x4, .int .u8 x5, .int .u8 x6, .int .u8 x7]) (.int .i64 7)).run Tryz.prog w = .ok (.int .u8 x7) w := by kernel_rfl

theorem index8 (x0 x1 x2 x3 x4 x5 x6 x7 : Int) (k : Nat) (hk : k < 8) (w : World) :
    (Instr.index 149 (.agg #[.int .u8 x0, .int .u8 x1, .int .u8 x2, .int .u8 x3, .int .u8 x4, .int .u8 x5, .int .u8 x6, .int .u8 x7]) (.int .i64 (k : Int))).run Tryz.prog w = .ok (.int .u8 ([x0, x1, x2, x3, x4, x5, x6, x7][k]?.getD 0)) w := by
  have h9 : k = 0 ∨ k = 1 ∨ k = 2 ∨ k = 3 ∨ k = 4 ∨ k = 5 ∨ k = 6 ∨ k = 7 := by omega
  rcases h9 with rfl | rfl | rfl | rfl | rfl | rfl | rfl | rfl
  · exact index8_0 x0 x1 x2 x3 x4 x5 x6 x7 w
  · exact index8_1 x0 x1 x2 x3 x4 x5 x6 x7 w
  · exact index8_2 x0 x1 x2 x3 x4 x5 x6 x7 w
  · exact index8_3 x0 x1 x2 x3 x4 x5 x6 x7 w
  · exact index8_4 x0 x1 x2 x3 x4 x5 x6 x7 w
  · exact index8_5 x0 x1 x2 x3 x4 x5 x6 x7 w
  · exact index8_6 x0 x1 x2 x3 x4 x5 x6 x7 w
  · exact index8_7 x0 x1 x2 x3 x4 x5 x6 x7 w

theorem slice8_0 (O : Nat) (w : World) : (Instr.sliceAt 149 (.pointer (some ⟨O, 0, none⟩)) none (some (.int .i64 0)) none).run Tryz.prog w = .ok (.slice (some ⟨O, 0, none⟩) 0 8) w := by kernel_rfl
theorem slice8_1 (O : Nat) (w : World) : (Instr.sliceAt 149 (.pointer (some ⟨O, 0, none⟩)) none (some (.int .i64 1)) none).run Tryz.prog w = .ok (.slice (some ⟨O, 0, none⟩) 1 8) w := by kernel_rfl
theorem slice8_2 (O : Nat) (w : World) : (Instr.sliceAt 149 (.pointer (some ⟨O, 0, none⟩)) none (some (.int .i64 2)) none).run Tryz.prog w = .ok (.slice (some ⟨O, 0, none⟩) 2 8) w := by kernel_rfl
theorem slice8_3 (O : Nat) (w : World) : (Instr.sliceAt 149 (.pointer (some ⟨O, 0, none⟩)) none (some (.int .i64 3)) none).run Tryz.prog w = .ok (.slice (some ⟨O, 0, none⟩) 3 8) w := by kernel_rfl
theorem slice8_4 (O : Nat) (w : World) : (Instr.sliceAt 149 (.pointer (some ⟨O, 0, none⟩)) none (some (.int .i64 4)) none).run Tryz.prog w = .ok (.slice (some ⟨O, 0, none⟩) 4 8) w := by kernel_rfl
theorem slice8_5 (O : Nat) (w : World) : (Instr.sliceAt 149 (.pointer (some ⟨O, 0, none⟩)) none (some (.int .i64 5)) none).run Tryz.prog w = .ok (.slice (some ⟨O, 0, none⟩) 5 8) w := by kernel_rfl
theorem slice8_6 (O : Nat) (w : World) : (Instr.sliceAt 149 (.pointer (some ⟨O, 0, none⟩)) none (some (.int .i64 6)) none).run Tryz.prog w = .ok (.slice (some ⟨O, 0, none⟩) 6 8) w := by kernel_rfl
theorem slice8_7 (O : Nat) (w : World) : (Instr.sliceAt 149 (.pointer (some ⟨O, 0, none⟩)) none (some (.int .i64 7)) none).run Tryz.prog w = .ok (.slice (some ⟨O, 0, none⟩) 7 8) w := by kernel_rfl
theorem slice8_8 (O : Nat) (w : World) : (Instr.sliceAt 149 (.pointer (some ⟨O, 0, none⟩)) none (some (.int .i64 8)) none).run Tryz.prog w = .ok (.slice (some ⟨O, 0, none⟩) 8 8) w := by kernel_rfl

theorem slice8 (O : Nat) (n : Nat) (hn : n ≤ 8) (w : World) :
    (Instr.sliceAt 149 (.pointer (some ⟨O, 0, none⟩)) none (some (.int .i64 (n : Int))) none).run Tryz.prog w = .ok (.slice (some ⟨O, 0, none⟩) n 8) w := by
  have h9 : n = 0 ∨ n = 1 ∨ n = 2 ∨ n = 3 ∨ n = 4 ∨ n = 5 ∨ n = 6 ∨ n = 7 ∨ n = 8 := by omega
  rcases h9 with rfl | rfl | rfl | rfl | rfl | rfl | rfl | rfl | rfl
  · exact slice8_0 O w
  · exact slice8_1 O w
  · exact slice8_2 O w
  · exact slice8_3 O w
  · exact slice8_4 O w
  · exact slice8_5 O w
  · exact slice8_6 O w
  · exact slice8_7 O w
  · exact slice8_8 O w

set_option maxHeartbeats 1600000 in
theorem number_any (m : Nat) (S : Mm) (F : Nat → Prop) (a n : Nat) (p : Int) (w : World) (h : PM w m S F) (ha : a ≤ 18446744073709551615) (h1 : 1 ≤ n) (h8 : n ≤ 8) (hp : bits .and .i64 0 p = 0) :
    Calls Tryz.prog 102 #[.pointer (some ⟨m, 0, none⟩), .int .u64 (a : Int), .int .i64 (n : Int), .int .i64 p] w fun e w' =>
      e = .returned (.tuple #[.int .u64 (if mayB S a n p then num (S.read a n) else 0), .bool (mayB S a n p)]) ∧ Below w.heap.size w w' := by
  have HMay := hide (may_any m S F a n p w h ha (by omega) hp)
  by_cases hm : Mayp S a n p
  · rw [mayB_yes hm] at HMay
    rw [mayB_yes hm, if_pos rfl]
    have HM := hide hm
    have HP := hide h
    clear h hm
    go_enter Tryz.func102, Tryz.ntmps102
    go_wp2_with fail
    refine HMay.out.mono ?_
    rintro e w' ⟨rfl, rfl⟩
    clear HMay
    have hsl := slice8
    have hsl' := fun O w => hsl O n h8 w
    clear hsl
    go_wp2_with fail
    obtain ⟨O, hO⟩ : ∃ O, O = w'.heap.size := ⟨_, rfl⟩
    rw [← hO]
    obtain ⟨U, hU⟩ : ∃ U, U = w'.alloc (.cells #[.int .u8 0, .int .u8 0, .int .u8 0, .int .u8 0, .int .u8 0, .int .u8 0, .int .u8 0, .int .u8 0] 149) := ⟨_, rfl⟩
    rw [← hU]
    have hBU : Below w'.heap.size w' U := by rw [hU]; exact (Below.refl _ _).alloc (Nat.le_refl _) _
    have hUO : U.heap[O]? = some (.cells (List.replicate 8 (Value.int .u8 0)).toArray 149 (0, 0)) := by rw [hU, hO]; exact heap_alloc_new w' _
    have hFO : ¬ F O := fun hf => by have := HP.out.flt O hf; omega
    refine (get_fills m S F a O n 8 149 (List.replicate 8 (.int .u8 0)) U (HP.out.below hBU) ha hUO hFO h8 (by omega) (by rw [List.length_replicate]; exact h8) (fun j hj => by rw [List.getElem?_replicate, if_pos (by omega)]) (fun i h1 h2 h3 => HM.out.mapped hp h1 h2 (by omega))).mono ?_
    rintro e W ⟨rfl, ⟨R, hR, hfi⟩, hK⟩
    obtain rfl := eight_list h8 hfi
    have HB : Hid (Below w'.heap.size w' W) := hBU.trans (hK.below hBU.size (fun k hk => by subst hk; rw [hO]; exact Nat.le_refl _))
    have HE := hide (S.eight_num a n h8)
    have hby := Mm.eight_bytes HP.out.good a n
    have hxs : ∃ x0 x1 x2 x3 x4 x5 x6 x7, S.eight a n = [x0, x1, x2, x3, x4, x5, x6, x7] := ⟨_, _, _, _, _, _, _, _, rfl⟩
    obtain ⟨x0, x1, x2, x3, x4, x5, x6, x7, hxe⟩ := hxs
    rw [hxe] at hR HE hby
    clear hxe hfi hK hUO hFO hBU hU hsl' HM HP
    have hc0 : W.cell? ⟨O, 0, none⟩ = some (.int .u8 x0) := by rw [cell_of_row _ _ _ _ _ _ hR]; rfl
    have hc1 : W.cell? ⟨O, 1, none⟩ = some (.int .u8 x1) := by rw [cell_of_row _ _ _ _ _ _ hR]; rfl
    have hc2 : W.cell? ⟨O, 2, none⟩ = some (.int .u8 x2) := by rw [cell_of_row _ _ _ _ _ _ hR]; rfl
    have hc3 : W.cell? ⟨O, 3, none⟩ = some (.int .u8 x3) := by rw [cell_of_row _ _ _ _ _ _ hR]; rfl
    have hc4 : W.cell? ⟨O, 4, none⟩ = some (.int .u8 x4) := by rw [cell_of_row _ _ _ _ _ _ hR]; rfl
    have hc5 : W.cell? ⟨O, 5, none⟩ = some (.int .u8 x5) := by rw [cell_of_row _ _ _ _ _ _ hR]; rfl
    have hc6 : W.cell? ⟨O, 6, none⟩ = some (.int .u8 x6) := by rw [cell_of_row _ _ _ _ _ _ hR]; rfl
    have hc7 : W.cell? ⟨O, 7, none⟩ = some (.int .u8 x7) := by rw [cell_of_row _ _ _ _ _ _ hR]; rfl
    have hix := index8 x0 x1 x2 x3 x4 x5 x6 x7
    have HBy := hide hby
    have HIx := hide hix
    clear hR hby hix hO
    go_wp2
    go_loop [11, 27] (fun v i => ∃ k : Nat, k ≤ 8 ∧ i = .int .i64 (k : Int) ∧ v = .int .u64 (num ([x0, x1, x2, x3, x4, x5, x6, x7].take k))) (fun _ i => 8 - (intOf i).toNat)
    case atStart => exact ⟨0, by omega, rfl, rfl⟩
    case round =>
      obtain ⟨k, hk, rfl, rfl⟩ := hrel
      by_cases hlt : k < 8
      · have hix := HIx.out k hlt W
        have hb1 := HBy.out.at k
        have HU := hide (num_up [x0, x1, x2, x3, x4, x5, x6, x7] k HBy.out hlt hlt)
        obtain ⟨y, hy⟩ : ∃ y, y = [x0, x1, x2, x3, x4, x5, x6, x7][k]?.getD 0 := ⟨_, rfl⟩
        rw [← hy] at hix hb1 HU
        obtain ⟨v0, hv0⟩ : ∃ v0, v0 = num ([x0, x1, x2, x3, x4, x5, x6, x7].take k) := ⟨_, rfl⟩
        rw [← hv0] at HU
        rw [← hv0]
        clear hy hv0
        go_wp2
        go_round
        case rel => exact ⟨k + 1, by omega, by go_num, by rw [← HU.out]⟩
        case measure => simp [intOf]; omega
      · obtain rfl : k = 8 := by omega
        go_wp2
        go_ret2
        exact ⟨ret_num HE.out, HB.out⟩
  · rw [mayB_no hm] at HMay
    rw [mayB_no hm, if_neg (by decide)]
    clear h hm
    go_enter Tryz.func102, Tryz.ntmps102
    go_wp2_with fail
    refine HMay.out.mono ?_
    rintro e w' ⟨rfl, rfl⟩
    go_wp2
    go_ret2
    exact ⟨rfl, Below.refl _ _⟩

end Go.Proofs.YtgjfelkbblbjfaaGreatDoor

/- Contracts of package mem's Load, Fetch, Read, Write, Store. -/
namespace Go.Proofs.YtgjfelkbblbjfaaGreatDoor
open Go.RowKit Go.Maps
set_option linter.unusedVariables false
set_option maxRecDepth 100000

theorem and_4 : bits .and .i64 0 4 = 0 := by decide
theorem and_2 : bits .and .i64 0 2 = 0 := by decide
theorem and_1 : bits .and .i64 0 1 = 0 := by decide

/-- Whether n bytes from a on may be loaded, stored, as a number. -/
noncomputable def numOk (S : Mm) (a : Nat) (n : Int) (p : Int) : Bool := decide (WidthOk n) && mayB S a n.toNat p
noncomputable def loadV (S : Mm) (a : Nat) (n : Int) : Int := if numOk S a n 4 = true then num (S.read a n.toNat) else 0

theorem read_num_bd {S : Mm} (h : S.Good) (a n : Nat) (h8 : n ≤ 8) : 0 ≤ num (S.read a n) ∧ num (S.read a n) < 2 ^ (8 * n) ∧ num (S.read a n) ≤ 18446744073709551615 := by
  have h1 := Mm.read_bytes h a n
  have h2 := num_lt h1
  rw [Mm.read_length, pow_256] at h2
  have h3 := pow_le_64 h8
  exact ⟨num_nonneg h1, h2, by omega⟩

theorem load_any (m : Nat) (S : Mm) (F : Nat → Prop) (a : Nat) (n : Int) (w : World) (h : PM w m S F) (ha : a ≤ 18446744073709551615) (hn0 : -9223372036854775808 ≤ n) (hn1 : n ≤ 9223372036854775807) :
    Calls Tryz.prog 112 #[.pointer (some ⟨m, 0, none⟩), .int .u64 (a : Int), .int .i64 n] w fun e w' =>
      e = .returned (.tuple #[.int .u64 (loadV S a n), .bool (numOk S a n 4)]) ∧ Below w.heap.size w w' := by
  have HW := hide (widthGood_any n)
  by_cases hw : WidthOk n
  · obtain ⟨k, rfl⟩ : ∃ k : Nat, n = k := ⟨n.toNat, by unfold WidthOk at hw; omega⟩
    have hk8 : 1 ≤ k ∧ k ≤ 8 := by unfold WidthOk at hw; omega
    have HN := hide (number_any m S F a k 4 w h ha hk8.1 hk8.2 and_4)
    have e1 : numOk S a (k : Int) 4 = mayB S a k 4 := by simp [numOk, hw]
    have e2 : loadV S a (k : Int) = if mayB S a k 4 = true then num (S.read a k) else 0 := by simp [loadV, e1]
    rw [e1, e2]
    have HW2 : Hid (∀ w, Calls Tryz.prog 123 #[.int .i64 (k : Int)] w fun e w' => e = .returned (.bool true) ∧ w' = w) := fun w => by
      have := HW.out w
      rwa [decide_eq_true hw] at this
    generalize (if mayB S a k 4 = true then num (S.read a k) else 0) = v at *
    generalize mayB S a k 4 = t at *
    clear HW h hw e1 e2
    go_enter Tryz.func112, Tryz.ntmps112
    go_wp2_with fail
    refine (HW2.out _).mono ?_
    rintro e w' ⟨rfl, rfl⟩
    go_wp2_with fail
    refine HN.out.mono ?_
    rintro e w2 ⟨rfl, hb⟩
    have HB := hide hb
    clear hb
    go_wp2
    go_ret2
    exact ⟨rfl, HB.out⟩
  · have e1 : numOk S a n 4 = false := by simp [numOk, hw]
    have e2 : loadV S a n = 0 := by simp [loadV, e1]
    rw [e1, e2]
    have HW2 : Hid (∀ w, Calls Tryz.prog 123 #[.int .i64 n] w fun e w' => e = .returned (.bool false) ∧ w' = w) := fun w => by
      have := HW.out w
      rwa [decide_eq_false hw] at this
    clear HW h hw e1 e2
    go_enter Tryz.func112, Tryz.ntmps112
    go_wp2_with fail
    refine (HW2.out _).mono ?_
    rintro e w' ⟨rfl, rfl⟩
    go_wp2
    go_ret2
    exact ⟨rfl, Below.refl _ _⟩

noncomputable def fetchV (S : Mm) (a : Nat) : Int := if mayB S a 4 1 = true then num (S.read a 4) else 0

theorem fetchV_bd {S : Mm} (h : S.Good) (a : Nat) : 0 ≤ fetchV S a ∧ fetchV S a ≤ 4294967295 := by
  have h1 := read_num_bd h a 4 (by omega)
  have e : (2 : Int) ^ (8 * 4) = 4294967296 := by decide
  rw [e] at h1
  unfold fetchV
  split <;> omega

theorem fetch_any (m : Nat) (S : Mm) (F : Nat → Prop) (a : Nat) (w : World) (h : PM w m S F) (ha : a ≤ 18446744073709551615) :
    Calls Tryz.prog 76 #[.pointer (some ⟨m, 0, none⟩), .int .u64 (a : Int)] w fun e w' =>
      e = .returned (.tuple #[.int .u32 (fetchV S a), .bool (mayB S a 4 1)]) ∧ Below w.heap.size w w' := by
  have HN := hide (number_any m S F a 4 1 w h ha (by omega) (by omega) and_1)
  have hb := fetchV_bd h.good a
  have e2 : (if mayB S a 4 1 = true then num (S.read a 4) else 0) = fetchV S a := rfl
  rw [e2] at HN
  generalize fetchV S a = v at *
  generalize mayB S a 4 1 = t at *
  clear h e2
  go_enter Tryz.func76, Tryz.ntmps76
  go_wp2_with fail
  refine HN.out.mono ?_
  rintro e w2 ⟨rfl, hb⟩
  have HB := hide hb
  clear hb
  go_wp2
  go_ret2
  exact ⟨rfl, HB.out⟩

/-- Whether n bytes may be read, written at once. -/
noncomputable def manyOk (S : Mm) (a n : Nat) (p : Int) : Bool := decide (n ≤ 65536) && mayB S a n p

set_option maxHeartbeats 800000 in
theorem read_any (m : Nat) (S : Mm) (F : Nat → Prop) (a n : Nat) (w : World) (h : PM w m S F) (ha : a ≤ 18446744073709551615) (hn : n ≤ 18446744073709551615) :
    Calls Tryz.prog 20 #[.pointer (some ⟨m, 0, none⟩), .int .u64 (a : Int), .int .u64 (n : Int)] w fun e w' =>
      (manyOk S a n 4 = false → e = .returned (.tuple #[.slice none 0 0, .bool false])) ∧
      (manyOk S a n 4 = true → ∃ O, e = .returned (.tuple #[.slice (some ⟨O, 0, none⟩) n n, .bool true]) ∧ w.heap.size ≤ O ∧ w'.heap[O]? = some (.cells ((S.read a n).map (Value.int .u8)).toArray 5 (0, 0))) ∧
      Below w.heap.size w w' := by
  have HMay := hide (may_any m S F a n 4 w h ha hn and_4)
  by_cases hle : n ≤ 65536
  · by_cases hm : Mayp S a n 4
    · have e1 : manyOk S a n 4 = true := by simp [manyOk, hle, mayB_yes hm]
      rw [mayB_yes hm] at HMay
      rw [e1]
      obtain ⟨i0, hi, hz0, hz1, hz2⟩ := info_parts Tryz.info8
      have hmk := fun w => run_make (P := Tryz.prog) w 24 5 i0 (.int .u8 0) Tryz.underlying24 hi hz0 .u64 .u64 (n : Int) (n : Int) (by omega) (by omega) (by rw [hz2]; omega) (by omega)
      rw [hz1, Int.toNat_natCast] at hmk
      have hcs : (Value.int .u8 0).cells = #[.int .u8 0] := rfl
      rw [hcs, Nat.mul_one] at hmk
      obtain ⟨Y, hY⟩ : ∃ Y : List Value, Y = (madeCells #[.int .u8 0] n).toList := ⟨_, rfl⟩
      have hY2 : madeCells #[.int .u8 0] n = Y.toArray := by rw [hY]
      have hYl : Y.length = n := by rw [hY]; simp [madeCells]
      have hYz : ∀ j, j < n → Y[j]? = some (.int .u8 0) := fun j hj => by rw [hY]; unfold madeCells; simp [hj, Nat.mod_one]
      rw [hY2] at hmk
      have HM := hide hm
      have HP := hide h
      have HYl := hide hYl
      have HYz := hide hYz
      clear h hm hY hY2 hYl hYz e1 hcs hi hz0 hz1 hz2
      have hle' : decide ((65536 : Int) < (n : Int)) = false := by simp; omega
      go_enter Tryz.func20, Tryz.ntmps20
      go_wp2_with fail
      refine HMay.out.mono ?_
      rintro e w' ⟨rfl, rfl⟩
      clear HMay
      go_wp2_with fail
      obtain ⟨O, hO⟩ : ∃ O, O = w'.heap.size := ⟨_, rfl⟩
      rw [← hO]
      obtain ⟨U, hU⟩ : ∃ U, U = w'.alloc (.cells Y.toArray 5) := ⟨_, rfl⟩
      rw [← hU]
      have hBU : Below w'.heap.size w' U := by rw [hU]; exact (Below.refl _ _).alloc (Nat.le_refl _) _
      have hUO : U.heap[O]? = some (.cells Y.toArray 5 (0, 0)) := by rw [hU, hO]; exact heap_alloc_new w' _
      have hFO : ¬ F O := fun hf => by have := HP.out.flt O hf; omega
      refine (get_fills m S F a O n n 5 Y U (HP.out.below hBU) ha hUO hFO (Nat.le_refl _) (by omega) (by rw [HYl.out]; exact Nat.le_refl _) HYz.out (fun i h1 h2 h3 => HM.out.mapped and_4 h1 h2 (by omega))).mono ?_
      rintro e W ⟨rfl, ⟨R, hR, hfi⟩, hK⟩
      have hRe : R = (S.read a n).map (Value.int .u8) := by
        apply List.ext_getElem?
        intro j
        rw [hfi.2 j]
        by_cases hj : j < n
        · rw [if_pos hj, List.getElem?_map, Mm.read_at _ _ _ _ hj]; rfl
        · have h9 := HYl.out
          rw [if_neg hj, List.getElem?_eq_none (by omega), List.getElem?_eq_none (by rw [List.length_map, Mm.read_length]; omega)]
      subst hRe
      have HB : Hid (Below w'.heap.size w' W) := hBU.trans (hK.below hBU.size (fun k hk => by subst hk; rw [hO]; exact Nat.le_refl _))
      have HR := hide hR
      have HO : Hid (w'.heap.size ≤ O) := by rw [hO]; exact Nat.le_refl _
      clear hR hfi hK hUO hFO hBU hU HM HP HYl HYz hmk hO
      go_wp2
      go_ret2
      exact ⟨(fun h => by cases h), fun _ => ⟨O, rfl, HO.out, HR.out⟩, HB.out⟩
    · have e1 : manyOk S a n 4 = false := by simp [manyOk, hle, mayB_no hm]
      rw [mayB_no hm] at HMay
      rw [e1]
      have hle' : decide ((65536 : Int) < (n : Int)) = false := by simp; omega
      clear h hm e1
      go_enter Tryz.func20, Tryz.ntmps20
      go_wp2_with fail
      refine HMay.out.mono ?_
      rintro e w' ⟨rfl, rfl⟩
      go_wp2
      go_ret2
      exact ⟨fun _ => rfl, (fun h => by cases h), Below.refl _ _⟩
  · have e1 : manyOk S a n 4 = false := by simp [manyOk, hle]
    rw [e1]
    clear h e1 HMay
    go_enter Tryz.func20, Tryz.ntmps20
    go_wp2_with fail
    go_ret2
    exact ⟨rfl, Below.refl _ _⟩

set_option maxHeartbeats 800000 in
theorem write_any (m : Nat) (S : Mm) (F : Nat → Prop) (a0 : Nat) (a : Option Addr) (len cap : Nat) (bs : List Int) (w : World) (h : PM w m S F) (ha : a0 ≤ 18446744073709551615) (r : Rd w a len cap bs)
    (hsep : 0 < len → ∀ x, a = some x → ¬ F x.block) :
    Calls Tryz.prog 127 #[.pointer (some ⟨m, 0, none⟩), .int .u64 (a0 : Int), .slice a len cap] w fun e w' =>
      e = .returned (.bool (manyOk S a0 len 2)) ∧ ∃ F', PM w' m (if manyOk S a0 len 2 = true then S.lay a0 bs else S) F' ∧ Went F w F' w' := by
  have hle0 := r.le
  have hmx := r.max
  have HMay := hide (may_any m S F a0 len 2 w h ha (by omega) and_2)
  by_cases hle : len ≤ 65536
  · have hle' : decide ((65536 : Int) < (len : Int)) = false := by simp; omega
    by_cases hm : Mayp S a0 len 2
    · have e1 : manyOk S a0 len 2 = true := by simp [manyOk, hle, mayB_yes hm]
      rw [mayB_yes hm] at HMay
      rw [e1, if_pos rfl]
      have HPut := hide (mput_any m S F a0 a len cap bs w h ha r hsep (fun i h1 h2 h3 => hm.mapped and_2 h1 h2 (by omega)))
      clear h hm r hsep e1
      go_enter Tryz.func127, Tryz.ntmps127
      go_wp2_with fail
      refine HMay.out.mono ?_
      rintro e w' ⟨rfl, rfl⟩
      clear HMay
      go_wp2_with fail
      refine HPut.out.mono ?_
      rintro e W ⟨rfl, F', hP, hW⟩
      have HP := hide hP
      have HW := hide hW
      clear hP hW HPut
      go_wp2
      go_ret
      exact ⟨rfl, F', HP.out, HW.out⟩
    · have e1 : manyOk S a0 len 2 = false := by simp [manyOk, mayB_no hm]
      rw [mayB_no hm] at HMay
      rw [e1, if_neg (by decide)]
      have HP := hide h
      clear h hm r hsep e1
      go_enter Tryz.func127, Tryz.ntmps127
      go_wp2_with fail
      refine HMay.out.mono ?_
      rintro e w' ⟨rfl, rfl⟩
      clear HMay
      go_wp2
      go_ret
      exact ⟨rfl, F, HP.out, Went.refl _ _⟩
  · have e1 : manyOk S a0 len 2 = false := by simp [manyOk, hle]
    rw [e1, if_neg (by decide)]
    have HP := hide h
    clear h r hsep e1 HMay
    go_enter Tryz.func127, Tryz.ntmps127
    go_wp2_with fail
    go_ret
    exact ⟨rfl, F, HP.out, Went.refl _ _⟩

end Go.Proofs.YtgjfelkbblbjfaaGreatDoor

/- The contract of package mem's Store. -/
namespace Go.Proofs.YtgjfelkbblbjfaaGreatDoor
open Go.RowKit Go.Maps
set_option linter.unusedVariables false
set_option maxRecDepth 100000

theorem map_set_u8 (l : List Int) (j : Nat) (x : Int) : (l.map (Value.int .u8)).set j (.int .u8 x) = (l.set j x).map (Value.int .u8) := by
  rw [List.map_set]

theorem bytesOf_take (v : Int) (n k : Nat) (h : n ≤ k) : (bytesOf v k).take n = bytesOf v n := by
  unfold bytesOf
  rw [← List.map_take, List.take_range, Nat.min_eq_left h]

/-- The memory behind a store. -/
noncomputable def stored (S : Mm) (a : Nat) (n : Int) (v : Int) : Mm := if numOk S a n 2 = true then S.lay a (bytesOf v n.toNat) else S

set_option maxHeartbeats 1600000 in
theorem store_any (m : Nat) (S : Mm) (F : Nat → Prop) (a : Nat) (n v : Int) (w : World) (h : PM w m S F) (ha : a ≤ 18446744073709551615) (hn0 : -9223372036854775808 ≤ n) (hn1 : n ≤ 9223372036854775807) (hv0 : 0 ≤ v) (hv1 : v ≤ 18446744073709551615) :
    Calls Tryz.prog 113 #[.pointer (some ⟨m, 0, none⟩), .int .u64 (a : Int), .int .i64 n, .int .u64 v] w fun e w' =>
      e = .returned (.bool (numOk S a n 2)) ∧ ∃ F', PM w' m (stored S a n v) F' ∧ Went F w F' w' := by
  have HW := hide (widthGood_any n)
  by_cases hw : WidthOk n
  · obtain ⟨k, rfl⟩ : ∃ k : Nat, n = k := ⟨n.toNat, by unfold WidthOk at hw; omega⟩
    have hk8 : 1 ≤ k ∧ k ≤ 8 := by unfold WidthOk at hw; omega
    have HMay := hide (may_any m S F a k 2 w h ha (by omega) and_2)
    have e1 : numOk S a (k : Int) 2 = mayB S a k 2 := by simp [numOk, hw]
    have HW2 : Hid (∀ w, Calls Tryz.prog 123 #[.int .i64 (k : Int)] w fun e w' => e = .returned (.bool true) ∧ w' = w) := fun w => by
      have := HW.out w
      rwa [decide_eq_true hw] at this
    clear HW
    by_cases hm : Mayp S a k 2
    · rw [mayB_yes hm] at HMay e1
      have e2 : stored S a (k : Int) v = S.lay a (bytesOf v k) := by simp [stored, e1]
      rw [e1, e2]
      have HM := hide hm
      have HP := hide h
      have hk1 := hk8.1
      have hk2 := hk8.2
      clear h hw e1 e2 hm hk8
      have hsl := slice8
      have hsl' := fun O w => hsl O k hk2 w
      clear hsl
      go_enter Tryz.func113, Tryz.ntmps113
      go_wp2_with fail
      refine (HW2.out _).mono ?_
      rintro e w' ⟨rfl, rfl⟩
      go_wp2_with fail
      refine HMay.out.mono ?_
      rintro e w' ⟨rfl, rfl⟩
      clear HMay HW2
      go_wp2
      go_loopw [22] (fun i wr => ∃ j : Nat, j ≤ 8 ∧ i = .int .i64 (j : Int) ∧ wr.ownsRow w'.heap.size 149 1 (.slice (some ⟨w'.heap.size, 0, none⟩) 8 8) 8 ((setLe (List.replicate 8 0) 0 v j).map (Value.int .u8)) ∧ Below w'.heap.size w' wr) (fun i _ => 8 - (intOf i).toNat)
      case atStart =>
        refine ⟨0, by omega, rfl, ?_, (Below.refl _ _).alloc (Nat.le_refl _) _⟩
        rw [setOf_zero]
        exact ⟨rfl, .inr ⟨w'.heap.size, 8, _, rfl, Nat.le_refl _, heap_alloc_new w' _, by omega, by unfold maxLen; omega, rfl, rfl⟩⟩
      case round =>
        obtain ⟨j, hj, rfl, hown2, hbel2⟩ := hrel
        by_cases hlt : j < 8
        · have hcell := hown2.cellAt (0 + j) (by omega)
          have hfz := hown2.frozenAt (0 + j)
          have hst := hown2.stored (0 + j) (.int .u8 (byteOf v j))
          rw [map_set_u8, setOf_succ (List.replicate 8 0) 0 v j (by simp; omega)] at hst
          rw [Nat.zero_add] at hcell hfz hst
          have HST := hide hst
          have HB2 := hide hbel2
          clear hown2 hst hbel2
          obtain ⟨u0, hu0⟩ : ∃ u0, ((setLe (List.replicate 8 0) 0 v j).map (Value.int .u8))[j]? = some u0 := ⟨_, List.getElem?_eq_getElem (by rw [List.length_map, setOf_length _ _ _ _ (by simp; omega)]; simp; omega)⟩
          rw [hu0] at hcell
          clear hu0
          go_wp2
          go_roundw
          case rel => exact ⟨j + 1, by omega, by go_num, HST.out.1, HB2.out.setCell (Nat.le_refl _) _⟩
          case measure => simp [intOf]; omega
        · obtain rfl : j = 8 := by omega
          have HO := hide hown2
          have HB := hide hbel2
          clear hown2 hbel2
          go_wp2_with fail
          obtain ⟨O, hO⟩ : ∃ O, O = w'.heap.size := ⟨_, rfl⟩
          rw [← hO]
          have hr : Rd wr (some ⟨O, 0, none⟩) k 8 (bytesOf v k) := by
            have h1 := HO.out
            rw [← hO] at h1
            have h2 : setLe (List.replicate 8 0) 0 v 8 = bytesOf v 8 := by simp [setLe]
            rw [h2] at h1
            refine ⟨bytesOf_length v k, hk2, by omega, bytesOf_bytes v k, (fun h => by cases h), fun x hx i hi => ?_⟩
            cases hx
            rw [show (⟨O, 0, none⟩ : Addr).add i = ⟨O, i, none⟩ by unfold Addr.add; split <;> simp_all, h1.cellAt i (by omega)]
            rw [← bytesOf_take v k 8 hk2]
            have h3 : i < (bytesOf v 8).length := by rw [bytesOf_length]; omega
            simp [h3, hi]
          have hFO : ∀ x, some (⟨O, 0, none⟩ : Addr) = some x → ¬ F x.block := fun x hx hf => by
            cases hx
            have := HP.out.flt O hf
            omega
          refine (mput_any m S F a (some ⟨O, 0, none⟩) k 8 (bytesOf v k) wr (HP.out.below HB.out) ha hr (fun _ => hFO) (fun i h1 h2 h3 => HM.out.mapped and_2 h1 h2 (by omega))).mono ?_
          rintro e W ⟨rfl, F', hP, hW⟩
          have HP2 := hide hP
          have HW2 : Hid (Went F w' F' W) := ⟨(kept_of_below HB.out F).trans hW.1 (fun k hk => Or.inl hk), fun k hk => by
            rcases hW.2 k hk with h1 | h1
            · exact Or.inl h1
            · have := HB.out.size; exact Or.inr (by omega)⟩
          clear hP hW hr hFO hsl' HO HB
          go_wp2
          go_ret
          exact ⟨rfl, F', HP2.out, HW2.out⟩
    · rw [mayB_no hm] at HMay e1
      have e2 : stored S a (k : Int) v = S := by simp [stored, e1]
      rw [e1, e2]
      have HP := hide h
      clear h hw e1 e2 hm
      go_enter Tryz.func113, Tryz.ntmps113
      go_wp2_with fail
      refine (HW2.out _).mono ?_
      rintro e w' ⟨rfl, rfl⟩
      go_wp2_with fail
      refine HMay.out.mono ?_
      rintro e w' ⟨rfl, rfl⟩
      clear HMay HW2
      go_wp2
      go_ret
      exact ⟨rfl, F, HP.out, Went.refl _ _⟩
  · have e1 : numOk S a n 2 = false := by simp [numOk, hw]
    have e2 : stored S a n v = S := by simp [stored, e1]
    rw [e1, e2]
    have HW2 : Hid (∀ w, Calls Tryz.prog 123 #[.int .i64 n] w fun e w' => e = .returned (.bool false) ∧ w' = w) := fun w => by
      have := HW.out w
      rwa [decide_eq_false hw] at this
    have HP := hide h
    clear HW h hw e1 e2
    go_enter Tryz.func113, Tryz.ntmps113
    go_wp2_with fail
    refine (HW2.out _).mono ?_
    rintro e w' ⟨rfl, rfl⟩
    go_wp2_with fail
    go_ret
    exact ⟨rfl, F, HP.out, Went.refl _ _⟩

end Go.Proofs.YtgjfelkbblbjfaaGreatDoor

/- An environment in memory: the bytes that wait, the events that were noted; how it lasts, how an event joins it. -/
namespace Go.Proofs.YtgjfelkbblbjfaaGreatDoor
open Go.RowKit
set_option linter.unusedVariables false
set_option maxRecDepth 100000

/-- An event as it lies in memory, and its bytes. -/
structure Evt where
  kind : Int
  fd : Int
  a : Option Addr
  len : Nat
  cap : Nat
  n : Int
  bs : List Int

def Evt.cells (x : Evt) : List Value := [.int .i64 x.kind, .int .i64 x.fd, .slice x.a x.len x.cap, .int .i64 x.n]

structure Evt.Ok (x : Evt) (w : World) : Prop where
  kind : -9223372036854775808 ≤ x.kind ∧ x.kind ≤ 9223372036854775807
  fd : -9223372036854775808 ≤ x.fd ∧ x.fd ≤ 9223372036854775807
  n : -9223372036854775808 ≤ x.n ∧ x.n ≤ 9223372036854775807
  b : Rd w x.a x.len x.cap x.bs

/-- What an event says. -/
structure Says where
  kind : Int
  fd : Int
  bs : List Int
  n : Int

def Evt.says (x : Evt) : Says := ⟨x.kind, x.fd, x.bs, x.n⟩

def evCells (l : List Evt) : List Value := l.flatMap Evt.cells

theorem evCells_append (l r : List Evt) : evCells (l ++ r) = evCells l ++ evCells r := List.flatMap_append ..
theorem evCells_one (x : Evt) : evCells [x] = x.cells := by simp [evCells]
theorem evCells_length : ∀ l : List Evt, (evCells l).length = l.length * 4
  | [] => rfl
  | x :: l => by
    have h := evCells_length l
    unfold evCells at h ⊢
    rw [List.flatMap_cons, List.length_append, h, List.length_cons]
    simp [Evt.cells]
    omega
theorem evCells_at : ∀ (l : List Evt) (i j : Nat) (x : Evt), l[i]? = some x → j < 4 → (evCells l)[i * 4 + j]? = x.cells[j]?
  | [], i, j, x, h, hj => by simp at h
  | y :: l, 0, j, x, h, hj => by
    simp at h
    subst h
    unfold evCells
    rw [List.flatMap_cons, List.getElem?_append_left (by simp [Evt.cells]; omega)]
    simp
  | y :: l, i + 1, j, x, h, hj => by
    have h1 := evCells_at l i j x (by simpa using h) hj
    unfold evCells at h1 ⊢
    rw [List.flatMap_cons, List.getElem?_append_right (by simp [Evt.cells]; omega)]
    rw [← h1]
    congr 1
    simp [Evt.cells]
    omega
theorem evCells_oneCell (l : List Evt) : ∀ u ∈ evCells l, u.oneCell' = true := by
  intro u hu
  unfold evCells at hu
  obtain ⟨x, hx, hc⟩ := List.mem_flatMap.1 hu
  simp [Evt.cells] at hc
  rcases hc with rfl | rfl | rfl | rfl <;> rfl

theorem Evt.Ok.below {x : Evt} {w w' : World} (h : x.Ok w) (hb : Below w.heap.size w w') : x.Ok w' := ⟨h.kind, h.fd, h.n, h.b.below hb⟩

/-- Events in a slice that is read. -/
structure Evs (w : World) (a : Option Addr) (len : Nat) (es : List Evt) : Prop where
  length : es.length = len
  max : len ≤ 9223372036854775807
  ok : ∀ x ∈ es, x.Ok w
  cell : ∀ i x, es[i]? = some x → ∃ b o, a = some ⟨b, o, none⟩ ∧ ∀ j, j < 4 → w.cell? ⟨b, o + i * 4 + j, none⟩ = x.cells[j]?

theorem Evs.below {w w' : World} {a : Option Addr} {len : Nat} {es : List Evt} (h : Evs w a len es) (hb : Below w.heap.size w w') : Evs w' a len es :=
  ⟨h.length, h.max, fun x hx => (h.ok x hx).below hb, fun i x hx => by
    obtain ⟨b, o, h1, h2⟩ := h.cell i x hx
    refine ⟨b, o, h1, fun j hj => ?_⟩
    have h3 := h2 j hj
    have h4 : x.cells[j]? = some (x.cells[j]'(by simpa [Evt.cells] using hj)) := List.getElem?_eq_getElem _
    rw [h4] at h3 ⊢
    rw [hb.cell (World.block_lt_of_cell? w _ h3)]
    exact h3⟩

/-- A row of the call's own, as a slice that is read. -/
theorem Evs.own {w : World} {base : Nat} {v : Value} {n : Nat} {es : List Evt} (h : w.ownsRow base 100 4 v n (evCells es)) (hok : ∀ x ∈ es, x.Ok w) : ∃ a cap, v = .slice a n cap ∧ Evs w a n es ∧ n ≤ cap ∧ cap ≤ 9223372036854775807 := by
  have hl : es.length = n := by have := h.1; rw [evCells_length] at this; omega
  rcases h.2 with ⟨rfl, h2⟩ | ⟨g, cap, cur, rfl, hbg, hg, hnc, hcm, hcs, htake⟩
  · subst h2
    obtain rfl : es = [] := List.eq_nil_of_length_eq_zero hl
    exact ⟨none, 0, rfl, ⟨rfl, by omega, hok, fun i x hx => by simp at hx⟩, by omega, by omega⟩
  · refine ⟨_, cap, rfl, ⟨hl, by unfold maxLen at hcm; omega, hok, fun i x hx => ⟨g, 0, rfl, fun j hj => ?_⟩⟩, hnc, by unfold maxLen at hcm; omega⟩
    have h4 : x.cells[j]? = some (x.cells[j]'(by simpa [Evt.cells] using hj)) := List.getElem?_eq_getElem _
    have h5 := evCells_at es i j x hx hj
    rw [h4] at h5 ⊢
    have h6 := h.cells (g := g) rfl (i * 4 + j) _ h5
    have e : (⟨g, 0, none⟩ : Addr).add (i * 4 + j) = ⟨g, 0 + i * 4 + j, none⟩ := by unfold Addr.add; split <;> simp_all
    rw [← e]
    exact h6

/-! ### An environment -/

/-- Block m is an environment of type t: the bytes that wait, the events. Its blocks are among F, or lie below B and are never written. -/
structure EVx (B : Nat) (t : TypeId) (w : World) (m : Nat) (F : Nat → Prop) (ins : List Int) (wa : Option Addr) (wl wc : Nat) (ev : Value) (es : List Evt) : Prop where
  head : w.heap[m]? = some (.cells #[.slice wa wl wc, ev] t (0, 0))
  waits : Rd w wa wl wc ins
  row : w.ownsRow 0 100 4 ev es.length (evCells es)
  ok : ∀ x ∈ es, x.Ok w
  fm : F m
  fg : ∀ g, ev.ownBlock = some g → F g ∧ g ≠ m
  sw : 0 < wl → ∀ x, wa = some x → (F x.block ∨ x.block < B) ∧ x.block ≠ m ∧ ev.ownBlock ≠ some x.block
  se : ∀ x ∈ es, 0 < x.len → ∀ y, x.a = some y → (F y.block ∨ y.block < B) ∧ y.block ≠ m ∧ ev.ownBlock ≠ some y.block
  flt : ∀ k, F k → k < w.heap.size

def EV (B : Nat) (t : TypeId) (m : Nat) (ins : List Int) (tr : List Says) (w : World) (F : Nat → Prop) : Prop := ∃ wa wl wc ev es, EVx B t w m F ins wa wl wc ev es ∧ es.map Evt.says = tr

theorem ownsRow_kept {w w' : World} {base : Nat} {e : TypeId} {size : Nat} {v : Value} {n : Nat} {xs : List Value} (h : w.ownsRow base e size v n xs) (hk : ∀ g, v.ownBlock = some g → w'.heap[g]? = w.heap[g]?) : w'.ownsRow base e size v n xs := by
  refine ⟨h.1, ?_⟩
  rcases h.2 with h1 | ⟨g, cap, cur, rfl, h2, h3, h4⟩
  · exact Or.inl h1
  · exact Or.inr ⟨g, cap, cur, rfl, h2, (hk g rfl).trans h3, h4⟩

theorem ownsRow_blk {w : World} {base : Nat} {e : TypeId} {size : Nat} {v : Value} {n : Nat} {xs : List Value} (h : w.ownsRow base e size v n xs) : ∀ g, v.ownBlock = some g → g < w.heap.size := by
  intro g hg
  rcases h.2 with ⟨rfl, _⟩ | ⟨g', cap, cur, rfl, h2, h3, h4⟩
  · cases hg
  · cases hg
    exact (Array.getElem?_eq_some_iff.1 h3).1

section
variable {B : Nat} {t : TypeId} {w w' : World} {m : Nat} {F G : Nat → Prop} {ins : List Int} {wa : Option Addr} {wl wc : Nat} {ev : Value} {es : List Evt} {tr : List Says}

theorem EVx.kept (h : EVx B t w m F ins wa wl wc ev es) (hk : Kept G w w') (hd : ∀ k, F k → ¬ G k) (hG : ∀ k, G k → B ≤ k) : EVx B t w' m F ins wa wl wc ev es := by
  have same : ∀ k, F k → w'.heap[k]? = w.heap[k]? := fun k hF => hk.block k (h.flt k hF) (hd k hF)
  have off : ∀ k, (F k ∨ k < B) → ¬ G k := fun k hk hg => by
    rcases hk with h1 | h1
    · exact hd k h1 hg
    · have := hG k hg; omega
  exact ⟨(same m h.fm).trans h.head, hk.rd h.waits (fun hl x hx => off _ (h.sw hl x hx).1), ownsRow_kept h.row (fun g hg => same g (h.fg g hg).1),
    fun x hx => ⟨(h.ok x hx).kind, (h.ok x hx).fd, (h.ok x hx).n, hk.rd (h.ok x hx).b (fun hl y hy => off _ (h.se x hx hl y hy).1)⟩,
    h.fm, h.fg, h.sw, h.se, fun k hF => Nat.lt_of_lt_of_le (h.flt k hF) hk.size⟩

theorem ev_stays (B : Nat) (t : TypeId) (m : Nat) (ins : List Int) (tr : List Says) : Stays B (EV B t m ins tr) :=
  ⟨fun ⟨wa, wl, wc, ev, es, h, e⟩ hk hd hG => ⟨wa, wl, wc, ev, es, h.kept hk hd hG, e⟩, fun ⟨wa, wl, wc, ev, es, h, e⟩ => h.flt⟩

theorem EVx.cell0 (h : EVx B t w m F ins wa wl wc ev es) : w.cell? ⟨m, 0, none⟩ = some (.slice wa wl wc) := by rw [cell_of_row _ _ 0 _ _ _ h.head]; rfl
theorem EVx.cell1 (h : EVx B t w m F ins wa wl wc ev es) : w.cell? ⟨m, 1, none⟩ = some ev := by rw [cell_of_row _ _ 1 _ _ _ h.head]; rfl
theorem EVx.lt (h : EVx B t w m F ins wa wl wc ev es) : m < w.heap.size := h.flt m h.fm
theorem EVx.frozen (h : EVx B t w m F ins wa wl wc ev es) (i : Nat) : w.frozen? ⟨m, i, none⟩ = false := by
  unfold World.frozen?
  simp only [h.head]
  simp

theorem setCell_head {u : Value} (h : w.heap[m]? = some (.cells #[.slice wa wl wc, ev] t (0, 0))) : (w.setCell ⟨m, 1, none⟩ u).heap[m]? = some (.cells #[.slice wa wl wc, u] t (0, 0)) := by
  unfold World.setCell
  simp [Array.getElem?_modify, h]
theorem setCell_head0 {u : Value} (h : w.heap[m]? = some (.cells #[.slice wa wl wc, ev] t (0, 0))) : (w.setCell ⟨m, 0, none⟩ u).heap[m]? = some (.cells #[u, ev] t (0, 0)) := by
  unfold World.setCell
  simp [Array.getElem?_modify, h]

end

end Go.Proofs.YtgjfelkbblbjfaaGreatDoor
