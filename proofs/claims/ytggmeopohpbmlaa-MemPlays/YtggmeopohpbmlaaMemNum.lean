/- The contract of package mem's number. -/
import Derived.Test.YtggmeopohpbmlaaMemGet
namespace Go.Proofs.Ytggmeopohpbmlaa
open Go.RowKit Go.Maps
set_option linter.unusedVariables false

/-- The byte at j of n from a on; 0 behind them. -/
def Mm.pad (S : Mm) (a n j : Nat) : Int := if j < n then S.byte (a + j) else 0

theorem num_zeros : ∀ k, num (List.replicate k 0) = 0
  | 0 => rfl
  | k + 1 => by simp [List.replicate_succ, num, num_zeros k]

def Mm.eight (S : Mm) (a n : Nat) : List Int := [S.pad a n 0, S.pad a n 1, S.pad a n 2, S.pad a n 3, S.pad a n 4, S.pad a n 5, S.pad a n 6, S.pad a n 7]

theorem Mm.eight_num (S : Mm) (a n : Nat) (h : n ≤ 8) : num (S.eight a n) = num (S.read a n) := by
  have h9 : n = 0 ∨ n = 1 ∨ n = 2 ∨ n = 3 ∨ n = 4 ∨ n = 5 ∨ n = 6 ∨ n = 7 ∨ n = 8 := by omega
  rcases h9 with rfl | rfl | rfl | rfl | rfl | rfl | rfl | rfl | rfl <;> simp [Mm.eight, Mm.pad, Mm.read, List.range_succ, num]

theorem Mm.eight_bytes {S : Mm} (h : S.Good) (a n : Nat) : Bytes (S.eight a n) := by
  have h1 : ∀ j, 0 ≤ S.pad a n j ∧ S.pad a n j ≤ 255 := fun j => by
    unfold Mm.pad
    split
    · exact h.byte _
    · omega
  intro x hx
  simp only [Mm.eight, List.mem_cons, List.not_mem_nil, or_false] at hx
  rcases hx with rfl | rfl | rfl | rfl | rfl | rfl | rfl | rfl <;> exact h1 _

theorem eight_list {R : List Value} {S : Mm} {a n : Nat} (hn : n ≤ 8) (h : Filled R (List.replicate 8 (.int .u8 0)) S a n) : R = (S.eight a n).map (Value.int .u8) := by
  apply List.ext_getElem?
  intro j
  rw [h.2 j]
  by_cases hj : j < 8
  · have h9 : j = 0 ∨ j = 1 ∨ j = 2 ∨ j = 3 ∨ j = 4 ∨ j = 5 ∨ j = 6 ∨ j = 7 := by omega
    rcases h9 with rfl | rfl | rfl | rfl | rfl | rfl | rfl | rfl <;> (simp only [Mm.eight, Mm.pad, List.map_cons, List.map_nil]; split <;> simp)
  · rw [if_neg (by omega), List.getElem?_eq_none (by simp; omega), List.getElem?_eq_none (by simp [Mm.eight]; omega)]

theorem index8_0 (x0 x1 x2 x3 x4 x5 x6 x7 : Int) (w : World) : (Instr.index 71 (.agg #[.int .u8 x0, .int .u8 x1, .int .u8 x2, .int .u8 x3, .int .u8 x4, .int .u8 x5, .int .u8 x6, .int .u8 x7]) (.int .i64 0)).run Try.prog w = .ok (.int .u8 x0) w := by kernel_rfl
theorem index8_1 (x0 x1 x2 x3 x4 x5 x6 x7 : Int) (w : World) : (Instr.index 71 (.agg #[.int .u8 x0, .int .u8 x1, .int .u8 x2, .int .u8 x3, .int .u8 x4, .int .u8 x5, .int .u8 x6, .int .u8 x7]) (.int .i64 1)).run Try.prog w = .ok (.int .u8 x1) w := by kernel_rfl
theorem index8_2 (x0 x1 x2 x3 x4 x5 x6 x7 : Int) (w : World) : (Instr.index 71 (.agg #[.int .u8 x0, .int .u8 x1, .int .u8 x2, .int .u8 x3, .int .u8 x4, .int .u8 x5, .int .u8 x6, .int .u8 x7]) (.int .i64 2)).run Try.prog w = .ok (.int .u8 x2) w := by kernel_rfl
theorem index8_3 (x0 x1 x2 x3 x4 x5 x6 x7 : Int) (w : World) : (Instr.index 71 (.agg #[.int .u8 x0, .int .u8 x1, .int .u8 x2, .int .u8 x3, .int .u8 x4, .int .u8 x5, .int .u8 x6, .int .u8 x7]) (.int .i64 3)).run Try.prog w = .ok (.int .u8 x3) w := by kernel_rfl
theorem index8_4 (x0 x1 x2 x3 x4 x5 x6 x7 : Int) (w : World) : (Instr.index 71 (.agg #[.int .u8 x0, .int .u8 x1, .int .u8 x2, .int .u8 x3, .int .u8 x4, .int .u8 x5, .int .u8 x6, .int .u8 x7]) (.int .i64 4)).run Try.prog w = .ok (.int .u8 x4) w := by kernel_rfl
theorem index8_5 (x0 x1 x2 x3 x4 x5 x6 x7 : Int) (w : World) : (Instr.index 71 (.agg #[.int .u8 x0, .int .u8 x1, .int .u8 x2, .int .u8 x3, .int .u8 x4, .int .u8 x5, .int .u8 x6, .int .u8 x7]) (.int .i64 5)).run Try.prog w = .ok (.int .u8 x5) w := by kernel_rfl
theorem index8_6 (x0 x1 x2 x3 x4 x5 x6 x7 : Int) (w : World) : (Instr.index 71 (.agg #[.int .u8 x0, .int .u8 x1, .int .u8 x2, .int .u8 x3, .int .u8 x4, .int .u8 x5, .int .u8 x6, .int .u8 x7]) (.int .i64 6)).run Try.prog w = .ok (.int .u8 x6) w := by kernel_rfl
theorem index8_7 (x0 x1 x2 x3 x4 x5 x6 x7 : Int) (w : World) : (Instr.index 71 (.agg #[.int .u8 x0, .int .u8 x1, .int .u8 x2, .int .u8 x3, .int .u8 x4, .int .u8 x5, .int .u8 x6, .int .u8 x7]) (.int .i64 7)).run Try.prog w = .ok (.int .u8 x7) w := by kernel_rfl

theorem index8 (x0 x1 x2 x3 x4 x5 x6 x7 : Int) (k : Nat) (hk : k < 8) (w : World) :
    (Instr.index 71 (.agg #[.int .u8 x0, .int .u8 x1, .int .u8 x2, .int .u8 x3, .int .u8 x4, .int .u8 x5, .int .u8 x6, .int .u8 x7]) (.int .i64 (k : Int))).run Try.prog w = .ok (.int .u8 ([x0, x1, x2, x3, x4, x5, x6, x7][k]?.getD 0)) w := by
  have h9 : k = 0 ∨ k = 1 ∨ k = 2 ∨ k = 3 ∨ k = 4 ∨ k = 5 ∨ k = 6 ∨ k = 7 := by omega
  rcases h9 with rfl | rfl | rfl | rfl | rfl | rfl | rfl | rfl
  · exact index8_0 x0 x1 x2 x3 x4 x5 x6 x7 w
  · exact index8_1 x0 x1 x2 x3 x4 x5 x6 x7 w
  · exact index8_2 x0 x1 x2 x3 x4 x5 x6 x7 w
  · exact index8_3 x0 x1 x2 x3 x4 x5 x6 x7 w
  · exact index8_4 x0 x1 x2 x3 x4 x5 x6 x7 w
  · exact index8_5 x0 x1 x2 x3 x4 x5 x6 x7 w
  · exact index8_6 x0 x1 x2 x3 x4 x5 x6 x7 w
  · exact index8_7 x0 x1 x2 x3 x4 x5 x6 x7 w

theorem slice8_0 (O : Nat) (w : World) : (Instr.sliceAt 71 (.pointer (some ⟨O, 0, none⟩)) none (some (.int .i64 0)) none).run Try.prog w = .ok (.slice (some ⟨O, 0, none⟩) 0 8) w := by kernel_rfl
theorem slice8_1 (O : Nat) (w : World) : (Instr.sliceAt 71 (.pointer (some ⟨O, 0, none⟩)) none (some (.int .i64 1)) none).run Try.prog w = .ok (.slice (some ⟨O, 0, none⟩) 1 8) w := by kernel_rfl
theorem slice8_2 (O : Nat) (w : World) : (Instr.sliceAt 71 (.pointer (some ⟨O, 0, none⟩)) none (some (.int .i64 2)) none).run Try.prog w = .ok (.slice (some ⟨O, 0, none⟩) 2 8) w := by kernel_rfl
theorem slice8_3 (O : Nat) (w : World) : (Instr.sliceAt 71 (.pointer (some ⟨O, 0, none⟩)) none (some (.int .i64 3)) none).run Try.prog w = .ok (.slice (some ⟨O, 0, none⟩) 3 8) w := by kernel_rfl
theorem slice8_4 (O : Nat) (w : World) : (Instr.sliceAt 71 (.pointer (some ⟨O, 0, none⟩)) none (some (.int .i64 4)) none).run Try.prog w = .ok (.slice (some ⟨O, 0, none⟩) 4 8) w := by kernel_rfl
theorem slice8_5 (O : Nat) (w : World) : (Instr.sliceAt 71 (.pointer (some ⟨O, 0, none⟩)) none (some (.int .i64 5)) none).run Try.prog w = .ok (.slice (some ⟨O, 0, none⟩) 5 8) w := by kernel_rfl
theorem slice8_6 (O : Nat) (w : World) : (Instr.sliceAt 71 (.pointer (some ⟨O, 0, none⟩)) none (some (.int .i64 6)) none).run Try.prog w = .ok (.slice (some ⟨O, 0, none⟩) 6 8) w := by kernel_rfl
theorem slice8_7 (O : Nat) (w : World) : (Instr.sliceAt 71 (.pointer (some ⟨O, 0, none⟩)) none (some (.int .i64 7)) none).run Try.prog w = .ok (.slice (some ⟨O, 0, none⟩) 7 8) w := by kernel_rfl
theorem slice8_8 (O : Nat) (w : World) : (Instr.sliceAt 71 (.pointer (some ⟨O, 0, none⟩)) none (some (.int .i64 8)) none).run Try.prog w = .ok (.slice (some ⟨O, 0, none⟩) 8 8) w := by kernel_rfl

theorem slice8 (O : Nat) (n : Nat) (hn : n ≤ 8) (w : World) :
    (Instr.sliceAt 71 (.pointer (some ⟨O, 0, none⟩)) none (some (.int .i64 (n : Int))) none).run Try.prog w = .ok (.slice (some ⟨O, 0, none⟩) n 8) w := by
  have h9 : n = 0 ∨ n = 1 ∨ n = 2 ∨ n = 3 ∨ n = 4 ∨ n = 5 ∨ n = 6 ∨ n = 7 ∨ n = 8 := by omega
  rcases h9 with rfl | rfl | rfl | rfl | rfl | rfl | rfl | rfl | rfl
  · exact slice8_0 O w
  · exact slice8_1 O w
  · exact slice8_2 O w
  · exact slice8_3 O w
  · exact slice8_4 O w
  · exact slice8_5 O w
  · exact slice8_6 O w
  · exact slice8_7 O w
  · exact slice8_8 O w

set_option maxHeartbeats 1600000 in
theorem number_any (m : Nat) (S : Mm) (F : Nat → Prop) (a n : Nat) (p : Int) (w : World) (h : PM w m S F) (ha : a ≤ 18446744073709551615) (h1 : 1 ≤ n) (h8 : n ≤ 8) (hp : bits .and .i64 0 p = 0) :
    Calls Try.prog 33 #[.pointer (some ⟨m, 0, none⟩), .int .u64 (a : Int), .int .i64 (n : Int), .int .i64 p] w fun e w' =>
      e = .returned (.tuple #[.int .u64 (if mayB S a n p then num (S.read a n) else 0), .bool (mayB S a n p)]) ∧ Below w.heap.size w w' := by
  have HMay := hide (may_any m S F a n p w h ha (by omega) hp)
  by_cases hm : Mayp S a n p
  · rw [mayB_yes hm] at HMay
    rw [mayB_yes hm, if_pos rfl]
    have HM := hide hm
    have HP := hide h
    clear h hm
    go_enter Try.func33, Try.ntmps33
    go_wp2_with fail
    refine HMay.out.mono ?_
    rintro e w' ⟨rfl, rfl⟩
    clear HMay
    have hsl := slice8
    have hsl' := fun O w => hsl O n h8 w
    clear hsl
    go_wp2_with fail
    obtain ⟨O, hO⟩ : ∃ O, O = w'.heap.size := ⟨_, rfl⟩
    rw [← hO]
    obtain ⟨U, hU⟩ : ∃ U, U = w'.alloc (.cells #[.int .u8 0, .int .u8 0, .int .u8 0, .int .u8 0, .int .u8 0, .int .u8 0, .int .u8 0, .int .u8 0] 71) := ⟨_, rfl⟩
    rw [← hU]
    have hBU : Below w'.heap.size w' U := by rw [hU]; exact (Below.refl _ _).alloc (Nat.le_refl _) _
    have hUO : U.heap[O]? = some (.cells (List.replicate 8 (Value.int .u8 0)).toArray 71 (0, 0)) := by rw [hU, hO]; exact heap_alloc_new w' _
    have hFO : ¬ F O := fun hf => by have := HP.out.flt O hf; omega
    refine (get_fills m S F a O n 8 71 (List.replicate 8 (.int .u8 0)) U (HP.out.below hBU) ha hUO hFO h8 (by omega) (by rw [List.length_replicate]; exact h8) (fun j hj => by rw [List.getElem?_replicate, if_pos (by omega)]) (fun i h1 h2 h3 => HM.out.mapped hp h1 h2 (by omega))).mono ?_
    rintro e W ⟨rfl, ⟨R, hR, hfi⟩, hK⟩
    obtain rfl := eight_list h8 hfi
    have HB : Hid (Below w'.heap.size w' W) := hBU.trans (hK.below hBU.size (fun k hk => by subst hk; rw [hO]; exact Nat.le_refl _))
    have HE := hide (S.eight_num a n h8)
    have hby := Mm.eight_bytes HP.out.good a n
    have hxs : ∃ x0 x1 x2 x3 x4 x5 x6 x7, S.eight a n = [x0, x1, x2, x3, x4, x5, x6, x7] := ⟨_, _, _, _, _, _, _, _, rfl⟩
    obtain ⟨x0, x1, x2, x3, x4, x5, x6, x7, hxe⟩ := hxs
    rw [hxe] at hR HE hby
    clear hxe hfi hK hUO hFO hBU hU hsl' HM HP
    have hc0 : W.cell? ⟨O, 0, none⟩ = some (.int .u8 x0) := by rw [cell_of_row _ _ _ _ _ _ hR]; rfl
    have hc1 : W.cell? ⟨O, 1, none⟩ = some (.int .u8 x1) := by rw [cell_of_row _ _ _ _ _ _ hR]; rfl
    have hc2 : W.cell? ⟨O, 2, none⟩ = some (.int .u8 x2) := by rw [cell_of_row _ _ _ _ _ _ hR]; rfl
    have hc3 : W.cell? ⟨O, 3, none⟩ = some (.int .u8 x3) := by rw [cell_of_row _ _ _ _ _ _ hR]; rfl
    have hc4 : W.cell? ⟨O, 4, none⟩ = some (.int .u8 x4) := by rw [cell_of_row _ _ _ _ _ _ hR]; rfl
    have hc5 : W.cell? ⟨O, 5, none⟩ = some (.int .u8 x5) := by rw [cell_of_row _ _ _ _ _ _ hR]; rfl
    have hc6 : W.cell? ⟨O, 6, none⟩ = some (.int .u8 x6) := by rw [cell_of_row _ _ _ _ _ _ hR]; rfl
    have hc7 : W.cell? ⟨O, 7, none⟩ = some (.int .u8 x7) := by rw [cell_of_row _ _ _ _ _ _ hR]; rfl
    have hix := index8 x0 x1 x2 x3 x4 x5 x6 x7
    have HBy := hide hby
    have HIx := hide hix
    clear hR hby hix hO
    go_wp2
    go_loop [11, 27] (fun v i => ∃ k : Nat, k ≤ 8 ∧ i = .int .i64 (k : Int) ∧ v = .int .u64 (num ([x0, x1, x2, x3, x4, x5, x6, x7].take k))) (fun _ i => 8 - (intOf i).toNat)
    case atStart => exact ⟨0, by omega, rfl, rfl⟩
    case round =>
      obtain ⟨k, hk, rfl, rfl⟩ := hrel
      by_cases hlt : k < 8
      · have hix := HIx.out k hlt W
        have hb1 := HBy.out.at k
        have HU := hide (num_up [x0, x1, x2, x3, x4, x5, x6, x7] k HBy.out hlt hlt)
        obtain ⟨y, hy⟩ : ∃ y, y = [x0, x1, x2, x3, x4, x5, x6, x7][k]?.getD 0 := ⟨_, rfl⟩
        rw [← hy] at hix hb1 HU
        obtain ⟨v0, hv0⟩ : ∃ v0, v0 = num ([x0, x1, x2, x3, x4, x5, x6, x7].take k) := ⟨_, rfl⟩
        rw [← hv0] at HU
        rw [← hv0]
        clear hy hv0
        go_wp2
        go_round
        case rel => exact ⟨k + 1, by omega, by go_num, by rw [← HU.out]⟩
        case measure => simp [intOf]; omega
      · obtain rfl : k = 8 := by omega
        go_wp2
        go_ret2
        exact ⟨ret_num HE.out, HB.out⟩
  · rw [mayB_no hm] at HMay
    rw [mayB_no hm, if_neg (by decide)]
    clear h hm
    go_enter Try.func33, Try.ntmps33
    go_wp2_with fail
    refine HMay.out.mono ?_
    rintro e w' ⟨rfl, rfl⟩
    go_wp2
    go_ret2
    exact ⟨rfl, Below.refl _ _⟩

end Go.Proofs.Ytggmeopohpbmlaa
