/- The walk of MemEdges: what may be mapped: where, how much, with which permissions. -/
import Derived.Test.YtggmeopohpbmlaaMemBoth
namespace Go.Proofs.Ytggmeopohpbmlaa
open Go.RowKit Go.Maps
set_option linter.unusedVariables false

theorem edge_perm (a size : Nat) (p : Int) (bs : List Int) (i : Nat) : bits .and .i64 ((mappedTo Mm.new a size p bs).perm i) 2 = 0 ∨ bits .and .i64 ((mappedTo Mm.new a size p bs).perm i) 1 = 0 := by
  unfold mappedTo
  by_cases h : MapOk Mm.new a size p bs.length
  · rw [mapB_yes h, if_pos rfl]
    simp only [Mm.lay, Mm.mapped, Mm.new]
    split
    · rcases h.2.1 with rfl | rfl | rfl | rfl | rfl <;> decide
    · decide
  · rw [mapB_no h, if_neg (by decide)]
    simp only [Mm.new]
    decide

set_option maxRecDepth 20000 in
set_option maxHeartbeats 3200000 in
theorem edges_walk (a0 a1 a2 a3 : Int) (w : World) (p0 : 0 ≤ a0 ∧ a0 ≤ 18446744073709551615) (p1 : 0 ≤ a1 ∧ a1 ≤ 18446744073709551615) (p2 : -9223372036854775808 ≤ a2 ∧ a2 ≤ 9223372036854775807) (p3 : 0 ≤ a3 ∧ a3 ≤ 65535) :
    Calls Try.prog 4 #[.int .u64 a0, .int .u64 a1, .int .i64 a2, .int .u16 a3] w fun e w' => e = .returned (.bool true) ∧ Below w.heap.size w w' := by
  obtain ⟨t, rfl⟩ : ∃ t : Nat, a0 = t := ⟨a0.toNat, by omega⟩
  obtain ⟨s0, rfl⟩ : ∃ t : Nat, a1 = t := ⟨a1.toNat, by omega⟩
  obtain ⟨k, hk⟩ : ∃ k : Nat, a3 % 9000 = k := ⟨(a3 % 9000).toNat, by omega⟩
  have hk9 : k < 9000 := by omega
  obtain ⟨i0, hi, hz0, hz1, hz2⟩ := info_parts Try.info8
  have hmk := fun w => run_make (P := Try.prog) w 30 5 i0 (.int .u8 0) Try.underlying30 hi hz0 .i64 .i64 (k : Int) (k : Int) (by omega) (by omega) (by rw [hz2]; omega) (by omega)
  rw [hz1, Int.toNat_natCast] at hmk
  have hcs : (Value.int .u8 0).cells = #[.int .u8 0] := rfl
  rw [hcs, Nat.mul_one] at hmk
  have hY2 : madeCells #[.int .u8 0] k = ((List.replicate k (0 : Int)).map (Value.int .u8)).toArray := by
    apply Array.ext_getElem?
    intro j
    unfold madeCells
    by_cases hj : j < k
    · simp [hj, Nat.mod_one]
    · simp [hj]
  rw [hY2] at hmk
  have hbz : Bytes (List.replicate k (0 : Int)) := fun x hx => by rw [List.eq_of_mem_replicate hx]; omega
  have HLit := hide (fun W => Rd.lit 5 W (List.replicate k (0 : Int)) hbz (by rw [List.length_replicate]; omega))
  rw [List.length_replicate] at HLit
  generalize List.replicate k (0 : Int) = bs at *
  obtain ⟨size, hsz⟩ : ∃ size : Nat, size = if 4194304 < s0 ∧ s0 ≤ 268435456 then s0 % 4194304 else s0 := ⟨_, rfl⟩
  have hszb : size ≤ 18446744073709551615 := by rw [hsz]; split <;> omega
  have HK := hide known_any
  obtain ⟨ev, hev⟩ : ∃ ev, mapE Mm.new t size a2 k = ev := ⟨_, rfl⟩
  obtain ⟨a0', ha0⟩ : ∃ x : Nat, x = t := ⟨_, rfl⟩
  have HE := hide (edge_perm t size a2 bs (t / 4096))
  clear hcs hY2 hbz hi hz0 hz1 hz2 ha0
  have hcase : (4194304 < s0 ∧ s0 ≤ 268435456 ∧ (s0 : Int) % 4194304 = (size : Int)) ∨ (¬ 4194304 < s0 ∧ size = s0) ∨ (4194304 < s0 ∧ ¬ s0 ≤ 268435456 ∧ size = s0) := by
    by_cases h1 : 4194304 < s0
    · by_cases h2 : s0 ≤ 268435456
      · exact Or.inl ⟨h1, h2, by rw [hsz, if_pos ⟨h1, h2⟩]; omega⟩
      · exact Or.inr (Or.inr ⟨h1, h2, by rw [hsz, if_neg (fun h => h2 h.2)]⟩)
    · exact Or.inr (Or.inl ⟨h1, by rw [hsz, if_neg (fun h => h1 h.1)]⟩)
  clear hsz
  rcases hcase with ⟨x1, x2, x3⟩ | ⟨x1, rfl⟩ | ⟨x1, x2, rfl⟩
  all_goals
    go_enter Try.func4, Try.ntmps4
    go_wp2_with fail
    refine (HK.out _).mono ?_
    rintro e W1 ⟨rfl, hB1⟩
    have HB1 := hide hB1
    clear hB1 HK
    go_upto_region 6 with fail
    obtain ⟨W2, hW2⟩ : ∃ W2, W2 = W1.alloc (.cells (bs.map (Value.int .u8)).toArray 5) := ⟨_, rfl⟩
    obtain ⟨B, hB⟩ : ∃ B, B = W1.heap.size := ⟨_, rfl⟩
    rw [← hW2, ← hB]
    have HRd : Hid (Rd W2 (some ⟨B, 0, none⟩) k k bs) := by rw [hW2, hB]; exact HLit.out W1
    have HB2 : Hid (Below w.heap.size w W2) := by rw [hW2]; exact HB1.out.alloc HB1.out.size _
    clear hW2 hB HB1 HLit hmk
    go_wp2_with fail
    refine (own_new W2 _ (Below.refl _ _)).mono ?_
    rintro e W3 ⟨m, rfl, hO⟩
    have HO := hide hO
    clear hO
    go_wp2_with fail
    refine (bo_new HO.out).mono ?_
    rintro e W4 ⟨m2, rfl, hP⟩
    have HP := hide hP
    clear hP HO
    go_wp2_with fail
    refine (bo_map HP.out t size a2 HRd.out (by omega) hszb p2.1 p2.2).mono ?_
    rintro e W5 ⟨rfl, hP⟩
    rw [hev]
    have HP2 := hide hP
    clear hP HP
    go_wp2_with fail
    refine (bo_rmap HP2.out t size a2 HRd.out (by omega) hszb p2.1 p2.2).mono ?_
    rintro e W6 ⟨rfl, hP⟩
    have HP := hide hP
    clear hP HP2 HRd
    rw [hev]
    clear hev
    generalize mappedTo Mm.new t size a2 bs = S at *
    clear x1
    go_wp2_with fail
    refine (bo_size HP.out).mono ?_
    rintro e W7 ⟨rfl, rfl⟩
    go_wp2_with fail
    refine (bo_rsize HP.out).mono ?_
    rintro e W7 ⟨rfl, rfl⟩
    go_wp2_with fail
    obtain ⟨q, hq⟩ : ∃ q, q = S.perm (t / 4096) := ⟨_, rfl⟩
    rw [← hq] at HE
    have HPe := hide (bo_perm HP.out t (by omega))
    rw [← hq] at HPe
    refine HPe.out.mono ?_
    rintro e W7 ⟨rfl, rfl⟩
    clear hq
    by_cases hz : bits .and .i64 q 2 = 0
    · have hz' : (bits .and .i64 q 2 == 0) = true := by simp [hz]
      go_wp2_with fail
      go_ret
      exact ⟨rfl, HB2.out.trans (HP.out.bel.mono HB2.out.size)⟩
    · have hz' : (bits .and .i64 q 2 == 0) = false := by simpa using hz
      have hz1 : bits .and .i64 q 1 = 0 := HE.out.resolve_left hz
      have hz1' : (bits .and .i64 q 1 == 0) = true := by simp [hz1]
      clear hz hz1
      go_wp2_with fail
      refine HPe.out.mono ?_
      rintro e W7 ⟨rfl, rfl⟩
      go_wp2_with fail
      go_ret
      exact ⟨rfl, HB2.out.trans (HP.out.bel.mono HB2.out.size)⟩

end Go.Proofs.Ytggmeopohpbmlaa
