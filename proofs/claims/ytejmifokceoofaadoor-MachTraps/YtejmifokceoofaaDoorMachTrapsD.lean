/- MachTraps, case by case (6, 7). -/
import Derived.Test.YtejmifokceoofaaDoorMachPartsW
import Derived.Test.YtejmifokceoofaaDoorInstRefEncs
import Derived.Test.YtejmifokceoofaaDoorTrapPlain
namespace Go.Proofs.YtejmifokceoofaaDoor
open Go.RowKit Go.Maps
set_option linter.unusedVariables false
set_option maxRecDepth 100000
set_option maxRecDepth 20000

set_option maxHeartbeats 6400000 in
theorem traps_6 (k v : Int) (a : Option Addr) (n c : Nat) (ds : List Int) (w : World) (hk : 0 ≤ k ∧ k ≤ 255) (hv : 0 ≤ v ∧ v ≤ 65535) (hki : k % 8 = 6) (hn : n ≤ 100) (r : Rd w a n c ds) (hL : Laid w) :
    Calls Tryd.prog 8 #[.int .u8 k, .int .u16 v, .slice a n c] w fun e w' => e = .returned (.bool true) ∧ Below w.heap.size w w' := by
  have HK := hide (known_8 w hL)
  have HL := hide hL
  have hl := r.le
  have hm := r.max
  have hds : ds.length ≤ 4096 := by have := r.length; omega
  have R := hide r
  clear r hL
  obtain ⟨far, hfar⟩ : ∃ far, v % 2000 = far := ⟨_, rfl⟩
  have hf : 0 ≤ far ∧ far < 2000 := by omega
  have t3 : decide ((100 : Int) < (n : Int)) = false := by simp; omega
  go_enter Tryd.func8, Tryd.ntmps8
  go_wp2_with fail
  refine HK.out.mono ?_
  rintro e W ⟨rfl, hb⟩
  have HB := hide hb
  clear hb HK
  go_upto_region 7 with fail
  obtain ⟨V1, hV1⟩ : ∃ V1, V1 = W.alloc (.cells #[.int .i64 13, .int .i64 6, .int .i64 5, .int .i64 0, .int .i64 far, .int .i64 21, .int .i64 0, .int .i64 5, .int .i64 6, .int .i64 far, .int .i64 65, .int .i64 0, .int .i64 0, .int .i64 0, .int .i64 0, .int .i64 4, .int .i64 1, .int .i64 7, .int .i64 0, .int .i64 2, .int .i64 5, .int .i64 0, .int .i64 0, .int .i64 0, .int .i64 2, .int .i64 3, .int .i64 1, .int .i64 0, .int .i64 0, .int .i64 (-2)] 48) := ⟨_, rfl⟩
  rw [← hV1]
  have hb1 : Below W.heap.size W V1 := by rw [hV1]; exact below_alloc _ _
  have hblk : V1.heap[W.heap.size]? = some (.cells #[.int .i64 13, .int .i64 6, .int .i64 5, .int .i64 0, .int .i64 far, .int .i64 21, .int .i64 0, .int .i64 5, .int .i64 6, .int .i64 far, .int .i64 65, .int .i64 0, .int .i64 0, .int .i64 0, .int .i64 0, .int .i64 4, .int .i64 1, .int .i64 7, .int .i64 0, .int .i64 2, .int .i64 5, .int .i64 0, .int .i64 0, .int .i64 0, .int .i64 2, .int .i64 3, .int .i64 1, .int .i64 0, .int .i64 0, .int .i64 (-2)] 48 (0, 0)) := by rw [hV1]; exact heap_alloc_new W _
  have hcl := blk_cell hblk
  have H1 := hide (Has.start (HB.out.trans (hb1.mono HB.out.size)))
  have hWs := World.block_lt_of_cell? V1 _ (hcl 0)
  generalize W.heap.size = LB at *
  clear hV1 hblk hcl hb1 HB
  go_upto_region 8 with fail
  obtain ⟨WB, hWB⟩ : ∃ WB, WB = V1.heap.size := ⟨_, rfl⟩
  obtain ⟨V2, hV2⟩ : ∃ V2, V2 = V1.alloc (.cells #[.int .i64 3, .int .i64 4, .int .i64 6, .int .i64 5, .int .i64 5, .int .i64 5, .int .i64 2, .int .i64 1] 3) := ⟨_, rfl⟩
  have H2 : Hid (Has w V2 [BlkT WB (.cells #[.int .i64 3, .int .i64 4, .int .i64 6, .int .i64 5, .int .i64 5, .int .i64 5, .int .i64 2, .int .i64 1] 3 (0, 0))]) := by
    rw [hV2, hWB]
    exact H1.out.more (F := fun k => k = V1.heap.size) (below_alloc _ _) ⟨heap_alloc_new V1 _, rfl, fun k hk => by subst hk; simp⟩ (fun k hk => by subst hk; exact Nat.le_refl _) (blk_stays _ _ _)
  have hb2 : Below V1.heap.size V1 V2 := by rw [hV2]; exact below_alloc _ _
  rw [← hV2, ← hWB]
  clear hV2 hWB hb2 H1 hWs
  obtain ⟨x, hx⟩ : ∃ x : Int, x = 4294967295 := ⟨_, rfl⟩
  have HS : Hid ((trM [x] ds).step = (trM [x] ds).trapped 2) := hide (by rw [hx]; exact tr_6 ds hds)
  have hxb : 0 ≤ x ∧ x ≤ 4294967295 := by omega
  go_upto_region 15 with fail
  have hRn : Rn .u32 4294967295 (V2.alloc (.cells #[.int .u32 4294967295] 50)) (some ⟨V2.heap.size, 0, none⟩) 1 1 [x] := by rw [hx]; exact Rn.lit .u32 4294967295 50 V2 [4294967295] (by simp) (by decide) (by decide)
  have H4 := hide (H2.out.below (below_alloc V2 (.cells #[.int .u32 4294967295] 50)))
  have HRn := hide hRn
  clear hRn H2 hx
  generalize V2.heap.size = XB at *
  generalize V2.alloc (.cells #[.int .u32 4294967295] 50) = V4 at *
  go_wp2_with fail
  refine (made_any (w0 := w) (some ⟨XB, 0, none⟩) 1 1 [x] a n c ds none 0 0 [] V4 H4.out HRn.out (by omega) R.out (by omega) (Rd.nothing w) (by decide)).mono ?_
  rintro e V5 ⟨m, mm, me, m2, mm2, me2, rfl, h5⟩
  have H5 := hide h5.unbox.unbox.unbox
  clear h5 H4 HRn
  go_wp2_with fail
  refine (mh_set H5.out 5 9437184 (by unfold InI; omega) (by omega)).mono ?_
  rintro e V6 ⟨rfl, h6⟩
  have H6 := hide h6
  clear h6 H5
  go_wp2_with fail
  refine (mh_set H6.out 6 77 (by unfold InI; omega) (by omega)).mono ?_
  rintro e V7 ⟨rfl, h7⟩
  have H7 := hide h7
  clear h7 H6
  go_wp2_with fail
  refine (mh_set H7.out 7 131072 (by unfold InI; omega) (by omega)).mono ?_
  rintro e V8 ⟨rfl, h8⟩
  have H8 : Hid (MH w V8 m mm me (trM [x] ds) [BlkT WB (.cells #[.int .i64 3, .int .i64 4, .int .i64 6, .int .i64 5, .int .i64 5, .int .i64 5, .int .i64 2, .int .i64 1] 3 (0, 0))]) := h8
  clear h8 H7
  have hS := step_any V8 H8.out HL.out (show (0 : Nat) < 1000000 by omega) (show (0 : Nat) ≤ 140737488355328 by omega)
  rw [HS.out] at hS
  have HSt : Hid (Calls Tryd.prog 19 #[.pointer (some ⟨m, 0, none⟩)] V8 fun e w' => e = .returned (.agg #[.int .i64 2, .int .i64 0, .int .i64 2]) ∧ MH w w' m mm me ((trM [x] ds).trapped 2) [BlkT WB (.cells #[.int .i64 3, .int .i64 4, .int .i64 6, .int .i64 5, .int .i64 5, .int .i64 5, .int .i64 2, .int .i64 1] 3 (0, 0))]) := hide hS
  clear hS HS
  go_wp2_with fail
  refine HSt.out.mono ?_
  rintro e V9 ⟨rfl, h9⟩
  have H9 := hide h9
  clear h9 HSt H8
  go_upto_region 28 with fail
  have h10 := H9.out.newblk #[.int .i64 2, .int .i64 0, .int .i64 2] 36
  obtain ⟨B, hB⟩ : ∃ B, B = V9.heap.size := ⟨_, rfl⟩
  rw [← hB] at h10 ⊢
  obtain ⟨V, hV⟩ : ∃ V, V = V9.alloc (.cells #[.int .i64 2, .int .i64 0, .int .i64 2] 36) := ⟨_, rfl⟩
  rw [← hV] at h10 ⊢
  have hcl := blk_cell h10.blk
  have s0 := hcl 0
  have s1 := hcl 1
  have s2 := hcl 2
  have hwl := blk_cell h10.unbox.blk
  have p0 : V.cell? ⟨WB, 6, none⟩ = some (.int .i64 2) := hwl 6
  have hD := h10.below ((Below.refl _ _).drew)
  have HP : Hid (Calls Tryd.prog 17 #[.pointer (some ⟨m, 0, none⟩)] V.drew fun e w' => e = .returned (.int .u64 65536) ∧ w' = V.drew) := hide (mh_pc hD)
  have HRG : Hid (∀ z : Int, InI z → Calls Tryd.prog 18 #[.pointer (some ⟨m, 0, none⟩), .int .i64 z] V.drew fun e w' => e = .returned (.int .u64 (rg trX z)) ∧ w' = V.drew) := hide (fun z hz => mh_reg hD z hz)
  have g6 : rg trX 6 = 77 := by decide
  have g1 : rg trX 1 = 0 := by decide
  have hS2 := step_any V.drew hD HL.out (show (0 : Nat) < 1000000 by omega) (show (0 : Nat) ≤ 140737488355328 by omega)
  rw [Mc.step_ended (show ((trM [x] ds).trapped 2).kind ≠ 0 from (show (2 : Int) ≠ 0 by decide))] at hS2
  have HS2 : Hid (Calls Tryd.prog 19 #[.pointer (some ⟨m, 0, none⟩)] V.drew fun e w' => e = .returned (.agg #[.int .i64 2, .int .i64 0, .int .i64 2]) ∧ MH w w' m mm me ((trM [x] ds).trapped 2) (BlkT B (.cells #[.int .i64 2, .int .i64 0, .int .i64 2] 36 (0, 0)) :: [BlkT WB (.cells #[.int .i64 3, .int .i64 4, .int .i64 6, .int .i64 5, .int .i64 5, .int .i64 5, .int .i64 2, .int .i64 1] 3 (0, 0))])) := hide hS2
  clear hcl hwl h10 hD hS2 hB hV H9
  go_region_held3 (fun w' => w'.cell? ⟨B, 0, none⟩ = some (.int .i64 2) ∧ w'.cell? ⟨B, 1, none⟩ = some (.int .i64 0) ∧ w'.cell? ⟨B, 2, none⟩ = some (.int .i64 2) ∧ w'.cell? ⟨WB, 6, none⟩ = some (.int .i64 2)) (go_keep)
    (first
      | (go_at_call 17; refine HP.out.mono ?_; rintro e W10 ⟨rfl, rfl⟩)
      | (go_at_call 18; refine (HRG.out _ (by unfold InI; omega)).mono ?_; rintro e W10 ⟨rfl, rfl⟩)
      | (go_at_call 19; refine HS2.out.mono ?_; rintro e W11 ⟨rfl, h11⟩; have hcl := blk_cell h11.blk; have j0 := hcl 0; have j1 := hcl 1; have j2 := hcl 2; have j3 : W11.cell? ⟨WB, 6, none⟩ = some (.int .i64 2) := blk_cell h11.unbox.blk 6; have H11 := hide h11; clear h11 hcl))
  have HBX := hide H11.out.bel
  clear HP HRG HS2 H11
  go_wp2
  go_ret
  exact ⟨rfl, HBX.out⟩

set_option maxHeartbeats 6400000 in
theorem traps_7 (k v : Int) (a : Option Addr) (n c : Nat) (ds : List Int) (w : World) (hk : 0 ≤ k ∧ k ≤ 255) (hv : 0 ≤ v ∧ v ≤ 65535) (hki : k % 8 = 7) (hn : n ≤ 100) (r : Rd w a n c ds) (hL : Laid w) :
    Calls Tryd.prog 8 #[.int .u8 k, .int .u16 v, .slice a n c] w fun e w' => e = .returned (.bool true) ∧ Below w.heap.size w w' := by
  have HK := hide (known_8 w hL)
  have HL := hide hL
  have hl := r.le
  have hm := r.max
  have hds : ds.length ≤ 4096 := by have := r.length; omega
  have R := hide r
  clear r hL
  obtain ⟨far, hfar⟩ : ∃ far, v % 2000 = far := ⟨_, rfl⟩
  have hf : 0 ≤ far ∧ far < 2000 := by omega
  have t3 : decide ((100 : Int) < (n : Int)) = false := by simp; omega
  go_enter Tryd.func8, Tryd.ntmps8
  go_wp2_with fail
  refine HK.out.mono ?_
  rintro e W ⟨rfl, hb⟩
  have HB := hide hb
  clear hb HK
  go_upto_region 7 with fail
  obtain ⟨V1, hV1⟩ : ∃ V1, V1 = W.alloc (.cells #[.int .i64 13, .int .i64 6, .int .i64 5, .int .i64 0, .int .i64 far, .int .i64 21, .int .i64 0, .int .i64 5, .int .i64 6, .int .i64 far, .int .i64 65, .int .i64 0, .int .i64 0, .int .i64 0, .int .i64 0, .int .i64 4, .int .i64 1, .int .i64 7, .int .i64 0, .int .i64 2, .int .i64 5, .int .i64 0, .int .i64 0, .int .i64 0, .int .i64 2, .int .i64 3, .int .i64 1, .int .i64 0, .int .i64 0, .int .i64 (-2)] 48) := ⟨_, rfl⟩
  rw [← hV1]
  have hb1 : Below W.heap.size W V1 := by rw [hV1]; exact below_alloc _ _
  have hblk : V1.heap[W.heap.size]? = some (.cells #[.int .i64 13, .int .i64 6, .int .i64 5, .int .i64 0, .int .i64 far, .int .i64 21, .int .i64 0, .int .i64 5, .int .i64 6, .int .i64 far, .int .i64 65, .int .i64 0, .int .i64 0, .int .i64 0, .int .i64 0, .int .i64 4, .int .i64 1, .int .i64 7, .int .i64 0, .int .i64 2, .int .i64 5, .int .i64 0, .int .i64 0, .int .i64 0, .int .i64 2, .int .i64 3, .int .i64 1, .int .i64 0, .int .i64 0, .int .i64 (-2)] 48 (0, 0)) := by rw [hV1]; exact heap_alloc_new W _
  have hcl := blk_cell hblk
  have H1 := hide (Has.start (HB.out.trans (hb1.mono HB.out.size)))
  have hWs := World.block_lt_of_cell? V1 _ (hcl 0)
  generalize W.heap.size = LB at *
  clear hV1 hblk hcl hb1 HB
  go_upto_region 8 with fail
  obtain ⟨WB, hWB⟩ : ∃ WB, WB = V1.heap.size := ⟨_, rfl⟩
  obtain ⟨V2, hV2⟩ : ∃ V2, V2 = V1.alloc (.cells #[.int .i64 3, .int .i64 4, .int .i64 6, .int .i64 5, .int .i64 5, .int .i64 5, .int .i64 2, .int .i64 1] 3) := ⟨_, rfl⟩
  have H2 : Hid (Has w V2 [BlkT WB (.cells #[.int .i64 3, .int .i64 4, .int .i64 6, .int .i64 5, .int .i64 5, .int .i64 5, .int .i64 2, .int .i64 1] 3 (0, 0))]) := by
    rw [hV2, hWB]
    exact H1.out.more (F := fun k => k = V1.heap.size) (below_alloc _ _) ⟨heap_alloc_new V1 _, rfl, fun k hk => by subst hk; simp⟩ (fun k hk => by subst hk; exact Nat.le_refl _) (blk_stays _ _ _)
  have hb2 : Below V1.heap.size V1 V2 := by rw [hV2]; exact below_alloc _ _
  rw [← hV2, ← hWB]
  clear hV2 hWB hb2 H1 hWs
  have HN0 : Hid (Rn .u32 4294967295 V2 none 0 0 []) := ⟨rfl, Nat.le_refl _, by omega, (fun x hx => by cases hx), by omega, fun _ => rfl, fun x hx => by cases hx⟩
  go_wp2_with fail
  refine (made_any (w0 := w) none 0 0 [] a n c ds none 0 0 [] V2 H2.out HN0.out (by omega) R.out (by omega) (Rd.nothing w) (by decide)).mono ?_
  rintro e V21 ⟨y, my, ey, y2, my2, ey2, rfl, h21⟩
  have H21 := hide (Has.drop (Has.drop (Has.drop h21.unbox.unbox.unbox)))
  clear h21 H2 HN0
  go_wp2_with fail
  refine (renc_any 4 0 5 0 0 V21 (by omega) (by omega)).mono ?_
  rintro e V3 ⟨rfl, hb3⟩
  have H3 := hide (H21.out.below hb3)
  have hT := trw7
  obtain ⟨x, hx⟩ : ∃ x, encW 4 0 5 0 0 = x := ⟨_, rfl⟩
  rw [hx] at hT ⊢
  have hxb : 0 ≤ x ∧ x ≤ 4294967295 := ⟨hT.lo, hT.hi⟩
  have HJ := hide (tr_7 x hT ds hds)
  have HS := hide (tr_8 x ds hds)
  clear hx hb3 H21 hT
  generalize encOk 4 0 5 0 0 = ok
  have hRn : Rn .u32 4294967295 (V3.alloc (.cells #[.int .u32 x] 50)) (some ⟨V3.heap.size, 0, none⟩) 1 1 [x] := Rn.lit .u32 4294967295 50 V3 [x] (by simpa using hxb) (by decide) (by simp)
  have H4 := hide (H3.out.below (below_alloc V3 (.cells #[.int .u32 x] 50)))
  have HRn := hide hRn
  clear hRn H3
  go_wp2_with fail
  refine (made_any (w0 := w) (some ⟨V3.heap.size, 0, none⟩) 1 1 [x] a n c ds none 0 0 [] _ H4.out HRn.out (by omega) R.out (by omega) (Rd.nothing w) (by decide)).mono ?_
  rintro e V5 ⟨m, mm, me, m2, mm2, me2, rfl, h5⟩
  have H5 := hide h5.unbox.unbox.unbox
  clear h5 H4 HRn
  go_wp2_with fail
  refine (mh_set H5.out 5 9437184 (by unfold InI; omega) (by omega)).mono ?_
  rintro e V6 ⟨rfl, h6⟩
  have H6 := hide h6
  clear h6 H5
  go_wp2_with fail
  refine (mh_set H6.out 6 77 (by unfold InI; omega) (by omega)).mono ?_
  rintro e V7 ⟨rfl, h7⟩
  have H7 := hide h7
  clear h7 H6
  go_wp2_with fail
  refine (mh_set H7.out 7 131072 (by unfold InI; omega) (by omega)).mono ?_
  rintro e V8 ⟨rfl, h8⟩
  have H8 : Hid (MH w V8 m mm me (trM [x] ds) [BlkT WB (.cells #[.int .i64 3, .int .i64 4, .int .i64 6, .int .i64 5, .int .i64 5, .int .i64 5, .int .i64 2, .int .i64 1] 3 (0, 0))]) := h8
  clear h8 H7
  have hJ := step_any V8 H8.out HL.out (show (0 : Nat) < 1000000 by omega) (show (0 : Nat) ≤ 140737488355328 by omega)
  rw [HJ.out] at hJ
  have HJ2 : Hid (Calls Tryd.prog 19 #[.pointer (some ⟨m, 0, none⟩)] V8 fun e w' => e = .returned (.agg #[.int .i64 0, .int .i64 0, .int .i64 0]) ∧ MH w w' m mm me (trJ [x] ds) [BlkT WB (.cells #[.int .i64 3, .int .i64 4, .int .i64 6, .int .i64 5, .int .i64 5, .int .i64 5, .int .i64 2, .int .i64 1] 3 (0, 0))]) := hide hJ
  clear hJ HJ
  have sf := stfield
  go_wp2_with fail
  refine HJ2.out.mono ?_
  rintro e V81 ⟨rfl, h81⟩
  have H81 := hide h81
  clear h81 H8 HJ2
  have hS := step_any V81 H81.out HL.out (show (0 : Nat) < 1000000 by omega) (show (0 : Nat) ≤ 140737488355328 by omega)
  rw [HS.out] at hS
  have HSt : Hid (Calls Tryd.prog 19 #[.pointer (some ⟨m, 0, none⟩)] V81 fun e w' => e = .returned (.agg #[.int .i64 2, .int .i64 0, .int .i64 1]) ∧ MH w w' m mm me ((trJ [x] ds).trapped 1) [BlkT WB (.cells #[.int .i64 3, .int .i64 4, .int .i64 6, .int .i64 5, .int .i64 5, .int .i64 5, .int .i64 2, .int .i64 1] 3 (0, 0))]) := hide hS
  clear hS HS
  go_wp2_with fail
  refine HSt.out.mono ?_
  rintro e V9 ⟨rfl, h9⟩
  have H9 := hide h9
  clear h9 HSt H81
  go_upto_region 28 with fail
  have h10 := H9.out.newblk #[.int .i64 2, .int .i64 0, .int .i64 1] 36
  obtain ⟨B, hB⟩ : ∃ B, B = V9.heap.size := ⟨_, rfl⟩
  rw [← hB] at h10 ⊢
  obtain ⟨V, hV⟩ : ∃ V, V = V9.alloc (.cells #[.int .i64 2, .int .i64 0, .int .i64 1] 36) := ⟨_, rfl⟩
  rw [← hV] at h10 ⊢
  have hcl := blk_cell h10.blk
  have s0 := hcl 0
  have s1 := hcl 1
  have s2 := hcl 2
  have hwl := blk_cell h10.unbox.blk
  have p0 : V.cell? ⟨WB, 7, none⟩ = some (.int .i64 1) := hwl 7
  have hD := h10.below ((Below.refl _ _).drew)
  have HP : Hid (Calls Tryd.prog 17 #[.pointer (some ⟨m, 0, none⟩)] V.drew fun e w' => e = .returned (.int .u64 9437184) ∧ w' = V.drew) := hide (mh_pc hD)
  have HRG : Hid (∀ z : Int, InI z → Calls Tryd.prog 18 #[.pointer (some ⟨m, 0, none⟩), .int .i64 z] V.drew fun e w' => e = .returned (.int .u64 (rg trX z)) ∧ w' = V.drew) := hide (fun z hz => mh_reg hD z hz)
  have g6 : rg trX 6 = 77 := by decide
  have g1 : rg trX 1 = 0 := by decide
  have hS2 := step_any V.drew hD HL.out (show (0 : Nat) < 1000000 by omega) (show (0 : Nat) ≤ 140737488355328 by omega)
  rw [Mc.step_ended (show ((trJ [x] ds).trapped 1).kind ≠ 0 from (show (2 : Int) ≠ 0 by decide))] at hS2
  have HS2 : Hid (Calls Tryd.prog 19 #[.pointer (some ⟨m, 0, none⟩)] V.drew fun e w' => e = .returned (.agg #[.int .i64 2, .int .i64 0, .int .i64 1]) ∧ MH w w' m mm me ((trJ [x] ds).trapped 1) (BlkT B (.cells #[.int .i64 2, .int .i64 0, .int .i64 1] 36 (0, 0)) :: [BlkT WB (.cells #[.int .i64 3, .int .i64 4, .int .i64 6, .int .i64 5, .int .i64 5, .int .i64 5, .int .i64 2, .int .i64 1] 3 (0, 0))])) := hide hS2
  clear hcl hwl h10 hD hS2 hB hV H9
  go_region_held3 (fun w' => w'.cell? ⟨B, 0, none⟩ = some (.int .i64 2) ∧ w'.cell? ⟨B, 1, none⟩ = some (.int .i64 0) ∧ w'.cell? ⟨B, 2, none⟩ = some (.int .i64 1) ∧ w'.cell? ⟨WB, 7, none⟩ = some (.int .i64 1)) (go_keep)
    (first
      | (go_at_call 17; refine HP.out.mono ?_; rintro e W10 ⟨rfl, rfl⟩)
      | (go_at_call 18; refine (HRG.out _ (by unfold InI; omega)).mono ?_; rintro e W10 ⟨rfl, rfl⟩)
      | (go_at_call 19; refine HS2.out.mono ?_; rintro e W11 ⟨rfl, h11⟩; have hcl := blk_cell h11.blk; have j0 := hcl 0; have j1 := hcl 1; have j2 := hcl 2; have j3 : W11.cell? ⟨WB, 7, none⟩ = some (.int .i64 1) := blk_cell h11.unbox.blk 7; have H11 := hide h11; clear h11 hcl))
  have HBX := hide H11.out.bel
  clear HP HRG HS2 H11
  go_wp2
  go_ret
  exact ⟨rfl, HBX.out⟩

end Go.Proofs.YtejmifokceoofaaDoor
