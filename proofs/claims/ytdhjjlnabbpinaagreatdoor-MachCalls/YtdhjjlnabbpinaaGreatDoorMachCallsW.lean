/- The walk of MachCalls: each call of the service answers, writes and reads as the document says. -/
import Derived.Test.YtdhjjlnabbpinaaGreatDoorMachTwo
import Derived.Test.YtdhjjlnabbpinaaGreatDoorJ19
import Derived.Test.YtdhjjlnabbpinaaGreatDoorMemBoth
import Derived.Deep.DeepCutAuto
namespace Go.Proofs.YtdhjjlnabbpinaaGreatDoor
open Go.RowKit Go.Maps
set_option linter.unusedVariables false
set_option maxRecDepth 100000
set_option maxRecDepth 20000

/-- Registers from 10 on, as they are given in turn. -/
def xsC (rs : List Int) : Nat → Nat → Int
  | 0 => fun _ => 0
  | j + 1 => xset (xsC rs j) ((10 + j : Nat) : Int) (rs.getD j 0)
noncomputable def clS (ds : List Int) : Mm := mappedTo (mappedTo Mm.new 65536 4 5 [115]) 131072 8192 6 ds
noncomputable def clM (ds is rs : List Int) (j : Nat) : Mc := ⟨clS ds, is, [], xsC rs j, 65536, 0, 0, 0⟩

def callV (q : Nat) : Int := [93, 64, 63, 64, 63, 1].getD q 0

theorem Has.newrd {w0 w : World} {l : List (World → (Nat → Prop) → Prop)} (h : Has w0 w l) (xs : List Int) (hf : Bytes xs) (hl : xs.length ≤ 9223372036854775807) :
    Has w0 (w.alloc (.cells (xs.map (Value.int .u8)).toArray 5)) (RdT (some ⟨w.heap.size, 0, none⟩) xs.length xs.length xs :: l) :=
  h.more (F := fun k => k = w.heap.size) (below_alloc _ _) ⟨Rd.litc xs (heap_alloc_new w _) hf hl, fun _ x hx => by cases hx; rfl, fun k hk => by subst hk; simp⟩ (fun k hk => by subst hk; exact Nat.le_refl _) (rd_stays _ _ _ _ _)

theorem bytes115 : Bytes [115] := fun x hx => by simp at hx; omega

set_option maxHeartbeats 12800000 in
theorem calls_walk (k fd at' n : Int) (a1 : Option Addr) (n1 c1 : Nat) (ds : List Int) (a2 : Option Addr) (n2 c2 : Nat) (is : List Int) (w : World) (hL : Laid w)
    (hk : 0 ≤ k ∧ k ≤ 255) (hfd : 0 ≤ fd ∧ fd ≤ 18446744073709551615) (hat : 0 ≤ at' ∧ at' ≤ 18446744073709551615) (hn : 0 ≤ n ∧ n ≤ 18446744073709551615) (r1 : Rd w a1 n1 c1 ds) (r2 : Rd w a2 n2 c2 is) :
    Calls Tryz.prog 5 #[.int .u8 k, .int .u64 fd, .int .u64 at', .int .u64 n, .slice a1 n1 c1, .slice a2 n2 c2] w fun e w' => e = .returned (.bool true) ∧ Below w.heap.size w w' := by
  have HK := hide (known_8 w hL)
  have HL := hide hL
  have hl1 := r1.le
  have hm1 := r1.max
  have hl2 := r2.le
  have hm2 := r2.max
  have hil : is.length ≤ n2 := by rw [r2.length]; exact Nat.le_refl _
  have R1 := hide r1
  have R2 := hide r2
  clear r1 r2 hL
  have early : ∀ (t : (decide ((200 : Int) < (n1 : Int)) = true) ∨ (decide ((200 : Int) < (n1 : Int)) = false ∧ decide ((100 : Int) < (n2 : Int)) = true)),
      Calls Tryz.prog 5 #[.int .u8 k, .int .u64 fd, .int .u64 at', .int .u64 n, .slice a1 n1 c1, .slice a2 n2 c2] w fun e w' => e = .returned (.bool true) ∧ Below w.heap.size w w' := by
    intro t
    rcases t with t1 | ⟨t1, t2⟩
    all_goals
      go_enter Tryz.func5, Tryz.ntmps5
      go_wp2_with fail
      refine HK.out.mono ?_
      rintro e W ⟨rfl, hb⟩
      have HB := hide hb
      clear hb HK
      go_wp2
      go_ret
      exact ⟨rfl, HB.out⟩
  by_cases q1 : 200 < n1
  · exact early (Or.inl (by simp; omega))
  have t1 : decide ((200 : Int) < (n1 : Int)) = false := by simp; omega
  by_cases q2 : 100 < n2
  · exact early (Or.inr ⟨t1, by simp; omega⟩)
  have t2 : decide ((100 : Int) < (n2 : Int)) = false := by simp; omega
  clear early
  go_enter Tryz.func5, Tryz.ntmps5
  go_wp2_with fail
  refine HK.out.mono ?_
  rintro e W ⟨rfl, hb⟩
  have HB := hide hb
  clear hb HK
  go_wp2_with fail
  refine (h_new (Has.start HB.out)).mono ?_
  rintro e W1 ⟨mm, rfl, g1⟩
  have G1 := hide g1
  clear g1 HB
  go_wp2_with fail
  refine (h_rnew G1.out).mono ?_
  rintro e W2 ⟨mm2, rfl, g2⟩
  have G2 := hide (Has.back (Has.newrd g2 [115] bytes115 (by simp)))
  clear g2 G1
  go_wp2_with fail
  refine (h_map G2.out 65536 4 5 (by decide) (by decide) (by decide)).mono ?_
  rintro e W3 ⟨⟨v3, rfl⟩, g3⟩
  have G3 := hide (Has.back (Has.newrd (Has.drop (Has.swap g3)) [115] bytes115 (by simp)))
  clear g3 G2
  go_wp2_with fail
  refine (h_rmap G3.out 65536 4 5 (by decide) (by decide) (by decide)).mono ?_
  rintro e W4 ⟨⟨v4, rfl⟩, g4⟩
  have G4 := hide (Has.swap (Has.drop (Has.swap g4)))
  clear g4 G3
  go_wp2_with fail
  refine (h_map0 G4.out R1.out 131072 8192 6 (by decide) (by decide) (by decide)).mono ?_
  rintro e W5 ⟨⟨v5, rfl⟩, g5⟩
  have G5 := hide (Has.swap g5)
  clear g5 G4
  go_wp2_with fail
  refine (h_rmap0 G5.out R1.out 131072 8192 6 (by decide) (by decide) (by decide)).mono ?_
  rintro e W6 ⟨⟨v6, rfl⟩, g6⟩
  have G6 := hide g6
  clear g6 G5
  go_wp2_with fail
  refine (has_new G6.out (R2.out.below G6.out.bel) (by omega)).mono ?_
  rintro e W7 ⟨me, rfl, g7⟩
  have G7 := hide (Has.perm (has_ref g7 R2.out) perm14)
  clear g7 G6
  go_wp2_with fail
  refine (new_mach mm me 65536 _ _ _ _ G7.out (by decide)).mono ?_
  rintro e W8 ⟨m, rfl, g8⟩
  have G8 := hide g8
  clear g8 G7
  go_wp2_with fail
  refine (newmach_any mm2 W7.heap.size 65536 _ (by decide) G8.out).mono ?_
  rintro e W9 ⟨y, rfl, g9⟩
  obtain ⟨ey, hey⟩ : ∃ ey, W7.heap.size = ey := ⟨_, rfl⟩
  rw [hey] at g9 ⊢
  clear hey G8
  have G9 : Hid (BX w W9 m mm me (clM ds is [fd, at', n] 0) y mm2 ey (clM ds is [fd, at', n] 0) []) := hide (Has.perm g9 perm_in3)
  clear g9
  obtain ⟨q, hq⟩ : ∃ q : Nat, k % 6 = (q : Int) := ⟨(k % 6).toNat, by omega⟩
  have hq6 : q < 6 := by omega
  obtain ⟨v, hv⟩ : ∃ v, callV q = v := ⟨_, rfl⟩
  have hvb : 0 ≤ v ∧ v ≤ 18446744073709551615 := by
    rw [← hv]
    match q, hq6 with
    | 0, _ => decide
    | 1, _ => decide
    | 2, _ => decide
    | 3, _ => decide
    | 4, _ => decide
    | 5, _ => decide
  have hcell : (W9.alloc (.cells #[.int .u64 93, .int .u64 64, .int .u64 63, .int .u64 64, .int .u64 63, .int .u64 1] 31)).cell? ⟨W9.heap.size, q, none⟩ = some (.int .u64 v) := by
    rw [blk_cell (heap_alloc_new W9 _) q, ← hv]
    match q, hq6 with
    | 0, _ => rfl
    | 1, _ => rfl
    | 2, _ => rfl
    | 3, _ => rfl
    | 4, _ => rfl
    | 5, _ => rfl
  have hq6' : (q : Int) < 6 := by omega
  have G10 := hide (G9.out.below (below_alloc W9 (.cells #[.int .u64 93, .int .u64 64, .int .u64 63, .int .u64 64, .int .u64 63, .int .u64 1] 31)))
  clear hv G9
  go_upto_region 13 with fail
  clear hcell hq hq6 hq6'
  generalize W9.alloc (.cells #[.int .u64 93, .int .u64 64, .int .u64 63, .int .u64 64, .int .u64 63, .int .u64 1] 31) = W10 at *
  have h11 := G10.out.newblk #[.int .u64 fd, .int .u64 at', .int .u64 n] 31
  obtain ⟨X, hX⟩ : ∃ X, X = W10.heap.size := ⟨_, rfl⟩
  obtain ⟨W11, hW11⟩ : ∃ W11, W11 = W10.alloc (.cells #[.int .u64 fd, .int .u64 at', .int .u64 n] 31) := ⟨_, rfl⟩
  rw [← hX, ← hW11] at h11
  have G11 := hide h11
  clear h11 G10
  go_wp2
  rw [← hX, ← hW11]
  clear hX hW11
  obtain ⟨rs, hrs⟩ : ∃ rs, [fd, at', n] = rs := ⟨_, rfl⟩
  have HRS := hide hrs
  rw [hrs] at G11
  clear hrs
  go_loopg [71] 3 (fun g i wr => ∃ j : Nat, j ≤ 3 ∧ g = 3 - j ∧ i = .int .i64 (j : Int) ∧ Hid (BX w wr m mm me (clM ds is rs j) y mm2 ey (clM ds is rs j) [BlkT X (.cells #[.int .u64 fd, .int .u64 at', .int .u64 n] 31 (0, 0))]))
  case atStart => exact ⟨0, by omega, rfl, rfl, G11.out⟩
  case round =>
    obtain ⟨j, hj, rfl, rfl, HT⟩ := hrel
    clear G11
    by_cases hlt : j < 3
    · have hlt' : (j : Int) < 3 := by omega
      obtain ⟨u, hu⟩ : ∃ u, rs.getD j 0 = u := ⟨_, rfl⟩
      have hub : 0 ≤ u ∧ u ≤ 18446744073709551615 := by
        rw [← hu, ← HRS.out]
        match j, hlt with
        | 0, _ => exact hfd
        | 1, _ => exact hat
        | 2, _ => exact hn
      have hcl : wr.cell? ⟨X, j, none⟩ = some (.int .u64 u) := by
        rw [blk_cell HT.out.blk j, ← hu, ← HRS.out]
        match j, hlt with
        | 0, _ => rfl
        | 1, _ => rfl
        | 2, _ => rfl
      obtain ⟨t, ht⟩ : ∃ t : Nat, 10 + j = t := ⟨_, rfl⟩
      have ht' : (10 : Int) + (j : Int) = (t : Int) := by omega
      have htb : 10 ≤ t ∧ t ≤ 12 := by omega
      have htl : (t : Int) < 32 := by omega
      have hti : InI (t : Int) := by unfold InI; omega
      have HXN : Hid (clM ds is rs (j + 1) = { clM ds is rs j with x := xset (clM ds is rs j).x (t : Int) u }) := by
        refine hide ?_
        unfold clM
        simp only [xsC]
        rw [hu, ht]
      clear hu ht
      go_wp2_with fail
      refine (bx_set HT.out (t : Int) u hti hub).mono ?_
      rintro e W3 ⟨rfl, h3⟩
      have h3r : RH w W3 y mm2 ey (clM ds is rs j) _ := BX.rh (M := { clM ds is rs j with x := xset (clM ds is rs j).x (t : Int) u }) h3
      have hz3 := h3r.frozen (2 + t)
      have hr3 := h3r.reg t (by omega)
      have H4 : Hid (BX w (W3.setCell ⟨y, 2 + t, none⟩ (.int .u64 u)) m mm me (clM ds is rs (j + 1)) y mm2 ey (clM ds is rs (j + 1)) [BlkT X (.cells #[.int .u64 fd, .int .u64 at', .int .u64 n] 31 (0, 0))]) := by
        refine hide ?_
        have h5 := h3r.setreg t (by omega) (by omega) hub
        rw [HXN.out]
        exact BX.of (M := { clM ds is rs j with x := xset (clM ds is rs j).x (t : Int) u }) (M' := { clM ds is rs j with x := xset (clM ds is rs j).x (t : Int) u }) h5
      clear h3 h3r HT hcl HXN hub
      go_wp2
      go_roundg (3 - (j + 1))
      case measure => omega
      case rel => exact ⟨j + 1, by omega, rfl, by go_num, H4.out⟩
    · obtain rfl : j = 3 := by omega
      obtain ⟨M0, hM0⟩ : ∃ M, clM ds is rs 3 = M := ⟨_, rfl⟩
      have htr : M0.tr.length = 0 := by rw [← hM0]; rfl
      have hbs : BsOk M0 := by rw [← hM0]; intro s hs; cases hs
      have hin : M0.ins.length ≤ 100 := by
        rw [← hM0]
        show is.length ≤ 100
        omega
      rw [hM0] at HT
      have HT0 := hide HT.out.drop
      clear hM0 HT HRS
      go_wp2_with fail
      refine (bx_set HT0.out 17 v (by unfold InI; omega) hvb).mono ?_
      rintro e W3 ⟨rfl, h3⟩
      have h3r : RH w W3 y mm2 ey M0 _ := BX.rh (M := { M0 with x := xset M0.x 17 v }) h3
      have hz3 := h3r.frozen 19
      have hr3 : W3.cell? ⟨y, 19, none⟩ = some (.int .u64 (M0.x 17)) := h3r.reg 17 (by omega)
      obtain ⟨M, hM⟩ : ∃ M : Mc, { M0 with x := xset M0.x 17 v } = M := ⟨_, rfl⟩
      have htrM : M.tr.length = 0 := by rw [← hM]; exact htr
      have hbsM : BsOk M := by rw [← hM]; exact hbs
      have hinM : M.ins.length ≤ 100 := by rw [← hM]; exact hin
      have H4 : Hid (BX w (W3.setCell ⟨y, 19, none⟩ (.int .u64 v)) m mm me M y mm2 ey M []) := by
        refine hide ?_
        have h5 := h3r.setreg 17 (by omega) (by omega) hvb
        rw [← hM]
        exact BX.of (M := { M0 with x := xset M0.x 17 v }) (M' := { M0 with x := xset M0.x 17 v }) h5
      clear h3 h3r HT0 hvb hM htr hbs hin
      go_upto_region 21 with fail
      clear hz3 hr3
      generalize W3.setCell ⟨y, 19, none⟩ (.int .u64 v) = V at *
      have HS : Hid (Calls Tryz.prog 9 #[.pointer (some ⟨m, 0, none⟩)] V.drew fun e w' => e = .returned (stV M.step.kind M.step.code M.step.trap) ∧ BX w w' m mm me M.step y mm2 ey M []) := step_any V.drew (H4.out.below ((Below.refl _ _).drew)) HL.out (by omega) (by omega)
      have HRS : Hid (∀ W, BX w W m mm me M.step y mm2 ey M [] → Calls Tryz.prog 10 #[.pointer (some ⟨y, 0, none⟩)] W fun e w' => e = .returned (stV M.step.kind M.step.code M.step.trap) ∧ BX w w' m mm me M.step y mm2 ey M.step []) := fun W hW => (rstep_any W hW.rh (by omega) (by omega)).mono (fun e w' ⟨g1, g2⟩ => ⟨g1, BX.of (M := M.step) (M' := M.step) g2⟩)
      have hst := M.step_tr
      have hbN := bs_step hbsM
      obtain ⟨N, hN⟩ : ∃ N, M.step = N := ⟨_, rfl⟩
      rw [hN] at HS HRS hst hbN
      unfold stV at HS HRS
      have htN : N.tr.length ≤ 1 := by have := hst.1; omega
      have HPc := hide (fun W (hW : BX w W m mm me N y mm2 ey N []) => bx_pc hW)
      obtain ⟨sk, hsk⟩ : ∃ x, N.kind = x := ⟨_, rfl⟩
      obtain ⟨sc, hsc⟩ : ∃ x, N.code = x := ⟨_, rfl⟩
      obtain ⟨st, hstt⟩ : ∃ x, N.trap = x := ⟨_, rfl⟩
      obtain ⟨sp, hsp⟩ : ∃ x, N.pc = x := ⟨_, rfl⟩
      obtain ⟨rv, hrv⟩ : ∃ x, N.x 10 = x := ⟨_, rfl⟩
      obtain ⟨tl, htl⟩ : ∃ x, N.tr.length = x := ⟨_, rfl⟩
      obtain ⟨il, hill⟩ : ∃ x, N.ins.length = x := ⟨_, rfl⟩
      rw [hsk, hsc, hstt] at HS HRS
      rw [hsp] at HPc
      have HRg : Hid (∀ W, BX w W m mm me N y mm2 ey N [] → Calls Tryz.prog 13 #[.pointer (some ⟨m, 0, none⟩), .int .i64 10] W fun e w' => e = .returned (.int .u64 rv) ∧ w' = W) := fun W hW => mh_rg hW 10 (by decide) rv hrv
      have HTr : Hid (∀ W, BX w W m mm me N y mm2 ey N [] → Calls Tryz.prog 30 #[.pointer (some ⟨me, 0, none⟩)] W fun e w' => ∃ a c es, e = .returned (.slice a tl c) ∧ Evs w' a tl es ∧ es.map Evt.says = N.tr ∧ Below W.heap.size W w') := fun W hW => by
        have h9 := has_trace hW.env (fun s hs => by have := hbN s hs; omega) (by omega)
        rw [htl] at h9
        exact h9
      have HLf : Hid (∀ W, BX w W m mm me N y mm2 ey N [] → Calls Tryz.prog 31 #[.pointer (some ⟨me, 0, none⟩)] W fun e w' => e = .returned (.int .i64 (il : Int)) ∧ w' = W) := fun W hW => by
        have h9 := has_left hW.env
        rw [hill] at h9
        exact h9
      have HCel : Hid (∀ W, BX w W m mm me N y mm2 ey N [] → W.cell? ⟨y, 34, none⟩ = some (.int .u64 (sp : Int)) ∧ W.cell? ⟨y, 12, none⟩ = some (.int .u64 rv)) := fun W hW => by
        have h1 := hW.rh.cpc
        have h2 := hW.rh.reg 10 (by decide)
        rw [hsp] at h1
        rw [hrv] at h2
        exact ⟨h1, h2⟩
      have HRef : Hid (∀ W, BX w W m mm me N y mm2 ey N [] → ∃ a0 c0 a1 c1 es, W.cell? ⟨ey, 0, none⟩ = some (.slice a0 il c0) ∧ W.cell? ⟨ey, 1, none⟩ = some (.slice a1 tl c1) ∧ Evs W a1 tl es ∧ es.map Evt.says = N.tr) := fun W hW => by
        have h9 := hW.refs
        rw [hill, htl] at h9
        exact h9
      clear hN hst hbN hsk hsc hstt hsp hrv htl hill H4
      go_cut [140] (fun s wx => s = .bool false ∧ Hid (BX w wx m mm me N y mm2 ey N []))
      case first =>
        refine wp_region_held_drew (S := fun w' => True) (by kernel_rfl) trivial (fun hHeld => ?_)
        refine wpAnyH_take (i := 0) (oi := ⟨some 97, _, _, _, _, _⟩) (v := ?_) rfl (by kernel_rfl) (by kernel_rfl) (by kernel_rfl) (fun _ _ _ h => h) (Or.inl ⟨by rfl, ?_⟩) hHeld ?_
        rotate_left
        · intro w' hSw; go_simp; try with_reducible rfl
        try simp only [Act.put, List.setIfInBounds_toArray, List.set_cons_zero, List.set_cons_succ]
        refine wpAnyH_take (i := 2) (oi := ⟨some 99, _, _, _, _, _⟩) (v := ?_) rfl (by kernel_rfl) (by kernel_rfl) (by kernel_rfl) (fun _ _ _ h => h) (Or.inl ⟨by rfl, ?_⟩) hHeld ?_
        rotate_left
        · intro w' hSw; go_simp; try with_reducible rfl
        try simp only [Act.put, List.setIfInBounds_toArray, List.set_cons_zero, List.set_cons_succ]
        refine wpAnyH_ready (rs := [1]) (by kernel_rfl) (by simp) ?_
        refine AllReadyH.cons (o := ⟨some 98, _, _, _, _, _⟩) rfl (fun K hK => ?_) AllReadyH.nil
        go_simp
        refine HS.out.mono ?_
        rintro e W3 ⟨rfl, h3⟩
        have H3 := hide h3
        clear h3 HS
        try go_wp2_with fail
        refine hK.out _ _ (trivial) (fun hHeld => ?_)
        clear hK K
        try simp only [Act.put, List.setIfInBounds_toArray, List.set_cons_zero, List.set_cons_succ]
        refine wpAnyH_ready (rs := [3]) (by kernel_rfl) (by simp) ?_
        refine AllReadyH.cons (o := ⟨some 100, _, _, _, _, _⟩) rfl (fun K hK => ?_) AllReadyH.nil
        go_simp
        refine (HRS.out _ H3.out).mono ?_
        rintro e W4 ⟨rfl, h4⟩
        have H4 := hide h4
        obtain ⟨x0, x1⟩ := HCel.out _ h4
        obtain ⟨fa, fc, ga, gc, fes, f0, f1, fE, fs⟩ := HRef.out _ h4
        have FE := hide fE
        have FS := hide fs
        clear h4 fE fs HRS H3 HCel HRef
        try go_wp2_with fail
        refine hK.out _ _ (trivial) (fun hHeld => ?_)
        clear hK K
        try simp only [Act.put, List.setIfInBounds_toArray, List.set_cons_zero, List.set_cons_succ]
        refine wpAnyH_up (S' := fun w' => w'.cell? ⟨y, 34, none⟩ = some (.int .u64 (sp : Int)) ∧ w'.cell? ⟨y, 12, none⟩ = some (.int .u64 rv) ∧ w'.cell? ⟨ey, 0, none⟩ = some (.slice fa il fc) ∧ w'.cell? ⟨ey, 1, none⟩ = some (.slice ga tl gc)) (fun _ _ => trivial) _ _ _ _ ?_
        replace hHeld := And.intro x0 (And.intro x1 (And.intro f0 f1))
        refine wpAnyH_take (i := 4) (oi := ⟨some 101, _, _, _, _, _⟩) (v := ?_) rfl (by kernel_rfl) (by kernel_rfl) (by kernel_rfl) (fun _ _ _ h => h) (Or.inl ⟨by rfl, ?_⟩) hHeld ?_
        rotate_left
        · intro w' hSw; obtain ⟨v34, v12, v0, v1⟩ := hSw; go_simp; try with_reducible rfl
        try simp only [Act.put, List.setIfInBounds_toArray, List.set_cons_zero, List.set_cons_succ]
        refine wpAnyH_take (i := 5) (oi := ⟨some 102, _, _, _, _, _⟩) (v := ?_) rfl (by kernel_rfl) (by kernel_rfl) (by kernel_rfl) (fun _ _ _ h => h) (Or.inl ⟨by rfl, ?_⟩) hHeld ?_
        rotate_left
        · intro w' hSw; obtain ⟨v34, v12, v0, v1⟩ := hSw; go_simp; try with_reducible rfl
        try simp only [Act.put, List.setIfInBounds_toArray, List.set_cons_zero, List.set_cons_succ]
        refine wpAnyH_take (i := 6) (oi := ⟨some 103, _, _, _, _, _⟩) (v := ?_) rfl (by kernel_rfl) (by kernel_rfl) (by kernel_rfl) (fun _ _ _ h => h) (Or.inl ⟨by rfl, ?_⟩) hHeld ?_
        rotate_left
        · intro w' hSw; obtain ⟨v34, v12, v0, v1⟩ := hSw; go_simp; try with_reducible rfl
        try simp only [Act.put, List.setIfInBounds_toArray, List.set_cons_zero, List.set_cons_succ]
        refine wpAnyH_take (i := 8) (oi := ⟨some 105, _, _, _, _, _⟩) (v := ?_) rfl (by kernel_rfl) (by kernel_rfl) (by kernel_rfl) (fun _ _ _ h => h) (Or.inl ⟨by rfl, ?_⟩) hHeld ?_
        rotate_left
        · intro w' hSw; obtain ⟨v34, v12, v0, v1⟩ := hSw; go_simp; try with_reducible rfl
        try simp only [Act.put, List.setIfInBounds_toArray, List.set_cons_zero, List.set_cons_succ]
        refine wpAnyH_take (i := 9) (oi := ⟨some 106, _, _, _, _, _⟩) (v := ?_) rfl (by kernel_rfl) (by kernel_rfl) (by kernel_rfl) (fun _ _ _ h => h) (Or.inl ⟨by rfl, ?_⟩) hHeld ?_
        rotate_left
        · intro w' hSw; obtain ⟨v34, v12, v0, v1⟩ := hSw; go_simp; try with_reducible rfl
        try simp only [Act.put, List.setIfInBounds_toArray, List.set_cons_zero, List.set_cons_succ]
        refine wpAnyH_take (i := 10) (oi := ⟨some 107, _, _, _, _, _⟩) (v := ?_) rfl (by kernel_rfl) (by kernel_rfl) (by kernel_rfl) (fun _ _ _ h => h) (Or.inl ⟨by rfl, ?_⟩) hHeld ?_
        rotate_left
        · intro w' hSw; obtain ⟨v34, v12, v0, v1⟩ := hSw; go_simp; try with_reducible rfl
        try simp only [Act.put, List.setIfInBounds_toArray, List.set_cons_zero, List.set_cons_succ]
        refine wpAnyH_take (i := 11) (oi := ⟨some 108, _, _, _, _, _⟩) (v := ?_) rfl (by kernel_rfl) (by kernel_rfl) (by kernel_rfl) (fun _ _ _ h => h) (Or.inl ⟨by rfl, ?_⟩) hHeld ?_
        rotate_left
        · intro w' hSw; obtain ⟨v34, v12, v0, v1⟩ := hSw; go_simp; try with_reducible rfl
        try simp only [Act.put, List.setIfInBounds_toArray, List.set_cons_zero, List.set_cons_succ]
        refine wpAnyH_ready (rs := [7]) (by kernel_rfl) (by simp) ?_
        refine AllReadyH.cons (o := ⟨some 104, _, _, _, _, _⟩) rfl (fun K hK => ?_) AllReadyH.nil
        go_simp
        refine (HPc.out _ H4.out).mono ?_
        rintro e W5 ⟨rfl, hW5⟩
        rw [hW5]
        clear hW5 W5
        try go_wp2_with fail
        refine hK.out _ _ (hHeld) (fun hHeld => ?_)
        clear hK K
        try simp only [Act.put, List.setIfInBounds_toArray, List.set_cons_zero, List.set_cons_succ]
        refine wpAnyH_take (i := 12) (oi := ⟨some 109, _, _, _, _, _⟩) (v := ?_) rfl (by kernel_rfl) (by kernel_rfl) (by kernel_rfl) (fun _ _ _ h => h) (Or.inl ⟨by rfl, ?_⟩) hHeld ?_
        rotate_left
        · intro w' hSw; obtain ⟨v34, v12, v0, v1⟩ := hSw; go_simp; try with_reducible rfl
        try simp only [Act.put, List.setIfInBounds_toArray, List.set_cons_zero, List.set_cons_succ]
        refine wpAnyH_take (i := 13) (oi := ⟨some 110, _, _, _, _, _⟩) (v := ?_) rfl (by kernel_rfl) (by kernel_rfl) (by kernel_rfl) (fun _ _ _ h => h) (Or.inl ⟨by rfl, ?_⟩) hHeld ?_
        rotate_left
        · intro w' hSw; obtain ⟨v34, v12, v0, v1⟩ := hSw; go_simp; try with_reducible rfl
        try simp only [Act.put, List.setIfInBounds_toArray, List.set_cons_zero, List.set_cons_succ]
        refine wpAnyH_take (i := 14) (oi := ⟨some 111, _, _, _, _, _⟩) (v := ?_) rfl (by kernel_rfl) (by kernel_rfl) (by kernel_rfl) (fun _ _ _ h => h) (Or.inl ⟨by rfl, ?_⟩) hHeld ?_
        rotate_left
        · intro w' hSw; obtain ⟨v34, v12, v0, v1⟩ := hSw; go_simp; try with_reducible rfl
        try simp only [Act.put, List.setIfInBounds_toArray, List.set_cons_zero, List.set_cons_succ]
        refine wpAnyH_take (i := 15) (oi := ⟨some 112, _, _, _, _, _⟩) (v := ?_) rfl (by kernel_rfl) (by kernel_rfl) (by kernel_rfl) (fun _ _ _ h => h) (Or.inl ⟨by rfl, ?_⟩) hHeld ?_
        rotate_left
        · intro w' hSw; obtain ⟨v34, v12, v0, v1⟩ := hSw; go_simp; try with_reducible rfl
        try simp only [Act.put, List.setIfInBounds_toArray, List.set_cons_zero, List.set_cons_succ]
        refine wpAnyH_take (i := 17) (oi := ⟨some 114, _, _, _, _, _⟩) (v := ?_) rfl (by kernel_rfl) (by kernel_rfl) (by kernel_rfl) (fun _ _ _ h => h) (Or.inl ⟨by rfl, ?_⟩) hHeld ?_
        rotate_left
        · intro w' hSw; obtain ⟨v34, v12, v0, v1⟩ := hSw; go_simp; try with_reducible rfl
        try simp only [Act.put, List.setIfInBounds_toArray, List.set_cons_zero, List.set_cons_succ]
        refine wpAnyH_take (i := 18) (oi := ⟨some 115, _, _, _, _, _⟩) (v := ?_) rfl (by kernel_rfl) (by kernel_rfl) (by kernel_rfl) (fun _ _ _ h => h) (Or.inl ⟨by rfl, ?_⟩) hHeld ?_
        rotate_left
        · intro w' hSw; obtain ⟨v34, v12, v0, v1⟩ := hSw; go_simp; try with_reducible rfl
        try simp only [Act.put, List.setIfInBounds_toArray, List.set_cons_zero, List.set_cons_succ]
        refine wpAnyH_take (i := 19) (oi := ⟨some 116, _, _, _, _, _⟩) (v := ?_) rfl (by kernel_rfl) (by kernel_rfl) (by kernel_rfl) (fun _ _ _ h => h) (Or.inl ⟨by rfl, ?_⟩) hHeld ?_
        rotate_left
        · intro w' hSw; obtain ⟨v34, v12, v0, v1⟩ := hSw; go_simp; try with_reducible rfl
        try simp only [Act.put, List.setIfInBounds_toArray, List.set_cons_zero, List.set_cons_succ]
        refine wpAnyH_take (i := 20) (oi := ⟨some 117, _, _, _, _, _⟩) (v := ?_) rfl (by kernel_rfl) (by kernel_rfl) (by kernel_rfl) (fun _ _ _ h => h) (Or.inl ⟨by rfl, ?_⟩) hHeld ?_
        rotate_left
        · intro w' hSw; obtain ⟨v34, v12, v0, v1⟩ := hSw; go_simp; try with_reducible rfl
        try simp only [Act.put, List.setIfInBounds_toArray, List.set_cons_zero, List.set_cons_succ]
        refine wpAnyH_take (i := 21) (oi := ⟨some 118, _, _, _, _, _⟩) (v := ?_) rfl (by kernel_rfl) (by kernel_rfl) (by kernel_rfl) (fun _ _ _ h => h) (Or.inl ⟨by rfl, ?_⟩) hHeld ?_
        rotate_left
        · intro w' hSw; obtain ⟨v34, v12, v0, v1⟩ := hSw; go_simp; try with_reducible rfl
        try simp only [Act.put, List.setIfInBounds_toArray, List.set_cons_zero, List.set_cons_succ]
        refine wpAnyH_ready (rs := [16]) (by kernel_rfl) (by simp) ?_
        refine AllReadyH.cons (o := ⟨some 113, _, _, _, _, _⟩) rfl (fun K hK => ?_) AllReadyH.nil
        go_simp
        refine (HRg.out _ H4.out).mono ?_
        rintro e W5 ⟨rfl, hW5⟩
        rw [hW5]
        clear hW5 W5
        try go_wp2_with fail
        refine hK.out _ _ (hHeld) (fun hHeld => ?_)
        clear hK K
        try simp only [Act.put, List.setIfInBounds_toArray, List.set_cons_zero, List.set_cons_succ]
        refine wpAnyH_take (i := 22) (oi := ⟨some 119, _, _, _, _, _⟩) (v := ?_) rfl (by kernel_rfl) (by kernel_rfl) (by kernel_rfl) (fun _ _ _ h => h) (Or.inl ⟨by rfl, ?_⟩) hHeld ?_
        rotate_left
        · intro w' hSw; obtain ⟨v34, v12, v0, v1⟩ := hSw; go_simp; try with_reducible rfl
        try simp only [Act.put, List.setIfInBounds_toArray, List.set_cons_zero, List.set_cons_succ]
        refine wpAnyH_take (i := 23) (oi := ⟨some 120, _, _, _, _, _⟩) (v := ?_) rfl (by kernel_rfl) (by kernel_rfl) (by kernel_rfl) (fun _ _ _ h => h) (Or.inl ⟨by rfl, ?_⟩) hHeld ?_
        rotate_left
        · intro w' hSw; obtain ⟨v34, v12, v0, v1⟩ := hSw; go_simp; try with_reducible rfl
        try simp only [Act.put, List.setIfInBounds_toArray, List.set_cons_zero, List.set_cons_succ]
        refine wpAnyH_take (i := 24) (oi := ⟨some 121, _, _, _, _, _⟩) (v := ?_) rfl (by kernel_rfl) (by kernel_rfl) (by kernel_rfl) (fun _ _ _ h => h) (Or.inl ⟨by rfl, ?_⟩) hHeld ?_
        rotate_left
        · intro w' hSw; obtain ⟨v34, v12, v0, v1⟩ := hSw; go_simp; try with_reducible rfl
        try simp only [Act.put, List.setIfInBounds_toArray, List.set_cons_zero, List.set_cons_succ]
        refine wpAnyH_take (i := 25) (oi := ⟨some 122, _, _, _, _, _⟩) (v := ?_) rfl (by kernel_rfl) (by kernel_rfl) (by kernel_rfl) (fun _ _ _ h => h) (Or.inl ⟨by rfl, ?_⟩) hHeld ?_
        rotate_left
        · intro w' hSw; obtain ⟨v34, v12, v0, v1⟩ := hSw; go_simp; try with_reducible rfl
        try simp only [Act.put, List.setIfInBounds_toArray, List.set_cons_zero, List.set_cons_succ]
        refine wpAnyH_take (i := 27) (oi := ⟨some 124, _, _, _, _, _⟩) (v := ?_) rfl (by kernel_rfl) (by kernel_rfl) (by kernel_rfl) (fun _ _ _ h => h) (Or.inl ⟨by rfl, ?_⟩) hHeld ?_
        rotate_left
        · intro w' hSw; obtain ⟨v34, v12, v0, v1⟩ := hSw; go_simp; try with_reducible rfl
        try simp only [Act.put, List.setIfInBounds_toArray, List.set_cons_zero, List.set_cons_succ]
        refine wpAnyH_take (i := 28) (oi := ⟨some 125, _, _, _, _, _⟩) (v := ?_) rfl (by kernel_rfl) (by kernel_rfl) (by kernel_rfl) (fun _ _ _ h => h) (Or.inl ⟨by rfl, ?_⟩) hHeld ?_
        rotate_left
        · intro w' hSw; obtain ⟨v34, v12, v0, v1⟩ := hSw; go_simp; try with_reducible rfl
        try simp only [Act.put, List.setIfInBounds_toArray, List.set_cons_zero, List.set_cons_succ]
        refine wpAnyH_take (i := 29) (oi := ⟨some 126, _, _, _, _, _⟩) (v := ?_) rfl (by kernel_rfl) (by kernel_rfl) (by kernel_rfl) (fun _ _ _ h => h) (Or.inl ⟨by rfl, ?_⟩) hHeld ?_
        rotate_left
        · intro w' hSw; obtain ⟨v34, v12, v0, v1⟩ := hSw; go_simp; try with_reducible rfl
        try simp only [Act.put, List.setIfInBounds_toArray, List.set_cons_zero, List.set_cons_succ]
        refine wpAnyH_take (i := 30) (oi := ⟨some 127, _, _, _, _, _⟩) (v := ?_) rfl (by kernel_rfl) (by kernel_rfl) (by kernel_rfl) (fun _ _ _ h => h) (Or.inl ⟨by rfl, ?_⟩) hHeld ?_
        rotate_left
        · intro w' hSw; obtain ⟨v34, v12, v0, v1⟩ := hSw; go_simp; try with_reducible rfl
        try simp only [Act.put, List.setIfInBounds_toArray, List.set_cons_zero, List.set_cons_succ]
        refine wpAnyH_ready (rs := [26]) (by kernel_rfl) (by simp) ?_
        refine AllReadyH.cons (o := ⟨some 123, _, _, _, _, _⟩) rfl (fun K hK => ?_) AllReadyH.nil
        go_simp
        refine (HTr.out _ H4.out).mono ?_
        rintro e W7 ⟨ta, tc, tes, rfl, hE, hs, hb7⟩
        have H7 := hide (H4.out.below hb7)
        have g0 := (hb7.cell (World.block_lt_of_cell? _ _ x0)).trans x0
        have g1 := (hb7.cell (World.block_lt_of_cell? _ _ x1)).trans x1
        have k0 := (hb7.cell (World.block_lt_of_cell? _ _ f0)).trans f0
        have k1 := (hb7.cell (World.block_lt_of_cell? _ _ f1)).trans f1
        have TE := hide hE
        have TS := hide hs
        have FE7 := hide (FE.out.below hb7)
        clear hE hs hb7 x0 x1 f0 f1
        try go_wp2_with fail
        refine hK.out _ _ (And.intro g0 (And.intro g1 (And.intro k0 k1))) (fun hHeld => ?_)
        clear hK K
        try simp only [Act.put, List.setIfInBounds_toArray, List.set_cons_zero, List.set_cons_succ]
        refine wpAnyH_ready (rs := [31]) (by kernel_rfl) (by simp) ?_
        refine AllReadyH.cons (o := ⟨some 128, _, _, _, _, _⟩) rfl (fun K hK => ?_) AllReadyH.nil
        go_simp
        refine (events_any _ _ _ _ _ _ _ _ TE.out FE7.out (TS.out.trans FS.out.symm)).mono ?_
        rintro e W8 ⟨rfl, hb8⟩
        have H8 := hide (H7.out.below hb8)
        have p0 := (hb8.cell (World.block_lt_of_cell? _ _ g0)).trans g0
        have p1 := (hb8.cell (World.block_lt_of_cell? _ _ g1)).trans g1
        have p2 := (hb8.cell (World.block_lt_of_cell? _ _ k0)).trans k0
        have p3 := (hb8.cell (World.block_lt_of_cell? _ _ k1)).trans k1
        clear hb8 g0 g1 k0 k1
        try go_wp2_with fail
        refine hK.out _ _ (And.intro p0 (And.intro p1 (And.intro p2 p3))) (fun hHeld => ?_)
        clear hK K
        try simp only [Act.put, List.setIfInBounds_toArray, List.set_cons_zero, List.set_cons_succ]
        refine wpAnyH_take (i := 32) (oi := ⟨some 129, _, _, _, _, _⟩) (v := ?_) rfl (by kernel_rfl) (by kernel_rfl) (by kernel_rfl) (fun _ _ _ h => h) (Or.inl ⟨by rfl, ?_⟩) hHeld ?_
        rotate_left
        · intro w' hSw; obtain ⟨v34, v12, v0, v1⟩ := hSw; go_simp; try with_reducible rfl
        try simp only [Act.put, List.setIfInBounds_toArray, List.set_cons_zero, List.set_cons_succ]
        refine wpAnyH_take (i := 33) (oi := ⟨some 130, _, _, _, _, _⟩) (v := ?_) rfl (by kernel_rfl) (by kernel_rfl) (by kernel_rfl) (fun _ _ _ h => h) (Or.inl ⟨by rfl, ?_⟩) hHeld ?_
        rotate_left
        · intro w' hSw; obtain ⟨v34, v12, v0, v1⟩ := hSw; go_simp; try with_reducible rfl
        try simp only [Act.put, List.setIfInBounds_toArray, List.set_cons_zero, List.set_cons_succ]
        refine wpAnyH_take (i := 34) (oi := ⟨some 131, _, _, _, _, _⟩) (v := ?_) rfl (by kernel_rfl) (by kernel_rfl) (by kernel_rfl) (fun _ _ _ h => h) (Or.inl ⟨by rfl, ?_⟩) hHeld ?_
        rotate_left
        · intro w' hSw; obtain ⟨v34, v12, v0, v1⟩ := hSw; go_simp; try with_reducible rfl
        try simp only [Act.put, List.setIfInBounds_toArray, List.set_cons_zero, List.set_cons_succ]
        refine wpAnyH_take (i := 35) (oi := ⟨some 132, _, _, _, _, _⟩) (v := ?_) rfl (by kernel_rfl) (by kernel_rfl) (by kernel_rfl) (fun _ _ _ h => h) (Or.inl ⟨by rfl, ?_⟩) hHeld ?_
        rotate_left
        · intro w' hSw; obtain ⟨v34, v12, v0, v1⟩ := hSw; go_simp; try with_reducible rfl
        try simp only [Act.put, List.setIfInBounds_toArray, List.set_cons_zero, List.set_cons_succ]
        refine wpAnyH_take (i := 37) (oi := ⟨some 134, _, _, _, _, _⟩) (v := ?_) rfl (by kernel_rfl) (by kernel_rfl) (by kernel_rfl) (fun _ _ _ h => h) (Or.inl ⟨by rfl, ?_⟩) hHeld ?_
        rotate_left
        · intro w' hSw; obtain ⟨v34, v12, v0, v1⟩ := hSw; go_simp; try with_reducible rfl
        try simp only [Act.put, List.setIfInBounds_toArray, List.set_cons_zero, List.set_cons_succ]
        refine wpAnyH_take (i := 38) (oi := ⟨some 135, _, _, _, _, _⟩) (v := ?_) rfl (by kernel_rfl) (by kernel_rfl) (by kernel_rfl) (fun _ _ _ h => h) (Or.inl ⟨by rfl, ?_⟩) hHeld ?_
        rotate_left
        · intro w' hSw; obtain ⟨v34, v12, v0, v1⟩ := hSw; go_simp; try with_reducible rfl
        try simp only [Act.put, List.setIfInBounds_toArray, List.set_cons_zero, List.set_cons_succ]
        refine wpAnyH_take (i := 39) (oi := ⟨some 136, _, _, _, _, _⟩) (v := ?_) rfl (by kernel_rfl) (by kernel_rfl) (by kernel_rfl) (fun _ _ _ h => h) (Or.inl ⟨by rfl, ?_⟩) hHeld ?_
        rotate_left
        · intro w' hSw; obtain ⟨v34, v12, v0, v1⟩ := hSw; go_simp; try with_reducible rfl
        try simp only [Act.put, List.setIfInBounds_toArray, List.set_cons_zero, List.set_cons_succ]
        refine wpAnyH_take (i := 40) (oi := ⟨some 137, _, _, _, _, _⟩) (v := ?_) rfl (by kernel_rfl) (by kernel_rfl) (by kernel_rfl) (fun _ _ _ h => h) (Or.inl ⟨by rfl, ?_⟩) hHeld ?_
        rotate_left
        · intro w' hSw; obtain ⟨v34, v12, v0, v1⟩ := hSw; go_simp; try with_reducible rfl
        try simp only [Act.put, List.setIfInBounds_toArray, List.set_cons_zero, List.set_cons_succ]
        refine wpAnyH_take (i := 41) (oi := ⟨some 138, _, _, _, _, _⟩) (v := ?_) rfl (by kernel_rfl) (by kernel_rfl) (by kernel_rfl) (fun _ _ _ h => h) (Or.inl ⟨by rfl, ?_⟩) hHeld ?_
        rotate_left
        · intro w' hSw; obtain ⟨v34, v12, v0, v1⟩ := hSw; go_simp; try with_reducible rfl
        try simp only [Act.put, List.setIfInBounds_toArray, List.set_cons_zero, List.set_cons_succ]
        refine wpAnyH_ready (rs := [36]) (by kernel_rfl) (by simp) ?_
        refine AllReadyH.cons (o := ⟨some 133, _, _, _, _, _⟩) rfl (fun K hK => ?_) AllReadyH.nil
        go_simp
        refine (HLf.out _ H8.out).mono ?_
        rintro e W5 ⟨rfl, hW5⟩
        rw [hW5]
        clear hW5 W5
        try go_wp2_with fail
        refine hK.out _ _ (hHeld) (fun hHeld => ?_)
        clear hK K
        try simp only [Act.put, List.setIfInBounds_toArray, List.set_cons_zero, List.set_cons_succ]
        refine wpAnyH_take (i := 42) (oi := ⟨some 139, _, _, _, _, _⟩) (v := ?_) rfl (by kernel_rfl) (by kernel_rfl) (by kernel_rfl) (fun _ _ _ h => h) (Or.inl ⟨by rfl, ?_⟩) hHeld ?_
        rotate_left
        · intro w' hSw; obtain ⟨v34, v12, v0, v1⟩ := hSw; go_simp; try with_reducible rfl
        try simp only [Act.put, List.setIfInBounds_toArray, List.set_cons_zero, List.set_cons_succ]
        refine wpAnyH_take (i := 43) (oi := ⟨some 140, _, _, _, _, _⟩) (v := ?_) rfl (by kernel_rfl) (by kernel_rfl) (by kernel_rfl) (fun _ _ _ h => h) (Or.inl ⟨by rfl, ?_⟩) hHeld ?_
        rotate_left
        · intro w' hSw; obtain ⟨v34, v12, v0, v1⟩ := hSw; go_simp; try with_reducible rfl
        try simp only [Act.put, List.setIfInBounds_toArray, List.set_cons_zero, List.set_cons_succ]
        refine wpAnyH_done (by kernel_rfl) ?_ _
        go_wp2_with fail
        go_meet
        case rel => exact ⟨rfl, H8.out⟩
      case rest =>
        obtain ⟨rfl, HF⟩ := hcut
        clear HS HRS HPc HRg HTr HLf HCel HRef
        go_wp2_with fail
        obtain ⟨F1, hpm⟩ := HF.out.pm
        refine (read_rd' mm N.mem F1 131072 8192 _ hpm (by decide) (by decide)).mono ?_
        rintro e W5 ⟨⟨b5, l5, c5, rfl, rd5⟩, hb5⟩
        have HF5 := hide (HF.out.below hb5)
        have R5 := hide rd5
        clear rd5 hb5 hpm HF
        go_wp2_with fail
        obtain ⟨F2, hrm⟩ := HF5.out.rm
        refine (rread_any mm2 N.mem F2 131072 8192 _ hrm (by decide) (by decide)).mono ?_
        rintro e W6 ⟨⟨b6, l6, c6, rfl, rd6⟩, hb6⟩
        have s5 := (R5.out.below hb6).str
        have s6 := rd6.str
        have HB6 := hide (HF5.out.bel.trans (hb6.mono HF5.out.bel.size))
        generalize (if manyOk N.mem 131072 8192 4 = true then N.mem.read 131072 8192 else []) = D at s5 s6
        have hsy := str_yes (rfl : strOfNums D = strOfNums D)
        generalize strOfNums D = S at s5 s6 hsy
        generalize manyOk N.mem 131072 8192 4 = ok
        clear rd6 R5 hb6 hrm HF5
        go_wp2
        go_ret
        exact ⟨rfl, HB6.out⟩

end Go.Proofs.YtdhjjlnabbpinaaGreatDoor
