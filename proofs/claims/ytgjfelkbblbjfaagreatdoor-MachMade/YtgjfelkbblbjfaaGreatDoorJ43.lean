/- Texts of this claim, joined: RefStep, MadeHelp. -/
import Derived.Test.YtgjfelkbblbjfaaGreatDoorRefStepA
import Derived.Test.YtgjfelkbblbjfaaGreatDoorRefStepB
import Derived.Test.YtgjfelkbblbjfaaGreatDoorRefStepC
import Derived.Test.YtgjfelkbblbjfaaGreatDoorRefStepD
import Derived.Test.YtgjfelkbblbjfaaGreatDoorRefStepE
import Derived.Test.YtgjfelkbblbjfaaGreatDoorRefCallB
import Derived.Test.YtgjfelkbblbjfaaGreatDoorRefStepF
import Derived.Test.YtgjfelkbblbjfaaGreatDoorJ33
import Derived.Deep.DeepCutAuto
/- The contract of the document's Step and Run: what the machine does. -/
namespace Go.Proofs.YtgjfelkbblbjfaaGreatDoor
open Go.RowKit Go.Maps
set_option linter.unusedVariables false
set_option maxRecDepth 100000

section
variable {w0 w w' : World} {m mm me : Nat} {M : Mc} {l : List (World → (Nat → Prop) → Prop)}

theorem rstep_ended (w : World) (h : RH w0 w m mm me M l) (hk : M.kind ≠ 0) :
    Calls Tryz.prog 40 #[.pointer (some ⟨m, 0, none⟩)] w fun e w' => e = .returned (stV M.kind M.code M.trap) ∧ RH w0 w' m mm me M l := by
  obtain ⟨c4, c5, c6⟩ := h.st
  have hk' : (M.kind != 0) = true := by simpa using hk
  have hml := h.lt
  have HM := hide (h.below (below_alloc w (.cells #[.int .i64 M.kind, .int .i64 M.code, .int .i64 M.trap] 56)))
  clear h hk
  generalize M.kind = k at *
  generalize M.code = c at *
  generalize M.trap = t at *
  go_enter Tryz.func40, Tryz.ntmps40
  go_wp2
  refine bodyPost_ret (v := stV k c t) (by simp [results, Tryz.results40, go_sem, stV]) rfl ⟨rfl, HM.out⟩

theorem rcall_case (hx : M.x 17 ≠ 93) (ht : M.tr.length < 1000000) (hi : M.ins.length ≤ 140737488355328) (hf : Fits M.x M.pc M.kind M.code M.trap) :
    ∃ (M2 : Mc) (rv : Int), (0 ≤ rv ∧ rv ≤ 18446744073709551615) ∧ (M2.kind = M.kind ∧ M2.code = M.code ∧ M2.trap = M.trap ∧ M2.pc = M.pc) ∧ M.call = M2.put 10 rv ∧
      ∀ W l, RH w0 W m mm me M l → Calls Tryz.prog 67 #[.pointer (some ⟨m, 0, none⟩)] W fun e w' => e = .returned (.int .u64 rv) ∧ RH w0 w' m mm me M2 l := by
  have hr := hf.reg 12
  unfold Mc.call
  rw [if_neg hx]
  by_cases h2 : M.x 17 = 64
  · rw [if_pos h2]
    by_cases h3 : 65536 < M.x 12
    · rw [if_pos h3]
      exact ⟨M, _, by decide, ⟨rfl, rfl, rfl, rfl⟩, rfl, fun W l hW => recall_wlong W hW h2 h3⟩
    rw [if_neg h3]
    cases h4 : mayB M.mem (M.x 11).toNat (M.x 12).toNat 4 with
    | true =>
      rw [if_pos rfl]
      exact ⟨{ M with tr := M.tr ++ [⟨0, s64 (M.x 10), M.mem.read (M.x 11).toNat (M.x 12).toNat, 0⟩] }, M.x 12, hr, ⟨rfl, rfl, rfl, rfl⟩, rfl, fun W l hW => recall_wok W hW h2 (by omega) h4 ht⟩
    | false =>
      rw [if_neg (by decide)]
      exact ⟨M, _, by decide, ⟨rfl, rfl, rfl, rfl⟩, rfl, fun W l hW => recall_wno W hW h2 (by omega) h4⟩
  rw [if_neg h2]
  by_cases h5 : M.x 17 = 63
  · rw [if_pos h5]
    by_cases h3 : 65536 < M.x 12
    · rw [if_pos h3]
      exact ⟨M, _, by decide, ⟨rfl, rfl, rfl, rfl⟩, rfl, fun W l hW => recall_rlong W hW h5 h3⟩
    rw [if_neg h3]
    cases h4 : mayB M.mem (M.x 11).toNat (M.x 12).toNat 2 with
    | true =>
      rw [if_pos rfl]
      have hL : (M.ins.take (M.x 12).toNat).length ≤ 65536 := by rw [List.length_take]; omega
      exact ⟨{ M with mem := M.mem.lay (M.x 11).toNat (M.ins.take (M.x 12).toNat), ins := M.ins.drop (M.x 12).toNat, tr := M.tr ++ [⟨1, s64 (M.x 10), [], ((M.ins.take (M.x 12).toNat).length : Int)⟩] }, ((M.ins.take (M.x 12).toNat).length : Int), ⟨by omega, by omega⟩, ⟨rfl, rfl, rfl, rfl⟩, rfl, fun W l hW => recall_rok W hW h5 (by omega) h4 ht hi⟩
    | false =>
      rw [if_neg (by decide)]
      exact ⟨M, _, by decide, ⟨rfl, rfl, rfl, rfl⟩, rfl, fun W l hW => recall_rno W hW h5 (by omega) h4⟩
  rw [if_neg h5]
  exact ⟨M, _, by decide, ⟨rfl, rfl, rfl, rfl⟩, rfl, fun W l hW => recall_none W hW h2 h5⟩

theorem rstep_do (o : Nat) (d n1 n2 : Nat) (im : Int) (w : World) (h : RH w0 w m mm me M l) (hk : M.kind = 0) (hp0 : M.pc % 4 = 0) (hm : mayB M.mem M.pc 4 1 = true) (h0 : 1 ≤ o) (h1 : o < 66) (hd : d < 32) (hn1 : n1 < 32) (hn2 : n2 < 32) (him : -2147483648 ≤ im ∧ im ≤ 2147483647) (ht : M.tr.length < 1000000) (hi : M.ins.length ≤ 140737488355328)
    (hD : ∀ W, Calls Tryz.prog 60 #[.int .u32 (fetchV M.mem M.pc)] W fun e w' => e = .returned (.tuple #[inst o d n1 n2 im, .bool true]) ∧ Below W.heap.size W w') :
    Calls Tryz.prog 40 #[.pointer (some ⟨m, 0, none⟩)] w fun e w' => e = .returned (stV (M.doF o d n1 n2 im).kind (M.doF o d n1 n2 im).code (M.doF o d n1 n2 im).trap) ∧ RH w0 w' m mm me (M.doF o d n1 n2 im) l := by
  unfold Mc.doF
  rw [Int.toNat_natCast, Int.toNat_natCast]
  by_cases a1 : o = 1
  · subst a1
    exact rstep_1 d n1 n2 im w h hk hp0 hm hd hn1 hn2 him hD
  rw [if_neg a1]
  by_cases a2 : o = 2
  · subst a2
    exact rstep_2 d n1 n2 im w h hk hp0 hm hd hn1 hn2 him hD
  rw [if_neg a2]
  by_cases a3 : o = 3
  · subst a3
    exact rstep_3 d n1 n2 im w h hk hp0 hm hd hn1 hn2 him hD
  rw [if_neg a3]
  by_cases a4 : o = 4
  · subst a4
    exact rstep_4 d n1 n2 im w h hk hp0 hm hd hn1 hn2 him hD
  rw [if_neg a4]
  by_cases a10 : o ≤ 10
  · rw [if_pos a10]
    exact rstep_br o (by omega) a10 d n1 n2 im w h hk hp0 hm hd hn1 hn2 him hD
  rw [if_neg a10]
  by_cases a17 : o ≤ 17
  · rw [if_pos a17]
    exact rstep_ld o (by omega) a17 d n1 n2 im w h hk hp0 hm hd hn1 hn2 him hD
  rw [if_neg a17]
  by_cases a21 : o ≤ 21
  · rw [if_pos a21]
    exact rstep_so o (by omega) a21 d n1 n2 im w h hk hp0 hm hd hn1 hn2 him hD
  rw [if_neg a21]
  by_cases a62 : o ≤ 62
  · rw [if_pos a62]
    exact rstep_alu o (by omega) a62 d n1 n2 im w h hk hp0 hm hd hn1 hn2 him hD
  rw [if_neg a62]
  by_cases a63 : o = 63
  · subst a63
    exact rstep_63 d n1 n2 im w h hk hp0 hm hd hn1 hn2 him hD
  rw [if_neg a63]
  by_cases a64 : o = 64
  · subst a64
    rw [if_pos rfl]
    by_cases hx : M.x 17 = 93
    · exact rstep_64x hx d n1 n2 im w h hk hp0 hm hd hn1 hn2 him hD
    · obtain ⟨M2, rv, g1, g2, g3, g4⟩ := rcall_case (w0 := w0) (m := m) (mm := mm) (me := me) hx ht hi h.fits
      rw [g3]
      exact rstep_64y M2 rv g1 hx g2 g4 d n1 n2 im w h hk hp0 hm hd hn1 hn2 him hD
  rw [if_neg a64]
  obtain rfl : o = 65 := by omega
  exact rstep_65 d n1 n2 im w h hk hp0 hm hd hn1 hn2 him hD

/-- A step of the document's machine. -/
theorem rstep_any (w : World) (h : RH w0 w m mm me M l) (ht : M.tr.length < 1000000) (hi : M.ins.length ≤ 140737488355328) :
    Calls Tryz.prog 40 #[.pointer (some ⟨m, 0, none⟩)] w fun e w' => e = .returned (stV M.step.kind M.step.code M.step.trap) ∧ RH w0 w' m mm me M.step l := by
  unfold Mc.step
  by_cases hk : M.kind = 0
  · rw [if_pos hk]
    by_cases ha : M.pc % 4 = 0
    · rw [if_pos ha]
      cases hm : mayB M.mem M.pc 4 1 with
      | false =>
        rw [if_neg (by decide)]
        exact rstep_nofetch w h hk ha hm
      | true =>
        rw [if_pos rfl]
        have hb := fetchV_bd h.good M.pc
        have hop := opOf_is (fetchV M.mem M.pc)
        by_cases ho : opOf (fetchV M.mem M.pc) = 0
        · rw [if_pos ho]
          rw [ho] at hop
          exact rstep_ill w h hk ha hm (fun W => rdec_none _ W hb.1 hb.2 hop)
        · rw [if_neg ho]
          obtain ⟨h1, h2, h3⟩ := hop.resolve_left (fun e => ho e.1)
          have hf := fit5_of (opOf (fetchV M.mem M.pc)) (fetchV M.mem M.pc)
          have hdc := fun W => rdec_some (fetchV M.mem M.pc) _ W hb.1 hb.2 h1 h2 h3
          obtain ⟨d, hd⟩ := Int.eq_ofNat_of_zero_le hf.rd.1
          obtain ⟨n1, hn1⟩ := Int.eq_ofNat_of_zero_le hf.r1.1
          obtain ⟨n2, hn2⟩ := Int.eq_ofNat_of_zero_le hf.r2.1
          rw [hd, hn1, hn2] at hf hdc ⊢
          have f1 := hf.rd.2
          have f2 := hf.r1.2
          have f3 := hf.r2.2
          exact rstep_do _ d n1 n2 _ w h hk ha hm h1 h2 (by omega) (by omega) (by omega) hf.im ht hi hdc
    · rw [if_neg ha]
      exact rstep_align w h hk ha
  · rw [if_neg hk]
    exact rstep_ended w h hk

end

end Go.Proofs.YtgjfelkbblbjfaaGreatDoor

/- Contracts that MachMade needs besides: the help Place, the document's Run. -/
namespace Go.Proofs.YtgjfelkbblbjfaaGreatDoor
open Go.RowKit Go.Maps
set_option linter.unusedVariables false
set_option maxRecDepth 100000
set_option maxRecDepth 20000

theorem hplace_any (k n : Int) (w : World) (hk : InI k) (hn : 1 ≤ n ∧ n ≤ 1000) :
    ∃ z, (0 ≤ z ∧ z < n) ∧ ∀ w, Calls Tryz.prog 5 #[.int .i64 k, .int .i64 n] w fun e w' => e = .returned (.int .i64 z) ∧ w' = w := by
  have hb : -n < k.tmod n ∧ k.tmod n < n := ⟨by have e := Int.neg_tmod k n; have h2 := Int.tmod_lt_of_pos (-k) (show 0 < n by omega); omega, Int.tmod_lt_of_pos k (by omega)⟩
  obtain ⟨r, hr⟩ : ∃ r, k.tmod n = r := ⟨_, rfl⟩
  rw [hr] at hb
  have hk1 := hk.1
  have hk2 := hk.2
  have hn0 : ¬ n = 0 := by omega
  have hn1 := hn.1
  have hn2 := hn.2
  by_cases h0 : r < 0
  · refine ⟨r + n, by omega, fun w => ?_⟩
    go_enter Tryz.func5, Tryz.ntmps5
    go_wp2
    go_ret
    exact ⟨rfl, rfl⟩
  · refine ⟨r, by omega, fun w => ?_⟩
    have h0' : 0 ≤ r := by omega
    go_enter Tryz.func5, Tryz.ntmps5
    go_wp2
    go_ret
    exact ⟨rfl, rfl⟩

section
variable {w0 w w' : World} {m mm me : Nat} {M : Mc} {l : List (World → (Nat → Prop) → Prop)}

set_option maxHeartbeats 3200000 in
theorem rrun_any (n : Nat) (w : World) (h : RH w0 w m mm me M l) (hn : n ≤ 1000) (ht : M.tr.length + n ≤ 100000) (hi : M.ins.length ≤ 140737488355328) :
    Calls Tryz.prog 18 #[.pointer (some ⟨m, 0, none⟩), .int .i64 (n : Int)] w fun e w' => e = .returned (stV (M.runF n).kind (M.runF n).code (M.runF n).trap) ∧ RH w0 w' m mm me (M.runF n) l := by
  have HS := hide (fun j (hj : j < n) W l (hW : RH w0 W m mm me (M.runF j) l) => rstep_any (M := M.runF j) W hW (by have := (M.runF_tr j).1; omega) (by have := (M.runF_tr j).2; omega))
  have HM := hide h
  clear h ht hi
  go_enter Tryz.func18, Tryz.ntmps18
  go_wp2
  obtain ⟨R, hR⟩ : ∃ R, R = w.heap.size := ⟨_, rfl⟩
  rw [← hR]
  obtain ⟨V, hV⟩ : ∃ V, V = w.alloc (.cells #[.int .i64 0, .int .i64 0, .int .i64 0] 56) := ⟨_, rfl⟩
  rw [← hV]
  have HMV : Hid (RH w0 V m mm me M (BlkT R (.cells #[.int .i64 0, .int .i64 0, .int .i64 0] 56 (0, 0)) :: l)) := by rw [hV, hR]; exact HM.out.newblk _ _
  clear hV hR HM
  go_loopg [5] n (fun g i wr => ∃ j : Nat, j ≤ n ∧ g = n - j ∧ i = .int .i64 (j : Int) ∧ Hid (RH w0 wr m mm me (M.runF j) (BlkT R (.cells #[.int .i64 0, .int .i64 0, .int .i64 0] 56 (0, 0)) :: l)))
  case atStart => exact ⟨0, by omega, rfl, rfl, HMV.out⟩
  case round =>
    obtain ⟨j, hj, rfl, rfl, HW⟩ := hrel
    clear HMV
    by_cases hgo : j < n ∧ (M.runF j).kind = 0
    · obtain ⟨hlt, hk0⟩ := hgo
      have hlt' : (j : Int) < (n : Int) := by omega
      obtain ⟨c4, c5, c6⟩ := HW.out.st
      rw [hk0] at c4
      clear c5 c6 hk0
      go_wp2_with fail
      refine (HS.out j hlt _ _ HW.out).mono ?_
      rintro e W3 ⟨rfl, h3⟩
      have H3 := hide h3
      clear h3 HW HS c4
      generalize stV (M.runF j).step.kind (M.runF j).step.code (M.runF j).step.trap = sv
      go_wp2
      go_roundg (n - (j + 1))
      case measure => omega
      case rel => exact ⟨j + 1, by omega, rfl, by go_num, H3.out⟩
    · have hend : M.runF n = M.runF j := by
        by_cases hlt : j < n
        · exact Mc.runF_ended (fun e => hgo ⟨hlt, e⟩) n (by omega)
        · rw [show n = j by omega]
      obtain ⟨N, hN⟩ : ∃ N, M.runF j = N := ⟨_, rfl⟩
      rw [hN] at HW hend hgo
      have HE := hide hend
      obtain ⟨c4, c5, c6⟩ := HW.out.st
      have hz := blk_frozen HW.out.blk
      have z0 := hz 0
      have z1 := hz 1
      have z2 := hz 2
      have hcl := blk_cell HW.out.blk
      have q0 := hcl 0
      have q1 := hcl 1
      have q2 := hcl 2
      have H4 := hide (HW.out.reblk (stc3_kept wr R (.int .i64 N.kind) (.int .i64 N.code) (.int .i64 N.trap)) (stc3_blk HW.out.blk _ _ _))
      unfold stc3 at H4
      have hlt2 : (¬ (j : Int) < (n : Int)) ∨ ((j : Int) < (n : Int) ∧ (N.kind == 0) = false) := by
        by_cases hlt : j < n
        · right
          exact ⟨by omega, by simpa using fun e => hgo ⟨hlt, e⟩⟩
        · left; omega
      clear hz hcl hend hN HW HS hgo
      rcases hlt2 with hq | ⟨hq, hq2⟩
      all_goals
        go_wp2
        have hcl := blk_cell H4.out.blk
        have r0 := hcl 0
        have r1 := hcl 1
        have r2 := hcl 2
        generalize ((wr.setCell ⟨R, 0, none⟩ (.int .i64 N.kind)).setCell ⟨R, 1, none⟩ (.int .i64 N.code)).setCell ⟨R, 2, none⟩ (.int .i64 N.trap) = W4 at *
        have H5 := hide H4.out.unbox
        refine bodyPost_ret (v := stV N.kind N.code N.trap) (by simp [results, Tryz.results18, go_sem, stV, r0, r1, r2]) rfl ⟨by rw [HE.out], by rw [HE.out]; exact H5.out⟩

end

end Go.Proofs.YtgjfelkbblbjfaaGreatDoor
