/- The walk of the statement that any words, step by step, do just what the document says. -/
import Derived.Test.YtdhjjlnabbpinaaGreatDoorJ05
import Derived.Test.YtdhjjlnabbpinaaGreatDoorJ19
import Derived.Deep.LoopGhost
import Derived.RegionTactic
import Derived.BigQuiet
import Derived.Deep.QuietTactic
namespace Go.Proofs.YtdhjjlnabbpinaaGreatDoor
open Go.RowKit Go.Maps
set_option linter.unusedVariables false
set_option maxRecDepth 100000
set_option maxRecDepth 20000

/-- The program's machine and the document's. -/
def B2 (w0 w : World) (m mm me : Nat) (M : Mc) (m' mm' me' : Nat) (M' : Mc) : Prop :=
  MH w0 w m mm me M [RD m' mm' me' M'.x M'.pc M'.kind M'.code M'.trap, RMt mm' M'.mem, EV w0.heap.size 62 me' M'.ins M'.tr]

section
variable {w0 w w' : World} {m mm me m' mm' me' : Nat} {M M' : Mc}

theorem B2.rh (h : B2 w0 w m mm me M m' mm' me' M') : RH w0 w m' mm' me' M' [HD m mm me M.x M.pc M.kind M.code M.trap, PMt mm M.mem, EV w0.heap.size 111 me M.ins M.tr] :=
  Has.perm h (List.perm_append_comm (l₁ := [HD m mm me M.x M.pc M.kind M.code M.trap, PMt mm M.mem, EV w0.heap.size 111 me M.ins M.tr]) (l₂ := [RD m' mm' me' M'.x M'.pc M'.kind M'.code M'.trap, RMt mm' M'.mem, EV w0.heap.size 62 me' M'.ins M'.tr]))
theorem B2.of (h : RH w0 w m' mm' me' M' [HD m mm me M.x M.pc M.kind M.code M.trap, PMt mm M.mem, EV w0.heap.size 111 me M.ins M.tr]) : B2 w0 w m mm me M m' mm' me' M' :=
  Has.perm h (List.perm_append_comm (l₁ := [RD m' mm' me' M'.x M'.pc M'.kind M'.code M'.trap, RMt mm' M'.mem, EV w0.heap.size 62 me' M'.ins M'.tr]) (l₂ := [HD m mm me M.x M.pc M.kind M.code M.trap, PMt mm M.mem, EV w0.heap.size 111 me M.ins M.tr]))
theorem mh_set' {l : List (World → (Nat → Prop) → Prop)} (h : MH w0 w m mm me M l) (i v : Int) (hi : InI i) (hv : 0 ≤ v ∧ v ≤ 18446744073709551615) :
    Calls Tryz.prog 8 #[.pointer (some ⟨m, 0, none⟩), .int .i64 i, .int .u64 v] w fun e w' => e = .returned (.tuple #[]) ∧ MH w0 w' m mm me { M with x := xset M.x i v } l :=
  h.call _ _ (R := fun e => e = .returned (.tuple #[])) (fun F hd => set_any i v w hd hi hv)
theorem mh_status' {l : List (World → (Nat → Prop) → Prop)} (h : MH w0 w m mm me M l) :
    Calls Tryz.prog 12 #[.pointer (some ⟨m, 0, none⟩)] w fun e w' => e = .returned (stV M.kind M.code M.trap) ∧ MH w0 w' m mm me M l := by
  obtain ⟨F, h1⟩ := h.hd
  exact (status_any w h1).mono (fun e w' ⟨g1, g2⟩ => ⟨g1, h.below g2⟩)
theorem mh_pc' {l : List (World → (Nat → Prop) → Prop)} (h : MH w0 w m mm me M l) :
    Calls Tryz.prog 11 #[.pointer (some ⟨m, 0, none⟩)] w fun e w' => e = .returned (.int .u64 (M.pc : Int)) ∧ w' = w := by
  obtain ⟨F, h1⟩ := h.hd
  exact pc_any w h1
end

def xsN' (rs : List Int) : Nat → Nat → Int
  | 0 => fun _ => 0
  | j + 1 => xset (xsN' rs j) (j + 1) (rs.getD j 0)
noncomputable def stM (ws ds is rs : List Int) (j : Nat) : Mc := { madeM ws ds is with x := xsN' rs j }

set_option maxHeartbeats 12800000 in
theorem steps_walk (a1 : Option Addr) (n1 c1 : Nat) (ws : List Int) (a2 : Option Addr) (n2 c2 : Nat) (rs : List Int) (a3 : Option Addr) (n3 c3 : Nat) (ds : List Int) (a4 : Option Addr) (n4 c4 : Nat) (is : List Int) (w : World) (hL : Laid w)
    (r1 : Rn .u32 4294967295 w a1 n1 c1 ws) (r2 : Rn .u64 18446744073709551615 w a2 n2 c2 rs) (r3 : Rd w a3 n3 c3 ds) (r4 : Rd w a4 n4 c4 is) :
    Calls Tryz.prog 3 #[.slice a1 n1 c1, .slice a2 n2 c2, .slice a3 n3 c3, .slice a4 n4 c4] w fun e w' => e = .returned (.bool true) ∧ Below w.heap.size w w' := by
  have HK := hide (known_8 w hL)
  have HL := hide hL
  have hl1 := r1.le
  have hm1 := r1.max
  have hl2 := r2.le
  have hm2 := r2.max
  have hl3 := r3.le
  have hm3 := r3.max
  have hl4 := r4.le
  have hm4 := r4.max
  have R1 := hide r1
  have R2 := hide r2
  have R3 := hide r3
  have R4 := hide r4
  clear r1 r2 r3 r4 hL
  have early : ∀ (t : (decide ((60 : Int) < (n1 : Int)) = true) ∨ (decide ((60 : Int) < (n1 : Int)) = false ∧ decide ((31 : Int) < (n2 : Int)) = true) ∨ (decide ((60 : Int) < (n1 : Int)) = false ∧ decide ((31 : Int) < (n2 : Int)) = false ∧ decide ((200 : Int) < (n3 : Int)) = true) ∨ (decide ((60 : Int) < (n1 : Int)) = false ∧ decide ((31 : Int) < (n2 : Int)) = false ∧ decide ((200 : Int) < (n3 : Int)) = false ∧ decide ((100 : Int) < (n4 : Int)) = true)),
      Calls Tryz.prog 3 #[.slice a1 n1 c1, .slice a2 n2 c2, .slice a3 n3 c3, .slice a4 n4 c4] w fun e w' => e = .returned (.bool true) ∧ Below w.heap.size w w' := by
    intro t
    rcases t with t1 | ⟨t1, t2⟩ | ⟨t1, t2, t3⟩ | ⟨t1, t2, t3, t4⟩
    all_goals
      go_enter Tryz.func3, Tryz.ntmps3
      go_wp2_with fail
      refine HK.out.mono ?_
      rintro e W ⟨rfl, hb⟩
      have HB := hide hb
      clear hb HK
      go_wp2
      go_ret
      exact ⟨rfl, HB.out⟩
  by_cases q1 : 60 < n1
  · exact early (Or.inl (by simp; omega))
  have t1 : decide ((60 : Int) < (n1 : Int)) = false := by simp; omega
  by_cases q2 : 31 < n2
  · exact early (Or.inr (Or.inl ⟨t1, by simp; omega⟩))
  have t2 : decide ((31 : Int) < (n2 : Int)) = false := by simp; omega
  by_cases q3 : 200 < n3
  · exact early (Or.inr (Or.inr (Or.inl ⟨t1, t2, by simp; omega⟩)))
  have t3 : decide ((200 : Int) < (n3 : Int)) = false := by simp; omega
  by_cases q4 : 100 < n4
  · exact early (Or.inr (Or.inr (Or.inr ⟨t1, t2, t3, by simp; omega⟩)))
  have t4 : decide ((100 : Int) < (n4 : Int)) = false := by simp; omega
  clear early
  go_enter Tryz.func3, Tryz.ntmps3
  go_wp2_with fail
  refine HK.out.mono ?_
  rintro e W ⟨rfl, hb⟩
  have HB := hide hb
  clear hb HK
  go_wp2_with fail
  refine (made_any (w0 := w) (l := []) a1 n1 c1 ws a3 n3 c3 ds a4 n4 c4 is W (Has.start HB.out) (R1.out.below HB.out) (by omega) R3.out (by omega) R4.out (by omega)).mono ?_
  rintro e W1 ⟨m, mm, me, y, my, ey, rfl, h1⟩
  have H1 : Hid (B2 w W1 m mm me (stM ws ds is rs 0) y my ey (stM ws ds is rs 0)) := h1
  have HIL := hide R4.out.length
  clear h1 HB R1 R3 R4
  go_wp2
  go_loopg [11] n2 (fun g i wr => ∃ j : Nat, j ≤ n2 ∧ g = n2 - j ∧ i = .int .i64 (j : Int) ∧ Hid (B2 w wr m mm me (stM ws ds is rs j) y my ey (stM ws ds is rs j)))
  case atStart => exact ⟨0, by omega, rfl, rfl, H1.out⟩
  case round =>
    obtain ⟨j, hj, rfl, rfl, HT⟩ := hrel
    clear H1
    by_cases hlt : j < n2
    · have hlt' : (j : Int) < (n2 : Int) := by omega
      obtain ⟨b, o, ha, hc⟩ := R2.out.addr (by omega)
      subst ha
      obtain ⟨v, hv⟩ : ∃ v, rs.getD j 0 = v := ⟨_, rfl⟩
      have hvb : 0 ≤ v ∧ v ≤ 18446744073709551615 := by rw [← hv]; have := R2.out.at j; simpa using this
      have hcw := hc j hlt
      rw [hv] at hcw
      have hcj := (HT.out.bel.cell (World.block_lt_of_cell? _ _ hcw)).trans hcw
      have HV := hide hv
      have hji0 : (0 : Int) ≤ (j : Int) + 1 := by omega
      have hji : InI ((j : Int) + 1) := by unfold InI; omega
      have hj32 : (j : Int) + 1 < 32 := by omega
      have hjn : j + 1 < 32 := by omega
      have hjm : j < 31 := by omega
      have hjz : (j : Int) < 31 := by omega
      have HCW := hide hcw
      have HXN : Hid (stM ws ds is rs (j + 1) = { stM ws ds is rs j with x := xset (stM ws ds is rs j).x ((j : Int) + 1) v }) := by
        refine hide ?_
        unfold stM
        simp only [xsN']
        rw [hv]
      clear hc hv hcw
      go_wp2_with fail
      refine (mh_set' HT.out ((j : Int) + 1) v hji hvb).mono ?_
      rintro e W3 ⟨rfl, h3⟩
      have h3r : RH w W3 y my ey (stM ws ds is rs j) _ := B2.rh (M := { stM ws ds is rs j with x := xset (stM ws ds is rs j).x ((j : Int) + 1) v }) h3
      have hz3 := h3r.frozen (2 + (j + 1))
      have hr3 := h3r.reg (j + 1) (by omega)
      have hc3 := (h3.bel.cell (World.block_lt_of_cell? _ _ HCW.out)).trans HCW.out
      have H3 := hide h3r
      clear h3 h3r HT hcj
      go_upto_region 10 with fail
      go_region
      all_goals
        have H4 : Hid (B2 w (W3.drew.setCell ⟨y, 2 + (j + 1), none⟩ (.int .u64 v)) m mm me (stM ws ds is rs (j + 1)) y my ey (stM ws ds is rs (j + 1))) := by
          refine hide ?_
          have h5 := (H3.out.below ((Below.refl _ _).drew)).setreg (j + 1) (by omega) (by omega) hvb
          rw [HXN.out]
          exact B2.of (M := { stM ws ds is rs j with x := xset (stM ws ds is rs j).x ((j : Int) + 1) v }) (M' := { stM ws ds is rs j with x := xset (stM ws ds is rs j).x ((j : Int) + 1) v }) h5
        clear H3 hc3 HCW hvb hz3 hr3 HXN
        go_wp2
        go_roundg (n2 - (j + 1))
        case measure => omega
        case rel => exact ⟨j + 1, by omega, rfl, by go_num, H4.out⟩
    · obtain rfl : j = n2 := by omega
      obtain ⟨M, hM⟩ : ∃ M, stM ws ds is rs j = M := ⟨_, rfl⟩
      have htr : M.tr.length = 0 := by rw [← hM]; rfl
      have hin : M.ins.length ≤ 100 := by
        rw [← hM]
        show is.length ≤ 100
        rw [HIL.out]
        omega
      rw [hM] at HT
      clear hM R2 HIL
      go_wp2
      go_loopg [12] 100 (fun g i wr => ∃ k : Nat, k ≤ 100 ∧ g = 100 - k ∧ i = .int .i64 (k : Int) ∧ Hid (B2 w wr m mm me (M.runF k) y my ey (M.runF k)))
      case atStart => exact ⟨0, by omega, rfl, rfl, HT.out⟩
      case round =>
        obtain ⟨k, hk, rfl, rfl, HT2⟩ := hrel
        clear HT
        by_cases hlt : k < 100
        · have hlt' : (k : Int) < 100 := by omega
          have hrt := M.runF_tr k
          obtain ⟨N, hN⟩ : ∃ N, M.runF k = N := ⟨_, rfl⟩
          have hN1 : M.runF (k + 1) = N.step := by rw [← hN]; rfl
          rw [hN] at HT2 hrt
          have HS : Hid (Calls Tryz.prog 9 #[.pointer (some ⟨m, 0, none⟩)] wr.drew fun e w' => e = .returned (stV N.step.kind N.step.code N.step.trap) ∧ B2 w w' m mm me N.step y my ey N) := step_any wr.drew (Has.below HT2.out ((Below.refl _ _).drew)) HL.out (by omega) (by omega)
          have HRS : Hid (∀ W, B2 w W m mm me N.step y my ey N → Calls Tryz.prog 10 #[.pointer (some ⟨y, 0, none⟩)] W fun e w' => e = .returned (stV N.step.kind N.step.code N.step.trap) ∧ B2 w w' m mm me N.step y my ey N.step) := fun W hW => (rstep_any W hW.rh (by omega) (by omega)).mono (fun e w' ⟨g1, g2⟩ => ⟨g1, B2.of (M := N.step) (M' := N.step) g2⟩)
          obtain ⟨N1, hNs⟩ : ∃ N1, N.step = N1 := ⟨_, rfl⟩
          rw [hNs] at HS HRS hN1
          unfold stV at HS HRS
          have HPc := hide (fun W (hW : B2 w W m mm me N1 y my ey N1) => mh_pc' hW)
          have HSs : Hid (∀ W, B2 w W m mm me N1 y my ey N1 → Calls Tryz.prog 12 #[.pointer (some ⟨m, 0, none⟩)] W fun e w' => e = .returned (stV N1.kind N1.code N1.trap) ∧ B2 w w' m mm me N1 y my ey N1) := fun W hW => mh_status' hW
          unfold stV at HSs
          have HN1 := hide hN1
          obtain ⟨sk, hsk⟩ : ∃ x, N1.kind = x := ⟨_, rfl⟩
          obtain ⟨sc, hsc⟩ : ∃ x, N1.code = x := ⟨_, rfl⟩
          obtain ⟨st, hst⟩ : ∃ x, N1.trap = x := ⟨_, rfl⟩
          obtain ⟨sp, hsp⟩ : ∃ x, N1.pc = x := ⟨_, rfl⟩
          rw [hsk, hsc, hst] at HS HRS HSs
          rw [hsp] at HPc
          have HCel : Hid (∀ W, B2 w W m mm me N1 y my ey N1 → W.cell? ⟨y, 34, none⟩ = some (.int .u64 (sp : Int)) ∧ W.cell? ⟨y, 35, none⟩ = some (.int .i64 sk) ∧ W.cell? ⟨y, 36, none⟩ = some (.int .i64 sc) ∧ W.cell? ⟨y, 37, none⟩ = some (.int .i64 st)) := fun W hW => by
            have h1 := hW.rh.cpc
            obtain ⟨h2, h3, h4⟩ := hW.rh.st
            rw [hsp] at h1
            rw [hsk] at h2
            rw [hsc] at h3
            rw [hst] at h4
            exact ⟨h1, h2, h3, h4⟩
          clear hN hN1 hNs hsk hsc hst hsp hrt HT2
          go_upto_region 14 with fail
          go_region_with (first
            | (go_at_call 9; refine HS.out.mono ?_; rintro e W3 ⟨rfl, h3⟩; have H3 := hide h3; clear h3)
            | (go_at_call 10; refine (HRS.out _ H3.out).mono ?_; rintro e W4 ⟨rfl, h4⟩; have H4 := hide h4; obtain ⟨x0, x1, x2, x3⟩ := HCel.out _ H4.out; clear h4)
            | (go_at_call 11; refine (HPc.out _ H4.out).mono ?_; rintro e W5 ⟨rfl, hW5⟩; rw [hW5]; clear hW5 W5)
            | (go_at_call 12; refine (HSs.out _ H4.out).mono ?_; rintro e W6 ⟨rfl, h6⟩; have H6 := hide h6; obtain ⟨v0, v1, v2, v3⟩ := HCel.out _ H6.out; clear h6))
          all_goals
            clear HS HRS HPc HSs HCel H3 H4
            go_wp2
            go_loopg [13] 32 (fun g i wr => ∃ t : Nat, t ≤ 32 ∧ g = 32 - t ∧ i = .int .i64 (t : Int) ∧ Hid (B2 w wr m mm me N1 y my ey N1))
            case atStart => exact ⟨0, by omega, rfl, rfl, H6.out⟩
            case round =>
              obtain ⟨t, htt, rfl, rfl, HT3⟩ := hrel
              clear H6
              by_cases hq : t < 32
              · have hq' : (t : Int) < 32 := by omega
                have hreg := HT3.out.rh.reg t hq
                obtain ⟨rv, hrv⟩ : ∃ rv, N1.x t = rv := ⟨_, rfl⟩
                rw [hrv] at hreg
                have HR : Hid (∀ W, Below wr.heap.size wr W → Calls Tryz.prog 13 #[.pointer (some ⟨m, 0, none⟩), .int .i64 (t : Int)] W fun e w' => e = .returned (.int .u64 rv) ∧ w' = W) := fun W hW => by
                  have h9 := mh_reg (MH.below HT3.out hW) (t : Int) (by unfold InI; omega)
                  rw [rg_in (by omega), Int.toNat_natCast, hrv] at h9
                  exact h9
                clear hrv
                go_upto_region 19 with fail
                go_quiet (first | (go_at_call 13; refine Calls.quiet_of_same (HR.out _ ?_); exact bel_drewN' _ _))
                have H7 : Hid (B2 w (wr.drewN nq) m mm me N1 y my ey N1) := Has.below HT3.out (bel_drewN' _ _)
                clear HT3 HR hreg
                go_wp2
                go_roundg (32 - (t + 1))
                case measure => omega
                case rel => exact ⟨t + 1, by omega, rfl, by go_num, H7.out⟩
              · obtain rfl : t = 32 := by omega
                have H8 : Hid (B2 w wr m mm me (M.runF (k + 1)) y my ey (M.runF (k + 1))) := by rw [HN1.out]; exact HT3.out
                clear HT3
                go_wp2
                go_roundg (100 - (k + 1))
                case measure => omega
                case rel => exact ⟨k + 1, by omega, rfl, by go_num, H8.out⟩
        · obtain rfl : k = 100 := by omega
          obtain ⟨N, hN⟩ : ∃ N, M.runF 100 = N := ⟨_, rfl⟩
          rw [hN] at HT2
          have HB := hide HT2.out.bel
          have HA := hide (mh_reg HT2.out (-1) (by unfold InI; omega))
          have HC := hide (mh_reg HT2.out 32 (by unfold InI; omega))
          rw [show rg N.x (-1) = 0 by unfold rg; rw [if_neg (by omega)]] at HA
          rw [show rg N.x 32 = 0 by unfold rg; rw [if_neg (by omega)]] at HC
          clear hN HT2
          go_wp2_with fail
          refine HA.out.mono ?_
          rintro e W5 ⟨rfl, hW5⟩
          rw [hW5]
          clear hW5 W5
          go_wp2_with fail
          refine HC.out.mono ?_
          rintro e W5 ⟨rfl, hW5⟩
          rw [hW5]
          clear hW5 W5
          go_wp2
          go_ret
          exact ⟨rfl, HB.out⟩

end Go.Proofs.YtdhjjlnabbpinaaGreatDoor
