/- The walk of the statement that steps one by one are a run. -/
import Derived.Test.YtejmifokceoofaaDoorJ05
import Derived.Deep.RegionHeld3
import Derived.Deep.LoopGhost
import Derived.BigQuiet
namespace Go.Proofs.YtejmifokceoofaaDoor
open Go.RowKit Go.Maps
set_option linter.unusedVariables false
set_option maxRecDepth 100000
set_option maxRecDepth 20000

theorem Mc.runF_add (M : Mc) (a : Nat) : ∀ b, (M.runF a).runF b = M.runF (a + b)
  | 0 => rfl
  | b + 1 => by
    show ((M.runF a).runF b).step = (M.runF (a + b)).step
    rw [Mc.runF_add M a b]

/-- Registers, as they are given in turn. -/
def xsN (rs : List Int) : Nat → Nat → Int
  | 0 => fun _ => 0
  | j + 1 => xset (xsN rs j) (j + 1) (rs.getD j 0)

/-- Two machines. -/
def T2 (w0 w : World) (m mm me : Nat) (M : Mc) (m' mm' me' : Nat) (M' : Mc) : Prop :=
  MH w0 w m mm me M [HD m' mm' me' M'.x M'.pc M'.kind M'.code M'.trap, PMt mm' M'.mem, EV w0.heap.size 107 me' M'.ins M'.tr]
theorem T2.swap {w0 w : World} {m mm me m' mm' me' : Nat} {M M' : Mc} (h : T2 w0 w m mm me M m' mm' me' M') : T2 w0 w m' mm' me' M' m mm me M :=
  Has.perm h (List.perm_append_comm (l₁ := [HD m mm me M.x M.pc M.kind M.code M.trap, PMt mm M.mem, EV w0.heap.size 107 me M.ins M.tr]) (l₂ := [HD m' mm' me' M'.x M'.pc M'.kind M'.code M'.trap, PMt mm' M'.mem, EV w0.heap.size 107 me' M'.ins M'.tr]))

section
variable {w0 w w' : World} {m mm me : Nat} {M : Mc} {l : List (World → (Nat → Prop) → Prop)}

theorem mh_set (h : MH w0 w m mm me M l) (i v : Int) (hi : InI i) (hv : 0 ≤ v ∧ v ≤ 18446744073709551615) :
    Calls Tryd.prog 14 #[.pointer (some ⟨m, 0, none⟩), .int .i64 i, .int .u64 v] w fun e w' => e = .returned (.tuple #[]) ∧ MH w0 w' m mm me { M with x := xset M.x i v } l :=
  h.call _ _ (R := fun e => e = .returned (.tuple #[])) (fun F hd => set_any i v w hd hi hv)
theorem mh_status (h : MH w0 w m mm me M l) :
    Calls Tryd.prog 16 #[.pointer (some ⟨m, 0, none⟩)] w fun e w' => e = .returned (stV M.kind M.code M.trap) ∧ MH w0 w' m mm me M l := by
  obtain ⟨F, h1⟩ := h.hd
  exact (status_any w h1).mono (fun e w' ⟨g1, g2⟩ => ⟨g1, h.below g2⟩)
theorem mh_pc (h : MH w0 w m mm me M l) :
    Calls Tryd.prog 17 #[.pointer (some ⟨m, 0, none⟩)] w fun e w' => e = .returned (.int .u64 (M.pc : Int)) ∧ w' = w := by
  obtain ⟨F, h1⟩ := h.hd
  exact pc_any w h1

end

noncomputable def ptM (ws rs : List Int) (j : Nat) : Mc := { madeM ws [] [] with x := xsN rs j }
def ptN (ps : List Int) (j : Nat) : Nat := ((ps.take j).map (fun x => (x % 20).toNat)).sum
theorem ptN_succ (ps : List Int) (j : Nat) (h : j < ps.length) : ptN ps (j + 1) = ptN ps j + (ps.getD j 0 % 20).toNat := by
  unfold ptN
  rw [List.take_add_one, List.map_append, List.sum_append]
  simp [h]
theorem ptN_le (ps : List Int) : ∀ j, ptN ps j ≤ 20 * j
  | 0 => by simp [ptN]
  | j + 1 => by
    have h := ptN_le ps j
    by_cases hj : j < ps.length
    · rw [ptN_succ ps j hj]
      omega
    · have : ptN ps (j + 1) = ptN ps j := by unfold ptN; rw [List.take_of_length_le (by omega), List.take_of_length_le (by omega)]
      omega

set_option maxHeartbeats 6400000 in
theorem parts_walk (a1 : Option Addr) (n1 c1 : Nat) (ws : List Int) (a2 : Option Addr) (n2 c2 : Nat) (rs : List Int) (a3 : Option Addr) (n3 c3 : Nat) (ps : List Int) (w : World) (hL : Laid w)
    (r1 : Rn .u32 4294967295 w a1 n1 c1 ws) (r2 : Rn .u64 18446744073709551615 w a2 n2 c2 rs) (r3 : Rd w a3 n3 c3 ps) :
    Calls Tryd.prog 4 #[.slice a1 n1 c1, .slice a2 n2 c2, .slice a3 n3 c3] w fun e w' => e = .returned (.bool true) ∧ Below w.heap.size w w' := by
  have HK := hide (known_8 w hL)
  have HL := hide hL
  have hl1 := r1.le
  have hm1 := r1.max
  have hl2 := r2.le
  have hm2 := r2.max
  have hl3 := r3.le
  have hm3 := r3.max
  have R1 := hide r1
  have R2 := hide r2
  have R3 := hide r3
  clear r1 r2 r3 hL
  by_cases q1 : 60 < n1
  · have t1 : decide ((60 : Int) < (n1 : Int)) = true := by simp; omega
    go_enter Tryd.func4, Tryd.ntmps4
    go_wp2_with fail
    refine HK.out.mono ?_
    rintro e W ⟨rfl, hb⟩
    have HB := hide hb
    clear hb HK
    go_wp2
    go_ret
    exact ⟨rfl, HB.out⟩
  have t1 : decide ((60 : Int) < (n1 : Int)) = false := by simp; omega
  by_cases q2 : 31 < n2
  · have t2 : decide ((31 : Int) < (n2 : Int)) = true := by simp; omega
    go_enter Tryd.func4, Tryd.ntmps4
    go_wp2_with fail
    refine HK.out.mono ?_
    rintro e W ⟨rfl, hb⟩
    have HB := hide hb
    clear hb HK
    go_wp2
    go_ret
    exact ⟨rfl, HB.out⟩
  have t2 : decide ((31 : Int) < (n2 : Int)) = false := by simp; omega
  by_cases q3 : 20 < n3
  · have t3 : decide ((20 : Int) < (n3 : Int)) = true := by simp; omega
    go_enter Tryd.func4, Tryd.ntmps4
    go_wp2_with fail
    refine HK.out.mono ?_
    rintro e W ⟨rfl, hb⟩
    have HB := hide hb
    clear hb HK
    go_wp2
    go_ret
    exact ⟨rfl, HB.out⟩
  have t3 : decide ((20 : Int) < (n3 : Int)) = false := by simp; omega
  go_enter Tryd.func4, Tryd.ntmps4
  go_wp2_with fail
  refine HK.out.mono ?_
  rintro e W ⟨rfl, hb⟩
  have HB := hide hb
  clear hb HK
  go_wp2_with fail
  refine (made_any (w0 := w) (l := []) a1 n1 c1 ws none 0 0 [] none 0 0 [] W (Has.start HB.out) (R1.out.below HB.out) (by omega) (Rd.nothing w) (by decide) (Rd.nothing w) (by decide)).mono ?_
  rintro e W1 ⟨m, mm, me, m2, mm2, me2, rfl, h1⟩
  have H1 := hide h1.unbox.unbox.unbox
  clear h1 HB
  go_wp2_with fail
  refine (made_any (w0 := w) a1 n1 c1 ws none 0 0 [] none 0 0 [] W1 H1.out (R1.out.below H1.out.bel) (by omega) (Rd.nothing w) (by decide) (Rd.nothing w) (by decide)).mono ?_
  rintro e W2 ⟨y, my, ey, y2, my2, ey2, rfl, h2⟩
  have H2 : Hid (T2 w W2 y my ey (ptM ws rs 0) m mm me (ptM ws rs 0)) := h2.unbox.unbox.unbox
  clear h2 H1
  go_wp2
  go_loopg [11] n2 (fun g i wr => ∃ j : Nat, j ≤ n2 ∧ g = n2 - j ∧ i = .int .i64 (j : Int) ∧ Hid (T2 w wr y my ey (ptM ws rs j) m mm me (ptM ws rs j)))
  case atStart => exact ⟨0, by omega, rfl, rfl, H2.out⟩
  case round =>
    obtain ⟨j, hj, rfl, rfl, HT⟩ := hrel
    clear H2
    by_cases hlt : j < n2
    · have hlt' : (j : Int) < (n2 : Int) := by omega
      obtain ⟨b, o, ha, hc⟩ := R2.out.addr (by omega)
      subst ha
      obtain ⟨v, hv⟩ : ∃ v, rs.getD j 0 = v := ⟨_, rfl⟩
      have hvb : 0 ≤ v ∧ v ≤ 18446744073709551615 := by rw [← hv]; have := R2.out.at j; simpa using this
      have hcw := hc j hlt
      rw [hv] at hcw
      have hcj := (HT.out.bel.cell (World.block_lt_of_cell? _ _ hcw)).trans hcw
      have HV := hide hv
      have hji : InI ((j : Int) + 1) := by unfold InI; omega
      have HCW := hide hcw
      clear hc hv hcw
      go_wp2_with fail
      refine (mh_set HT.out.swap ((j : Int) + 1) v hji hvb).mono ?_
      rintro e W3 ⟨rfl, h3⟩
      have h3' : T2 w W3 m mm me (ptM ws rs (j + 1)) y my ey (ptM ws rs j) := by
        have e : ptM ws rs (j + 1) = { ptM ws rs j with x := xset (ptM ws rs j).x ((j : Int) + 1) v } := by
          unfold ptM
          simp only [xsN]
          rw [HV.out]
        rw [e]
        exact h3
      have H3 := hide h3'
      have hc3 := (h3'.bel.cell (World.block_lt_of_cell? _ _ HCW.out)).trans HCW.out
      clear h3 h3' HT hcj
      go_wp2_with fail
      refine (mh_set H3.out.swap ((j : Int) + 1) v hji hvb).mono ?_
      rintro e W4 ⟨rfl, h4⟩
      have H4 : Hid (T2 w W4 y my ey (ptM ws rs (j + 1)) m mm me (ptM ws rs (j + 1))) := by
        have e : ptM ws rs (j + 1) = { ptM ws rs j with x := xset (ptM ws rs j).x ((j : Int) + 1) v } := by
          unfold ptM
          simp only [xsN]
          rw [HV.out]
        have h5 : T2 w W4 y my ey { ptM ws rs j with x := xset (ptM ws rs j).x ((j : Int) + 1) v } m mm me (ptM ws rs (j + 1)) := h4
        rw [← e] at h5
        exact h5
      clear h4 H3 hc3 HCW hvb
      go_wp2
      go_roundg (n2 - (j + 1))
      case measure => omega
      case rel => exact ⟨j + 1, by omega, rfl, by go_num, H4.out⟩
    · obtain rfl : j = n2 := by omega
      obtain ⟨M, hM⟩ : ∃ M, ptM ws rs j = M := ⟨_, rfl⟩
      have htr : M.tr.length = 0 := by rw [← hM]; rfl
      have hin : M.ins.length = 0 := by rw [← hM]; rfl
      rw [hM] at HT
      clear hM R1 R2
      have HLn := hide R3.out.length
      have runx : Hid (∀ (k t : Nat) (W : World) (l : List (World → (Nat → Prop) → Prop)) (a b c : Nat), k ≤ 1000 → t ≤ 1000 → MH w W a b c (M.runF k) l → Calls Tryd.prog 15 #[.pointer (some ⟨a, 0, none⟩), .int .i64 (t : Int)] W fun e w' => e = .returned (stV (M.runF (k + t)).kind (M.runF (k + t)).code (M.runF (k + t)).trap) ∧ MH w w' a b c (M.runF (k + t)) l) := fun k t W l a b c hk ht hW => by
        have h1 := M.runF_tr k
        have := run_any t W hW HL.out ht (by omega) (by omega)
        rw [Mc.runF_add] at this
        exact this
      go_wp2
      go_loopg [12, 13] n3 (fun g s i wr => ∃ j : Nat, j ≤ n3 ∧ g = n3 - j ∧ s = .int .i64 (ptN ps j : Int) ∧ i = .int .i64 (j : Int) ∧ Hid (T2 w wr y my ey M m mm me (M.runF (ptN ps j))))
      case atStart => exact ⟨0, by omega, rfl, rfl, rfl, HT.out⟩
      case round =>
        obtain ⟨j, hj, rfl, rfl, rfl, HT2⟩ := hrel
        clear HT
        have hpl := ptN_le ps j
        by_cases hlt : j < n3
        · have hlt' : (j : Int) < (n3 : Int) := by omega
          obtain ⟨b, o, ha, hc⟩ := R3.out.addr (by omega)
          subst ha
          have hps := ptN_succ ps j (by rw [HLn.out]; exact hlt)
          obtain ⟨v, hv⟩ : ∃ v, ps.getD j 0 = v := ⟨_, rfl⟩
          have hvb : 0 ≤ v ∧ v ≤ 255 := by rw [← hv]; have := R3.out.bytes.at j; simpa using this
          have hcw := hc j hlt
          rw [hv] at hcw hps
          have hcj := (HT2.out.bel.cell (World.block_lt_of_cell? _ _ hcw)).trans hcw
          have HCW := hide hcw
          obtain ⟨p, hp⟩ : ∃ p : Nat, p = (v % 20).toNat := ⟨_, rfl⟩
          have hp' : v % 20 = (p : Int) := by omega
          have hp2 : p < 20 := by omega
          rw [← hp] at hps
          have HPS := hide hps
          obtain ⟨q, hq⟩ : ∃ q, ptN ps j = q := ⟨_, rfl⟩
          rw [hq] at HT2 HPS hpl
          have HQ := hide hq
          rw [hq]
          clear hc hv hcw hp hps hq
          go_wp2_with fail
          refine (runx.out q p _ _ m mm me (by omega) (by omega) HT2.out.swap).mono ?_
          rintro e W3 ⟨rfl, h3⟩
          have h3' : T2 w W3 y my ey M m mm me (M.runF (q + p)) := T2.swap h3
          have hc3 := (h3'.bel.cell (World.block_lt_of_cell? _ _ HCW.out)).trans HCW.out
          have H3 := hide h3'
          clear h3 h3' HT2 hcj
          go_wp2
          go_roundg (n3 - (j + 1))
          case measure => omega
          case rel => exact ⟨j + 1, by omega, rfl, by rw [HPS.out]; go_num, by go_num, by rw [HPS.out]; exact H3.out⟩
        · obtain rfl : j = n3 := by omega
          obtain ⟨q, hq⟩ : ∃ q, ptN ps j = q := ⟨_, rfl⟩
          rw [hq] at HT2 hpl ⊢
          clear hq R3 HLn
          go_wp2_with fail
          refine (runx.out 0 q _ _ y my ey (by omega) (by omega) HT2.out).mono ?_
          rintro e W3 ⟨rfl, h3⟩
          rw [Nat.zero_add] at h3
          have hqt := M.runF_tr q
          obtain ⟨N, hN⟩ : ∃ N, M.runF q = N := ⟨_, rfl⟩
          have H3 : Hid (T2 w W3 y my ey N m mm me N) := by rw [← hN]; exact h3
          have hnt : N.tr.length ≤ 1000 := by rw [← hN]; omega
          have hni : N.ins.length ≤ 0 := by rw [← hN]; omega
          clear h3 HT2 hqt hN runx
          generalize stV (M.runF (0 + q)).kind (M.runF (0 + q)).code (M.runF (0 + q)).trap = sv
          go_wp2_with fail
          refine (mh_status H3.out.swap).mono ?_
          rintro e W4 ⟨rfl, h4⟩
          have H4 : Hid (T2 w W4 m mm me N y my ey N) := h4
          clear h4 H3
          go_wp2_with fail
          refine (mh_status H4.out.swap).mono ?_
          rintro e W5 ⟨rfl, h5⟩
          have H5 : Hid (T2 w W5 y my ey N m mm me N) := h5
          clear h5 H4
          unfold stV
          go_wp2_with fail
          refine (mh_pc H5.out.swap).mono ?_
          rintro e W6 ⟨rfl, hW6⟩
          rw [hW6]
          clear hW6 W6
          go_wp2_with fail
          refine (mh_pc H5.out).mono ?_
          rintro e W6 ⟨rfl, hW6⟩
          rw [hW6]
          clear hW6 W6
          go_wp2
          go_loopg [14] 32 (fun g i wr => ∃ k : Nat, k ≤ 32 ∧ g = 32 - k ∧ i = .int .i64 (k : Int) ∧ wr = W5)
          case atStart => exact ⟨0, by omega, rfl, rfl, rfl⟩
          case round =>
            obtain ⟨k, hk, rfl, rfl, rfl⟩ := hrel
            by_cases hlt : k < 32
            · have hlt' : (k : Int) < 32 := by omega
              have hki : InI (k : Int) := by unfold InI; omega
              go_wp2_with fail
              refine (mh_reg H5.out.swap (k : Int) hki).mono ?_
              rintro e W6 ⟨rfl, hW6⟩
              rw [hW6]
              clear hW6 W6
              go_wp2_with fail
              refine (mh_reg H5.out (k : Int) hki).mono ?_
              rintro e W6 ⟨rfl, hW6⟩
              rw [hW6]
              clear hW6 W6
              generalize rg N.x (k : Int) = rv
              go_wp2
              go_roundg (32 - (k + 1))
              case measure => omega
              case rel => exact ⟨k + 1, by omega, rfl, by go_num, rfl⟩
            · obtain rfl : k = 32 := by omega
              go_wp2_with fail
              refine (mh_status H5.out.swap).mono ?_
              rintro e W6 ⟨rfl, h6⟩
              have H6 : Hid (MH w W6 m mm me N _) := h6
              clear h6 H5
              unfold stV
              go_upto_region 27 with fail
              have h7 := H6.out.newblk #[.int .i64 N.kind, .int .i64 N.code, .int .i64 N.trap] 36
              obtain ⟨B, hB⟩ : ∃ B, B = W6.heap.size := ⟨_, rfl⟩
              rw [← hB] at h7 ⊢
              obtain ⟨V, hV⟩ : ∃ V, V = W6.alloc (.cells #[.int .i64 N.kind, .int .i64 N.code, .int .i64 N.trap] 36) := ⟨_, rfl⟩
              rw [← hV] at h7 ⊢
              have hcl := blk_cell h7.blk
              have q0 := hcl 0
              have q1 := hcl 1
              have q2 := hcl 2
              have H7 := hide h7
              have H7D := hide (h7.below ((Below.refl _ _).drew))
              clear hcl h7 H6 hB hV
              by_cases hkd : N.kind = 0
              · have hkd' : (N.kind == 0) = true := by simpa using hkd
                have HB0 := hide H7.out.bel
                clear H7 H7D hkd
                generalize N.kind = nk at *
                go_quiet (fail)
                go_wp2
                go_ret
                exact ⟨rfl, HB0.out.trans ((bel_drewN' _ _).mono HB0.out.size)⟩
              · have hkd' : (N.kind == 0) = false := by simpa using hkd
                have hst : N.step = N := Mc.step_ended hkd
                have hrn : N.runF 5 = N := Mc.runF_ended (j := 0) hkd 5 (by decide)
                have HS := hide (step_any V.drew H7D.out HL.out (by omega) (by omega))
                rw [hst] at HS
                have HR := hide (fun W l (hW : MH w W m mm me N l) => run_any 5 W hW HL.out (by decide) (by omega) (by omega))
                rw [hrn] at HR
                unfold stV at HS HR
                clear hst hrn hkd
                go_region_held3 (fun w' => w'.cell? ⟨B, 0, none⟩ = some (.int .i64 N.kind) ∧ w'.cell? ⟨B, 1, none⟩ = some (.int .i64 N.code) ∧ w'.cell? ⟨B, 2, none⟩ = some (.int .i64 N.trap)) (go_keep)
                  (first
                    | (go_at_call 19; refine HS.out.mono ?_; rintro e W8 ⟨rfl, h8⟩; have hcl := blk_cell h8.blk; have j0 := hcl 0; have j1 := hcl 1; have j2 := hcl 2; have H8 := hide h8; clear h8 hcl)
                    | (go_at_call 15; refine (HR.out _ _ H8.out).mono ?_; rintro e W9 ⟨rfl, h9⟩; have hcl := blk_cell h9.blk; have l0 := hcl 0; have l1 := hcl 1; have l2 := hcl 2; have H9 := hide h9; clear h9 hcl))
                have HB := hide H9.out.bel
                clear H7 H7D HS HR H8 H9
                go_wp2
                go_ret
                exact ⟨rfl, HB.out⟩

end Go.Proofs.YtejmifokceoofaaDoor
