/- The walk of AsmTells: an instruction's text is the document's; what has a word is read back by it. -/
import Derived.Test.YtcghekkhbiomgaaGreatDoorAsmKnown
import Derived.Test.YtcghekkhbiomgaaGreatDoorInstOpen
import Derived.Deep.RegionHeld3
namespace Go.Proofs.YtcghekkhbiomgaaGreatDoor
open Go.RowKit
set_option linter.unusedVariables false
set_option maxRecDepth 100000
set_option linter.unusedSimpArgs false

set_option maxHeartbeats 12800000 in
theorem tells_walk (op d s t i x : Int) (w : World) (hL : LaidA w) (hm : (⟨d, s, t, i⟩ : Ns).Fit) (h0 : 0 ≤ x) (h1 : x ≤ 4294967295) :
    Calls Tryz.prog 3 #[inst op d s t i, .int .u32 x] w fun e w' => e = .returned (.bool true) ∧ Below w.heap.size w w' := by
  have HK := hide (fun w h => known_any5 w h)
  have HT := hide (fun w h => text_any op ⟨d, s, t, i⟩ w hm h)
  have HR := hide (fun w => rtext_any op ⟨d, s, t, i⟩ w hm)
  have HD := hide (fun w => rdcd_any x w h0 h1)
  have HDs := hide (fun k m h => @decN_prs x h0 h1 k m h)
  have HDf := hide (fun k m h => @decN_fit x h0 h1 k m h)
  have HTx := hide (fun k m (hm : Ns.Fit m) w h => text_any k m w hm h)
  have HPa := hide (fun l w hl h => parse_any l w hl h)
  have HTl := hide (fun (k : Nat) (m : Ns) hm => tx_len k m hm)
  have HL := hide hL
  obtain ⟨st, hst⟩ : ∃ st, st = str (tx op ⟨d, s, t, i⟩) := ⟨_, rfl⟩
  rw [← hst] at HT HR
  generalize decN x = dn at *
  unfold inst at HT HR ⊢
  dsimp only at HT HR
  clear hst hL hm
  go_enter Tryz.func3, Tryz.ntmps3
  go_wp2_with fail
  refine (HK.out _ (HL.out.alloc _)).mono ?_
  rintro e W1 ⟨rfl, b1⟩
  have c1 := (cel_alloc w op d s t i).below b1 (by simp)
  have HB1 := hide (((Below.refl _ w).alloc (Nat.le_refl _) _).trans (b1.mono (by simp)))
  have HL1 := hide (HL.out.then HB1.out)
  have z1 : w.heap.size < W1.heap.size := by have := b1.size; simp at this; omega
  have HC1 := hide c1
  obtain ⟨q0, q1, q2, q3, q4, zz⟩ := c1
  clear b1 HK HL zz
  have hss := str_yes (rfl : st = st)
  go_wp2_with fail
  go_region_held3 (fun w' => w'.cell? ⟨w.heap.size, 0, none⟩ = some (.int .i64 op) ∧ w'.cell? ⟨w.heap.size, 1, none⟩ = some (.int .i64 d) ∧ w'.cell? ⟨w.heap.size, 2, none⟩ = some (.int .i64 s) ∧ w'.cell? ⟨w.heap.size, 3, none⟩ = some (.int .i64 t) ∧ w'.cell? ⟨w.heap.size, 4, none⟩ = some (.int .i64 i))
    (first
      | go_keep
      | exact ⟨C3.out.c0, C3.out.c1, C3.out.c2, C3.out.c3, C3.out.c4⟩
      | exact ⟨C2.out.c0, C2.out.c1, C2.out.c2, C2.out.c3, C2.out.c4⟩)
    ((first
      | (go_at_call 9; refine (HT.out _ (by first | exact HL1.out | exact HL1.out.drewN 1)).mono ?_; rintro e W2 ⟨rfl, b2⟩; have B2 : Hid (Below W1.heap.size W1 W2) := hide (by first | exact b2 | exact (bel_drewN W1 1).trans b2); clear b2; have C2 := hide (HC1.out.below B2.out z1); have z2 := B2.out.size)
      | (go_at_call 10; refine (HR.out _).mono ?_; rintro e W3 ⟨rfl, b3⟩; have B3 : Hid (Below W2.heap.size W2 W3) := hide (by first | exact b3 | exact (bel_drewN W2 1).trans b3); clear b3; have C3 := hide (C2.out.below B3.out (by omega)))))
  have HB3 := hide ((HB1.out.trans (B2.out.mono (by omega))).trans (B3.out.mono (by omega)))
  have HL3 := hide ((HL1.out.then B2.out).then B3.out)
  have z3 := B3.out.size
  clear HT HR HL1 HB1 HC1 q0 q1 q2 q3 q4 B2 B3 C2 C3
  go_wp2_with (go_at_call 11; refine (HD.out _).mono ?_; rintro e W4 ⟨rfl, b4⟩; refine Hid.out ?_)
  refine Lib.hid ?_
  have HB4 := hide (HB3.out.trans (b4.mono (by omega)))
  have HL4 := hide (HL3.out.then b4)
  have z4 := b4.size
  clear b4 HD HL3 HB3
  cases dn with
  | none =>
    unfold prsV inst
    have HB5 := hide (HB4.out.alloc (by omega) (.cells #[.int .i64 0, .int .i64 0, .int .i64 0, .int .i64 0, .int .i64 0] 23))
    go_wp2
    go_ret
    exact ⟨rfl, HB5.out⟩
  | some y =>
    obtain ⟨k, m⟩ := y
    have hp := HDs.out k m rfl
    have hf := HDf.out k m rfl
    have hl := HTl.out k m hf
    have HT2 := hide (fun w h => HTx.out k m hf w h)
    have HP2 := hide (fun w h => HPa.out (tx k m) w (by omega) h)
    rw [hp] at HP2
    generalize str (tx k m) = sk at *
    unfold prsV inst at HP2
    unfold inst at HT2
    unfold prsV inst
    obtain ⟨d', s', t', i'⟩ := m
    dsimp only at *
    clear hp hf hl HDs HDf HTx HPa HTl
    go_wp2_with (go_at_call 9; refine (HT2.out _ (HL4.out.alloc _)).mono ?_; rintro e W5 ⟨rfl, b5⟩; refine Hid.out ?_)
    refine Lib.hid ?_
    have c5 := (cel_alloc W4 k d' s' t' i').below b5 (by simp)
    have HB5 := hide ((HB4.out.alloc (by omega) _).trans (b5.mono (by simp; omega)))
    have HL5 := hide ((HL4.out.alloc _).then b5)
    have z5 := b5.size
    rw [size_alloc] at z5
    clear b5 HT2 HL4 HB4
    go_wp2_with (go_at_call 12; refine (HP2.out _ HL5.out).mono ?_; rintro e W6 ⟨rfl, b6⟩; refine Hid.out ?_)
    refine Lib.hid ?_
    have c6 := c5.below b6 (by omega)
    have HB6 := hide (HB5.out.trans (b6.mono (by omega)))
    have z6 := b6.size
    clear b6 c5 HP2 HL5 HB5
    obtain ⟨q0, q1, q2, q3, q4, zz⟩ := c6
    clear zz
    have HB7 := hide (HB6.out.alloc (by omega) (.cells #[.int .i64 k, .int .i64 d', .int .i64 s', .int .i64 t', .int .i64 i'] 23))
    obtain ⟨b4, hb4⟩ : ∃ b4, b4 = W4.heap.size := ⟨_, rfl⟩
    rw [← hb4] at q0 q1 q2 q3 q4 z5
    rw [← hb4]
    have nn : b4 < W6.heap.size := by omega
    clear hb4
    go_wp2
    go_ret
    exact ⟨rfl, HB7.out⟩

end Go.Proofs.YtcghekkhbiomgaaGreatDoor
