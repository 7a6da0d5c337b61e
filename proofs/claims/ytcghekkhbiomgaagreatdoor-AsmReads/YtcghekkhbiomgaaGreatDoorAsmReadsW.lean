/- The walk of AsmReads: a text is the document's instruction, or none. -/
import Derived.Test.YtcghekkhbiomgaaGreatDoorAsmKnown
import Derived.Test.YtcghekkhbiomgaaGreatDoorAsmRefPA
import Derived.Test.YtcghekkhbiomgaaGreatDoorAsmRefPB
namespace Go.Proofs.YtcghekkhbiomgaaGreatDoor
open Go.RowKit
set_option linter.unusedVariables false
set_option maxRecDepth 100000
set_option linter.unusedSimpArgs false

theorem rparse_any (l : List UInt8) (w : World) (hl : l.length ≤ 1000000) :
    Calls Tryz.prog 13 #[.string (str l)] w fun e w' => e = .returned (prsV (prsR l)) ∧ Below w.heap.size w w' := by
  by_cases h : (32 : UInt8) ∈ l
  · exact rparse_sp l w hl h
  · exact rparse_no l w hl h

set_option maxHeartbeats 12800000 in
theorem reads_walk (s : ByteArray) (w : World) (hL : LaidA w) (hs : s.size ≤ 9223372036854775807) :
    Calls Tryz.prog 4 #[.string s] w fun e w' => e = .returned (.bool true) ∧ Below w.heap.size w w' := by
  have HK := hide (fun w h => known_any5 w h)
  have HL := hide hL
  have hs0 : (0 : Int) ≤ s.size := by omega
  have hs1 : (s.size : Int) ≤ 9223372036854775807 := by omega
  clear hL
  by_cases h100 : 100 < s.size
  · have h100' : (100 : Int) < s.size := by omega
    go_enter Tryz.func4, Tryz.ntmps4
    go_wp2_with fail
    refine (HK.out _ HL.out).mono ?_
    rintro e W1 ⟨rfl, b1⟩
    have HB1 := hide b1
    clear b1
    go_wp2
    go_ret
    exact ⟨rfl, HB1.out⟩
  · have h100' : (s.size : Int) ≤ 100 := by omega
    obtain ⟨l, hl⟩ : ∃ l, s = str l := ⟨s.data.toList, by simp [str]⟩
    have hls : l.length ≤ 100 := by rw [← str_size l, ← hl]; omega
    have HP := hide (fun w h => parse_any l w (by omega) h)
    have HR := hide (fun w => rparse_any l w (by omega))
    rw [prs_eq] at HR
    rw [← hl] at HP HR
    have HSo := hide (fun k m h => @prsA_some l k m h)
    have HFi := hide (fun k m h => @prsA_fit l k m h)
    have HTx := hide (fun (k : Nat) m (hm : Ns.Fit m) w h => text_any k m w hm h)
    have HS := hide hl
    generalize prsA l = dn at *
    clear hl h100
    go_enter Tryz.func4, Tryz.ntmps4
    go_wp2_with fail
    refine (HK.out _ HL.out).mono ?_
    rintro e W1 ⟨rfl, b1⟩
    have HB1 := hide b1
    have HL1 := hide (HL.out.then b1)
    have z1 := b1.size
    clear b1 HK HL
    go_wp2_with fail
    refine (HP.out _ HL1.out).mono ?_
    rintro e W2 ⟨rfl, b2⟩
    have HB2 := hide (HB1.out.trans (b2.mono z1))
    have HL2 := hide (HL1.out.then b2)
    have z2 := HB2.out.size
    clear b2 HP HB1 HL1
    cases dn with
    | none =>
      unfold prsV inst at HR
      unfold prsV inst
      go_wp2_with fail
      refine (HR.out _).mono ?_
      rintro e W3 ⟨rfl, b3⟩
      have c3 := (cel_alloc W2 0 0 0 0 0).below b3 (by simp)
      have HB3 := hide ((HB2.out.alloc z2 _).trans (b3.mono (by simp; omega)))
      have z3 := b3.size
      rw [size_alloc] at z3
      obtain ⟨q0, q1, q2, q3, q4, zz⟩ := c3
      have HB4 := hide (HB3.out.alloc (by omega) (.cells #[.int .i64 0, .int .i64 0, .int .i64 0, .int .i64 0, .int .i64 0] 23))
      clear b3 HR HB2 zz
      obtain ⟨b2, hb2⟩ : ∃ b2, b2 = W2.heap.size := ⟨_, rfl⟩
      rw [← hb2] at q0 q1 q2 q3 q4 z3
      rw [← hb2]
      have nn : b2 < W3.heap.size := by omega
      clear hb2
      go_wp2
      go_ret
      exact ⟨rfl, HB4.out⟩
    | some y =>
      obtain ⟨k, m⟩ := y
      obtain ⟨_, _, _, _, htx⟩ := HSo.out k m rfl
      have HT2 := hide (fun w h => HTx.out k m (HFi.out k m rfl) w h)
      rw [htx, ← HS.out] at HT2
      have hss := str_yes (rfl : s = s)
      unfold prsV inst at HR
      unfold inst at HT2
      unfold prsV inst
      obtain ⟨d', s', t', i'⟩ := m
      dsimp only at *
      clear htx HSo HFi HTx
      go_wp2_with fail
      refine (HR.out _).mono ?_
      rintro e W3 ⟨rfl, b3⟩
      have c3 := (cel_alloc W2 k d' s' t' i').below b3 (by simp)
      have HB3 := hide ((HB2.out.alloc z2 _).trans (b3.mono (by simp; omega)))
      have HL3 := hide ((HL2.out.alloc _).then b3)
      have z33 := HB3.out.size
      have z3 := b3.size
      rw [size_alloc] at z3
      obtain ⟨q0, q1, q2, q3, q4, zz⟩ := c3
      clear b3 HR HB2 zz
      obtain ⟨b2, hb2⟩ : ∃ b2, b2 = W2.heap.size := ⟨_, rfl⟩
      rw [← hb2] at q0 q1 q2 q3 q4 z3
      rw [← hb2]
      have nn : b2 < W3.heap.size := by omega
      clear hb2
      go_wp2_with (go_at_call 9; refine (HT2.out _ (HL3.out.alloc _)).mono ?_; rintro e W4 ⟨rfl, b4⟩; refine Hid.out ?_)
      refine Lib.hid ?_
      have HB4 := hide ((HB3.out.alloc (by omega) _).trans (b4.mono (by simp; omega)))
      clear b4 HT2
      go_wp2
      go_ret
      exact ⟨rfl, HB4.out⟩

end Go.Proofs.YtcghekkhbiomgaaGreatDoor
