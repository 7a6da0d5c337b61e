/- The walk of AsmLines: a text's lines are the document's words, or are refused at just that line. -/
import Derived.Test.YtcghekkhbiomgaaGreatDoorAsmKnown
import Derived.Test.YtcghekkhbiomgaaGreatDoorAsmRefL
namespace Go.Proofs.YtcghekkhbiomgaaGreatDoor
open Go.RowKit
set_option linter.unusedVariables false
set_option maxRecDepth 100000
set_option linter.unusedSimpArgs false

/-- A row of the call's own, read. -/
theorem own_read {k : IntKind} {w : World} {base : Nat} {e : TypeId} {v : Value} {n : Nat} {xs : List Int} (h : w.ownsRow base e 1 v n (xs.map (Value.int k))) :
    n ≤ 9223372036854775807 ∧ ∃ a cap, v = .slice a n cap ∧ ∀ i, i < n → ∃ b, a = some ⟨b, 0, none⟩ ∧ w.cell? ⟨b, i, none⟩ = some (.int k (xs.getD i 0)) := by
  have hl : xs.length = n := by simpa using h.1
  rcases h.2 with ⟨rfl, h2⟩ | ⟨g, cap, cur, rfl, hbg, hg, hnc, hcm, hcs, htake⟩
  · exact ⟨by omega, none, 0, by rw [h2], fun i hi => by omega⟩
  · refine ⟨by unfold maxLen at hcm; omega, _, cap, rfl, fun i hi => ⟨g, rfl, ?_⟩⟩
    have := h.cells (g := g) rfl i (.int k (xs.getD i 0)) (by simp [show i < xs.length by omega])
    have e : (⟨g, 0, none⟩ : Addr).add i = ⟨g, i, none⟩ := by unfold Addr.add; split <;> simp_all
    rw [← e]
    exact this

set_option maxHeartbeats 12800000 in
theorem lines_walk (s : ByteArray) (w : World) (hL : LaidA w) (hs : s.size ≤ 9223372036854775807) :
    Calls Tryz.prog 5 #[.string s] w fun e w' => e = .returned (.bool true) ∧ Below w.heap.size w w' := by
  have HK := hide (fun w h => known_any5 w h)
  have HL := hide hL
  have hs0 : (0 : Int) ≤ s.size := by omega
  have hs1 : (s.size : Int) ≤ 9223372036854775807 := by omega
  clear hL
  by_cases h100 : 1000 < s.size
  · have h100' : (1000 : Int) < s.size := by omega
    go_enter Tryz.func5, Tryz.ntmps5
    go_wp2_with fail
    refine (HK.out _ HL.out).mono ?_
    rintro e W1 ⟨rfl, b1⟩
    have HB1 := hide b1
    clear b1
    go_wp2
    go_ret
    exact ⟨rfl, HB1.out⟩
  · have h100' : (s.size : Int) ≤ 1000 := by omega
    obtain ⟨l, hl⟩ : ∃ l, s = str l := ⟨s.data.toList, by simp [str]⟩
    have hls : l.length ≤ 1000 := by rw [← str_size l, ← hl]; omega
    have HP := hide (fun w h => lines_any l w (by omega) h)
    have HR := hide (fun w => rlines_any l w (by omega))
    rw [← hl] at HP HR
    generalize lns l = r at *
    obtain ⟨ws, at0⟩ := r
    dsimp only at HP HR
    clear hl h100
    go_enter Tryz.func5, Tryz.ntmps5
    go_wp2_with fail
    refine (HK.out _ HL.out).mono ?_
    rintro e W1 ⟨rfl, b1⟩
    have HB1 := hide b1
    have HL1 := hide (HL.out.then b1)
    have z1 := b1.size
    clear b1 HK HL
    go_wp2_with fail
    refine (HP.out _ HL1.out).mono ?_
    rintro e W2 ⟨v, rfl, r2, b2⟩
    have HB2 := hide (HB1.out.trans (b2.mono z1))
    have HR2 := hide r2
    have z2 := HB2.out.size
    clear b2 HP HB1 HL1 r2
    go_wp2_with fail
    refine (HR.out _).mono ?_
    rintro e W3 ⟨v3, rfl, r3, b3⟩
    have HB3 := hide (HB2.out.trans (b3.mono z2))
    have r2' := ownsRow_below HR2.out b3
    obtain ⟨hlm, a, cap, rfl, hc⟩ := own_read r2'
    obtain ⟨_, a3, cap3, rfl, hc3⟩ := own_read r3
    obtain ⟨n, hn⟩ : ∃ n, n = ws.length := ⟨_, rfl⟩
    rw [← hn] at hc hc3 hlm ⊢
    have HC := hide hc
    have HC3 := hide hc3
    clear b3 HR HB2 HR2 r2' r3 hc hc3 hn z1 z2
    go_wp2
    go_loopg [7] n (fun g iv wr => ∃ i : Nat, i ≤ n ∧ g = n - i ∧ iv = .int .i64 i ∧ Hid (Below W3.heap.size W3 wr))
    case atStart => exact ⟨0, Nat.zero_le _, rfl, rfl, Below.refl _ _⟩
    case round =>
      obtain ⟨i, hi, rfl, rfl, HW⟩ := hrel
      by_cases hin : i < n
      · have hin' : (i : Int) < n := by omega
        obtain ⟨b, rfl, q⟩ := HC.out i hin
        obtain ⟨b3, rfl, q3⟩ := HC3.out i hin
        generalize ws.getD i 0 = x at *
        rw [← HW.out.cell (World.block_lt_of_cell? W3 _ q)] at q
        rw [← HW.out.cell (World.block_lt_of_cell? W3 _ q3)] at q3
        go_wp2_with fail
        go_quiet (fail)
        have HW2 := hide (HW.out.trans ((bel_drewN wr nq).mono HW.out.size))
        go_wp2
        go_roundg (n - (i + 1))
        case measure => omega
        case rel => exact ⟨i + 1, by omega, rfl, by go_num, HW2.out⟩
      · obtain rfl : i = n := by omega
        go_wp2
        go_ret
        exact ⟨rfl, HB3.out.trans (HW.out.mono HB3.out.size)⟩

end Go.Proofs.YtcghekkhbiomgaaGreatDoor
