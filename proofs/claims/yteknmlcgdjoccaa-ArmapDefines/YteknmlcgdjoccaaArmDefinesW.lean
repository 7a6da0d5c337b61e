/- The law ArmapDefines, walked: which names an object of any symbols defines, in order. -/
import Derived.Test.YteknmlcgdjoccaaArmRef
import Derived.Test.YteknmlcgdjoccaaArmKnown
import Derived.Deep.RegionHeld3
import Derived.Deep.RegionWith
import Derived.RegionTactic
namespace Go.Proofs.Yteknmlcgdjoccaa
open Go.RowKit Go.Maps
set_option linter.unusedVariables false
set_option maxRecDepth 20000
set_option linter.unusedSimpArgs false

set_option maxHeartbeats 8000000 in
theorem armdefines_walk (a : Option Addr) (n cap : Nat) (l : List Sm) (w : World) (r : Rm w a n cap l) :
    Calls Try.prog 4 #[.slice a n cap] w fun e w' => e = .returned (.bool true) ∧ Below w.heap.size w w' := by
  have hl := r.length
  have hle := r.le
  have hmx := r.max
  have HR := hide r
  have HK := hide (known_18 w)
  clear r
  by_cases h30 : 30 < n
  · have hd : decide ((30 : Int) < (n : Int)) = true := decide_eq_true (by omega)
    go_enter Try.func4, Try.ntmps4
    go_wp2_with fail
    refine HK.out.mono ?_
    rintro e wk ⟨rfl, hbk⟩
    have HBK := hide hbk
    clear hbk
    go_wp2_with fail
    go_ret
    exact ⟨rfl, HBK.out⟩
  have hd : decide ((30 : Int) < (n : Int)) = false := decide_eq_false (by omega)
  go_enter Try.func4, Try.ntmps4
  go_wp2_with fail
  refine HK.out.mono ?_
  rintro e wk ⟨rfl, hbk⟩
  have HBK := hide hbk
  have hszk := hbk.size
  clear hbk HK
  go_wp2_with fail
  go_loopg [3] n (fun gg i wr => ∃ k : Nat, k ≤ n ∧ gg = n - k ∧ i = .int .i64 (k : Int) ∧ wr = wk ∧ Hid (∀ e ∈ l.take k, e.nm.length ≤ 50))
  case atStart => exact ⟨0, by omega, rfl, rfl, rfl, fun e he => by simp at he⟩
  case round =>
    obtain ⟨k, hk, rfl, rfl, rfl, HA⟩ := hrel
    by_cases hlt : k < n
    · have hlt' : (k : Int) < (n : Int) := by omega
      obtain ⟨t, ht⟩ : ∃ t, l[k]? = some t := ⟨_, List.getElem?_eq_getElem (by omega)⟩
      obtain ⟨b2, o2, rfl, hc2⟩ := Rm.addr (Rr.below HR.out HBK.out) (by omega)
      obtain ⟨c0, _, _, _, _, _⟩ := hc2 k t ht
      have hok := (Rr.ok HR.out) t (List.mem_of_getElem? ht)
      have hokn := hok.nm
      have hsz := str_size t.nm
      have htk : l.take (k + 1) = l.take k ++ [t] := by rw [List.take_add_one, ht]; rfl
      have HTK := hide htk
      clear hc2 ht htk hok
      by_cases h50 : 50 < t.nm.length
      · have hd6 : decide ((50 : Int) < (t.nm.length : Int)) = true := decide_eq_true (by omega)
        have hd6b : decide (50 < t.nm.length) = true := decide_eq_true (by omega)
        generalize str t.nm = S at *
        go_wp2_with fail
        go_ret
        exact ⟨rfl, HBK.out⟩
      have hd6 : decide ((50 : Int) < (t.nm.length : Int)) = false := decide_eq_false (by omega)
      have hd6b : decide (50 < t.nm.length) = false := decide_eq_false (by omega)
      have HA2 : Hid (∀ e ∈ l.take (k + 1), e.nm.length ≤ 50) := fun e he => by
        rw [HTK.out] at he
        rcases List.mem_append.1 he with h | h
        · exact HA.out e h
        · rw [List.mem_singleton.1 h]; omega
      clear HA HTK
      generalize str t.nm = S at *
      go_wp2_with fail
      go_roundg (n - (k + 1))
      case measure => omega
      case rel => exact ⟨k + 1, by omega, rfl, by go_num, rfl, HA2.out⟩
    · obtain rfl : k = n := by omega
      have hall : l.take k = l := List.take_of_length_le (by omega)
      rw [hall] at HA
      have hnm6 : ∀ s ∈ l, s.nm.length ≤ 1000000 := fun s hs => Nat.le_trans (HA.out s hs) (by decide)
      have HNM := hide hnm6
      clear HA hnm6 hd hall
      go_upto_region 11 with fail
      have X0 := heap_alloc_new wr (.cells #[.slice none 0 0, .slice a k cap, .slice none 0 0] 46)
      have HB0 := hide (HBK.out.trans (((Below.refl wr.heap.size wr).alloc (Nat.le_refl _) (.cells #[.slice none 0 0, .slice a k cap, .slice none 0 0] 46)).mono hszk))
      obtain ⟨X, hX⟩ : ∃ X, wr.heap.size = X := ⟨_, rfl⟩
      generalize wr.alloc (.cells #[.slice none 0 0, .slice a k cap, .slice none 0 0] 46) = V0 at *
      rw [hX] at X0 ⊢
      have hXV := (Array.getElem?_eq_some_iff.1 X0).1
      have CC : ∀ W, Below V0.heap.size V0 W → W.cell? ⟨X, 0, none⟩ = some (.slice none 0 0) ∧ W.cell? ⟨X, 1, none⟩ = some (.slice a k cap) ∧ W.cell? ⟨X, 2, none⟩ = some (.slice none 0 0) := fun W hb => by
        have hx := (hb.block X hXV).trans X0
        refine ⟨?_, ?_, ?_⟩
        · rw [cell_of_row _ _ 0 _ _ (0, 0) hx]; rfl
        · rw [cell_of_row _ _ 1 _ _ (0, 0) hx]; rfl
        · rw [cell_of_row _ _ 2 _ _ (0, 0) hx]; rfl
      have HCC := hide CC
      obtain ⟨d0, d1, d2⟩ := CC V0 (Below.refl _ _)
      have HD1 := hide (fun W (hb : Below V0.heap.size V0 W) => dfn_any (.slice none 0 0) (.slice none 0 0) a k cap l W (Rr.below HR.out (HB0.out.trans (hb.mono HB0.out.size))) (by omega) HNM.out)
      have HD2 := hide (fun W (hb : Below V0.heap.size V0 W) => rdfn_any (.slice none 0 0) (.slice none 0 0) a k cap l W (Rr.below HR.out (HB0.out.trans (hb.mono HB0.out.size))) (by omega))
      have z0 := HB0.out.size
      have hnl : (dfN l).length = (docN l).length := by rw [← both_same, srt_len]
      rw [both_same, hnl] at HD1
      clear hX X0 CC HR HNM HBK
      go_region_held3 (fun w' => w'.cell? ⟨X, 0, none⟩ = some (.slice none 0 0) ∧ w'.cell? ⟨X, 1, none⟩ = some (.slice a k cap) ∧ w'.cell? ⟨X, 2, none⟩ = some (.slice none 0 0)) (go_keep)
        (first
          | (go_at_call 12; refine (HD1.out _ ((Below.refl V0.heap.size V0).drew)).mono ?_; rintro e W5 ⟨v5, rfl, ho5, hb5⟩; have bb5 := (Below.refl V0.heap.size V0).drew.trans (hb5.mono (Nat.le_refl _)); have HO5 := hide ho5; have HB5 := hide bb5; obtain ⟨e0, e1, e2⟩ := HCC.out W5 bb5; clear ho5 hb5 bb5)
          | (go_at_call 13; refine (HD2.out _ HB5.out).mono ?_; rintro e W6 ⟨v6, rfl, ho6, hb6⟩; have bb6 := HB5.out.trans (hb6.mono HB5.out.size); have HO56 := hide (rowKept (B0 := 0) HO5.out hb6); obtain ⟨a5, c5, hv5, r5⟩ := Rs.own HO56.out; subst hv5; obtain ⟨a6, c6, hv6, r6⟩ := Rs.own ho6; subst hv6; have HS := hide (strs_eq _ _ _ _ _ _ _ r5 r6); have HB6 := hide bb6; obtain ⟨f0, f1, f2⟩ := HCC.out W6 bb6; clear ho6 hb6 bb6 r5 r6)
          | (go_at_call 11; refine HS.out.mono ?_; rintro e W7 ⟨rfl, hb7⟩; have bb7 := HB6.out.trans (hb7.mono HB6.out.size); have HB7 := hide bb7; obtain ⟨g0, g1, g2⟩ := HCC.out W7 bb7; clear hb7 bb7))
      go_wp2_with fail
      go_ret
      exact ⟨rfl, HB0.out.trans (HB7.out.mono z0)⟩

end Go.Proofs.Yteknmlcgdjoccaa
