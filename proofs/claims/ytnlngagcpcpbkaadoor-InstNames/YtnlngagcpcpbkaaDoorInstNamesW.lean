/- The walk of the law on names. -/
import Derived.Test.YtnlngagcpcpbkaaDoorInstRefName
namespace Go.Proofs.YtnlngagcpcpbkaaDoor
open Go.RowKit
set_option linter.unusedVariables false
set_option linter.unusedSimpArgs false

set_option maxHeartbeats 800000 in
theorem names_same (x : ByteArray) (a b p : Int) (q : Bool) (s : ByteArray) (w : World) (hL : Laid w) (hs : (s.size : Int) ≤ 30) (h1 : 1 ≤ a) (h2 : a < 66) (hx : x.toList.isEmpty = false) (hab : b = a)
    (HK : Hid (∀ w, Laid w → Calls Tryd.prog 9 #[] w fun e w' => e = .returned (.bool true) ∧ Below w.heap.size w w'))
    (HX : Hid (∀ w, Laid w → Calls Tryd.prog 16 #[.int .i64 a] w fun e w' => e = .returned (.string x) ∧ w' = w))
    (HY : Hid (∀ w, Laid w → Calls Tryd.prog 16 #[.int .i64 b] w fun e w' => e = .returned (.string x) ∧ w' = w))
    (HF : Hid (∀ w, Laid w → Calls Tryd.prog 18 #[.string x] w fun e w' => e = .returned (.tuple #[.int .i64 a, .bool true]) ∧ w' = w))
    (HP : Hid (∀ w, Laid w → Calls Tryd.prog 18 #[.string s] w fun e w' => e = .returned (.tuple #[.int .i64 p, .bool q]) ∧ w' = w))
    (HR : Hid (∀ w, Calls Tryd.prog 19 #[.string s] w fun e w' => e = .returned (.tuple #[.int .i64 p, .bool q]) ∧ w' = w)) :
    Calls Tryd.prog 6 #[.int .i64 a, .int .i64 b, .string s] w fun e w' => e = .returned (.bool true) ∧ Below w.heap.size w w' := by
  subst hab
  have hxy := str_yes (rfl : x = x)
  cases q
  all_goals
    have HL := hide hL
    clear hL
    go_enter Tryd.func6, Tryd.ntmps6
    go_wp2_with fail
    refine (HK.out _ HL.out).mono ?_
    rintro e W1 ⟨rfl, hB⟩
    have B1 := hide hB
    have L1 := hide (HL.out.then hB)
    clear hB HK HL
    go_wp2_with fail
    refine (HX.out _ L1.out).mono ?_
    rintro e W ⟨rfl, hW⟩
    rw [hW]
    clear hW W HX
    go_wp2_with fail
    refine (HY.out _ L1.out).mono ?_
    rintro e W ⟨rfl, hW⟩
    rw [hW]
    clear hW W HY
    go_wp2_with fail
    refine (HF.out _ L1.out).mono ?_
    rintro e W ⟨rfl, hW⟩
    rw [hW]
    clear hW W HF
    go_wp2_with fail
    refine (HP.out _ L1.out).mono ?_
    rintro e W ⟨rfl, hW⟩
    rw [hW]
    clear hW W HP
    go_wp2_with fail
    refine (HR.out _).mono ?_
    rintro e W ⟨rfl, hW⟩
    rw [hW]
    clear hW W HR
    go_wp2
    all_goals go_ret
    all_goals exact ⟨rfl, B1.out⟩

set_option maxHeartbeats 800000 in
theorem names_other (x y : ByteArray) (a b p : Int) (q : Bool) (s : ByteArray) (w : World) (hL : Laid w) (hs : (s.size : Int) ≤ 30) (h1 : 1 ≤ a) (h2 : a < 66) (hx : x.toList.isEmpty = false) (hxy : (x.toList == y.toList) = false)
    (HK : Hid (∀ w, Laid w → Calls Tryd.prog 9 #[] w fun e w' => e = .returned (.bool true) ∧ Below w.heap.size w w'))
    (HX : Hid (∀ w, Laid w → Calls Tryd.prog 16 #[.int .i64 a] w fun e w' => e = .returned (.string x) ∧ w' = w))
    (HY : Hid (∀ w, Laid w → Calls Tryd.prog 16 #[.int .i64 b] w fun e w' => e = .returned (.string y) ∧ w' = w))
    (HF : Hid (∀ w, Laid w → Calls Tryd.prog 18 #[.string x] w fun e w' => e = .returned (.tuple #[.int .i64 a, .bool true]) ∧ w' = w))
    (HP : Hid (∀ w, Laid w → Calls Tryd.prog 18 #[.string s] w fun e w' => e = .returned (.tuple #[.int .i64 p, .bool q]) ∧ w' = w))
    (HR : Hid (∀ w, Calls Tryd.prog 19 #[.string s] w fun e w' => e = .returned (.tuple #[.int .i64 p, .bool q]) ∧ w' = w)) :
    Calls Tryd.prog 6 #[.int .i64 a, .int .i64 b, .string s] w fun e w' => e = .returned (.bool true) ∧ Below w.heap.size w w' := by
  cases q
  all_goals
    have HL := hide hL
    clear hL
    go_enter Tryd.func6, Tryd.ntmps6
    go_wp2_with fail
    refine (HK.out _ HL.out).mono ?_
    rintro e W1 ⟨rfl, hB⟩
    have B1 := hide hB
    have L1 := hide (HL.out.then hB)
    clear hB HK HL
    go_wp2_with fail
    refine (HX.out _ L1.out).mono ?_
    rintro e W ⟨rfl, hW⟩
    rw [hW]
    clear hW W HX
    go_wp2_with fail
    refine (HY.out _ L1.out).mono ?_
    rintro e W ⟨rfl, hW⟩
    rw [hW]
    clear hW W HY
    go_wp2_with fail
    refine (HF.out _ L1.out).mono ?_
    rintro e W ⟨rfl, hW⟩
    rw [hW]
    clear hW W HF
    go_wp2_with fail
    refine (HP.out _ L1.out).mono ?_
    rintro e W ⟨rfl, hW⟩
    rw [hW]
    clear hW W HP
    go_wp2_with fail
    refine (HR.out _).mono ?_
    rintro e W ⟨rfl, hW⟩
    rw [hW]
    clear hW W HR
    go_wp2
    all_goals go_ret
    all_goals exact ⟨rfl, B1.out⟩

set_option maxHeartbeats 800000 in
theorem names_low_e (y : ByteArray) (a b p : Int) (q : Bool) (s : ByteArray) (w : World) (hL : Laid w) (hs : (s.size : Int) ≤ 30) (h1 : a < 1) (hy : y.toList = [])
    (HK : Hid (∀ w, Laid w → Calls Tryd.prog 9 #[] w fun e w' => e = .returned (.bool true) ∧ Below w.heap.size w w'))
    (HX : Hid (∀ w, Laid w → Calls Tryd.prog 16 #[.int .i64 a] w fun e w' => e = .returned (.string ⟨#[]⟩) ∧ w' = w))
    (HY : Hid (∀ w, Laid w → Calls Tryd.prog 16 #[.int .i64 b] w fun e w' => e = .returned (.string y) ∧ w' = w))
    (HF : Hid (∀ w, Laid w → Calls Tryd.prog 18 #[.string ⟨#[]⟩] w fun e w' => e = .returned (.tuple #[.int .i64 0, .bool false]) ∧ w' = w))
    (HP : Hid (∀ w, Laid w → Calls Tryd.prog 18 #[.string s] w fun e w' => e = .returned (.tuple #[.int .i64 p, .bool q]) ∧ w' = w))
    (HR : Hid (∀ w, Calls Tryd.prog 19 #[.string s] w fun e w' => e = .returned (.tuple #[.int .i64 p, .bool q]) ∧ w' = w)) :
    Calls Tryd.prog 6 #[.int .i64 a, .int .i64 b, .string s] w fun e w' => e = .returned (.bool true) ∧ Below w.heap.size w w' := by
  cases q
  all_goals
    have HL := hide hL
    clear hL
    go_enter Tryd.func6, Tryd.ntmps6
    go_wp2_with fail
    refine (HK.out _ HL.out).mono ?_
    rintro e W1 ⟨rfl, hB⟩
    have B1 := hide hB
    have L1 := hide (HL.out.then hB)
    clear hB HK HL
    go_wp2_with fail
    refine (HX.out _ L1.out).mono ?_
    rintro e W ⟨rfl, hW⟩
    rw [hW]
    clear hW W HX
    go_wp2_with fail
    refine (HY.out _ L1.out).mono ?_
    rintro e W ⟨rfl, hW⟩
    rw [hW]
    clear hW W HY
    go_wp2_with fail
    refine (HF.out _ L1.out).mono ?_
    rintro e W ⟨rfl, hW⟩
    rw [hW]
    clear hW W HF
    go_wp2_with fail
    refine (HP.out _ L1.out).mono ?_
    rintro e W ⟨rfl, hW⟩
    rw [hW]
    clear hW W HP
    go_wp2_with fail
    refine (HR.out _).mono ?_
    rintro e W ⟨rfl, hW⟩
    rw [hW]
    clear hW W HR
    go_wp2
    all_goals go_ret
    all_goals exact ⟨rfl, B1.out⟩

set_option maxHeartbeats 800000 in
theorem names_low_n (y : ByteArray) (a b p : Int) (q : Bool) (s : ByteArray) (w : World) (hL : Laid w) (hs : (s.size : Int) ≤ 30) (h1 : a < 1) (hy : ¬ y.toList = [])
    (HK : Hid (∀ w, Laid w → Calls Tryd.prog 9 #[] w fun e w' => e = .returned (.bool true) ∧ Below w.heap.size w w'))
    (HX : Hid (∀ w, Laid w → Calls Tryd.prog 16 #[.int .i64 a] w fun e w' => e = .returned (.string ⟨#[]⟩) ∧ w' = w))
    (HY : Hid (∀ w, Laid w → Calls Tryd.prog 16 #[.int .i64 b] w fun e w' => e = .returned (.string y) ∧ w' = w))
    (HF : Hid (∀ w, Laid w → Calls Tryd.prog 18 #[.string ⟨#[]⟩] w fun e w' => e = .returned (.tuple #[.int .i64 0, .bool false]) ∧ w' = w))
    (HP : Hid (∀ w, Laid w → Calls Tryd.prog 18 #[.string s] w fun e w' => e = .returned (.tuple #[.int .i64 p, .bool q]) ∧ w' = w))
    (HR : Hid (∀ w, Calls Tryd.prog 19 #[.string s] w fun e w' => e = .returned (.tuple #[.int .i64 p, .bool q]) ∧ w' = w)) :
    Calls Tryd.prog 6 #[.int .i64 a, .int .i64 b, .string s] w fun e w' => e = .returned (.bool true) ∧ Below w.heap.size w w' := by
  cases q
  all_goals
    have HL := hide hL
    clear hL
    go_enter Tryd.func6, Tryd.ntmps6
    go_wp2_with fail
    refine (HK.out _ HL.out).mono ?_
    rintro e W1 ⟨rfl, hB⟩
    have B1 := hide hB
    have L1 := hide (HL.out.then hB)
    clear hB HK HL
    go_wp2_with fail
    refine (HX.out _ L1.out).mono ?_
    rintro e W ⟨rfl, hW⟩
    rw [hW]
    clear hW W HX
    go_wp2_with fail
    refine (HY.out _ L1.out).mono ?_
    rintro e W ⟨rfl, hW⟩
    rw [hW]
    clear hW W HY
    go_wp2_with fail
    refine (HF.out _ L1.out).mono ?_
    rintro e W ⟨rfl, hW⟩
    rw [hW]
    clear hW W HF
    go_wp2_with fail
    refine (HP.out _ L1.out).mono ?_
    rintro e W ⟨rfl, hW⟩
    rw [hW]
    clear hW W HP
    go_wp2_with fail
    refine (HR.out _).mono ?_
    rintro e W ⟨rfl, hW⟩
    rw [hW]
    clear hW W HR
    go_wp2
    all_goals go_ret
    all_goals exact ⟨rfl, B1.out⟩

set_option maxHeartbeats 800000 in
theorem names_high_e (y : ByteArray) (a b p : Int) (q : Bool) (s : ByteArray) (w : World) (hL : Laid w) (hs : (s.size : Int) ≤ 30) (h1 : 1 ≤ a) (h2 : 66 ≤ a) (hy : y.toList = [])
    (HK : Hid (∀ w, Laid w → Calls Tryd.prog 9 #[] w fun e w' => e = .returned (.bool true) ∧ Below w.heap.size w w'))
    (HX : Hid (∀ w, Laid w → Calls Tryd.prog 16 #[.int .i64 a] w fun e w' => e = .returned (.string ⟨#[]⟩) ∧ w' = w))
    (HY : Hid (∀ w, Laid w → Calls Tryd.prog 16 #[.int .i64 b] w fun e w' => e = .returned (.string y) ∧ w' = w))
    (HF : Hid (∀ w, Laid w → Calls Tryd.prog 18 #[.string ⟨#[]⟩] w fun e w' => e = .returned (.tuple #[.int .i64 0, .bool false]) ∧ w' = w))
    (HP : Hid (∀ w, Laid w → Calls Tryd.prog 18 #[.string s] w fun e w' => e = .returned (.tuple #[.int .i64 p, .bool q]) ∧ w' = w))
    (HR : Hid (∀ w, Calls Tryd.prog 19 #[.string s] w fun e w' => e = .returned (.tuple #[.int .i64 p, .bool q]) ∧ w' = w)) :
    Calls Tryd.prog 6 #[.int .i64 a, .int .i64 b, .string s] w fun e w' => e = .returned (.bool true) ∧ Below w.heap.size w w' := by
  cases q
  all_goals
    have HL := hide hL
    clear hL
    go_enter Tryd.func6, Tryd.ntmps6
    go_wp2_with fail
    refine (HK.out _ HL.out).mono ?_
    rintro e W1 ⟨rfl, hB⟩
    have B1 := hide hB
    have L1 := hide (HL.out.then hB)
    clear hB HK HL
    go_wp2_with fail
    refine (HX.out _ L1.out).mono ?_
    rintro e W ⟨rfl, hW⟩
    rw [hW]
    clear hW W HX
    go_wp2_with fail
    refine (HY.out _ L1.out).mono ?_
    rintro e W ⟨rfl, hW⟩
    rw [hW]
    clear hW W HY
    go_wp2_with fail
    refine (HF.out _ L1.out).mono ?_
    rintro e W ⟨rfl, hW⟩
    rw [hW]
    clear hW W HF
    go_wp2_with fail
    refine (HP.out _ L1.out).mono ?_
    rintro e W ⟨rfl, hW⟩
    rw [hW]
    clear hW W HP
    go_wp2_with fail
    refine (HR.out _).mono ?_
    rintro e W ⟨rfl, hW⟩
    rw [hW]
    clear hW W HR
    go_wp2
    all_goals go_ret
    all_goals exact ⟨rfl, B1.out⟩

set_option maxHeartbeats 800000 in
theorem names_high_n (y : ByteArray) (a b p : Int) (q : Bool) (s : ByteArray) (w : World) (hL : Laid w) (hs : (s.size : Int) ≤ 30) (h1 : 1 ≤ a) (h2 : 66 ≤ a) (hy : ¬ y.toList = [])
    (HK : Hid (∀ w, Laid w → Calls Tryd.prog 9 #[] w fun e w' => e = .returned (.bool true) ∧ Below w.heap.size w w'))
    (HX : Hid (∀ w, Laid w → Calls Tryd.prog 16 #[.int .i64 a] w fun e w' => e = .returned (.string ⟨#[]⟩) ∧ w' = w))
    (HY : Hid (∀ w, Laid w → Calls Tryd.prog 16 #[.int .i64 b] w fun e w' => e = .returned (.string y) ∧ w' = w))
    (HF : Hid (∀ w, Laid w → Calls Tryd.prog 18 #[.string ⟨#[]⟩] w fun e w' => e = .returned (.tuple #[.int .i64 0, .bool false]) ∧ w' = w))
    (HP : Hid (∀ w, Laid w → Calls Tryd.prog 18 #[.string s] w fun e w' => e = .returned (.tuple #[.int .i64 p, .bool q]) ∧ w' = w))
    (HR : Hid (∀ w, Calls Tryd.prog 19 #[.string s] w fun e w' => e = .returned (.tuple #[.int .i64 p, .bool q]) ∧ w' = w)) :
    Calls Tryd.prog 6 #[.int .i64 a, .int .i64 b, .string s] w fun e w' => e = .returned (.bool true) ∧ Below w.heap.size w w' := by
  cases q
  all_goals
    have HL := hide hL
    clear hL
    go_enter Tryd.func6, Tryd.ntmps6
    go_wp2_with fail
    refine (HK.out _ HL.out).mono ?_
    rintro e W1 ⟨rfl, hB⟩
    have B1 := hide hB
    have L1 := hide (HL.out.then hB)
    clear hB HK HL
    go_wp2_with fail
    refine (HX.out _ L1.out).mono ?_
    rintro e W ⟨rfl, hW⟩
    rw [hW]
    clear hW W HX
    go_wp2_with fail
    refine (HY.out _ L1.out).mono ?_
    rintro e W ⟨rfl, hW⟩
    rw [hW]
    clear hW W HY
    go_wp2_with fail
    refine (HF.out _ L1.out).mono ?_
    rintro e W ⟨rfl, hW⟩
    rw [hW]
    clear hW W HF
    go_wp2_with fail
    refine (HP.out _ L1.out).mono ?_
    rintro e W ⟨rfl, hW⟩
    rw [hW]
    clear hW W HP
    go_wp2_with fail
    refine (HR.out _).mono ?_
    rintro e W ⟨rfl, hW⟩
    rw [hW]
    clear hW W HR
    go_wp2
    all_goals go_ret
    all_goals exact ⟨rfl, B1.out⟩

theorem long_walk (a b : Int) (s : ByteArray) (w : World) (hL : Laid w) (hs : 30 < (s.size : Int)) :
    Calls Tryd.prog 6 #[.int .i64 a, .int .i64 b, .string s] w fun e w' => e = .returned (.bool true) ∧ Below w.heap.size w w' := by
  have HK := hide (fun w hL => known_any w hL)
  have HL := hide hL
  clear hL
  go_enter Tryd.func6, Tryd.ntmps6
  go_wp2_with fail
  refine (HK.out _ HL.out).mono ?_
  rintro e W1 ⟨rfl, hB⟩
  have B1 := hide hB
  clear hB HK HL
  go_wp2
  go_ret
  exact ⟨rfl, B1.out⟩

theorem find_fun (s : ByteArray) : ∃ (p : Int) (q : Bool), ∀ e, FindIs s e → e = .returned (.tuple #[.int .i64 p, .bool q]) := by
  by_cases h : ∃ k : Nat, 1 ≤ k ∧ k < 66 ∧ nm k = s
  · obtain ⟨k, h1, h2, rfl⟩ := h
    exact ⟨k, true, fun e he => find_one h1 h2 he⟩
  · refine ⟨0, false, fun e he => ?_⟩
    rcases he with ⟨k, h1, h2, h3, h4⟩ | ⟨_, h2⟩
    · exact absurd ⟨k, h1, h2, h3⟩ h
    · exact h2
theorem find_empty {e : Ending} (h : FindIs ⟨#[]⟩ e) : e = .returned (.tuple #[.int .i64 0, .bool false]) := by
  rcases h with ⟨k, h1, h2, h3, h4⟩ | ⟨_, h2⟩
  · exact absurd h3 (nm_some k h2 h1)
  · exact h2
theorem empty_iff {y : ByteArray} : y.toList = [] ↔ y = ⟨#[]⟩ := by
  rw [ByteArray.toList_eq]
  constructor
  · intro h
    apply ByteArray.ext
    simpa using h
  · rintro rfl; rfl

theorem names_walk (a b : Int) (s : ByteArray) (w : World) (hL : Laid w) :
    Calls Tryd.prog 6 #[.int .i64 a, .int .i64 b, .string s] w fun e w' => e = .returned (.bool true) ∧ Below w.heap.size w w' := by
  by_cases hs : 30 < (s.size : Int)
  · exact long_walk a b s w hL hs
  · have hs' : (s.size : Int) ≤ 30 := by omega
    obtain ⟨p, q, hpq⟩ := find_fun s
    have HK := fun w hL => known_any w hL
    have HX := fun w hL => name_any a w hL
    have HY := fun w hL => name_any b w hL
    have HP : ∀ w, Laid w → Calls Tryd.prog 18 #[.string s] w fun e w' => e = .returned (.tuple #[.int .i64 p, .bool q]) ∧ w' = w := fun w hL => (find_any s w hL).mono fun e w' h => ⟨hpq e h.1, h.2⟩
    have HR : ∀ w, Calls Tryd.prog 19 #[.string s] w fun e w' => e = .returned (.tuple #[.int .i64 p, .bool q]) ∧ w' = w := fun w => (rfind_any s w).mono fun e w' h => ⟨hpq e h.1, h.2⟩
    by_cases ha : knw a = true
    · have hr : 0 < a ∧ a < 66 := by simpa [knw] using ha
      obtain ⟨k, rfl⟩ := Int.eq_ofNat_of_zero_le (show 0 ≤ a by omega)
      have k0 : 1 ≤ k := by omega
      have k1 : k < 66 := by omega
      rw [nmo_k k0 k1] at HX
      have hx := str_some (nm_some k k1 k0)
      have HF : ∀ w, Laid w → Calls Tryd.prog 18 #[.string (nm k)] w fun e w' => e = .returned (.tuple #[.int .i64 k, .bool true]) ∧ w' = w := fun w hL => (find_any (nm k) w hL).mono fun e w' h => ⟨find_one k0 k1 h.1, h.2⟩
      by_cases hab : b = k
      · subst hab
        exact names_same (nm k) k k p q s w hL hs' (by omega) (by omega) hx rfl HK HX HX HF HP HR
      · have hne : nm k ≠ nmo b := by
          unfold nmo
          split
          · rename_i hb
            have hrb : 0 < b ∧ b < 66 := by simpa [knw] using hb
            intro e
            have := nm_apart k k1 b.toNat (by omega) e
            omega
          · exact nm_some k k1 k0
        exact names_other (nm k) (nmo b) k b p q s w hL hs' (by omega) (by omega) hx (str_no hne) HK HX HY HF HP HR
    · have hxe : nmo a = ⟨#[]⟩ := by unfold nmo; rw [if_neg ha]
      rw [hxe] at HX
      have HF : ∀ w, Laid w → Calls Tryd.prog 18 #[.string ⟨#[]⟩] w fun e w' => e = .returned (.tuple #[.int .i64 0, .bool false]) ∧ w' = w := fun w hL => (find_any ⟨#[]⟩ w hL).mono fun e w' h => ⟨find_empty h.1, h.2⟩
      have hr : a < 1 ∨ 66 ≤ a := by
        have : ¬ (0 < a ∧ a < 66) := fun h => ha (by simpa [knw] using h)
        omega
      by_cases hy : (nmo b).toList = []
      · rcases hr with h | h
        · exact names_low_e (nmo b) a b p q s w hL hs' h hy HK HX HY HF HP HR
        · exact names_high_e (nmo b) a b p q s w hL hs' (by omega) h hy HK HX HY HF HP HR
      · rcases hr with h | h
        · exact names_low_n (nmo b) a b p q s w hL hs' h hy HK HX HY HF HP HR
        · exact names_high_n (nmo b) a b p q s w hL hs' (by omega) h hy HK HX HY HF HP HR

end Go.Proofs.YtnlngagcpcpbkaaDoor
