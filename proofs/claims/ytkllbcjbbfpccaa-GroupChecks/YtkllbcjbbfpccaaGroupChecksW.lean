/- The walk of GroupChecks. -/
import Derived.Test.YtkllbcjbbfpccaaGroupKnown
import Derived.Test.YtkllbcjbbfpccaaGroupChkR
namespace Go.Proofs.Ytkllbcjbbfpccaa
open Go.RowKit
set_option linter.unusedVariables false
set_option linter.unusedSimpArgs false

/-- What is told of groups hangs on them alone. -/
theorem chk_told (L : List (List Int)) : ∃ t : Int, ∀ e, GrC L e → e = .returned (.int .i64 t) := by
  by_cases h : grTwo L
  · exact ⟨34, fun e he => chk_yes h he⟩
  · exact ⟨0, fun e he => chk_no h he⟩

set_option maxHeartbeats 3200000 in
set_option maxRecDepth 20000 in
theorem groupchecks_walk (a : Option Addr) (n cap : Nat) (L : List (List Int)) (w : World) (r : Rii w a n cap L) :
    Calls Try.prog 4 #[.slice a n cap] w fun e w' => e = .returned (.bool true) ∧ Below w.heap.size w w' := by
  have hmx := r.max
  have hle := r.le
  have hl := r.length
  have HR := hide r
  have KN := hide (known_14 w)
  clear r
  by_cases h : 8 < n
  · have h' : (8 : Int) < (n : Int) := by omega
    go_enter Try.func4, Try.ntmps4
    go_wp2_with fail
    refine KN.out.mono ?_
    rintro e W1 ⟨rfl, b1⟩
    have B1 := hide b1
    clear b1
    go_wp2
    go_ret
    exact ⟨rfl, B1.out⟩
  have h' : ¬ ((8 : Int) < (n : Int)) := by omega
  go_enter Try.func4, Try.ntmps4
  go_wp2_with fail
  refine KN.out.mono ?_
  rintro e W1 ⟨rfl, b1⟩
  have B1 := hide b1
  have z1 := b1.size
  have R1 := hide (HR.out.below b1)
  clear b1 KN HR
  go_wp2
  go_loopg [3] n (fun gg iv wr => ∃ i : Nat, i ≤ n ∧ gg = n - i ∧ iv = .int .i64 (i : Int) ∧ wr = W1 ∧ Hid (∀ m ∈ L.take i, m.length ≤ 10))
  case atStart => exact ⟨0, by omega, rfl, rfl, rfl, fun m hm => by simp at hm⟩
  case round =>
    obtain ⟨i, hi, rfl, rfl, rfl, HM⟩ := hrel
    by_cases hlt : i < n
    · have hlt' : (i : Int) < (n : Int) := by omega
      obtain ⟨m, hm⟩ : ∃ m, L[i]? = some m := ⟨_, List.getElem?_eq_getElem (by omega)⟩
      obtain ⟨b2, o2, rfl, hc⟩ := Rii.addr R1.out (by omega)
      obtain ⟨a', c', hc1, rm⟩ := hc i m hm
      have hrl := rm.row.le
      have hrx := rm.row.max
      have HMM := hide hm
      obtain ⟨q, hq⟩ : ∃ q, m.length = q := ⟨_, rfl⟩
      rw [hq] at hc1 hrl
      have HQ := hide hq
      clear rm hc hm hq
      by_cases hm10 : 10 < q
      · have hm10' : (10 : Int) < (q : Int) := by omega
        go_wp2
        go_ret
        exact ⟨rfl, B1.out⟩
      · have hm10' : ¬ ((10 : Int) < (q : Int)) := by omega
        have HM2 : Hid (∀ m ∈ L.take (i + 1), m.length ≤ 10) := fun m' hm' => by
          rw [List.take_add_one, HMM.out] at hm'
          rcases List.mem_append.1 hm' with h5 | h5
          · exact HM.out m' h5
          · rw [List.mem_singleton.1 h5, HQ.out]
            omega
        clear HM
        go_wp2
        go_roundg (n - (i + 1))
        case measure => omega
        case rel => exact ⟨i + 1, by omega, rfl, by go_num, rfl, HM2⟩
    · obtain rfl : i = n := by omega
      have hM := HM.out
      rw [List.take_of_length_le (by omega)] at hM
      obtain ⟨t, told⟩ := chk_told L
      have CA := hide (grcheck_any a i cap L wr R1.out (by omega) (fun m hm => by have := hM m hm; omega))
      have HT := hide told
      clear hM told HM
      go_wp2_with fail
      refine CA.out.mono ?_
      rintro e W2 ⟨hc, b2⟩
      obtain rfl := HT.out e hc
      have B2 := hide (B1.out.trans (b2.mono z1))
      have z2 := B2.out.size
      have CB := hide (rgrcheck_any a i cap L W2 (R1.out.below b2))
      clear hc b2 CA
      go_wp2_with fail
      refine CB.out.mono ?_
      rintro e W3 ⟨hc, b3⟩
      obtain rfl := HT.out e hc
      have B3 := hide (B2.out.trans (b3.mono z2))
      clear hc b3 CB
      go_wp2
      go_ret
      exact ⟨by simp, B3.out⟩

end Go.Proofs.Ytkllbcjbbfpccaa
