/- Contracts of le.Set and of the document's Set: a new row that holds the bytes with the number's lowest n laid over them, or none and false. -/
import Derived.Test.YtijjkhigomkokaaMake
namespace Go.Proofs.Ytijjkhigomkokaa
open Go.RowKit
set_option linter.unusedVariables false

theorem map_set_int (l : List Int) (j : Nat) (x : Int) : (l.map (Value.int .u8)).set j (.int .u8 x) = (l.set j x).map (Value.int .u8) := by
  rw [List.map_set]

theorem set_yes (a : Option Addr) (len cap : Nat) (bs : List Int) (off v n : Int) (w : World) (r : Rd w a len cap bs) (ho : 0 ≤ off) (hv : 0 ≤ v) (hv' : v ≤ 18446744073709551615) (hn : 1 ≤ n) (h8 : n ≤ 8) (h : off + n ≤ len) (hb : len ≤ 140737488355328) :
    Calls Try.prog 27 #[.slice a len cap, .int .u64 off, .int .u64 v, .int .i64 n] w fun e w' =>
      e = .returned (.tuple #[.slice (some ⟨w.heap.size, 0, none⟩) len len, .bool true]) ∧ Rd w' (some ⟨w.heap.size, 0, none⟩) len len (setLe bs off.toNat v n.toNat) ∧ Below w.heap.size w w' := by
  obtain ⟨f, rfl⟩ := Int.eq_ofNat_of_zero_le ho
  obtain ⟨m, rfl⟩ := Int.eq_ofNat_of_zero_le (show 0 ≤ n by omega)
  have hl := r.length
  have h1 := r.le
  have h2 := r.max
  have hfm : f + m ≤ len := by omega
  rw [Int.toNat_natCast, Int.toNat_natCast]
  have hk : Calls Try.prog 31 #[.slice a len cap, .int .i64 0] w fun e w' =>
      e = .returned (.slice (some ⟨w.heap.size, 0, none⟩) len len) ∧ Hid (w'.ownsRow w.heap.size 5 1 (.slice (some ⟨w.heap.size, 0, none⟩) len len) len (bs.map (Value.int .u8))) ∧ Hid (Below w.heap.size w w') :=
    room_any a len cap bs 0 w r (by omega) (by omega)
  have HK := hide hk
  have hby := r.bytes
  clear hk r
  have d1 : decide ((m : Int) < 1) = false := by simp; omega
  have d2 : decide ((8 : Int) < (m : Int)) = false := by simp; omega
  go_enter Try.func27, Try.ntmps27
  go_wp2_with (go_at_call 34; refine (within_yes _ _ _ _ _ _ (by omega) (by omega) (by omega) (by omega)).mono ?_; rintro e w' ⟨rfl, rfl⟩)
  refine HK.out.mono ?_
  rintro e w2 ⟨rfl, hown, hbel⟩
  go_wp2
  go_loopw [29] (fun i wr => ∃ k : Nat, k ≤ m ∧ i = .int .i64 k ∧ wr.ownsRow w'.heap.size 5 1 (.slice (some ⟨w'.heap.size, 0, none⟩) len len) len ((setLe bs f v k).map (Value.int .u8)) ∧ Below w'.heap.size w' wr) (fun i _ => m - (intOf i).toNat)
  case atStart => exact ⟨0, Nat.zero_le _, rfl, by rw [setOf_zero]; exact hown.out, hbel.out⟩
  case round =>
    obtain ⟨k, hk, rfl, hown2, hbel2⟩ := hrel
    clear hown hbel HK
    by_cases hlt : k < m
    · have hcell := hown2.cellAt (f + k) (by omega)
      have hfz := hown2.frozenAt (f + k)
      have hst := hown2.stored (f + k) (.int .u8 (byteOf v k))
      rw [map_set_int, setOf_succ bs f v k (by omega)] at hst
      have HST := hide hst
      have HB2 := hide hbel2
      clear hown2 hst hbel2
      obtain ⟨u0, hu0⟩ : ∃ u0, ((setLe bs f v k).map (Value.int .u8))[f + k]? = some u0 := ⟨_, List.getElem?_eq_getElem (by rw [List.length_map, setOf_length _ _ _ _ (by omega)]; omega)⟩
      rw [hu0] at hcell
      clear hu0
      go_wp2
      go_roundw
      case rel => exact ⟨k + 1, by omega, by go_num, HST.out.1, HB2.out.setCell (Nat.le_refl _) _⟩
      case measure => simp [intOf]; omega
    · obtain rfl : k = m := by omega
      have hr := Rd.own hown2 (setOf_bytes hby f v k)
      have HR := hide hr
      have HB2 := hide hbel2
      clear hown2 hbel2 hr
      go_wp2
      go_ret2
      obtain ⟨a', c', he, hr⟩ := HR.out
      cases he
      exact ⟨rfl, hr, HB2.out⟩

theorem set_no (a : Option Addr) (len cap : Nat) (off v n : Int) (w : World) (hl : len ≤ 9223372036854775807) (ho : 0 ≤ off) (ho' : off ≤ 18446744073709551615) (hn : -9223372036854775808 ≤ n) (hn' : n ≤ 9223372036854775807) (h : n < 1 ∨ 8 < n ∨ len < off + n) :
    Calls Try.prog 27 #[.slice a len cap, .int .u64 off, .int .u64 v, .int .i64 n] w fun e w' =>
      e = .returned (.tuple #[.slice none 0 0, .bool false]) ∧ w' = w := by
  by_cases h1 : n < 1
  · go_enter Try.func27, Try.ntmps27
    go_wp2_with fail
    go_ret2
    exact ⟨rfl, rfl⟩
  · by_cases h2 : 8 < n
    · have d1 : decide (n < 1) = false := by simp; omega
      go_enter Try.func27, Try.ntmps27
      go_wp2_with fail
      go_ret2
      exact ⟨rfl, rfl⟩
    · have h3 : len < off + n := by omega
      have d1 : decide (n < 1) = false := by simp; omega
      have d2 : decide (8 < n) = false := by simp; omega
      go_enter Try.func27, Try.ntmps27
      go_wp2_with (go_at_call 34; refine (within_no _ _ _ _ _ _ (by omega) (by omega) (by omega) (by omega) (by omega) (by omega)).mono ?_; rintro e w' ⟨rfl, rfl⟩)
      go_ret2
      exact ⟨rfl, rfl⟩





/-- What Set is to answer. -/
def setRes (bs : List Int) (off v n : Int) : List Int := if 1 ≤ n ∧ n ≤ 8 ∧ off + n ≤ bs.length then setLe bs off.toNat v n.toNat else []
def setOk (bs : List Int) (off n : Int) : Bool := decide (1 ≤ n ∧ n ≤ 8 ∧ off + n ≤ bs.length)

theorem set_any (a : Option Addr) (len cap : Nat) (bs : List Int) (off v n : Int) (w : World) (r : Rd w a len cap bs) (ho : 0 ≤ off) (ho' : off ≤ 18446744073709551615) (hv : 0 ≤ v) (hv' : v ≤ 18446744073709551615) (hn : -9223372036854775808 ≤ n) (hn' : n ≤ 9223372036854775807) (hb : len ≤ 140737488355328) :
    Calls Try.prog 27 #[.slice a len cap, .int .u64 off, .int .u64 v, .int .i64 n] w fun e w' =>
      ∃ a' len' cap', e = .returned (.tuple #[.slice a' len' cap', .bool (setOk bs off n)]) ∧ Rd w' a' len' cap' (setRes bs off v n) ∧ Below w.heap.size w w' := by
  have hl := r.length
  have h1 := r.le
  have h2 := r.max
  by_cases h : 1 ≤ n ∧ n ≤ 8 ∧ off + n ≤ bs.length
  · have e1 : setRes bs off v n = setLe bs off.toNat v n.toNat := by unfold setRes; rw [if_pos h]
    have e2 : setOk bs off n = true := by unfold setOk; exact decide_eq_true h
    rw [e1, e2]
    refine (set_yes a len cap bs off v n w r ho hv hv' h.1 h.2.1 (by omega) hb).mono ?_
    rintro e w' ⟨he, hr, hbel⟩
    exact ⟨_, _, _, he, hr, hbel⟩
  · have e1 : setRes bs off v n = [] := by unfold setRes; rw [if_neg h]
    have e2 : setOk bs off n = false := by unfold setOk; exact decide_eq_false h
    rw [e1, e2]
    refine (set_no a len cap off v n w (by omega) ho ho' hn hn' (by omega)).mono ?_
    rintro e w' ⟨he, rfl⟩
    exact ⟨none, 0, 0, he, Rd.nothing _, Below.refl _ _⟩



end Go.Proofs.Ytijjkhigomkokaa
