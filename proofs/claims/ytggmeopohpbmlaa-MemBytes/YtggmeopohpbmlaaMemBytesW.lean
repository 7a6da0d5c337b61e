/- The walk of MemBytes: what is written at any place, byte by byte or at once, is read and loaded so. -/
import Derived.Test.YtggmeopohpbmlaaMemBytesP
import Derived.Deep.LoopGhost
import Derived.Deep.QuietTactic
import Derived.BigQuiet
namespace Go.Proofs.Ytggmeopohpbmlaa
open Go.RowKit Go.Maps
set_option linter.unusedVariables false

theorem wrap_i64 {z : Int} (h0 : -9223372036854775808 ≤ z) (h1 : z ≤ 9223372036854775807) : IntKind.i64.wrap z = z := by simp [IntKind.wrap, IntKind.signed, IntKind.bits]; omega

set_option maxRecDepth 20000 in
set_option maxHeartbeats 3200000 in
theorem bytes_walk (a0 : Int) (a : Option Addr) (len cap : Nat) (bs : List Int) (w : World) (p0 : 0 ≤ a0 ∧ a0 ≤ 65535) (r : Rd w a len cap bs) :
    Calls Try.prog 6 #[.int .u16 a0, .slice a len cap] w fun e w' => e = .returned (.bool true) ∧ Below w.heap.size w w' := by
  have hle := r.le
  have hmx := r.max
  have hbl := r.length
  have HK := hide known_any
  have HR := hide r
  clear r
  by_cases h3 : 300 < len
  · have h3' : (300 : Int) < (len : Int) := by omega
    go_enter Try.func6, Try.ntmps6
    go_wp2_with fail
    refine (HK.out _).mono ?_
    rintro e W1 ⟨rfl, hB1⟩
    have HB1 := hide hB1
    clear hB1 HK
    go_wp2
    go_ret
    exact ⟨rfl, HB1.out⟩
  · obtain ⟨t, ht⟩ : ∃ t : Nat, a0 % 8200 = t := ⟨(a0 % 8200).toNat, by omega⟩
    have ht8 : t < 8200 := by omega
    go_enter Try.func6, Try.ntmps6
    go_wp2_with fail
    refine (HK.out _).mono ?_
    rintro e W1 ⟨rfl, hB1⟩
    have HB1 := hide hB1
    clear hB1 HK
    go_wp2_with fail
    refine (own_new w _ HB1.out).mono ?_
    rintro e W2 ⟨m, rfl, hO⟩
    have HO := hide hO
    clear hO HB1
    go_wp2_with fail
    refine (new_two HO.out).mono ?_
    rintro e W3 ⟨m2, rfl, hP⟩
    have HP := hide hP
    clear hP HO
    go_wp2_with fail
    refine (by_map (pm_lasts m2 _) HP.out).mono ?_
    rintro e W4 ⟨rfl, hP⟩
    have HP2 := hide hP.symm
    clear hP HP
    go_wp2_with fail
    refine (by_map (pm_lasts m _) HP2.out).mono ?_
    rintro e W5 ⟨rfl, hP⟩
    have HP := hide hP.symm
    clear hP HP2
    go_wp2_with fail
    refine (by_write (pm_lasts m2 _) HP.out t ht8 HR.out (by omega)).mono ?_
    rintro e W6 ⟨rfl, hP⟩
    have HP2 := hide hP
    clear hP HP
    go_wp2
    go_loopw [8] (fun i wr => ∃ j : Nat, j ≤ len ∧ i = .int .i64 (j : Int) ∧ Pair w wr (fun w F => PM w m (by0.lay t bs) F) (fun w F => PM w m2 (by0.lay t (bs.take j)) F)) (fun i _ => len - (intOf i).toNat)
    case atStart => exact ⟨0, by omega, rfl, by
      have h9 := HP2.out
      rw [List.take_zero, Mm.lay_nil]
      exact h9⟩
    case round =>
      obtain ⟨j, hj, rfl, hP⟩ := hrel
      have HP := hide hP
      have HB := hide hP.bel
      have HRw := hide (HR.out.below hP.bel)
      clear hP HP2
      by_cases hlt : j < len
      · obtain ⟨b, o, hae, hc⟩ := HRw.out.addr (by omega)
        have hcj := hc j hlt
        have hyb := HRw.out.bytes.at j
        obtain ⟨y, hy⟩ : ∃ y : Nat, (y : Int) = bs[j]?.getD 0 := ⟨(bs[j]?.getD 0).toNat, by omega⟩
        rw [List.getD_eq_getElem?_getD, ← hy] at hcj
        have hy256 : y < 256 := by omega
        have hor := or_ff y hy256
        have HY := hide hy
        clear hc hyb hy
        obtain ⟨A, hA⟩ : ∃ A : Nat, A = t + j := ⟨_, rfl⟩
        have hA' : (t : Int) + (j : Int) = (A : Int) := by omega
        have HA := hide hA
        clear hA
        subst hae
        go_wp2_with fail
        refine (by_store (pm_lasts m _) t j bs (by omega) HP.out.symm (by omega) ht8 ((y : Int) + 65280) (by omega) (by omega) (by rw [← HY.out]; omega) A HA.out).mono ?_
        rintro e W7 ⟨rfl, hP⟩
        have HP3 := hide hP.symm
        clear hP HP HRw HB
        go_wp2
        go_roundw
        case rel => exact ⟨j + 1, by omega, by go_num, HP3.out⟩
        case measure => simp [intOf]; omega
      · obtain rfl : j = len := by omega
        have HP3 : Hid (Pair w wr (fun w F => PM w m (by0.lay t bs) F) (fun w F => PM w m2 (by0.lay t bs) F)) := by
          have h9 := HP.out
          rwa [List.take_of_length_le (by omega)] at h9
        clear HP HB HRw
        go_wp2_with fail
        refine (by_read (pm_lasts m2 _) t bs HP3.out).mono ?_
        rintro e W8 ⟨⟨b1, l1, c1, rfl, hr1, _⟩, hP⟩
        have HP := hide hP.symm
        have HR1 := hide hr1
        clear hP hr1 HP3
        go_wp2_with fail
        refine (by_read (pm_lasts m _) t bs HP.out).mono ?_
        rintro e W9 ⟨⟨b2, l2, c2, rfl, hr2, hb2⟩, hP⟩
        have HP3 := hide hP.symm
        have hs1 := (HR1.out.below hb2).str
        have hs2 := hr2.str
        generalize strOfNums ((by0.lay t bs).read 0 12288) = X at hs1 hs2
        clear hP HP hr2 hb2 HR1
        go_wp2
        go_loopg [13] j (fun g iv wr => ∃ i : Nat, i ≤ j ∧ g = j - i ∧ iv = .int .i64 (i : Int) ∧ Hid (Pair w wr (fun w F => PM w m (by0.lay t bs) F) (fun w F => PM w m2 (by0.lay t bs) F)))
        case atStart => exact ⟨0, by omega, rfl, rfl, HP3.out⟩
        case round =>
          obtain ⟨i, hi, rfl, rfl, HPi⟩ := hrel
          clear HP3 hs1 hs2
          have HRw := hide (HR.out.below HPi.out.bel)
          by_cases hlt : i + 8 ≤ j
          · have hlt' : (i : Int) + 8 ≤ (j : Int) := by omega
            obtain ⟨b, o, hae, hc⟩ := HRw.out.addr (by omega)
            subst hae
            obtain ⟨A, hA⟩ : ∃ A : Nat, A = t + i := ⟨_, rfl⟩
            have hA' : (t : Int) + (i : Int) = (A : Int) := by omega
            have HA := hide hA
            have HC := hide hc
            clear hA hc HRw
            have hlb := (HR.out.bytes.drop i).take 8
            have hll : ((bs.drop i).take 8).length = 8 := by simp; omega
            have hle8 : ∀ k, k < 8 → ((bs.drop i).take 8)[k]?.getD 0 = bs[i + k]?.getD 0 := fun k hk => by simp [hk]
            have HBy := hide (fun k (hk : k < 8) => (byteOf_num ((bs.drop i).take 8) k hlb (by omega)).trans (hle8 k hk))
            have HNb := hide (And.intro (num_nonneg hlb) (num_lt_64 hlb (by omega)))
            have HLo := hide (by_load (pm_lasts m2 _) t i bs HPi.out (by omega) (by omega) ht8 A HA.out)
            clear hlb hll hle8
            generalize num ((bs.drop i).take 8) = v at *
            have hv0 := HNb.out.1
            have hv1 := HNb.out.2
            clear HNb
            go_wp2_with fail
            refine HLo.out.mono ?_
            rintro e W10 ⟨rfl, hP⟩
            have HP4 := hide hP
            have HC4 : Hid (∀ k, k < j → W10.cell? ⟨b, o + k, none⟩ = some (.int .u8 (bs.getD k 0))) := fun k hk => by
              have h9 := (HR.out.below hP.bel).addr (by omega)
              obtain ⟨b', o', he', hc'⟩ := h9
              cases he'
              exact hc' k hk
            clear hP HLo HC
            go_wp2
            go_loopg [15, 16] 8 (fun g gv kv wr => ∃ (k : Nat), k ≤ 8 ∧ g = 8 - k ∧ gv = .bool true ∧ kv = .int .i64 (k : Int) ∧ Hid (∀ k, k < j → wr.cell? ⟨b, o + k, none⟩ = some (.int .u8 (bs.getD k 0))) ∧ Hid (Pair w wr (fun w F => PM w m (by0.lay t bs) F) (fun w F => PM w m2 (by0.lay t bs) F)))
            case atStart => exact ⟨0, by omega, rfl, rfl, rfl, HC4.out, HP4.out⟩
            case round =>
              clear HC4 HP4
              obtain ⟨k, hk, rfl, rfl, rfl, HC4, HP4⟩ := hrel
              by_cases hk8 : k < 8
              · have hk8' : (k : Int) < 8 := by omega
                have hck : wr.cell? ⟨b, o + (i + k), none⟩ = some (.int .u8 (bs.getD (i + k) 0)) := HC4.out (i + k) (by omega)
                have hby := HBy.out k hk8
                obtain ⟨y, hy⟩ : ∃ y, y = bs[i + k]?.getD 0 := ⟨_, rfl⟩
                rw [List.getD_eq_getElem?_getD, ← hy] at hck
                rw [← hy] at hby
                have HBk := hide hby
                clear hy hby
                have q1 : IntKind.i64.wrap (8 * (k : Int)) = 8 * (k : Int) := wrap_i64 (by omega) (by omega)
                have q2 : IntKind.i64.wrap ((i : Int) + (k : Int)) = (i : Int) + (k : Int) := wrap_i64 (by omega) (by omega)
                have q3 : (i : Int) + (k : Int) < (j : Int) := by omega
                have q5 : ((i : Int) + (k : Int)).toNat = i + k := by omega
                have q4 : (0 : Int) ≤ (i : Int) + (k : Int) := by omega
                go_upto_region 27 with fail
                go_quiet (fail)
                have e9 : (v / 2 ^ (8 * k) % 256 == y) = true := by
                  have h9 := HBk.out
                  unfold byteOf at h9
                  rw [h9]; simp
                rw [e9]
                have HP5 : Hid (Pair w (wr.drewN nq) (fun w F => PM w m (by0.lay t bs) F) (fun w F => PM w m2 (by0.lay t bs) F)) := HP4.out.below (pm_lasts m _) (pm_lasts m2 _) ⟨rfl, rfl, rfl, Nat.le_refl _, fun _ _ => rfl⟩
                clear e9 HBk q1 q2
                go_wp2
                go_roundg (8 - (k + 1))
                case measure => omega
                case rel => exact ⟨k + 1, by omega, rfl, rfl, by go_num, HC4.out, HP5.out⟩
              · obtain rfl : k = 8 := by omega
                go_wp2
                go_roundg (j - (i + 8))
                case measure => omega
                case rel => exact ⟨i + 8, by omega, rfl, by go_num, HP4.out⟩
          · have hlt' : ¬ (i : Int) + 8 ≤ (j : Int) := by omega
            go_wp2
            go_ret
            exact ⟨rfl, HPi.out.bel⟩

end Go.Proofs.Ytggmeopohpbmlaa
