/- Contracts of the statements' same and of the help Strings, where both sides are the same. -/
import Derived.Test.YtmmbahblnmhhmaaShdrMade
import Derived.Deep.QuietTactic
import Derived.BigQuiet
namespace Go.Proofs.Ytmmbahblnmhhmaa
open Go.RowKit
set_option linter.unusedVariables false
set_option linter.unusedSimpArgs false

theorem bel_drewS (w : World) (n : Nat) : Below w.heap.size w (w.drewN n) := ⟨rfl, rfl, rfl, Nat.le_refl _, fun _ _ => rfl⟩
theorem strq_yes (a : ByteArray) : (a.toList == a.toList) = true := by simp

set_option maxRecDepth 20000 in
theorem strs_eq (a : Option Addr) (len cap : Nat) (ns : List (List UInt8)) (a2 : Option Addr) (cap2 : Nat) (w : World) (r : Rs w a len cap ns) (r2 : Rs w a2 len cap2 ns) :
    Calls Try.prog 13 #[.slice a len cap, .slice a2 len cap2] w fun e w' => e = .returned (.bool true) ∧ Below w.heap.size w w' := by
  have hl := r.length
  have hle := r.le
  have hmx := r.max
  have HR := hide r
  have HR2 := hide r2
  clear r r2
  by_cases h0 : len = 0
  · subst h0
    go_enter Try.func13, Try.ntmps13
    go_wp2
    go_loopg [5] 0 (fun g kv wi => wi = w ∧ kv = .int .i64 0)
    case atStart => exact ⟨rfl, rfl⟩
    case round =>
      obtain ⟨rfl, rfl⟩ := hrel
      go_wp2
      go_ret
      exact ⟨rfl, Below.refl _ _⟩
  · obtain ⟨b, o, rfl, hc⟩ := HR.out.addr (by omega)
    obtain ⟨b2, o2, rfl, hc2⟩ := HR2.out.addr (by omega)
    clear hc hc2 h0
    go_enter Try.func13, Try.ntmps13
    go_wp2
    go_loopg [5] len (fun g kv wi => ∃ i : Nat, i ≤ len ∧ g = len - i ∧ kv = .int .i64 (i : Int) ∧ Hid (Below w.heap.size w wi))
    case atStart => exact ⟨0, by omega, by omega, rfl, Below.refl _ _⟩
    case round =>
      obtain ⟨i, hi, rfl, rfl, HB⟩ := hrel
      by_cases hlt : i < len
      · have r1 := HR.out.below HB.out
        have r2 := HR2.out.below HB.out
        obtain ⟨b', o', e, hc⟩ := r1.addr (by omega)
        cases e
        obtain ⟨b', o', e, hc2⟩ := r2.addr (by omega)
        cases e
        have hcell := hc i hlt
        have hcell2 := hc2 i hlt
        have hs := strq_yes (str (ns.getD i []))
        have hlt' : (i : Int) < (len : Int) := by omega
        have HB2 := hide (fun q => HB.out.trans ((bel_drewS wr q).mono HB.out.size))
        generalize str (ns.getD i []) = S at *
        clear HR HR2 r1 r2 hc hc2 HB
        go_upto_region 6 with fail
        go_quiet (fail)
        go_wp2
        go_roundg (len - (i + 1))
        case measure => omega
        case rel => exact ⟨i + 1, by omega, rfl, by go_num, HB2.out _⟩
      · go_wp2
        go_ret
        exact ⟨rfl, HB.out⟩

set_option maxHeartbeats 1600000 in
set_option maxRecDepth 20000 in
theorem same_eq (a : Option Addr) (len cap : Nat) (l : List Sh) (a2 : Option Addr) (cap2 : Nat) (w : World) (r : Rh w a len cap l) (r2 : Rh w a2 len cap2 l) :
    Calls Try.prog 12 #[.slice a len cap, .slice a2 len cap2] w fun e w' => e = .returned (.bool true) ∧ Below w.heap.size w w' := by
  have hl := r.length
  have hle := r.le
  have hmx := r.max
  have HR := hide r
  have HR2 := hide r2
  clear r r2
  by_cases h0 : len = 0
  · subst h0
    go_enter Try.func12, Try.ntmps12
    go_wp2
    go_loopg [5] 0 (fun g kv wi => wi = w ∧ kv = .int .i64 0)
    case atStart => exact ⟨rfl, rfl⟩
    case round =>
      obtain ⟨rfl, rfl⟩ := hrel
      go_wp2
      go_ret
      exact ⟨rfl, Below.refl _ _⟩
  · obtain ⟨b, o, rfl, hc⟩ := HR.out.addr (by omega)
    obtain ⟨b2, o2, rfl, hc2⟩ := HR2.out.addr (by omega)
    clear hc hc2 h0
    go_enter Try.func12, Try.ntmps12
    go_wp2
    go_loopg [5] len (fun g kv wi => ∃ i : Nat, i ≤ len ∧ g = len - i ∧ kv = .int .i64 (i : Int) ∧ Hid (Below w.heap.size w wi))
    case atStart => exact ⟨0, by omega, by omega, rfl, Below.refl _ _⟩
    case round =>
      obtain ⟨i, hi, rfl, rfl, HB⟩ := hrel
      by_cases hlt : i < len
      · have r1 := HR.out.below HB.out
        have r2 := HR2.out.below HB.out
        obtain ⟨b', o', e, hc⟩ := r1.addr (by omega)
        cases e
        obtain ⟨b', o', e, hc2⟩ := r2.addr (by omega)
        cases e
        obtain ⟨t, ht⟩ : ∃ t, l[i]? = some t := ⟨_, List.getElem?_eq_getElem (by omega)⟩
        obtain ⟨c0, c1, c2, c3, c4, c5, c6, c7, c8, c9⟩ := hc i t ht
        obtain ⟨d0, d1, d2, d3, d4, d5, d6, d7, d8, d9⟩ := hc2 i t ht
        have hlt' : (i : Int) < (len : Int) := by omega
        have HB2 := hide (fun q => HB.out.trans ((bel_drewS wr q).mono HB.out.size))
        clear HR HR2 r1 r2 hc hc2 HB ht
        go_upto_region 6 with fail
        go_quiet (fail)
        go_wp2
        go_roundg (len - (i + 1))
        case measure => omega
        case rel => exact ⟨i + 1, by omega, rfl, by go_num, HB2.out _⟩
      · go_wp2
        go_ret
        exact ⟨rfl, HB.out⟩

theorem place11_any (k n : Int) (hk : -9223372036854775808 ≤ k ∧ k ≤ 9223372036854775807) (hn : 1 ≤ n ∧ n ≤ 1000000) :
    ∃ z, (0 ≤ z ∧ z < n) ∧ ∀ w, Calls Try.prog 9 #[.int .i64 k, .int .i64 n] w fun e w' => e = .returned (.int .i64 z) ∧ w' = w := by
  have hb : -n < k.tmod n ∧ k.tmod n < n := ⟨by have e := Int.neg_tmod k n; have h2 := Int.tmod_lt_of_pos (-k) (show 0 < n by omega); omega, Int.tmod_lt_of_pos k (by omega)⟩
  obtain ⟨r, hr⟩ : ∃ r, k.tmod n = r := ⟨_, rfl⟩
  rw [hr] at hb
  have hk1 := hk.1
  have hk2 := hk.2
  have hn0 : ¬ n = 0 := by omega
  have hn1 := hn.1
  have hn2 := hn.2
  by_cases h0 : r < 0
  · refine ⟨r + n, by omega, fun w => ?_⟩
    go_enter Try.func9, Try.ntmps9
    go_wp2
    go_ret
    exact ⟨rfl, rfl⟩
  · refine ⟨r, by omega, fun w => ?_⟩
    have h0' : 0 ≤ r := by omega
    go_enter Try.func9, Try.ntmps9
    go_wp2
    go_ret
    exact ⟨rfl, rfl⟩

end Go.Proofs.Ytmmbahblnmhhmaa
