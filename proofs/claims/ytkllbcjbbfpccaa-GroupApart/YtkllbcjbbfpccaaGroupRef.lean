/- The contract of the document's GroupBytes: a row of the call's own that holds the group's bytes. -/
import Derived.Test.YtkllbcjbbfpccaaGroupOne
import Derived.Test.YtkllbcjbbfpccaaRputKeep
import Derived.Deep.LoopGhost
namespace Go.Proofs.Ytkllbcjbbfpccaa
open Go.RowKit
set_option linter.unusedVariables false
set_option linter.unusedSimpArgs false

/-- The bytes so far; what came in stays. -/
structure PG (w W : World) (v : Value) (len : Nat) (bs : List Int) : Prop where
  bel : Below w.heap.size w W
  own : W.ownsRow w.heap.size 5 1 v len (bs.map (Value.int .u8))
theorem pg_put {w W : World} {v : Value} {len : Nat} {bs : List Int} (h : PG w W v len bs) (y : Int) (k : Nat) (hy : 0 ≤ y) (hy' : y ≤ 18446744073709551615) (hk : k ≤ 8) (hl : len ≤ 100000000) :
    Calls Try.prog 17 #[v, .int .u64 y, .int .i64 k] W fun e w' => ∃ v', e = .returned v' ∧ PG w w' v' (len + k) (bs ++ bytesOf y k) := by
  refine (rput_keep w.heap.size v len bs y k W h.own h.bel.size hy hy' (by omega) (by omega) (by omega)).mono ?_
  rintro e w' ⟨v', rfl, ho, hb, ht⟩
  rw [Int.toNat_natCast] at ho
  exact ⟨v', rfl, h.bel.trans hb, ho⟩

set_option maxHeartbeats 6400000 in
set_option maxRecDepth 20000 in
theorem rgrb_any (a : Option Addr) (n cap : Nat) (l : List Int) (w : World) (r : Ri w a n cap l) (hn : n ≤ 1000000) :
    Calls Try.prog 9 #[.slice a n cap] w fun e w' => ∃ v', e = .returned v' ∧ w'.ownsRow w.heap.size 5 1 v' (4 + n * 4) ((grL l).map (Value.int .u8)) ∧ Below w.heap.size w w' := by
  have hl := r.length
  have hle := r.row.le
  have hmx := r.row.max
  have HF := hide r.fit
  have HR := hide r
  clear r
  have O0 : Hid (PG w w (.slice none 0 0) 0 []) := ⟨Below.refl _ _, World.ownsRow_nil _ _ _ _⟩
  go_enter Try.func9, Try.ntmps9
  go_upto_region 2 with (go_at_call 17; refine (pg_put O0.out 1 4 (by omega) (by omega) (by decide) (by omega)).mono ?_; rintro e W1 ⟨v1, rfl, h1⟩; have O1 := hide h1; clear h1 O0)
  go_wp2
  go_loopg [3, 4] n (fun gg v i wr => ∃ k : Nat, k ≤ n ∧ gg = n - k ∧ i = .int .i64 (k : Int) ∧ Hid (PG w wr v (4 + k * 4) (grL (l.take k))))
  case atStart => exact ⟨0, by omega, rfl, rfl, O1⟩
  case round =>
    obtain ⟨k, hk, rfl, rfl, O⟩ := hrel
    clear O1
    by_cases hlt : k < n
    · have hlt' : (k : Int) < (n : Int) := by omega
      obtain ⟨t, ht⟩ : ∃ t, l[k]? = some t := ⟨_, List.getElem?_eq_getElem (by omega)⟩
      have htf := HF.out t (List.mem_of_getElem? ht)
      obtain ⟨b2, o2, rfl, hc⟩ := Ri.addr (HR.out.below O.out.bel) (by omega)
      have c0 := hc k t ht
      obtain ⟨p, hp⟩ : ∃ p, t % 18446744073709551616 = p := ⟨_, rfl⟩
      have x0 : IntKind.u64.wrap t = p := by rw [IntKind.wrap_u64]; exact hp
      have hp1 : 0 ≤ p ∧ p < 18446744073709551616 := by omega
      have HE : Hid (grL (l.take k) ++ bytesOf p 4 = grL (l.take (k + 1))) := by
        show grL (l.take k) ++ bytesOf p 4 = grL (l.take (k + 1))
        rw [grL_take l k (by omega), ht, ← hp, bytesOf_low64]
        rfl
      clear hc ht hp
      obtain ⟨q, hq⟩ : ∃ q, 4 + k * 4 = q := ⟨_, rfl⟩
      rw [hq] at O
      have HQ := hide hq
      have hq1 : q ≤ 5000000 := by omega
      clear hq
      go_upto_region 4 with (go_at_call 17; refine (pg_put O.out p 4 (by omega) (by omega) (by decide) (by omega)).mono ?_; rintro e W4 ⟨v4, rfl, h4⟩; have H4 := hide h4; clear h4 O)
      have N2 : Hid (PG w W4 v4 (4 + (k + 1) * 4) (grL (l.take (k + 1)))) := by
        have h := H4.out
        rw [HE.out] at h
        rw [show 4 + (k + 1) * 4 = q + 4 by have := HQ.out; omega]
        exact h
      clear H4 HQ HE c0
      go_wp2
      go_roundg (n - (k + 1))
      case measure => omega
      case rel => exact ⟨k + 1, by omega, rfl, by go_num, N2⟩
    · obtain rfl : k = n := by omega
      have hrow := O.out
      rw [List.take_of_length_le (by omega)] at hrow
      have O9 := hide hrow
      clear hrow O
      go_wp2
      go_ret
      exact ⟨_, rfl, O9.out.own, O9.out.bel⟩

end Go.Proofs.Ytkllbcjbbfpccaa
