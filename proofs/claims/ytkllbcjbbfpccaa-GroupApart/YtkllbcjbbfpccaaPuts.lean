/- Contracts of le.put and of le.Put16, le.Put32, le.Put64: the bytes, and behind them each number's lowest bytes, in a row of the call's own. -/
import Derived.Test.YtkllbcjbbfpccaaSets
namespace Go.Proofs.Ytkllbcjbbfpccaa
open Go.RowKit
set_option linter.unusedVariables false

theorem map_snoc (l : List Int) (x : Int) : l.map (Value.int .u8) ++ [.int .u8 x] = (l ++ [x]).map (Value.int .u8) := by simp

theorem put_any (base : Nat) (v : Value) (len : Nat) (bs : List Int) (x n : Int) (w : World) (hown : w.ownsRow base 5 1 v len (bs.map (Value.int .u8))) (hbase : base ≤ w.heap.size)
    (hx : 0 ≤ x) (hx' : x ≤ 18446744073709551615) (hn : 0 ≤ n) (h8 : n ≤ 8) (hb : len + n ≤ 140737488355328) :
    Calls Try.prog 22 #[v, .int .u64 x, .int .i64 n] w fun e w' =>
      ∃ v', e = .returned v' ∧ w'.ownsRow base 5 1 v' (len + n.toNat) ((bs ++ bytesOf x n.toNat).map (Value.int .u8)) ∧ Below base w w' := by
  obtain ⟨m, rfl⟩ := Int.eq_ofNat_of_zero_le hn
  rw [Int.toNat_natCast]
  obtain ⟨i0, hi, hz0, hz1, hz2⟩ := info_parts Try.info8
  have HO := hide hown
  clear hown
  go_enter Try.func22, Try.ntmps22
  go_wp2
  go_loopw [0, 9] (fun u i wr => ∃ k : Nat, k ≤ m ∧ i = .int .i64 k ∧ wr.ownsRow base 5 1 u (len + k) ((bs ++ bytesOf x k).map (Value.int .u8)) ∧ Below base w wr) (fun _ i _ => m - (intOf i).toNat)
  case atStart => exact ⟨0, Nat.zero_le _, rfl, by simpa [bytesOf] using HO.out, Below.refl _ _⟩
  case round =>
    obtain ⟨k, hk, rfl, hown2, hbel2⟩ := hrel
    clear HO
    by_cases hlt : k < m
    · have hsz := hbel2.size
      have HO2 := hide hown2
      have HB2 := hide hbel2
      have hown3 := hown2.lt
      clear hown2 hbel2
      have HLT := hide hown3
      clear hown3
      go_wp2_with (at_builtin; refine wpList_append_own _ rfl _ _ 22 rfl base 5 i0 (.int .u8 0) 1 1 Try.underlying22 hi hz0 hz1 hz2 rfl (by decide) _ _ _ rfl (HO2.out.alloc _) ⟨wr.heap.size, 0, none⟩ 1 1 [.int .u8 (byteOf x k)] rfl rfl ?c1 ?c2 ?c3 ?c4 ?c5 ?_)
      case c1 =>
        intro j u hj
        match j, hj with
        | 0, hj => simp at hj; subst hj; simp [Addr.add, byteOf]
      case c2 => intro u hu; simp at hu; subst hu; rfl
      case c3 => unfold maxLen; omega
      case c4 => omega
      case c5 => simp; omega
      · intro v' w1 hown' hgrow _
        have R : w1.ownsRow base 5 1 v' (len + (k + 1)) ((bs ++ bytesOf x (k + 1)).map (Value.int .u8)) := by
          rw [bytesOf_succ]; simpa [Nat.add_assoc] using hown'
        have B : Below base w w1 := (HB2.out.alloc (by omega) _).grown hgrow (by simp; omega) (fun j hj => (HLT.out j hj).1)
        have HR := hide R
        have HBB := hide B
        clear hown' hgrow HO2 HB2 HLT R B
        go_wp2
        go_roundw
        case rel => exact ⟨k + 1, by omega, by go_num, HR.out, HBB.out⟩
        case measure => simp [intOf]; omega
    · obtain rfl : k = m := by omega
      have HO2 := hide hown2
      have HB2 := hide hbel2
      clear hown2 hbel2
      go_wp2
      go_ret
      exact ⟨_, rfl, HO2.out, HB2.out⟩

/-- Numbers, each in n bytes, one behind another. -/
def flat (n : Nat) : List Int → List Int
  | [] => []
  | x :: r => bytesOf x n ++ flat n r
theorem flat_append (n : Nat) : ∀ l m : List Int, flat n (l ++ m) = flat n l ++ flat n m
  | [], m => rfl
  | x :: r, m => by simp [flat, flat_append n r m]
theorem flat_length (n : Nat) : ∀ l : List Int, (flat n l).length = l.length * n
  | [] => by simp [flat]
  | x :: r => by simp [flat, flat_length n r, bytesOf_length, Nat.add_mul]; omega
theorem flat_bytes (n : Nat) : ∀ l : List Int, Bytes (flat n l)
  | [] => Bytes.nil
  | x :: r => (bytesOf_bytes x n).append (flat_bytes n r)

theorem take_step (l : List Int) (k : Nat) (h : k < l.length) : l.take (k + 1) = l.take k ++ [l[k]?.getD 0] := take_snoc l k h
theorem flat_step (n : Nat) (bs xs : List Int) (k : Nat) (h : k < xs.length) : bs ++ flat n (xs.take k) ++ bytesOf (xs[k]?.getD 0) n = bs ++ flat n (xs.take (k + 1)) := by
  rw [take_snoc xs k h, flat_append]; simp [flat]



theorem put32_any (a : Option Addr) (len cap : Nat) (bs : List Int) (a2 : Option Addr) (len2 cap2 : Nat) (xs : List Int) (w : World) (r : Rd w a len cap bs) (r2 : Rn .u32 4294967295 w a2 len2 cap2 xs) (hb : len + 4 * len2 ≤ 140737488355328) :
    Calls Try.prog 16 #[.slice a len cap, .slice a2 len2 cap2] w fun e w' =>
      ∃ a' len' cap', e = .returned (.slice a' len' cap') ∧ Rd w' a' len' cap' (bs ++ flat 4 xs) ∧ Below w.heap.size w w' := by
  have hl2 := r2.length
  have hle2 := r2.le
  have hmx2 := r2.max
  have hby := r.bytes
  have hk : Calls Try.prog 21 #[.slice a len cap, .int .i64 (4 * (len2 : Int))] w fun e w' =>
      e = .returned (.slice (some ⟨w.heap.size, 0, none⟩) len (len + (4 * (len2 : Int)).toNat)) ∧ Hid (w'.ownsRow w.heap.size 5 1 (.slice (some ⟨w.heap.size, 0, none⟩) len (len + (4 * (len2 : Int)).toNat)) len (bs.map (Value.int .u8))) ∧ Hid (Below w.heap.size w w') :=
    room_any a len cap bs (4 * (len2 : Int)) w r (by omega) (by omega)
  have HK := hide hk
  have HR2 := hide r2
  clear hk r r2
  go_enter Try.func16, Try.ntmps16
  go_wp2_with (go_at_call 21; refine HK.out.mono ?_; rintro e w2 ⟨rfl, hown, hbel⟩)
  go_loopw [5, 15] (fun u i wr => ∃ k : Nat, k ≤ len2 ∧ i = .int .i64 k ∧ wr.ownsRow w.heap.size 5 1 u (len + 4 * k) ((bs ++ flat 4 (xs.take k)).map (Value.int .u8)) ∧ Below w.heap.size w wr) (fun _ i _ => len2 - (intOf i).toNat)
  case atStart => exact ⟨0, Nat.zero_le _, rfl, by simpa [flat] using hown.out, hbel.out⟩
  case round =>
    obtain ⟨k, hk, rfl, hown2, hbel2⟩ := hrel
    clear hown hbel HK
    by_cases hlt : k < len2
    · obtain ⟨b, o, rfl, hc⟩ := HR2.out.addr (by omega)
      have hc1 := hc k hlt
      have hcell := (hbel2.cell (World.block_lt_of_cell? w _ hc1)).trans hc1
      have hfit := HR2.out.at k
      obtain ⟨y, hy⟩ : ∃ y, y = xs[k]?.getD 0 := ⟨_, rfl⟩
      have hcy : wr.cell? ⟨b, o + k, none⟩ = some (.int .u32 y) := by rw [hy]; exact hcell
      rw [← hy] at hfit
      have HY := hide hy
      clear hy hcell
      have hsz := hbel2.size
      have HO2 := hide hown2
      have HB2 := hide hbel2
      clear hown2 hbel2 hc1 hc
      go_wp2_with (go_at_call 22; refine (put_any w.heap.size _ (len + 4 * k) (bs ++ flat 4 (xs.take k)) y 4 _ HO2.out (by omega) (by omega) (by omega) (by omega) (by omega) (by omega)).mono ?_; rintro e w3 ⟨v', rfl, hown3, hbel3⟩)
      have R : Hid (w3.ownsRow w.heap.size 5 1 v' (len + 4 * (k + 1)) ((bs ++ flat 4 (xs.take (k + 1))).map (Value.int .u8))) := by
        rw [← flat_step 4 bs xs k (by omega), ← HY.out]
        exact hown3
      go_roundw
      case rel => exact ⟨k + 1, by omega, by go_num, R.out, HB2.out.trans hbel3⟩
      case measure => simp [intOf]; omega
    · obtain rfl : k = len2 := by omega
      have hr := Rd.own hown2 (hby.append (flat_bytes 4 _))
      rw [List.take_of_length_le (by omega)] at hr
      obtain ⟨a', c', hv, hr⟩ := hr
      have HR := hide hr
      have HB2 := hide hbel2
      clear hown2 hbel2 hr
      rw [hv]
      clear hv
      go_wp2
      go_ret
      exact ⟨_, _, _, rfl, HR.out, HB2.out⟩



end Go.Proofs.Ytkllbcjbbfpccaa
