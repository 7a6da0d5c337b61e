/- The contract of the document's Put: the bytes, and behind them a number's lowest bytes; the slice that is handed in is full, or the call's own. -/
import Derived.Test.YtkllbcjbbfpccaaArg
import Derived.Deep.LoopGhost
import Derived.Deep.RegionWith
import Derived.Deep.QuietTactic
import Derived.BigQuiet
namespace Go.Proofs.Ytkllbcjbbfpccaa
open Go.RowKit
set_option linter.unusedVariables false

theorem ownsRow_mono {w : World} {B B2 : Nat} {e : TypeId} {size : Nat} {v : Value} {n : Nat} {xs : List Value} (h : w.ownsRow B2 e size v n xs) (hB : B ≤ B2) : w.ownsRow B e size v n xs := by
  refine ⟨h.1, ?_⟩
  rcases h.2 with h2 | ⟨g, cap, cur, h1, h2, h3⟩
  · exact .inl h2
  · exact .inr ⟨g, cap, cur, h1, Nat.le_trans hB h2, h3⟩

/-- A slice that may be appended to without a write to what was there in w0: it is full, or a row made since. -/
def Ext (w0 w : World) (v : Value) (n : Nat) (bs : List Int) : Prop :=
  Below w0.heap.size w0 w ∧ ((∃ a, v = .slice a n n ∧ Rd w0 a n n bs) ∨ (w.ownsRow w0.heap.size 5 1 v n (bs.map (Value.int .u8)) ∧ Bytes bs))

theorem Ext.rd {w0 w : World} {v : Value} {n : Nat} {bs : List Int} (h : Ext w0 w v n bs) : ∃ a c, v = .slice a n c ∧ Rd w a n c bs := by
  obtain ⟨hb, ⟨a, rfl, hr⟩ | ⟨ho, hby⟩⟩ := h
  · exact ⟨a, n, rfl, hr.below hb⟩
  · exact Rd.own ho hby

theorem rput_any (w0 : World) (v : Value) (len : Nat) (bs : List Int) (x n : Int) (w : World) (hext : Ext w0 w v len bs)
    (hx : 0 ≤ x) (hx' : x ≤ 18446744073709551615) (hn : 0 ≤ n) (h8 : n ≤ 8) (hb : len + n ≤ 140737488355328) :
    Calls Try.prog 17 #[v, .int .u64 x, .int .i64 n] w fun e w' =>
      ∃ v', e = .returned v' ∧ Ext w0 w' v' (len + n.toNat) (bs ++ bytesOf x n.toNat) := by
  obtain ⟨m, rfl⟩ := Int.eq_ofNat_of_zero_le hn
  rw [Int.toNat_natCast]
  obtain ⟨i0, hi, hz0, hz1, hz2⟩ := info_parts Try.info8
  have HO := hide hext
  clear hext
  go_enter Try.func17, Try.ntmps17
  go_wp2
  go_loopg [0, 7] m (fun g u i wr => ∃ k : Nat, k ≤ m ∧ g = m - k ∧ i = .int .i64 k ∧ Ext w0 wr u (len + k) (bs ++ bytesOf x k))
  case atStart => exact ⟨0, by omega, rfl, rfl, by simpa [bytesOf] using HO.out⟩
  case round =>
    obtain ⟨k, hk, rfl, rfl, hbel, hcase⟩ := hrel
    clear HO
    by_cases hlt : k < m
    · rcases hcase with ⟨a, rfl, hr⟩ | ⟨hown, hby⟩
      · have hsz := hbel.size
        have hr2 := hr.below hbel
        have hbl := hr.length
        have HB := hide hbel
        have HR := hide hr2
        have HBY := hide hr.bytes
        have HC : Hid (∀ (o : Obj) (y : Addr), a = some y → ∀ (j : Nat) (u : Value), ((bs ++ bytesOf x k).map (Value.int .u8))[j]? = some u → (wr.alloc o).cell? (y.add j) = some u) :=
          fun o y hy j u h => (hr2.below ((Below.refl _ _).alloc (Nat.le_refl _) o)).cells y hy j u h
        have HN : Hid (a = none → len + k = 0 ∧ len + k = 0) := fun h => ⟨hr.nil h, hr.nil h⟩
        clear hbel hr hr2
        go_wp2_with (at_builtin; refine wpList_append_grows _ rfl _ _ 22 rfl 5 i0 (.int .u8 0) 1 1 Try.underlying22 hi hz0 hz1 hz2 rfl (by decide) a (len + k) (len + k) ((bs ++ bytesOf x k).map (Value.int .u8)) rfl HN.out (by rw [List.length_map, hbl]; omega) (HC.out _) ⟨wr.heap.size, 0, none⟩ 1 1 [.int .u8 (byteOf x k)] rfl rfl ?c1 ?c2 (by omega) (by unfold maxLen; omega) (by omega) ?_)
        case c1 =>
          intro j u hj
          match j, hj with
          | 0, hj => simp at hj; subst hj; simp [Addr.add, byteOf]
        case c2 => intro u hu; simp at hu; subst hu; rfl
        intro v' w1 hown' hgrow
        have R : w1.ownsRow w0.heap.size 5 1 v' (len + (k + 1)) ((bs ++ bytesOf x (k + 1)).map (Value.int .u8)) := by
          rw [bytesOf_succ]
          have := ownsRow_mono (B := w0.heap.size) hown' (by first | omega | (simp; omega))
          simpa [Nat.add_assoc] using this
        have B : Below w0.heap.size w0 w1 := (HB.out.alloc hsz _).grown hgrow (by simp; omega) (fun j hj => by cases hj)
        have E : Hid (Ext w0 w1 v' (len + (k + 1)) (bs ++ bytesOf x (k + 1))) := ⟨B, .inr ⟨R, by rw [bytesOf_succ, ← List.append_assoc]; exact HBY.out.append (fun y hy => by simp at hy; rw [hy]; exact byteOf_bd x k)⟩⟩
        clear hown' hgrow HB HR HC HN HBY R B
        go_wp2
        go_roundg (m - (k + 1))
        case measure => omega
        case rel => exact ⟨k + 1, by omega, rfl, by go_num, E.out⟩
      · have hsz := hbel.size
        have HB := hide hbel
        have HO2 := hide hown
        have HLT := hide hown.lt
        have HBY := hide hby
        clear hbel hown hby
        go_wp2_with (at_builtin; refine wpList_append_own _ rfl _ _ 22 rfl w0.heap.size 5 i0 (.int .u8 0) 1 1 Try.underlying22 hi hz0 hz1 hz2 rfl (by decide) _ _ _ rfl (HO2.out.alloc _) ⟨wr.heap.size, 0, none⟩ 1 1 [.int .u8 (byteOf x k)] rfl rfl ?d1 ?d2 ?d3 ?d4 ?d5 ?_)
        case d1 =>
          intro j u hj
          match j, hj with
          | 0, hj => simp at hj; subst hj; simp [Addr.add, byteOf]
        case d2 => intro u hu; simp at hu; subst hu; rfl
        case d3 => unfold maxLen; omega
        case d4 => omega
        case d5 => simp; omega
        · intro v' w1 hown' hgrow _
          have R : w1.ownsRow w0.heap.size 5 1 v' (len + (k + 1)) ((bs ++ bytesOf x (k + 1)).map (Value.int .u8)) := by
            rw [bytesOf_succ]; simpa [Nat.add_assoc] using hown'
          have B : Below w0.heap.size w0 w1 := (HB.out.alloc hsz _).grown hgrow (by simp; omega) (fun j hj => (HLT.out j hj).1)
          have E : Hid (Ext w0 w1 v' (len + (k + 1)) (bs ++ bytesOf x (k + 1))) := ⟨B, .inr ⟨R, by rw [bytesOf_succ, ← List.append_assoc]; exact HBY.out.append (fun y hy => by simp at hy; rw [hy]; exact byteOf_bd x k)⟩⟩
          clear hown' hgrow HO2 HB HLT HBY R B
          go_wp2
          go_roundg (m - (k + 1))
          case measure => omega
          case rel => exact ⟨k + 1, by omega, rfl, by go_num, E.out⟩
    · obtain rfl : k = m := by omega
      have HE := hide (show Ext w0 wr _ (len + k) (bs ++ bytesOf x k) from ⟨hbel, hcase⟩)
      clear hbel hcase
      go_wp2
      go_ret
      exact ⟨_, rfl, HE.out⟩

end Go.Proofs.Ytkllbcjbbfpccaa
