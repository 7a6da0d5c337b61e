/- The document's Put behind a row of the call's own: blocks of another kind than bytes stay. -/
import Derived.Test.YtkllbcjbbfpccaaRput
import Derived.Lib.OwnKind
import Derived.Deep.LoopGhost
namespace Go.Proofs.Ytkllbcjbbfpccaa
open Go.RowKit
set_option linter.unusedVariables false
set_option linter.unusedSimpArgs false

/-- Blocks of another kind than bytes stay. -/
def Oth (w w' : World) : Prop := ∀ (X : Nat) (cs : Array Value) (t : TypeId) (fr : Nat × Nat), t ≠ 5 → w.heap[X]? = some (.cells cs t fr) → w'.heap[X]? = some (.cells cs t fr)
theorem Oth.refl (w : World) : Oth w w := fun _ _ _ _ _ h => h
theorem Oth.trans {a b c : World} (h : Oth a b) (k : Oth b c) : Oth a c := fun X cs t fr ht hx => k X cs t fr ht (h X cs t fr ht hx)
theorem Oth.below {w w' : World} (h : Below w.heap.size w w') : Oth w w' := fun X cs t fr ht hx => (h.block X (Array.getElem?_eq_some_iff.1 hx).1).trans hx
theorem Oth.grown {w w' : World} {B : Nat} {v : Value} {n : Nat} {xs : List Value} (h : w.ownsRow B 5 1 v n xs) (g : w.grownBy w' v.ownBlock) : Oth w w' := fun X cs t fr ht hx => by
  refine (g.block X (Array.getElem?_eq_some_iff.1 hx).1 (fun e => ?_)).trans hx
  obtain ⟨c1, f1, q1⟩ := Lib.ownsRow_kind h X e.symm
  rw [hx] at q1
  simp at q1
  exact ht q1.2.1

/-- The document's Put behind a row made since B, or behind none; blocks of another kind stay. -/
theorem rput_keep (B : Nat) (v : Value) (len : Nat) (bs : List Int) (x n : Int) (w : World) (hO : w.ownsRow B 5 1 v len (bs.map (Value.int .u8))) (hB : B ≤ w.heap.size)
    (hx : 0 ≤ x) (hx' : x ≤ 18446744073709551615) (hn : 0 ≤ n) (h8 : n ≤ 8) (hb : len + n ≤ 140737488355328) :
    Calls Try.prog 17 #[v, .int .u64 x, .int .i64 n] w fun e w' =>
      ∃ v', e = .returned v' ∧ w'.ownsRow B 5 1 v' (len + n.toNat) ((bs ++ bytesOf x n.toNat).map (Value.int .u8)) ∧ Below B w w' ∧ Oth w w' := by
  obtain ⟨m, rfl⟩ := Int.eq_ofNat_of_zero_le hn
  rw [Int.toNat_natCast]
  obtain ⟨i0, hi, hz0, hz1, hz2⟩ := info_parts Try.info8
  have HO := hide hO
  clear hO
  go_enter Try.func17, Try.ntmps17
  go_wp2
  go_loopg [0, 7] m (fun g u i wr => ∃ k : Nat, k ≤ m ∧ g = m - k ∧ i = .int .i64 k ∧ wr.ownsRow B 5 1 u (len + k) ((bs ++ bytesOf x k).map (Value.int .u8)) ∧ Below B w wr ∧ Hid (Oth w wr))
  case atStart => exact ⟨0, by omega, rfl, rfl, by simpa [bytesOf] using HO.out, Below.refl _ _, Oth.refl _⟩
  case round =>
    obtain ⟨k, hk, rfl, rfl, hown, hbel, HT⟩ := hrel
    clear HO
    by_cases hlt : k < m
    · have hsz : B ≤ wr.heap.size := Nat.le_trans hB hbel.size
      have HB := hide hbel
      have HO2 := hide hown
      have HLT := hide hown.lt
      clear hbel hown
      go_wp2_with (at_builtin; refine wpList_append_own _ rfl _ _ 22 rfl B 5 i0 (.int .u8 0) 1 1 Try.underlying22 hi hz0 hz1 hz2 rfl (by decide) _ _ _ rfl (HO2.out.alloc _) ⟨wr.heap.size, 0, none⟩ 1 1 [.int .u8 (byteOf x k)] rfl rfl ?d1 ?d2 ?d3 ?d4 ?d5 ?_)
      case d1 =>
        intro j u hj
        match j, hj with
        | 0, hj => simp at hj; subst hj; simp [Addr.add, byteOf]
      case d2 => intro u hu; simp at hu; subst hu; rfl
      case d3 => unfold maxLen; omega
      case d4 => omega
      case d5 => simp; omega
      · intro v' w1 hown' hgrow _
        have R : Hid (w1.ownsRow B 5 1 v' (len + (k + 1)) ((bs ++ bytesOf x (k + 1)).map (Value.int .u8))) := by
          rw [bytesOf_succ]; simpa [Nat.add_assoc] using hide hown'
        have E : Hid (Below B w w1) := (HB.out.alloc hsz _).grown hgrow (by simp; omega) (fun j hj => (HLT.out j hj).1)
        have T : Hid (Oth w w1) := (HT.out.trans (Oth.below ((Below.refl _ _).alloc (Nat.le_refl _) _))).trans (Oth.grown (HO2.out.alloc _) hgrow)
        clear hown' hgrow HO2 HB HLT HT
        go_wp2
        go_roundg (m - (k + 1))
        case measure => omega
        case rel => exact ⟨k + 1, by omega, rfl, by go_num, R.out, E.out, T⟩
    · obtain rfl : k = m := by omega
      have HE := hide hown
      have HB := hide hbel
      clear hbel hown
      go_wp2
      go_ret
      exact ⟨_, rfl, HE.out, HB.out, HT.out⟩

end Go.Proofs.Ytkllbcjbbfpccaa
