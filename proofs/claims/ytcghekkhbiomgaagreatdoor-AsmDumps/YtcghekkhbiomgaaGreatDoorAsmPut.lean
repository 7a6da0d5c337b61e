/- The contract of the document's Put at four bytes: a word's bytes behind a row of the caller's own; rows of another kind are kept. -/
import Derived.Test.YtcghekkhbiomgaaGreatDoorAsmTrip
import Derived.Lib.OwnKind
namespace Go.Proofs.YtcghekkhbiomgaaGreatDoor
open Go.RowKit
set_option linter.unusedVariables false
set_option maxRecDepth 100000
set_option linter.unusedSimpArgs false

/-- A row is kept while a row of another kind grows. -/
theorem other_kept {w w' : World} {B1 B2 : Nat} {e1 e2 : TypeId} {v1 v2 : Value} {n1 n2 : Nat} {xs1 xs2 : List Value} (h1 : w.ownsRow B1 e1 1 v1 n1 xs1) (h2 : w.ownsRow B2 e2 1 v2 n2 xs2) (hne : e1 ≠ e2) (g : w.grownBy w' v1.ownBlock) : w'.ownsRow B2 e2 1 v2 n2 xs2 :=
  h2.kept g (by
    cases hv : v2.ownBlock with
    | none => exact .inl rfl
    | some b =>
      refine .inr fun e => ?_
      obtain ⟨c1, f1, q1⟩ := Lib.ownsRow_kind h1 b e.symm
      obtain ⟨c2, f2, q2⟩ := Lib.ownsRow_kind h2 b hv
      rw [q1] at q2
      simp at q2
      exact hne q2.2.1)

def b4k (x : Int) (k : Nat) : Int := x / 2 ^ (8 * k) % 256
theorem b4_take (x : Int) (k : Nat) (hk : k < 4) : (b4 x).take (k + 1) = (b4 x).take k ++ [b4k x k] := by
  match k, hk with
  | 0, _ => simp [b4, b4k]
  | 1, _ => simp [b4, b4k]
  | 2, _ => simp [b4, b4k]
  | 3, _ => simp [b4, b4k]

set_option maxHeartbeats 12800000 in
theorem rput4 (B : Nat) (v : Value) (len : Nat) (bs : List Int) (x : Int) (w : World) (hO : w.ownsRow B 5 1 v len (bs.map (Value.int .u8))) (hB : B ≤ w.heap.size)
    (hx : 0 ≤ x) (hx' : x ≤ 4294967295) (hl : len ≤ 1000000) :
    Calls Tryz.prog 18 #[v, .int .u64 x, .int .i64 4] w fun e w' =>
      ∃ v', e = .returned v' ∧ w'.ownsRow B 5 1 v' (len + 4) ((bs ++ b4 x).map (Value.int .u8)) ∧ Below B w w' ∧ ∀ u n xs, w.ownsRow B 24 1 u n xs → w'.ownsRow B 24 1 u n xs := by
  obtain ⟨i0, hi, hz0, hz1, hz2⟩ := info_parts infoByte
  have HO := hide hO
  have HTk := hide (fun k hk => b4_take x k hk)
  have HE : Hid ((b4 x).take 4 = b4 x) := hide rfl
  clear hO
  go_enter Tryz.func18, Tryz.ntmps18
  go_wp2
  go_loopg [0, 7] 4 (fun g u i wr => ∃ (k : Nat) (u0 : Value), k ≤ 4 ∧ g = 4 - k ∧ u0 = u ∧ i = .int .i64 k ∧ Hid (wr.ownsRow B 5 1 u0 (len + k) ((bs ++ (b4 x).take k).map (Value.int .u8))) ∧ Hid (Below B w wr) ∧ Hid (∀ u n xs, w.ownsRow B 24 1 u n xs → wr.ownsRow B 24 1 u n xs))
  case atStart => exact ⟨0, _, by omega, rfl, rfl, rfl, by rw [List.take_zero, List.append_nil]; exact HO.out, Below.refl _ _, fun _ _ _ h => h⟩
  case round =>
    obtain ⟨k, u0, hk, rfl, rfl, rfl, HO2, HB, HU⟩ := hrel
    clear HO
    by_cases hlt : k < 4
    · have hlt' : (k : Int) < 4 := by omega
      have hsz : B ≤ wr.heap.size := Nat.le_trans hB HB.out.size
      have HLT := hide HO2.out.lt
      go_wp2_with (at_builtin; refine wpList_append_own _ rfl _ _ 35 rfl B 5 i0 (.int .u8 0) 1 1 Tryz.underlying35 hi hz0 hz1 hz2 rfl (by decide) _ _ _ rfl (HO2.out.alloc _) ⟨wr.heap.size, 0, none⟩ 1 1 [.int .u8 (b4k x k)] rfl rfl ?d1 ?d2 ?d3 ?d4 ?d5 ?_)
      case d1 =>
        intro j u hj
        match j, hj with
        | 0, hj => simp at hj; subst hj; simp [Addr.add, b4k]
      case d2 => intro u hu; simp at hu; subst hu; rfl
      case d3 => unfold maxLen; omega
      case d4 => omega
      case d5 => simp; omega
      · intro v' w1 hown' hgrow _
        have R : Hid (w1.ownsRow B 5 1 v' (len + (k + 1)) ((bs ++ (b4 x).take (k + 1)).map (Value.int .u8))) := by
          rw [HTk.out k hlt]; simpa [Nat.add_assoc] using hide hown'
        have B1 : Hid (Below B w w1) := hide ((HB.out.alloc hsz _).grown hgrow (by simp; omega) (fun j hj => (HLT.out j hj).1))
        have U1 : Hid (∀ u n xs, w.ownsRow B 24 1 u n xs → w1.ownsRow B 24 1 u n xs) := hide (fun u n xs h => other_kept (HO2.out.alloc _) ((HU.out u n xs h).alloc _) (by decide) hgrow)
        clear hown' hgrow HO2 HB HLT HU
        go_wp2
        go_roundg (4 - (k + 1))
        case measure => omega
        case rel => exact ⟨k + 1, v', by omega, rfl, rfl, by go_num, R.out, B1.out, U1.out⟩
    · obtain rfl : k = 4 := by omega
      go_wp2
      go_ret
      exact ⟨_, rfl, by have := HO2.out; rwa [HE.out] at this, HB.out, HU.out⟩

end Go.Proofs.YtcghekkhbiomgaaGreatDoor
