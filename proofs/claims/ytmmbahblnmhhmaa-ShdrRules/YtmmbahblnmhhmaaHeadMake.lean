/- Contracts of head.Bytes and of the document's HeadBytes: a row of the call's own that holds a head's bytes. -/
import Derived.Test.YtmmbahblnmhhmaaHeadOwn
import Derived.Lib.SlBytesConst
namespace Go.Proofs.Ytmmbahblnmhhmaa
open Go.RowKit
set_option linter.unusedVariables false
set_option linter.unusedSimpArgs false

/-- The document's Put behind a slice that is full, or the call's own: the call's own. -/
theorem rput_new (w0 : World) (v : Value) (len : Nat) (bs : List Int) (x n : Int) (w : World) (hext : Ext w0 w v len bs)
    (hx : 0 ≤ x) (hx' : x ≤ 18446744073709551615) (hn : 1 ≤ n) (h8 : n ≤ 8) (hb : len + n ≤ 140737488355328) :
    Calls Try.prog 30 #[v, .int .u64 x, .int .i64 n] w fun e w' =>
      ∃ v', e = .returned v' ∧ w'.ownsRow w0.heap.size 5 1 v' (len + n.toNat) ((bs ++ bytesOf x n.toNat).map (Value.int .u8)) ∧ Below w0.heap.size w0 w' := by
  obtain ⟨m, rfl⟩ := Int.eq_ofNat_of_zero_le (show 0 ≤ n by omega)
  have hm1 : 0 < m := by omega
  rw [Int.toNat_natCast]
  obtain ⟨i0, hi, hz0, hz1, hz2⟩ := info_parts Try.info8
  have HO := hide hext
  clear hext
  go_enter Try.func30, Try.ntmps30
  go_wp2
  go_loopg [0, 7] m (fun g u i wr => ∃ k : Nat, k ≤ m ∧ g = m - k ∧ i = .int .i64 k ∧ Ext w0 wr u (len + k) (bs ++ bytesOf x k) ∧ (0 < k → wr.ownsRow w0.heap.size 5 1 u (len + k) ((bs ++ bytesOf x k).map (Value.int .u8))))
  case atStart => exact ⟨0, by omega, rfl, rfl, by simpa [bytesOf] using HO.out, fun h => absurd h (by omega)⟩
  case round =>
    obtain ⟨k, hk, rfl, rfl, ⟨hbel, hcase⟩, hlast⟩ := hrel
    clear HO
    by_cases hlt : k < m
    · clear hlast
      rcases hcase with ⟨a, rfl, hr⟩ | ⟨hown, hby⟩
      · have hsz := hbel.size
        have hr2 := hr.below hbel
        have hbl := hr.length
        have HB := hide hbel
        have HR := hide hr2
        have HBY := hide hr.bytes
        have HC : Hid (∀ (o : Obj) (y : Addr), a = some y → ∀ (j : Nat) (u : Value), ((bs ++ bytesOf x k).map (Value.int .u8))[j]? = some u → (wr.alloc o).cell? (y.add j) = some u) :=
          fun o y hy j u h => (hr2.below ((Below.refl _ _).alloc (Nat.le_refl _) o)).cells y hy j u h
        have HN : Hid (a = none → len + k = 0 ∧ len + k = 0) := fun h => ⟨hr.nil h, hr.nil h⟩
        clear hbel hr hr2
        go_wp2_with (at_builtin; refine wpList_append_grows _ rfl _ _ 25 rfl 5 i0 (.int .u8 0) 1 1 Try.underlying25 hi hz0 hz1 hz2 rfl (by decide) a (len + k) (len + k) ((bs ++ bytesOf x k).map (Value.int .u8)) rfl HN.out (by rw [List.length_map, hbl]; omega) (HC.out _) ⟨wr.heap.size, 0, none⟩ 1 1 [.int .u8 (byteOf x k)] rfl rfl ?c1 ?c2 (by omega) (by unfold maxLen; omega) (by omega) ?_)
        case c1 =>
          intro j u hj
          match j, hj with
          | 0, hj => simp at hj; subst hj; simp [Addr.add, byteOf]
        case c2 => intro u hu; simp at hu; subst hu; rfl
        intro v' w1 hown' hgrow
        have R : w1.ownsRow w0.heap.size 5 1 v' (len + (k + 1)) ((bs ++ bytesOf x (k + 1)).map (Value.int .u8)) := by
          rw [bytesOf_succ]
          have := ownsRow_mono (B := w0.heap.size) hown' (by first | omega | (simp; omega))
          simpa [Nat.add_assoc] using this
        have B : Below w0.heap.size w0 w1 := (HB.out.alloc hsz _).grown hgrow (by simp; omega) (fun j hj => by cases hj)
        have E : Hid (Ext w0 w1 v' (len + (k + 1)) (bs ++ bytesOf x (k + 1))) := ⟨B, .inr ⟨R, by rw [bytesOf_succ, ← List.append_assoc]; exact HBY.out.append (fun y hy => by simp at hy; rw [hy]; exact byteOf_bd x k)⟩⟩
        have R' := hide R
        clear hown' hgrow HB HR HC HN HBY R B
        go_wp2
        go_roundg (m - (k + 1))
        case measure => omega
        case rel => exact ⟨k + 1, by omega, rfl, by go_num, E.out, fun _ => R'.out⟩
      · have hsz := hbel.size
        have HB := hide hbel
        have HO2 := hide hown
        have HLT := hide hown.lt
        have HBY := hide hby
        clear hbel hown hby
        go_wp2_with (at_builtin; refine wpList_append_own _ rfl _ _ 25 rfl w0.heap.size 5 i0 (.int .u8 0) 1 1 Try.underlying25 hi hz0 hz1 hz2 rfl (by decide) _ _ _ rfl (HO2.out.alloc _) ⟨wr.heap.size, 0, none⟩ 1 1 [.int .u8 (byteOf x k)] rfl rfl ?d1 ?d2 ?d3 ?d4 ?d5 ?_)
        case d1 =>
          intro j u hj
          match j, hj with
          | 0, hj => simp at hj; subst hj; simp [Addr.add, byteOf]
        case d2 => intro u hu; simp at hu; subst hu; rfl
        case d3 => unfold maxLen; omega
        case d4 => omega
        case d5 => simp; omega
        · intro v' w1 hown' hgrow _
          have R : w1.ownsRow w0.heap.size 5 1 v' (len + (k + 1)) ((bs ++ bytesOf x (k + 1)).map (Value.int .u8)) := by
            rw [bytesOf_succ]; simpa [Nat.add_assoc] using hown'
          have B : Below w0.heap.size w0 w1 := (HB.out.alloc hsz _).grown hgrow (by simp; omega) (fun j hj => (HLT.out j hj).1)
          have E : Hid (Ext w0 w1 v' (len + (k + 1)) (bs ++ bytesOf x (k + 1))) := ⟨B, .inr ⟨R, by rw [bytesOf_succ, ← List.append_assoc]; exact HBY.out.append (fun y hy => by simp at hy; rw [hy]; exact byteOf_bd x k)⟩⟩
          have R' := hide R
          clear hown' hgrow HO2 HB HLT HBY R B
          go_wp2
          go_roundg (m - (k + 1))
          case measure => omega
          case rel => exact ⟨k + 1, by omega, rfl, by go_num, E.out, fun _ => R'.out⟩
    · obtain rfl : k = m := by omega
      have HE := hide (hlast hm1)
      have HB := hide hbel
      clear hbel hcase hlast
      go_wp2
      go_ret
      exact ⟨_, rfl, HE.out, HB.out⟩


/-- Bytes written out in the text. -/
theorem Rd.litm {w : World} {X : Nat} {t : TypeId} {fr : Nat × Nat} (xs : List Int) (h : w.heap[X]? = some (.cells (xs.map (Value.int .u8)).toArray t fr)) (hf : Bytes xs) (hl : xs.length ≤ 9223372036854775807) : Rd w (some ⟨X, 0, none⟩) xs.length xs.length xs := by
  refine ⟨rfl, Nat.le_refl _, hl, hf, (fun h => by cases h), fun x hx i hi => ?_⟩
  cases hx
  have e : (⟨X, 0, none⟩ : Addr).add i = ⟨X, i, none⟩ := by unfold Addr.add; split <;> simp_all
  rw [e, cell_of_row _ _ i _ t fr h]
  simp [hi]

/-- A head as a value, and as three cells. -/
def hdV (o n x : Int) : Value := .agg #[.int .u64 o, .int .i64 n, .int .i64 x]
structure HdAt (w : World) (b : Nat) (o n x : Int) : Prop where
  o : w.cell? ⟨b, 0, none⟩ = some (.int .u64 o)
  n : w.cell? ⟨b, 1, none⟩ = some (.int .i64 n)
  x : w.cell? ⟨b, 2, none⟩ = some (.int .i64 x)
theorem HdAt.new (w : World) (t : TypeId) (o n x : Int) : HdAt (w.alloc (.cells #[.int .u64 o, .int .i64 n, .int .i64 x] t)) w.heap.size o n x :=
  ⟨by rw [cell_of_row _ _ 0 _ t (0, 0) (heap_alloc_new w _)]; rfl, by rw [cell_of_row _ _ 1 _ t (0, 0) (heap_alloc_new w _)]; rfl, by rw [cell_of_row _ _ 2 _ t (0, 0) (heap_alloc_new w _)]; rfl⟩
theorem HdAt.below {w w' : World} {b : Nat} {o n x : Int} (h : HdAt w b o n x) (hb : Below w.heap.size w w') : HdAt w' b o n x :=
  ⟨by rw [hb.cell (World.block_lt_of_cell? w _ h.o)]; exact h.o, by rw [hb.cell (World.block_lt_of_cell? w _ h.n)]; exact h.n, by rw [hb.cell (World.block_lt_of_cell? w _ h.x)]; exact h.x⟩

/-- A head in a block of its own. -/
def HdB (w : World) (b : Nat) (o n x : Int) : Prop := w.heap[b]? = some (.cells #[.int .u64 o, .int .i64 n, .int .i64 x] 27 (0, 0))
theorem HdB.new (w : World) (o n x : Int) : HdB (w.alloc (.cells #[.int .u64 o, .int .i64 n, .int .i64 x] 27)) w.heap.size o n x := heap_alloc_new w _
theorem HdB.below {w w' : World} {B b : Nat} {o n x : Int} (h : HdB w b o n x) (hB : b < B) (hb : Below B w w') : HdB w' b o n x := (hb.block b hB).trans h
theorem HdB.at {w : World} {b : Nat} {o n x : Int} (h : HdB w b o n x) : w.cell? ⟨b, 0, none⟩ = some (.int .u64 o) ∧ w.cell? ⟨b, 1, none⟩ = some (.int .i64 n) ∧ w.cell? ⟨b, 2, none⟩ = some (.int .i64 x) ∧
    w.frozen? ⟨b, 0, none⟩ = false ∧ w.frozen? ⟨b, 1, none⟩ = false ∧ w.frozen? ⟨b, 2, none⟩ = false :=
  ⟨by rw [cell_of_row _ _ 0 _ _ (0, 0) h]; rfl, by rw [cell_of_row _ _ 1 _ _ (0, 0) h]; rfl, by rw [cell_of_row _ _ 2 _ _ (0, 0) h]; rfl, frozen_of_row _ _ _ _ _ h, frozen_of_row _ _ _ _ _ h, frozen_of_row _ _ _ _ _ h⟩

theorem kc_one (w1 : World) (o1 : Obj) (C : Array Value) (n c : Nat) : Sem.run Try.prog (convert 25 25 (.slice (some ⟨w1.heap.size + 1, 0, none⟩) n c)) ((w1.alloc o1).alloc (.cells C 5)) =
    .ok (.slice (some ⟨w1.heap.size + 1, 0, none⟩) n c) ((w1.alloc o1).alloc (.cells C 5 (C.size, C.size + 1))) := by
  have := Lib.run_convert_bytes_const (P := Try.prog) (w1.alloc o1) 25 5 C n c Try.underlying25 Try.underlying5
  rwa [show (w1.alloc o1).heap.size = w1.heap.size + 1 by simp] at this
theorem kc_zero (w : World) (C : Array Value) (n c : Nat) : Sem.run Try.prog (convert 25 25 (.slice (some ⟨w.heap.size, 0, none⟩) n c)) (w.alloc (.cells C 5)) =
    .ok (.slice (some ⟨w.heap.size, 0, none⟩) n c) (w.alloc (.cells C 5 (C.size, C.size + 1))) :=
  Lib.run_convert_bytes_const (P := Try.prog) w 25 5 C n c Try.underlying25 Try.underlying5

theorem bytesOf_u16 (n : Int) : bytesOf (n % 65536) 2 = bytesOf n 2 := by
  simp only [bytesOf, List.range, List.range.loop, List.map, byteOf]
  congr 1
  · omega
  · congr 1
    simp
    omega
theorem bytesOf_u64 (n : Int) : bytesOf (n % 18446744073709551616) 2 = bytesOf n 2 := by
  simp only [bytesOf, List.range, List.range.loop, List.map, byteOf]
  congr 1
  · omega
  · congr 1
    simp
    omega



end Go.Proofs.Ytmmbahblnmhhmaa
