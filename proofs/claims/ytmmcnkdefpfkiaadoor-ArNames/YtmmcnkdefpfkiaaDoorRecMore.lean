/- Records in blocks of their own and in rows that are filled in, whatever the record is; bytes of a number in two parts. -/
import Derived.Test.YtmmcnkdefpfkiaaDoorRec
import Derived.Test.YtmmcnkdefpfkiaaDoorHeadPlain
import Derived.Test.YtmmcnkdefpfkiaaDoorTxtRow
namespace Go.Proofs.YtmmcnkdefpfkiaaDoor
open Go.RowKit
set_option linter.unusedVariables false
set_option maxRecDepth 100000
set_option maxRecDepth 20000
set_option linter.unusedSimpArgs false

theorem got_add (bs : List Int) (o n m : Nat) (h : o + (n + m) ≤ bs.length) : got bs (o : Int) (n + m) = got bs (o : Int) n + 256 ^ n * got bs ((o + n : Nat) : Int) m := by
  rw [got_seg bs o (n + m) h, got_seg bs o n (by omega), got_seg bs (o + n) m (by omega), seg_add, num_append, seg_len bs o n (by omega)]
theorem got_one (bs : List Int) (o : Nat) (h : o < bs.length) : got bs (o : Int) 1 = bs.getD o 0 := by
  rw [got_seg bs o 1 (by omega)]
  unfold seg
  rw [List.drop_eq_getElem_cons h, List.take_succ_cons, List.take_zero]
  simp [num, h]

theorem Tryd.infoU64 : (Tryd.prog.info? 51).map (fun i => (i.zero, i.size, i.bytes)) = some (some (.int .u64 0), 1, 8) := by kernel_rfl

/-- A row of bytes that was just laid. -/
theorem Rd.row (w : World) (t : TypeId) (fr : Nat × Nat) (l : List Int) (hb : Bytes l) (hl : l.length ≤ 9223372036854775807) : Rd (w.alloc (.cells (l.map (Value.int .u8)).toArray t fr)) (some ⟨w.heap.size, 0, none⟩) l.length l.length l := by
  refine ⟨rfl, Nat.le_refl _, hl, hb, (fun h => by cases h), fun x hx i hi => ?_⟩
  cases hx
  have e : (⟨w.heap.size, 0, none⟩ : Addr).add i = ⟨w.heap.size, i, none⟩ := by unfold Addr.add; split <;> simp_all
  rw [e, cell_of_row _ _ i _ t fr (heap_alloc_new w _)]
  simp [hi]

theorem grown_setCells (g : Nat) : ∀ (vs : List Value) (o : Nat) (w : World), w.grownBy (w.setCells g o vs) (some g)
  | [], o, w => ⟨rfl, rfl, rfl, Nat.le_refl _, fun _ _ _ => rfl⟩
  | v :: vs, o, w => by
    have h1 : w.grownBy (w.setCell ⟨g, o, none⟩ v) (some g) := by
      have hb : Below g w (w.setCell ⟨g, o, none⟩ v) := by
        refine (Below.refl g w).setCell ?_ v
        exact Nat.le_refl g
      refine ⟨hb.os, hb.tape, hb.output, hb.size, fun i hi hne => ?_⟩
      have hne' : i ≠ g := fun e => hne (by rw [e])
      unfold World.setCell
      simp [Array.getElem?_modify, Ne.symm hne']
    have h2 := grown_setCells g vs (o + 1) (w.setCell ⟨g, o, none⟩ v)
    exact ⟨h2.os.trans h1.os, h2.tape.trans h1.tape, h2.output.trans h1.output, Nat.le_trans h1.size h2.size, fun i hi hne => (h2.block i (Nat.lt_of_lt_of_le hi h1.size) hne).trans (h1.block i hi hne)⟩

theorem hset_cells {w : World} {m : Nat} {l : List Value} {ty : TypeId} (h : w.heap[m]? = some (.cells l.toArray ty (0, 0))) (i : Nat) (v : Value) : (w.setCell ⟨m, i, none⟩ v).heap[m]? = some (.cells (l.set i v).toArray ty (0, 0)) := by
  unfold World.setCell
  simp [Array.getElem?_modify, h]
theorem hset_row {m : Nat} {ty : TypeId} : ∀ (vs : List Value) (w : World) (l : List Value) (o : Nat), w.heap[m]? = some (.cells l.toArray ty (0, 0)) → (w.setCells m o vs).heap[m]? = some (.cells (setL l o vs).toArray ty (0, 0))
  | [], w, l, o, h => h
  | v :: vs, w, l, o, h => hset_row vs (w.setCell ⟨m, o, none⟩ v) (l.set o v) (o + 1) (hset_cells h o v)

section
variable {R : Type} (C : Rc R)

/-- A record in a block of its own. -/
def Rc.Blk (T : TypeId) (w : World) (b : Nat) (s : R) : Prop := w.heap[b]? = Option.some (.cells (C.cells s).toArray T (0, 0))
variable {C} {T : TypeId} {w w' : World} {b : Nat} {s : R}
theorem Rc.Blk.new (w : World) (s : R) : C.Blk T (w.alloc (.cells (C.cells s).toArray T)) w.heap.size s := heap_alloc_new w _
theorem Rc.Blk.below {B : Nat} (h : C.Blk T w b s) (hB : b < B) (hb : Below B w w') : C.Blk T w' b s := (hb.block b hB).trans h
theorem Rc.Blk.lt (h : C.Blk T w b s) : b < w.heap.size := (Array.getElem?_eq_some_iff.1 h).1
theorem Rc.Blk.kept (h : C.Blk T w b s) (hb : Below w.heap.size w w') : C.Blk T w' b s := h.below h.lt hb
theorem Rc.Blk.drew (h : C.Blk T w b s) : C.Blk T w.drew b s := h
theorem Rc.Blk.cell (h : C.Blk T w b s) (j : Nat) : w.cell? ⟨b, j, none⟩ = (C.cells s)[j]? := by
  rw [cell_of_row _ _ j _ _ (0, 0) h]; simp
theorem Rc.Blk.frozen (h : C.Blk T w b s) (j : Nat) : w.frozen? ⟨b, j, none⟩ = false := frozen_of_row _ _ _ _ _ h
theorem Rc.Blk.store (h : C.Blk T w b s) (t : R) : C.Blk T (w.setCells b 0 (C.cells t)) b t := by
  have h1 := hset_row (C.cells t) w (C.cells s) 0 h
  have e : setL (C.cells s) 0 (C.cells t) = C.cells t := by
    apply List.ext_getElem?
    intro j
    rw [setL_at, C.len, C.len]
    by_cases hj : j < C.n
    · rw [if_pos ⟨Nat.zero_le _, by omega, hj⟩, Nat.sub_zero]
    · rw [if_neg (by omega), List.getElem?_eq_none (by rw [C.len]; omega), List.getElem?_eq_none (by rw [C.len]; omega)]
  rw [e] at h1
  exact h1

variable (C)
/-- A row of so many records that is filled in up to k. -/
structure Rc.Fil (T : TypeId) (z : R) (w wr : World) (B g n : Nat) (L : List R) (k : Nat) : Prop where
  row : wr.ownsRow B T C.n (.slice (Option.some ⟨g, 0, none⟩) n n) n (C.all (filK z L k))
  bel : Below B w wr
  gB : B ≤ g
variable {C} {z : R} {wr W : World} {B g n : Nat} {L : List R} {k : Nat}
theorem Rc.Fil.below (p : C.Fil T z w wr B g n L k) (hB : B ≤ w.heap.size) (hw : Below wr.heap.size wr W) : C.Fil T z w W B g n L k := by
  have gg : wr.grownBy W none := ⟨hw.os, hw.tape, hw.output, hw.size, fun i hi _ => hw.block i hi⟩
  exact ⟨p.row.kept gg (.inr (by simp [Value.ownBlock])), p.bel.trans (hw.mono (Nat.le_trans hB p.bel.size)), p.gB⟩
theorem Rc.Fil.set (p : C.Fil T z w wr B g n L k) (hk : k < L.length) (t : R) (ht : L[k]? = Option.some t) : C.Fil T z w (wr.setCells g (k * C.n) (C.cells t)) B g n L (k + 1) := by
  refine ⟨?_, below_setCells p.gB _ _ _ p.bel, p.gB⟩
  rw [← filK_set z L k hk t ht]
  exact C.row_store p.row k (by rw [filK_len _ _ _ (by omega)]; exact hk) t
theorem Rc.Fil.at {j : Nat} (p : C.Fil T z w wr B g n L k) (s : R) (hs : (filK z L k)[j]? = Option.some s) (hj : j < n) (i : Nat) (hi : i < C.n) : wr.cell? ⟨g, j * C.n + i, none⟩ = (C.cells s)[i]? :=
  (p.row.cellAt (j * C.n + i) (by
    have : (j + 1) * C.n ≤ n * C.n := Nat.mul_le_mul_right _ hj
    rw [Nat.succ_mul] at this
    omega)).trans (C.all_at _ _ _ _ hs hi)

end

end Go.Proofs.YtmmcnkdefpfkiaaDoor
