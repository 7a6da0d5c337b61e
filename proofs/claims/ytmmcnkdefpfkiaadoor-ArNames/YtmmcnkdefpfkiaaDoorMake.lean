/- Contracts of le.room, le.Cut and of the document's Cut: each makes a new row that holds the bytes asked for; what was there stays. -/
import Derived.Test.YtmmcnkdefpfkiaaDoorRead
import Derived.Laws.CopyOwn
import Derived.Laws.AppendOwnNone
namespace Go.Proofs.YtmmcnkdefpfkiaaDoor
open Go.RowKit
set_option linter.unusedVariables false
set_option maxRecDepth 100000
set_option maxRecDepth 20000

theorem Tryd.info8 : (Tryd.prog.info? 5).map (fun i => (i.zero, i.size, i.bytes)) = some (some (.int .u8 0), 1, 1) := by kernel_rfl
theorem Tryd.size8 : (Tryd.prog.info? 5).map (·.size) = some 1 := by kernel_rfl

theorem Rd.cells {w : World} {a : Option Addr} {len cap : Nat} {bs : List Int} (r : Rd w a len cap bs) (x : Addr) (hx : a = some x) (j : Nat) (u : Value)
    (h : (bs.map (Value.int .u8))[j]? = some u) : w.cell? (x.add j) = some u := by
  have hj : j < bs.length := by
    rcases Nat.lt_or_ge j bs.length with h1 | h1
    · exact h1
    · rw [List.getElem?_eq_none (by simpa using h1)] at h; cases h
  have hl := r.length
  rw [r.cell x hx j (by omega)]
  simp [hj] at h
  subst h
  simp [hj]

theorem Rd.below {w w' : World} {a : Option Addr} {len cap : Nat} {bs : List Int} (r : Rd w a len cap bs) (hb : Below w.heap.size w w') : Rd w' a len cap bs :=
  ⟨r.length, r.le, r.max, r.bytes, r.nil, fun x hx i hi => by
    have h1 := r.cell x hx i hi
    rw [hb.cell (World.block_lt_of_cell? w _ h1)]; exact h1⟩

theorem Rd.own {w : World} {base : Nat} {v : Value} {n : Nat} {bs : List Int} (h : w.ownsRow base 5 1 v n (bs.map (Value.int .u8))) (hb : Bytes bs) :
    ∃ a cap, v = .slice a n cap ∧ Rd w a n cap bs := by
  have hl : bs.length = n := by simpa using h.1
  rcases h.2 with ⟨rfl, h2⟩ | ⟨g, cap, cur, rfl, hbg, hg, hnc, hcm, hcs, htake⟩
  · subst h2
    obtain rfl : bs = [] := List.eq_nil_of_length_eq_zero hl
    exact ⟨none, 0, rfl, rfl, Nat.le_refl _, by omega, hb, fun _ => rfl, fun x hx => by cases hx⟩
  · refine ⟨_, cap, rfl, hl, hnc, by unfold maxLen at hcm; omega, hb, (fun h => by cases h), fun x hx i hi => ?_⟩
    cases hx
    have := h.cells (g := g) rfl i (.int .u8 (bs.getD i 0)) (by simp [show i < bs.length by omega])
    exact this

theorem Rd.str {w : World} {a : Option Addr} {len cap : Nat} {bs : List Int} (r : Rd w a len cap bs) :
    Sem.run Tryd.prog (convert 24 9 (.slice a len cap)) w = .ok (.string (strOfNums bs)) w := by
  have hl := r.length
  by_cases h0 : len = 0
  · subst h0
    obtain rfl : bs = [] := List.eq_nil_of_length_eq_zero hl
    cases a with
    | none => exact run_convert_bytes_nil w 24 5 Tryd.underlying24 Tryd.underlying5 0 cap 9 Tryd.underlying9
    | some x =>
      have hlc : (loadCells x 0).run Tryd.prog w = .ok #[] w := by simpa using run_loadCells_list (P := Tryd.prog) w x [] (by simp)
      rw [run_convert_bytes_string w 24 9 5 _ 0 cap Tryd.underlying24 Tryd.underlying5 Tryd.underlying9, run_bytesToString w x 0 cap [] (by simpa using hlc)]
      rfl
  · obtain ⟨b, o, rfl, hc⟩ := r.addr (by omega)
    exact run_convert_bytes_arg w 24 5 Tryd.underlying24 Tryd.underlying5 b o len cap bs hl hc 9 Tryd.underlying9

/-- 'make' of len bytes with room for c, and what is copied into it: the run of the two, the worlds behind a name. -/
theorem copied {w : World} {a : Option Addr} {len cap : Nat} {bs : List Int} (r : Rd w a len cap bs) (c : Nat) (hc : len ≤ c) (hb : c ≤ 140737488355328) (ty : TypeId) :
    ∃ W1 W2, Sem.run Tryd.prog (Instr.makeSlice 24 (.int .i64 (len : Int)) (.int .i64 (c : Int))) w = .ok (.slice (some ⟨w.heap.size, 0, none⟩) len c) W1 ∧
      Sem.run Tryd.prog (Builtin.copy_ #[24, 24] ty #[.slice (some ⟨w.heap.size, 0, none⟩) len c, .slice a len cap]) W1 = .ok (goInt len) W2 ∧
      W2.ownsRow w.heap.size 5 1 (.slice (some ⟨w.heap.size, 0, none⟩) len c) len (bs.map (Value.int .u8)) ∧ Below w.heap.size w W2 := by
  obtain ⟨i0, hi, hz0, hz1, hz2⟩ := info_parts Tryd.info8
  have hbl := r.length
  have hmk := run_make (P := Tryd.prog) w 24 5 i0 (.int .u8 0) Tryd.underlying24 hi hz0 .i64 .i64 (len : Int) (c : Int) (by omega) (by omega) (by rw [hz2]; omega) (by omega)
  rw [hz1, Int.toNat_natCast, Int.toNat_natCast] at hmk
  have hcs : (Value.int .u8 0).cells = #[.int .u8 0] := rfl
  rw [hcs, Nat.mul_one] at hmk
  have hw1 : (w.alloc (.cells (madeCells #[.int .u8 0] c) 5)).heap[w.heap.size]? = some (.cells (madeCells #[.int .u8 0] c) 5 (0, 0)) := heap_alloc_new w _
  have hsz : (madeCells #[Value.int .u8 0] c).size = c := by simp [madeCells]
  have hb1 : Below w.heap.size w (w.alloc (.cells (madeCells #[.int .u8 0] c) 5)) := (Below.refl _ _).alloc (Nat.le_refl _) _
  by_cases h0 : len = 0
  · subst h0
    obtain rfl : bs = [] := List.eq_nil_of_length_eq_zero hbl
    refine ⟨_, _, hmk, ?_, ?_, hb1⟩
    · have := run_copy_none (P := Tryd.prog) (w.alloc (.cells (madeCells #[.int .u8 0] c) 5)) 24 24 ty 5 (some ⟨w.heap.size, 0, none⟩) a 0 c 0 cap Tryd.underlying24 Tryd.size8 rfl
      exact this
    · exact ⟨by simp, .inr ⟨w.heap.size, c, _, rfl, Nat.le_refl _, hw1, by omega, by unfold maxLen; omega, by rw [hsz]; omega, by simp⟩⟩
  · obtain ⟨b, o, rfl, hcell⟩ := r.addr (by omega)
    have r1 : Rd (w.alloc (.cells (madeCells #[.int .u8 0] c) 5)) (some ⟨b, o, none⟩) len cap bs := r.below hb1
    have hcp := run_copy_row (P := Tryd.prog) (w.alloc (.cells (madeCells #[.int .u8 0] c) 5)) 24 24 ty 5 w.heap.size 0 len c ⟨b, o, none⟩ len cap _ 5 (bs.map (Value.int .u8))
      Tryd.underlying24 Tryd.size8 hw1 (by simp [hbl]) (r1.cells _ rfl) (by rw [hsz]; simp; omega) (ints_oneCell _ _)
    rw [List.length_map, hbl] at hcp
    refine ⟨_, _, hmk, hcp, ?_, below_setRow hb1 (Nat.le_refl _) _⟩
    refine ⟨by simp [hbl], .inr ⟨w.heap.size, c, _, rfl, Nat.le_refl _, setRow_heap _ _ _ _ _ _ hw1, hc, by unfold maxLen; omega, ?_, ?_⟩⟩
    · simp [hbl, hsz]; omega
    · simp [hbl]



/-- What is cut out of the bytes. -/
def cutOf (bs : List Int) (off n : Int) : List Int := if off + n ≤ bs.length then (bs.drop off.toNat).take n.toNat else []
def cutOk (bs : List Int) (off n : Int) : Bool := decide (off + n ≤ bs.length)
theorem cutOf_bytes {bs : List Int} (h : Bytes bs) (off n : Int) : Bytes (cutOf bs off n) := by
  unfold cutOf; split
  · exact (h.drop _).take _
  · exact Bytes.nil

theorem Rd.part {w : World} {x : Addr} {len cap : Nat} {bs : List Int} (r : Rd w (some x) len cap bs) (f m : Nat) (h : f + m ≤ len) : Rd w (some (x.add f)) m (cap - f) ((bs.drop f).take m) := by
  have hl := r.length
  have h1 := r.le
  have h2 := r.max
  refine ⟨by simp; omega, by omega, by omega, (r.bytes.drop f).take m, (fun h3 => by cases h3), ?_⟩
  intro y hy i hi
  obtain ⟨b, o, hx, hc⟩ := r.addr (by omega)
  cases hx
  cases hy
  have e : ((⟨b, o, none⟩ : Addr).add f).add i = ⟨b, o + (f + i), none⟩ := by unfold Addr.add; repeat' split <;> simp_all [Nat.add_assoc]
  rw [e, hc (f + i) (by omega)]
  simp [hi]

theorem Rd.part_end {w : World} {a : Option Addr} {len cap : Nat} {bs : List Int} (r : Rd w a len cap bs) (f m : Nat) (h : f + m ≤ len) (hf : cap = f) : Rd w a m 0 ((bs.drop f).take m) := by
  have h1 := r.le
  obtain rfl : m = 0 := by omega
  exact ⟨by simp, Nat.le_refl _, by omega, by simpa using Bytes.nil, fun _ => rfl, fun x hx i hi => by omega⟩





theorem Rd.nothing (w : World) : Rd w none 0 0 [] := ⟨rfl, Nat.le_refl _, by omega, Bytes.nil, fun _ => rfl, fun x hx => by cases hx⟩













end Go.Proofs.YtmmcnkdefpfkiaaDoor
