/- What the law asks first: known is true. -/
import Derived.Test.YtmmcnkdefpfkiaaDoorArWrite
import Derived.Test.YtmmcnkdefpfkiaaDoorArAny
namespace Go.Proofs.YtmmcnkdefpfkiaaDoor
open Go.RowKit Go.Maps
set_option linter.unusedVariables false
set_option maxRecDepth 100000
set_option maxRecDepth 20000
set_option linter.unusedSimpArgs false

def kN : T8 := [97, 45, 110, 97, 109, 101, 45, 116, 104, 97, 116, 45, 105, 115, 45, 108, 111, 110, 103, 46, 111]
def kMs : List Mb := [⟨[97, 46, 111], [120]⟩, ⟨kN, []⟩]
def kIx : T8 := [0, 0, 0, 0]
theorem k_lg : (lgA kMs).lg = kN ++ [47, 10] := by kernel_rfl
theorem k_f0 : fld (lgA kMs) [97, 46, 111] = [97, 46, 111, 47] := by kernel_rfl
theorem k_at : (lgA kMs).at_ kN = some 0 := by kernel_rfl
theorem k_f1 : fld (lgA kMs) kN = [47, 48] := by
  unfold fld
  rw [k_at]
  simp only [Lib.decDigits_one (show 0 < 10 by decide)]
  rfl
def kP (f d : T8) (n : T8) : T8 := padR 16 f ++ (mid32 ++ (padR 10 n ++ [96, 10])) ++ (d ++ oddT d)
theorem k_wA : wA kMs kIx = magc ++ (kP [47] kIx [52] ++ (kP [47, 47] (kN ++ [47, 10]) [50, 51] ++ (kP [97, 46, 111, 47] [120] [49] ++ kP [47, 48] [] [48]))) := by
  have e1 : idP kIx = kP [47] kIx [52] := by
    show wP [47] kIx = _
    unfold wP hdT kP
    rw [show kIx.length = 4 from rfl, Lib.decDigits_one (show 4 < 10 by decide)]
    rfl
  have e2 : lgP (lgA kMs) = kP [47, 47] (kN ++ [47, 10]) [50, 51] := by
    unfold lgP
    rw [k_lg, if_neg (by decide)]
    unfold wP hdT kP
    rw [show (kN ++ [47, 10] : T8).length = 23 from rfl, Lib.decDigits_two (show ¬ 23 < 10 by decide) (show 23 < 100 by decide)]
    rfl
  have e3 : msP (lgA kMs) kMs = kP [97, 46, 111, 47] [120] [49] ++ kP [47, 48] [] [48] := by
    show wP (fld (lgA kMs) [97, 46, 111]) [120] ++ (wP (fld (lgA kMs) kN) [] ++ []) = _
    rw [k_f0, k_f1, List.append_nil]
    unfold wP hdT kP
    rw [show ([120] : T8).length = 1 from rfl, show ([] : T8).length = 0 from rfl, Lib.decDigits_one (show 1 < 10 by decide), Lib.decDigits_one (show 0 < 10 by decide)]
    rfl
  rw [wA, e1, e2, e3]
theorem k_read : arR 15 (wA kMs kIx) = some ⟨kMs, kIx, kN ++ [47, 10], true, true⟩ := by
  rw [k_wA]
  kernel_rfl
theorem k_no : arR 15 [33, 60, 97, 114, 99, 104, 62] = none := by kernel_rfl
theorem k_nil : wA [] [] = magc := by kernel_rfl

abbrev kw1 (w : World) : World := w.alloc (.cells #[.int .u8 120] 5 (1, 2))
abbrev kw2 (w : World) : World := (kw1 w).alloc (.cells #[.string ⟨#[97, 46, 111]⟩, .slice (some ⟨w.heap.size, 0, none⟩) 1 1, .string ⟨#[97, 45, 110, 97, 109, 101, 45, 116, 104, 97, 116, 45, 105, 115, 45, 108, 111, 110, 103, 46, 111]⟩, .slice none 0 0] 26)
abbrev kw3 (w : World) : World := (kw2 w).alloc (.cells #[.int .u8 0, .int .u8 0, .int .u8 0, .int .u8 0] 5 (4, 5))
theorem kw_c1 (w : World) : Sem.run Tryd.prog (convert 24 24 (.slice (some ⟨w.heap.size, 0, none⟩) 1 1)) (w.alloc (.cells #[.int .u8 120] 5)) = .ok (.slice (some ⟨w.heap.size, 0, none⟩) 1 1) (kw1 w) :=
  Lib.run_convert_bytes_const (P := Tryd.prog) w 24 5 #[.int .u8 120] 1 1 Tryd.underlying24 Tryd.underlying5
theorem kw_c3 (w : World) : Sem.run Tryd.prog (convert 24 24 (.slice (some ⟨w.heap.size + 1 + 1, 0, none⟩) 4 4)) ((kw2 w).alloc (.cells #[.int .u8 0, .int .u8 0, .int .u8 0, .int .u8 0] 5)) = .ok (.slice (some ⟨w.heap.size + 1 + 1, 0, none⟩) 4 4) (kw3 w) := by
  have := Lib.run_convert_bytes_const (P := Tryd.prog) (kw2 w) 24 5 #[.int .u8 0, .int .u8 0, .int .u8 0, .int .u8 0] 4 4 Tryd.underlying24 Tryd.underlying5
  rw [show (kw2 w).heap.size = w.heap.size + 1 + 1 by simp [kw2, kw1]] at this
  exact this
theorem kw_bel (w : World) : Below w.heap.size w (kw3 w) := (((Below.refl _ _).alloc (Nat.le_refl _) _).alloc (by simp) _).alloc (by simp; omega) _
theorem kw_ix (w : World) : Rt (kw3 w) (some ⟨w.heap.size + 1 + 1, 0, none⟩) 4 kIx := by
  have := blkRt (w := kw3 w) (X := (kw2 w).heap.size) (l := kIx) (heap_alloc_new (kw2 w) _) (by decide)
  rw [show (kw2 w).heap.size = w.heap.size + 1 + 1 by simp [kw2, kw1]] at this
  exact this
theorem kw_rm (w : World) : Rmb (kw3 w) (some ⟨w.heap.size + 1, 0, none⟩) 2 2 kMs := by
  have b3 : Below (w.heap.size + 2) (kw2 w) (kw3 w) := (Below.refl _ _).alloc (by simp [kw2, kw1]) _
  have b2 : Below (w.heap.size + 1) (kw1 w) (kw2 w) := (Below.refl _ _).alloc (by simp [kw1]) _
  have h2 := heap_alloc_new (kw1 w) (.cells #[.string ⟨#[97, 46, 111]⟩, .slice (some ⟨w.heap.size, 0, none⟩) 1 1, .string ⟨#[97, 45, 110, 97, 109, 101, 45, 116, 104, 97, 116, 45, 105, 115, 45, 108, 111, 110, 103, 46, 111]⟩, .slice none 0 0] 26)
  rw [show (kw1 w).heap.size = w.heap.size + 1 by simp [kw1]] at h2
  have h3 : (kw3 w).heap[w.heap.size + 1]? = _ := (b3.block _ (by omega)).trans h2
  have h1 : (kw3 w).heap[w.heap.size]? = some (.cells #[.int .u8 120] 5 (1, 2)) := (b3.block _ (by omega)).trans ((b2.block _ (by omega)).trans (heap_alloc_new w _))
  refine ⟨rfl, Nat.le_refl _, by decide, (fun h => by cases h), fun i m hm => ?_⟩
  match i, hm with
  | 0, hm =>
    cases hm
    exact ⟨_, _, _, _, rfl, (cell_of_row _ _ 0 _ _ (0, 0) h3).trans rfl, (cell_of_row _ _ 1 _ _ (0, 0) h3).trans rfl, blkRt (l := [120]) h1 (by decide)⟩
  | 1, hm =>
    cases hm
    exact ⟨_, _, _, _, rfl, (cell_of_row _ _ 2 _ _ (0, 0) h3).trans rfl, (cell_of_row _ _ 3 _ _ (0, 0) h3).trans rfl, Rd.nothing _⟩
  | n + 2, hm => simp [kMs] at hm

set_option maxHeartbeats 8000000 in
theorem known_17 (w : World) (L : LaidR w) : Calls Tryd.prog 5 #[] w fun e w' => e = .returned (.bool true) ∧ Below w.heap.size w w' := by
  have hk1 := kw_c1 w
  have hk3 := kw_c3 w
  have HB3 := hide (kw_bel w)
  have HW := hide (write_any (some ⟨w.heap.size + 1, 0, none⟩) 2 kMs (some ⟨w.heap.size + 1 + 1, 0, none⟩) 4 kIx (kw3 w) (kw_rm w) (kw_ix w) (L.then (kw_bel w)) (by decide) (by decide))
  unfold kw1 at hk1
  unfold kw3 kw2 kw1 at hk3
  have HL := hide L
  have e1 : kMs.length = 2 := rfl
  have e2 : kIx.length = 4 := rfl
  rw [e1, e2] at HW
  go_enter Tryd.func5, Tryd.ntmps5
  go_wp2_with fail
  refine HW.out.mono ?_
  rintro e w4 ⟨v4, rfl, hbx⟩
  have HB4 := hide (HB3.out.trans (hbx.bel.mono HB3.out.size))
  obtain ⟨a4, c4, rfl, hr4⟩ := hbx.rt
  have HRD := hide (read_any a4 c4 _ w4 hr4 (HL.out.then HB4.out) conAny)
  rw [k_read] at HRD
  have hr4c := hr4.le
  have hr4m := hr4.max
  generalize (wA kMs kIx).length = LN at *
  clear hk1 hk3 HW hbx hr4 HB3
  go_wp2_with fail
  refine HRD.out.mono ?_
  rintro e w5 ⟨hb5, am, cm, ai, ci, rfl, hom, hix⟩
  have hb5' := HB4.out.trans (hb5.mono HB4.out.size)
  have HB5 := hide hb5'
  have HOM := hide hom
  have HIX := hide hix
  have hkc7 : Sem.run Tryd.prog (convert 24 24 (.slice (some ⟨w5.heap.size, 0, none⟩) 7 7)) (w5.alloc (.cells #[.int .u8 33, .int .u8 60, .int .u8 97, .int .u8 114, .int .u8 99, .int .u8 104, .int .u8 62] 5)) = .ok (.slice (some ⟨w5.heap.size, 0, none⟩) 7 7) (w5.alloc (.cells #[.int .u8 33, .int .u8 60, .int .u8 97, .int .u8 114, .int .u8 99, .int .u8 104, .int .u8 62] 5 (7, 8))) :=
    Lib.run_convert_bytes_const (P := Tryd.prog) w5 24 5 #[.int .u8 33, .int .u8 60, .int .u8 97, .int .u8 114, .int .u8 99, .int .u8 104, .int .u8 62] 7 7 Tryd.underlying24 Tryd.underlying5
  have b6 : Below w5.heap.size w5 (w5.alloc (.cells #[.int .u8 33, .int .u8 60, .int .u8 97, .int .u8 114, .int .u8 99, .int .u8 104, .int .u8 62] 5 (7, 8))) := (Below.refl _ _).alloc (Nat.le_refl _) _
  have hr6 := blkRt (w := w5.alloc (.cells #[.int .u8 33, .int .u8 60, .int .u8 97, .int .u8 114, .int .u8 99, .int .u8 104, .int .u8 62] 5 (7, 8))) (X := w5.heap.size) (l := [33, 60, 97, 114, 99, 104, 62]) (heap_alloc_new w5 _) (by decide)
  have HB6 := hide (hb5'.trans (b6.mono hb5'.size))
  have HRD2 := hide (read_any _ _ _ _ hr6 (HL.out.then HB6.out) conAny)
  rw [k_no] at HRD2
  have e3 : ({ ms := kMs, ix := kIx, lg := kN ++ [47, 10], hl := true, bg := true } : ArS).ms.length = 2 := rfl
  have e4 : ({ ms := kMs, ix := kIx, lg := kN ++ [47, 10], hl := true, bg := true } : ArS).ix.length = 4 := rfl
  rw [e3] at HOM
  rw [e3, e4]
  clear hb5 hom hix hb5' hr6 HRD e3 e4
  go_wp2_with fail
  refine HRD2.out.mono ?_
  rintro e w7 ⟨hb7, he7⟩
  obtain rfl : e = .returned (.tuple #[.slice none 0 0, .slice none 0 0, .int .i64 40]) := he7
  have B67 := hide (b6.trans (hb7.mono b6.size))
  have HB7 := hide (HB5.out.trans (B67.out.mono HB5.out.size))
  have hom7 := HOM.out.below B67.out
  obtain ⟨am', cm', ev, hrm⟩ := hom7.rm
  cases ev
  obtain ⟨b, o, rfl, hat⟩ := hrm.addr (by decide)
  obtain ⟨a0, c0, q00, q01, rt0⟩ := hat 0 ⟨[97, 46, 111], [120]⟩ rfl
  obtain ⟨a1, c1, q10, q11, _⟩ := hat 1 ⟨kN, []⟩ rfl
  have hcv := Rt.txt rt0 1 rfl
  have q1 := strq kN kN
  rw [decide_eq_true rfl] at q1
  have q2 := strq [120] [120]
  rw [decide_eq_true rfl] at q2
  have HW2 := hide (write_any none 0 [] none 0 [] w7 (Rmb.nothing w7) (Rd.nothing w7) (HL.out.then HB7.out) (by decide) (by decide))
  rw [k_nil] at HW2
  have hrmc := hrm.le
  have hrmm := hrm.max
  clear hkc7 HRD2 hb7 HOM HIX b6 hom7 hrm hat B67 rt0
  have q1' : ((str kN).toList == [97, 45, 110, 97, 109, 101, 45, 116, 104, 97, 116, 45, 105, 115, 45, 108, 111, 110, 103, 46, 111]) = true := q1
  generalize str kN = SK at *
  generalize hSX : str [120] = SX at *
  clear q1 hSX
  go_wp2_with fail
  refine HW2.out.mono ?_
  rintro e w8 ⟨v8, rfl, hbx8⟩
  obtain ⟨a8, c8, rfl, hr8⟩ := hbx8.rt
  have hcv8 := Rt.txt hr8 8 rfl
  have HB8 := hide (HB7.out.trans (hbx8.bel.mono HB7.out.size))
  have q8 : ((str magc).toList == [33, 60, 97, 114, 99, 104, 62, 10]) = true := (strq magc magc).trans (decide_eq_true rfl)
  generalize str magc = SM at *
  rw [show magc.length = 8 from rfl]
  clear hbx8 hr8 HW2
  go_wp2_with fail
  go_ret
  exact ⟨rfl, HB8.out⟩

end Go.Proofs.YtmmcnkdefpfkiaaDoor
