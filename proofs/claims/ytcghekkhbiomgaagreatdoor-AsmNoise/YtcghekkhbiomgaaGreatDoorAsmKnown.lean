/- The contracts of asm's wordOf, Dump, and of the document's Dump: words as text; the statements' example, known, is true. -/
import Derived.Test.YtcghekkhbiomgaaGreatDoorAsmDec
import Derived.Test.YtcghekkhbiomgaaGreatDoorAsmRefX
import Derived.Test.YtcghekkhbiomgaaGreatDoorInstRefEncs
import Derived.Test.YtcghekkhbiomgaaGreatDoorAsmLns
import Derived.Deep.LoopGhost
import Derived.Test.YtcghekkhbiomgaaGreatDoorAsmRefP0
namespace Go.Proofs.YtcghekkhbiomgaaGreatDoor
open Go.RowKit
set_option linter.unusedVariables false
set_option maxRecDepth 100000
set_option linter.unusedSimpArgs false

def wrd (b0 b1 b2 b3 : Int) : Int := b0 + 256 * b1 + 65536 * b2 + 16777216 * b3
theorem wrd_or {b0 b1 b2 b3 : Int} (h0 : 0 ≤ b0 ∧ b0 ≤ 255) (h1 : 0 ≤ b1 ∧ b1 ≤ 255) (h2 : 0 ≤ b2 ∧ b2 ≤ 255) (h3 : 0 ≤ b3 ∧ b3 ≤ 255) :
    bits .or .u32 (bits .or .u32 (bits .or .u32 b0 (b1 * 256)) (b2 * 65536)) (b3 * 16777216) = wrd b0 b1 b2 b3 := by
  have l0 : Lies b0 255 := low_lies (n := 8) h0.1 (by simp; omega)
  have l1 : Lies (b1 * 256) 65280 := shift_lies (n := 8) (t := 8) h1.1 (by simp; omega)
  have l2 : Lies (b2 * 65536) 16711680 := shift_lies (n := 8) (t := 16) h2.1 (by simp; omega)
  have l3 : Lies (b3 * 16777216) 4278190080 := shift_lies (n := 8) (t := 24) h3.1 (by simp; omega)
  rw [l0.or l1 (by decide) (by decide) (by decide), (l0.add l1 (by decide)).or l2 (by decide) (by decide) (by decide), ((l0.add l1 (by decide)).add l2 (by decide)).or l3 (by decide) (by decide) (by decide)]
  unfold wrd; omega
theorem wrd_bd {b0 b1 b2 b3 : Int} (h0 : 0 ≤ b0 ∧ b0 ≤ 255) (h1 : 0 ≤ b1 ∧ b1 ≤ 255) (h2 : 0 ≤ b2 ∧ b2 ≤ 255) (h3 : 0 ≤ b3 ∧ b3 ≤ 255) : 0 ≤ wrd b0 b1 b2 b3 ∧ wrd b0 b1 b2 b3 ≤ 4294967295 := by unfold wrd; omega

/-- Bytes' words as text. -/
def dmp : List Int → List UInt8
  | b0 :: b1 :: b2 :: b3 :: r => dtx (wrd b0 b1 b2 b3) ++ 10 :: dmp r
  | _ => []

theorem word_any (g o len cap : Nat) (b0 b1 b2 b3 : Int) (w : World) (hlen : 4 ≤ len) (h0 : 0 ≤ b0 ∧ b0 ≤ 255) (h1 : 0 ≤ b1 ∧ b1 ≤ 255) (h2 : 0 ≤ b2 ∧ b2 ≤ 255) (h3 : 0 ≤ b3 ∧ b3 ≤ 255)
    (q0 : w.cell? ⟨g, o, none⟩ = some (.int .u8 b0)) (q1 : w.cell? ⟨g, o + 1, none⟩ = some (.int .u8 b1)) (q2 : w.cell? ⟨g, o + 2, none⟩ = some (.int .u8 b2)) (q3 : w.cell? ⟨g, o + 3, none⟩ = some (.int .u8 b3)) :
    Calls Tryz.prog 39 #[.slice (some ⟨g, o, none⟩) len cap] w fun e w' => e = .returned (.int .u32 (wrd b0 b1 b2 b3)) ∧ ∃ n, w' = w.drewN n := by
  have HW := hide (wrd_or h0 h1 h2 h3)
  generalize wrd b0 b1 b2 b3 = x at *
  have n0 : (0 : Int) < len := by omega
  have n1 : (1 : Int) < len := by omega
  have n2 : (2 : Int) < len := by omega
  have n3 : (3 : Int) < len := by omega
  obtain ⟨a0, a0'⟩ := h0
  obtain ⟨a1, a1'⟩ := h1
  obtain ⟨a2, a2'⟩ := h2
  obtain ⟨a3, a3'⟩ := h3
  go_enter Tryz.func39, Tryz.ntmps39
  go_wp2_with fail
  go_quiet (fail)
  rw [HW.out]
  go_wp2
  go_ret
  exact ⟨rfl, nq, rfl⟩

theorem dmp_cons (b0 b1 b2 b3 : Int) (r : List Int) : dmp (b0 :: b1 :: b2 :: b3 :: r) = dtx (wrd b0 b1 b2 b3) ++ 10 :: dmp r := rfl
theorem dmp_short {r : List Int} (h : r.length < 4) : dmp r = [] := by
  match r, h with
  | [], _ => rfl
  | [_], _ => rfl
  | [_, _], _ => rfl
  | [_, _, _], _ => rfl
theorem four {r : List Int} (h : 4 ≤ r.length) : ∃ b0 b1 b2 b3 r', r = b0 :: b1 :: b2 :: b3 :: r' := by
  match r, h with
  | b0 :: b1 :: b2 :: b3 :: r', _ => exact ⟨b0, b1, b2, b3, r', rfl⟩
/-- What is decoded, whether it is or not. -/
theorem decN_tuple {x : Int} (h0 : 0 ≤ x) (h1 : x ≤ 4294967295) : ∃ o m b, prsV (decN x) = .tuple #[inst o m.d m.s m.t m.i, .bool b] ∧ tx o m = dtx x ∧ m.Fit ∧ (b = true ↔ decN x ≠ none) := by
  unfold dtx
  cases h : decN x with
  | none => exact ⟨0, ⟨0, 0, 0, 0⟩, false, rfl, tx_zero, zero_fit, by simp⟩
  | some y =>
    obtain ⟨k, m⟩ := y
    exact ⟨k, m, true, rfl, rfl, decN_fit h0 h1 h, by simp⟩
theorem tx_len (o : Int) (m : Ns) (hm : m.Fit) : (tx o m).length ≤ 250 := by
  unfold tx
  split
  · rw [List.length_append]
    have h1 := nml_le o
    split
    · simp; omega
    · have h2 := fil_len m hm (pat o)
      have h3 : (pat o).length ≤ 10 := by unfold pat patF; repeat' split
                                          all_goals decide
      simp; omega
  · simp
theorem dtx_len {x : Int} (h0 : 0 ≤ x) (h1 : x ≤ 4294967295) : (dtx x).length ≤ 250 := by
  obtain ⟨o, m, b, _, h, hm, _⟩ := decN_tuple h0 h1
  rw [← h]; exact tx_len o m hm
theorem row_below {B : Nat} {w w' : World} {v : Value} {l : List UInt8} (h : Row B w v l) (hb : Below w.heap.size w w') : Row B w' v l := ownsRow_below h hb
theorem Rn.cells4 {w : World} {g o len cap : Nat} {b0 b1 b2 b3 : Int} {r : List Int} (h : Rn .u8 255 w (some ⟨g, o, none⟩) len cap (b0 :: b1 :: b2 :: b3 :: r)) (hl : 4 ≤ len) :
    (w.cell? ⟨g, o, none⟩ = some (.int .u8 b0) ∧ w.cell? ⟨g, o + 1, none⟩ = some (.int .u8 b1) ∧ w.cell? ⟨g, o + 2, none⟩ = some (.int .u8 b2) ∧ w.cell? ⟨g, o + 3, none⟩ = some (.int .u8 b3)) ∧
      (0 ≤ b0 ∧ b0 ≤ 255) ∧ (0 ≤ b1 ∧ b1 ≤ 255) ∧ (0 ≤ b2 ∧ b2 ≤ 255) ∧ (0 ≤ b3 ∧ b3 ≤ 255) := by
  have e : ∀ i, (⟨g, o, none⟩ : Addr).add i = ⟨g, o + i, none⟩ := fun i => by unfold Addr.add; split <;> simp_all
  have c0 := h.cell _ rfl 0 (by omega)
  have c1 := h.cell _ rfl 1 (by omega)
  have c2 := h.cell _ rfl 2 (by omega)
  have c3 := h.cell _ rfl 3 (by omega)
  rw [e] at c0 c1 c2 c3
  exact ⟨⟨c0, c1, c2, c3⟩, h.fit b0 (by simp), h.fit b1 (by simp), h.fit b2 (by simp), h.fit b3 (by simp)⟩

set_option maxHeartbeats 12800000 in
theorem dump_any (a : Option Addr) (len cap : Nat) (bs : List Int) (w : World) (r : Rn .u8 255 w a len cap bs) (hl : len ≤ 10000) (hL : LaidA w) :
    Calls Tryz.prog 16 #[.slice a len cap] w fun e w' => e = .returned (.string (str (dmp bs))) ∧ Below w.heap.size w w' := by
  obtain ⟨i0, hi, hz0, hz1, hz2'⟩ := info_parts infoByte
  have HL := hide hL
  have HRn := hide r
  have HAt := hide (fun (l : List UInt8) (o : Int) (m : Ns) (sv : Value) (w' : World) (hm : m.Fit) (hl : l.length ≤ 10000000) (hown : Row w.heap.size w' sv l) (hB : w.heap.size ≤ w'.heap.size) (hL' : LaidA w') => atx_any w.heap.size l o m sv w' hm hl hown hB hL.size hL')
  obtain ⟨tot, htot⟩ : ∃ tot, tot = dmp bs := ⟨_, rfl⟩
  rw [← htot]
  have HTot := hide htot
  clear hL r htot
  go_enter Tryz.func16, Tryz.ntmps16
  go_wp2
  go_loopg [0, 3] len (fun g bv v wr => ∃ (a' : Option Addr) (len' cap' : Nat) (rs : List Int) (l0 : List UInt8) (v0 : Value), len' ≤ g ∧ bv = .slice a' len' cap' ∧ v0 = v ∧ l0.length + 251 * len' ≤ 251 * len ∧ Hid (Rn .u8 255 w a' len' cap' rs) ∧ Hid (l0 ++ dmp rs = tot) ∧
      Hid (Row w.heap.size wr v0 l0) ∧ Hid (Below w.heap.size w wr))
  case atStart => exact ⟨a, len, cap, bs, [], _, Nat.le_refl _, rfl, rfl, by simp, HRn.out, by rw [HTot.out]; rfl, World.ownsRow_nil _ _ _ _, Below.refl _ _⟩
  case round =>
    obtain ⟨a', len', cap', rs, l0, v0, hg, rfl, rfl, hl0, HR, HT, HO, HB⟩ := hrel
    by_cases h4 : 4 ≤ len'
    · have h4' : (4 : Int) ≤ len' := by omega
      have hrl := HR.out.length
      have hle := HR.out.le
      have hmax := HR.out.max
      obtain ⟨b0, b1, b2, b3, rs', hrs⟩ := four (r := rs) (by omega)
      obtain ⟨gb, o, ha, _⟩ := HR.out.addr (by omega)
      subst hrs ha
      have HR1 := HR.out.below HB.out
      obtain ⟨⟨q0, q1, q2, q3⟩, f0, f1, f2, f3⟩ := HR1.cells4 h4
      have hxb := wrd_bd f0 f1 f2 f3
      have HWd := hide (word_any gb o len' cap' b0 b1 b2 b3 wr h4 f0 f1 f2 f3 q0 q1 q2 q3)
      obtain ⟨od, md, bd, hpv, htx, hfit, _⟩ := decN_tuple hxb.1 hxb.2
      have hDc := fun w h => dcd_any (wrd b0 b1 b2 b3) w hxb.1 hxb.2 h
      rw [hpv] at hDc
      have hdl := dtx_len hxb.1 hxb.2
      rw [dmp_cons] at HT
      have HPart := hide (HR.out.part 4 (len' - 4) (by omega) (cap' - 4) (by omega) (by omega))
      have HPe : Hid ((List.take (len' - 4) (List.drop 4 (b0 :: b1 :: b2 :: b3 :: rs'))) = rs') := hide (by
        show List.take (len' - 4) rs' = rs'
        rw [List.take_of_length_le (by simp at hrl; omega)])
      generalize dtx (wrd b0 b1 b2 b3) = dt at *
      generalize wrd b0 b1 b2 b3 = x at *
      have HDc := hide hDc
      have HTx := hide htx
      have HFt := hide hfit
      have hle' : (4 : Int) ≤ cap' := by omega
      unfold inst at HDc
      clear hDc htx hfit hpv q0 q1 q2 q3 f0 f1 f2 f3 hxb HR1 HR hrl
      go_wp2_with fail
      refine HWd.out.mono ?_
      rintro e W1 ⟨rfl, n, hW⟩
      have HB1 : Hid (Below w.heap.size w W1) := by rw [hW]; exact HB.out.trans ((bel_drewN wr n).mono HB.out.size)
      have HO1 : Hid (Row w.heap.size W1 v0 l0) := by rw [hW]; exact HO
      clear hW HWd HO HB
      go_wp2_with fail
      refine (HDc.out _ (HL.out.then HB1.out).laid).mono ?_
      rintro e W2 ⟨rfl, hb2⟩
      have HB2 := hide (HB1.out.trans (hb2.mono HB1.out.size))
      have HO2 := hide (row_below HO1.out hb2)
      have hz2 := HB2.out.size
      clear hb2 HDc HB1 HO1
      have HA2 := hide (HAt.out l0 od md v0 (W2.alloc (.cells #[.int .i64 od, .int .i64 md.d, .int .i64 md.s, .int .i64 md.t, .int .i64 md.i] 23)) HFt.out (by omega) (HO2.out.alloc _) (by simp; omega) ((HL.out.then HB2.out).alloc _))
      rw [HTx.out] at HA2
      unfold inst at HA2
      go_wp2_with fail
      refine HA2.out.mono ?_
      rintro e W3 ⟨v3, rfl, r3, b3'⟩
      have HB3 := hide ((HB2.out.alloc hz2 _).trans b3')
      have HO3 := hide r3
      have hz3 := HB3.out.size
      clear r3 b3' HA2 HB2 HO2 HAt
      go_wp2_with (at_builtin; refine wpList_append_own _ rfl _ _ 35 rfl w.heap.size 5 i0 (.int .u8 0) 1 1 Tryz.underlying35 hi hz0 hz1 hz2' rfl (by decide) _ _ _ rfl (HO3.out.alloc _) ⟨W3.heap.size, 0, none⟩ 1 1 [Value.int .u8 10] rfl rfl (by intro j u' hj; match j, hj with | 0, hj => simp at hj; subst hj; simp [Addr.add]) (by intro u' hu'; simp at hu'; subst hu'; rfl) (by unfold maxLen; rw [List.length_append]; omega) (by rw [List.length_append]; omega) (by simp; omega) ?_; intro v5 W5 r5 g5 n5; refine Hid.out ?_)
      refine Lib.hid ?_
      have HB5 := hide (HB3.out.trans (Row.grown HO3.out _ hz3 g5).2)
      have HR5 : Hid (Row w.heap.size W5 v5 (l0 ++ dt ++ [10])) := hide (row_snoc r5)
      have HT5 : Hid ((l0 ++ dt ++ [10]) ++ dmp rs' = tot) := hide (by rw [← HT.out]; simp)
      have HP5 : Hid (Rn .u8 255 w (some ⟨gb, o + 4, none⟩) (len' - 4) (cap' - 4) rs') := by have := HPart.out; rw [HPe.out] at this; exact this
      clear r5 n5 g5 HPart HPe HT
      by_cases hc4 : cap' = 4
      · have HP6 : Hid (Rn .u8 255 w (some ⟨gb, o, none⟩) 0 0 rs') := hide (by
          have hp := HP5.out
          have e0 : len' - 4 = 0 := by omega
          have hl0 := hp.length
          rw [e0] at hl0
          obtain rfl : rs' = [] := List.eq_nil_of_length_eq_zero hl0
          exact ⟨rfl, by omega, by omega, (fun x hx => by cases hx), by decide, (fun h => by cases h), fun x hx i hi => by omega⟩)
        subst hc4
        go_wp2
        go_roundg (gk - 4)
        case measure => omega
        case rel => exact ⟨some ⟨gb, o, none⟩, 0, 0, rs', l0 ++ dt ++ [10], v5, by omega, rfl, rfl, by simp; omega, HP6.out, HT5.out, HR5.out, HB5.out⟩
      · go_wp2
        go_roundg (gk - 4)
        case measure => omega
        case rel => exact ⟨some ⟨gb, o + 4, none⟩, len' - 4, cap' - 4, rs', l0 ++ dt ++ [10], v5, by omega, rfl, rfl, by simp; omega, HP5.out, HT5.out, HR5.out, HB5.out⟩
    · have HTe : Hid (l0 = tot) := hide (by rw [← HT.out, dmp_short (by rw [HR.out.length]; omega), List.append_nil])
      obtain ⟨aa, ll, cc, hv, hcv⟩ := Row.str HO.out
      subst hv
      go_wp2
      go_ret
      exact ⟨by rw [← HTe.out]; rfl, HB.out⟩

set_option maxHeartbeats 12800000 in
theorem rdump_any (a : Option Addr) (len cap : Nat) (bs : List Int) (w : World) (r : Rn .u8 255 w a len cap bs) (hl : len ≤ 10000) :
    Calls Tryz.prog 17 #[.slice a len cap] w fun e w' => e = .returned (.string (str (dmp bs))) ∧ Below w.heap.size w w' := by
  have HRn := hide r
  obtain ⟨tot, htot⟩ : ∃ tot, tot = dmp bs := ⟨_, rfl⟩
  rw [← htot]
  have HTot := hide htot
  clear r htot
  go_enter Tryz.func17, Tryz.ntmps17
  go_wp2
  go_loopg [3, 4] len (fun g sv iv wr => ∃ (i : Nat) (l0 : List UInt8), i ≤ len ∧ g = len - i ∧ sv = .string (str l0) ∧ iv = .int .i64 i ∧ l0.length ≤ 251 * i ∧ Hid (l0 ++ dmp (bs.drop i) = tot) ∧ Hid (Below w.heap.size w wr))
  case atStart => exact ⟨0, [], Nat.zero_le _, rfl, rfl, rfl, by simp, by rw [HTot.out]; rfl, Below.refl _ _⟩
  case round =>
    obtain ⟨i, l0, hi1, rfl, rfl, rfl, hl0, HT, HB⟩ := hrel
    by_cases h4 : i + 4 ≤ len
    · have h4' : (i : Int) + 4 ≤ len := by omega
      have hrl := HRn.out.length
      obtain ⟨b0, b1, b2, b3, rs', hrs⟩ := four (r := bs.drop i) (by simp; omega)
      have hrs2 : bs.drop (i + 4) = rs' := by
        rw [← List.drop_drop, hrs]; rfl
      obtain ⟨gb, o, ha, _⟩ := HRn.out.addr (by omega)
      subst ha
      have HR1 := HRn.out.below HB.out
      have HR2 := HR1.part i (len - i) (by omega) (cap - i) (by have := HRn.out.le; omega) (by omega)
      rw [List.take_of_length_le (by simp; omega), hrs] at HR2
      obtain ⟨⟨q0, q1, q2, q3⟩, f0, f1, f2, f3⟩ := HR2.cells4 (by omega)
      have hxb := wrd_bd f0 f1 f2 f3
      have HW := hide (wrd_or f0 f1 f2 f3)
      rw [hrs, dmp_cons, ← hrs2] at HT
      have hDc := fun w => rdcd_any (wrd b0 b1 b2 b3) w hxb.1 hxb.2
      have hdl := dtx_len hxb.1 hxb.2
      have hdx : dtx (wrd b0 b1 b2 b3) = (match decN (wrd b0 b1 b2 b3) with | none => [63] | some (k, m) => tx k m) := rfl
      have hDF : ∀ k m, decN (wrd b0 b1 b2 b3) = some (k, m) → m.Fit := fun k m h => decN_fit hxb.1 hxb.2 h
      generalize decN (wrd b0 b1 b2 b3) = dn at *
      generalize dtx (wrd b0 b1 b2 b3) = dt at *
      generalize wrd b0 b1 b2 b3 = x at *
      obtain ⟨a0, a0'⟩ := f0
      obtain ⟨a1, a1'⟩ := f1
      obtain ⟨a2, a2'⟩ := f2
      obtain ⟨a3, a3'⟩ := f3
      have HDc := hide hDc
      have HDx := hide hdx
      have HDF := hide hDF
      have n0 : (i : Int) < len := by omega
      have n1 : (i : Int) + 1 < len := by omega
      have n2 : (i : Int) + 2 < len := by omega
      have n3 : (i : Int) + 3 < len := by omega
      have hlz := str_size l0
      have hls : (str l0).size ≤ 2510000 := by omega
      have HAp : Hid (∀ b, str l0 ++ str b = str (l0 ++ b)) := hide (fun b => str_app l0 b)
      generalize str l0 = s0 at *
      clear hDc hdx hDF hxb HR1 HR2 hrs hrs2 hrl hlz
      have hz0 : (0 : Int) ≤ i := by omega
      have e0 : o + i = o + ((i : Int)).toNat := by omega
      have e1 : o + i + 1 = o + ((i : Int) + 1).toNat := by omega
      have e2 : o + i + 2 = o + ((i : Int) + 2).toNat := by omega
      have e3 : o + i + 3 = o + ((i : Int) + 3).toNat := by omega
      rw [e0] at q0
      rw [e1] at q1
      rw [e2] at q2
      rw [e3] at q3
      have hzl : (i : Int) ≤ 10000 := by omega
      clear e0 e1 e2 e3
      generalize hz : (i : Int) = z at *
      have HZ := hide hz
      clear hz
      have w1 : IntKind.i64.wrap (z + 1) = z + 1 := by rw [IntKind.wrap_i64]; omega
      have w2 : IntKind.i64.wrap (z + 2) = z + 2 := by rw [IntKind.wrap_i64]; omega
      have w3 : IntKind.i64.wrap (z + 3) = z + 3 := by rw [IntKind.wrap_i64]; omega
      have m1 : 0 ≤ z + 1 := by omega
      have m2 : 0 ≤ z + 2 := by omega
      have m3 : 0 ≤ z + 3 := by omega
      go_wp2_with fail
      go_quiet (fail)
      rw [HW.out]
      have HB1 : Hid (Below w.heap.size w (wr.drewN nq)) := hide (HB.out.trans ((bel_drewN wr nq).mono HB.out.size))
      clear q0 q1 q2 q3 a0 a0' a1 a1' a2 a2' a3 a3' w1 w2 w3 m1 m2 m3 n0 n1 n2 n3 HB
      generalize wr.drewN nq = V at *
      have hzV := HB1.out.size
      cases dn with
      | none =>
        have HTe : Hid (dt = [63]) := hide HDx.out
        unfold prsV inst at HDc
        go_wp2_with fail
        refine (HDc.out _).mono ?_
        rintro e W2 ⟨rfl, hb2⟩
        have HB2 := hide (HB1.out.trans (hb2.mono hzV))
        have hz2 := HB2.out.size
        have HB3 := hide (HB2.out.alloc hz2 (.cells #[.int .i64 0, .int .i64 0, .int .i64 0, .int .i64 0, .int .i64 0] 23))
        have ha := HAp.out [63, 10]
        have HA2 : Hid (s0 ++ (⟨#[63, 10]⟩ : ByteArray) = str (l0 ++ [63, 10])) := hide ha
        have HT2 : Hid ((l0 ++ [63, 10]) ++ dmp (bs.drop (i + 4)) = tot) := hide (by rw [← HT.out, HTe.out]; simp)
        clear ha hb2 HDc HB1 HB2
        go_wp2
        go_roundg (len - (i + 4))
        case measure => omega
        case rel => exact ⟨i + 4, l0 ++ [63, 10], by omega, rfl, by rw [← HA2.out], by rw [← HZ.out]; go_num, by simp; omega, HT2.out, HB3.out⟩
      | some y =>
        obtain ⟨k, m⟩ := y
        have HTe : Hid (dt = tx k m) := hide HDx.out
        have HFt := hide (HDF.out k m rfl)
        have HTx := hide (fun w => rtext_any k m w HFt.out)
        rw [← HTe.out] at HTx
        unfold prsV inst at HDc
        unfold inst at HTx
        have ha := HAp.out dt
        have hdz := str_size dt
        have hds : (str dt).size ≤ 250 := by omega
        have HA3 : Hid (s0 ++ str dt ++ (⟨#[10]⟩ : ByteArray) = str (l0 ++ dt ++ [10])) := hide (by rw [ha]; exact str_app (l0 ++ dt) [10])
        generalize str dt = sd at *
        obtain ⟨d, s1, t, im⟩ := m
        dsimp only at *
        clear ha hdz
        go_wp2_with fail
        refine (HDc.out _).mono ?_
        rintro e W2 ⟨rfl, hb2⟩
        have HB2 := hide (HB1.out.trans (hb2.mono hzV))
        have hz2 := HB2.out.size
        have HB3 := hide (HB2.out.alloc hz2 (.cells #[.int .i64 k, .int .i64 d, .int .i64 s1, .int .i64 t, .int .i64 im] 23))
        have HT2 : Hid ((l0 ++ dt ++ [10]) ++ dmp (bs.drop (i + 4)) = tot) := hide (by rw [← HT.out]; simp)
        clear hb2 HDc HB1 HB2
        go_wp2_with fail
        refine (HTx.out _).mono ?_
        rintro e W3 ⟨rfl, hb3⟩
        have HB4 := hide (HB3.out.trans (hb3.mono (by simp; omega)))
        clear hb3 HTx HB3
        go_wp2
        go_roundg (len - (i + 4))
        case measure => omega
        case rel => exact ⟨i + 4, l0 ++ dt ++ [10], by omega, rfl, by rw [← HA3.out], by rw [← HZ.out]; go_num, by simp; omega, HT2.out, HB4.out⟩
    · have HTe : Hid (l0 = tot) := hide (by rw [← HT.out, dmp_short (by simp; have := HRn.out.length; omega), List.append_nil])
      go_wp2
      go_ret
      exact ⟨by rw [← HTe.out]; rfl, HB.out⟩

def lwL : List UInt8 := [108, 119, 32, 120, 53, 44, 32, 45, 52, 40, 120, 50, 41]
def lwB : List UInt8 := [108, 119, 32, 120, 53, 44, 32, 45, 52, 32, 40, 120, 50, 41]
def lnsL : List UInt8 := [101, 99, 97, 108, 108, 10, 35, 32, 120, 10, 32, 97, 100, 100, 105, 32, 120, 49, 44, 32, 120, 50, 44, 32, 51, 32, 10]
def ecL : List UInt8 := [101, 99, 97, 108, 108]
def adL : List UInt8 := [97, 100, 100, 105, 32, 120, 49, 44, 32, 120, 50, 44, 32, 51]

theorem it1 : Lib.itoa 1 = [49] := itoa_one (u := 1) (by decide)
theorem it2 : Lib.itoa 2 = [50] := itoa_one (u := 2) (by decide)
theorem it3 : Lib.itoa 3 = [51] := itoa_one (u := 3) (by decide)
theorem it5 : Lib.itoa 5 = [53] := itoa_one (u := 5) (by decide)
theorem it4 : Lib.itoa (-4) = [45, 52] := by
  have := itoa_minus (u := 4) (by decide)
  rw [itoa_one (u := 4) (by decide)] at this
  exact this
theorem pat13 : pat 13 = [120, 68, 44, 32, 73, 40, 120, 83, 41] := by decide +kernel
theorem pat22 : pat 22 = [120, 68, 44, 32, 120, 83, 44, 32, 73] := by decide +kernel
theorem pat64 : pat 64 = [] := by decide +kernel
theorem tx13 : tx 13 ⟨5, 2, 0, -4⟩ = lwL := by
  unfold tx
  rw [if_pos (by decide +kernel), pat13, if_neg (by simp), show nml 13 = [108, 119] by decide +kernel]
  simp [fil, fch, it5, it2, it4, lwL]
theorem tx22 : tx 22 ⟨1, 2, 0, 3⟩ = adL := by
  unfold tx
  rw [if_pos (by decide +kernel), pat22, if_neg (by simp), show nml 22 = [97, 100, 100, 105] by decide +kernel]
  simp [fil, fch, it1, it2, it3, adL]
theorem tx64 : tx 64 ⟨0, 0, 0, 0⟩ = ecL := by
  unfold tx
  rw [if_pos (by decide +kernel), pat64, if_pos rfl, show nml 64 = ecL by decide +kernel]
  rfl
theorem prs13 : prsA lwL = some (13, ⟨5, 2, 0, -4⟩) := by
  rw [← tx13]
  exact prsA_of (k := 13) (by decide) (by decide) ⟨fun h => absurd h (by decide +kernel), fun h => absurd h (by decide +kernel), fun _ => rfl, fun h => absurd h (by decide +kernel)⟩ (by decide +kernel)
theorem prs22 : prsA adL = some (22, ⟨1, 2, 0, 3⟩) := by
  rw [← tx22]
  exact prsA_of (k := 22) (by decide) (by decide) ⟨fun h => absurd h (by decide +kernel), fun h => absurd h (by decide +kernel), fun _ => rfl, fun h => absurd h (by decide +kernel)⟩ (by decide +kernel)
theorem prs64 : prsA ecL = some (64, ⟨0, 0, 0, 0⟩) := by
  rw [← tx64]
  exact prsA_of (k := 64) (by decide) (by decide) ⟨fun _ => rfl, fun _ => rfl, fun _ => rfl, fun _ => rfl⟩ (by decide +kernel)
theorem prs_bad : prsA lwB = none := by
  unfold prsA
  rw [show fnd (hdB 32 lwB) = some 13 by decide +kernel]
  have : (rdn (pat (13 : Nat)) (tlB 32 lwB) ⟨0, 0, 0, 0⟩).isNone = true := by decide +kernel
  rw [Option.isNone_iff_eq_none] at this
  simp only [this]
theorem lnG_some {f n : Nat} {l t : List UInt8} {ws : List Int} {k : Nat} {m : Ns} (hl : l ≠ []) (ht : lnT l = t) (h1 : ¬ (t = [] ∨ t.head? = some 35)) (hp : prsA t = some (k, m)) :
    lnG (f + 1) n l ws = lnG f (n + 1) (tlB 10 l) (ws ++ [encW k m.d m.s m.t m.i]) := by
  rw [lnG, if_neg hl, ht, if_neg h1, hp]
theorem lnG_skip {f n : Nat} {l : List UInt8} {ws : List Int} (hl : l ≠ []) (h1 : lnT l = [] ∨ (lnT l).head? = some 35) : lnG (f + 1) n l ws = lnG f (n + 1) (tlB 10 l) ws := by
  rw [lnG, if_neg hl, if_pos h1]
theorem lns_ex : ∃ a b, lns lnsL = ([a, b], 0) := by
  refine ⟨encW 64 0 0 0 0, encW 22 1 2 0 3, ?_⟩
  unfold lns
  rw [show lnsL.length = 24 + 3 from rfl, lnG_some (t := ecL) (by decide) (by decide +kernel) (by decide) prs64]
  rw [lnG_skip (by decide +kernel) (by right; decide +kernel)]
  rw [lnG_some (t := adL) (by decide +kernel) (by decide +kernel) (by decide) prs22]
  rw [show tlB 10 (tlB 10 (tlB 10 lnsL)) = [] by decide +kernel, lnG_nil]
  rfl
theorem opx115 : opx 115 = 64 := by decide +kernel
theorem dec115 : decN 115 = some (64, ⟨0, 0, 0, 0⟩) := by
  unfold decN
  rw [opx115, if_neg (by decide)]
  have e1 : rdO (fmo (64 : Nat)) 115 = 0 := by decide +kernel
  have e2 : r1O (fmo (64 : Nat)) 115 = 0 := by decide +kernel
  have e3 : r2O (fmo (64 : Nat)) 115 = 0 := by decide +kernel
  have e4 : imO (fmo (64 : Nat)) 115 = 0 := by decide +kernel
  rw [e1, e2, e3, e4]
theorem dmp_ex : dmp [115, 0, 0, 0, 1] = ecL ++ [10] := by
  rw [dmp_cons, show wrd 115 0 0 0 = 115 by decide, show dtx 115 = tx 64 ⟨0, 0, 0, 0⟩ by unfold dtx; rw [dec115]; rfl, tx64]
  rfl

set_option maxHeartbeats 12800000 in
theorem known_any5 (w : World) (hL : LaidA w) :
    Calls Tryz.prog 8 #[] w fun e w' => e = .returned (.bool true) ∧ Below w.heap.size w w' := by
  have HP1 := hide (fun w h => parse_any lwL w (by decide) h)
  have HP2 := hide (fun w h => parse_any lwB w (by decide) h)
  have HLi := hide (fun w h => lines_any lnsL w (by decide) h)
  obtain ⟨wa, wb, hln⟩ := lns_ex
  rw [prs13] at HP1
  rw [prs_bad] at HP2
  rw [hln] at HLi
  have HTx := hide (fun w h => text_any 13 ⟨5, 2, 0, -4⟩ w ⟨by decide, by decide, by decide, by decide⟩ h)
  rw [tx13] at HTx
  have HDm := hide (fun a len cap w r h => dump_any a len cap [115, 0, 0, 0, 1] w r h)
  rw [dmp_ex] at HDm
  have HL := hide hL
  unfold prsV inst at HP1 HP2
  unfold inst at HTx
  unfold lwL at HP1 HTx
  unfold lwB at HP2
  unfold lnsL at HLi
  unfold ecL at HDm
  clear hL hln
  go_enter Tryz.func8, Tryz.ntmps8
  go_wp2_with fail
  refine (HP1.out _ HL.out).mono ?_
  rintro e W1 ⟨rfl, b1⟩
  have HL1 := hide (HL.out.then b1)
  have HB1 := hide b1
  have z1 := b1.size
  clear b1 HP1
  go_wp2_with fail
  refine (HP2.out _ (HL1.out.alloc _)).mono ?_
  rintro e W2 ⟨rfl, b2⟩
  have c2 := (cel_alloc W1 13 5 2 0 (-4)).below b2 (by simp)
  have HL2 := hide ((HL1.out.alloc _).then b2)
  have HB2 := hide ((HB1.out.alloc z1 _).trans (b2.mono (by simp; omega)))
  have z2 := b2.size
  rw [size_alloc] at z2
  have HC2 := hide c2
  clear b2 c2 HP2 HL1 HB1
  go_wp2_with fail
  refine (HLi.out _ (HL2.out.alloc _)).mono ?_
  rintro e W3 ⟨v3, rfl, r3, b3⟩
  obtain ⟨a3, cap3, rfl⟩ := own_sl r3
  have c3 := (HC2.out.below ((Below.refl _ W2).alloc (Nat.le_refl _) _) (by omega)).below b3 (by simp; omega)
  have HL3 := hide ((HL2.out.alloc _).then b3)
  have HB3 := hide ((HB2.out.alloc (by omega) _).trans (b3.mono (by simp; omega)))
  have z3 := b3.size
  rw [size_alloc] at z3
  obtain ⟨q0, q1, q2, q3, q4, zz⟩ := c3
  clear b3 r3 zz HLi HL2 HB2 HC2
  go_wp2_with (go_at_call 9; refine (HTx.out _ HL3.out).mono ?_; rintro e W4 ⟨rfl, b4⟩; refine Hid.out ?_)
  refine Lib.hid ?_
  have HL4 := hide (HL3.out.then b4)
  have HB4 := hide (HB3.out.trans (b4.mono (by omega)))
  have z4 := b4.size
  clear b4 HTx HL3 HB3 q0 q1 q2 q3 q4
  go_wp2_with fail
  refine (HDm.out _ 5 5 _ (Rn.lit .u8 255 5 W4 [115, 0, 0, 0, 1] (by decide) (by decide) (by decide)) (by decide) (HL4.out.alloc _)).mono ?_
  rintro e W5 ⟨rfl, b5⟩
  have HB5 := hide ((HB4.out.alloc (by omega) _).trans (b5.mono (by simp; omega)))
  clear b5 HDm HL4 HB4
  go_wp2
  go_ret
  exact ⟨rfl, HB5.out⟩

end Go.Proofs.YtcghekkhbiomgaaGreatDoor
