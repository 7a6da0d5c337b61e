/- The contract of asm's appendNumbers: a pattern filled with an instruction's numbers, behind a row of bytes. -/
import Derived.Test.YtcghekkhbiomgaaGreatDoorAsmPat
import Derived.Maps.Own
import Derived.Maps.OwnOps
import Derived.Maps.OwnSet
import Derived.Lib.AppendIntMem
import Derived.Lib.AppendStr
import Derived.Lib.BufferKept
import Derived.Laws.IdiomStrings
import Derived.OwnWalk
import Derived.BigCall
namespace Go.Proofs.YtcghekkhbiomgaaGreatDoor
open Go.RowKit Go.Maps
set_option linter.unusedVariables false
set_option maxRecDepth 100000

theorem size_alloc (w : World) (o : Obj) : (w.alloc o).heap.size = w.heap.size + 1 := by simp

/-- A row of bytes of the call's own. -/
def Row (B : Nat) (w : World) (v : Value) (l : List UInt8) : Prop := w.ownsRow B 5 1 v l.length (Lib.byteCells l)
theorem Row.tag {B : Nat} {w : World} {v : Value} {l : List UInt8} (h : Row B w v l) : ∀ g, v.ownBlock = some g → ∃ c fz, w.heap[g]? = some (.cells c 5 fz) := by
  intro g hg
  rcases h.2 with ⟨rfl, _⟩ | ⟨g', cap, cur, rfl, _, h2, _⟩
  · cases hg
  · cases hg; exact ⟨_, _, h2⟩
theorem ownsMap_kept {H : Type} {P : Program} {k : TypeId} {R : Value → Option (DataW H × List MemPlace)} {w w' : World} {b n : Nat} {D : DataW H} {e : TypeId} (h : w.ownsMap P k R b n D) (hk : Lib.OthersKept e none w w') : w'.ownsMap P k R b n D := by
  obtain ⟨es, clock, hb, F, hs, hD⟩ := h
  exact ⟨es, clock, hk b _ hb (by simp) (by intro c fz h; cases h), F, hs, hD⟩

theorem infoByte : (Tryz.prog.info? 5).map (fun i => (i.zero, i.size, i.bytes)) = some (some (.int .u8 0), 1, 1) := by kernel_rfl
theorem byteKey : Keyed Tryz.prog 5 := int_keyed Tryz.underlying5
theorem wf_u8 (c : UInt8) : (Lit.int .u8 c.toNat).wf = true := by
  have := c.toNat_lt
  simp [Lit.wf, IntKind.min, IntKind.max, IntKind.signed, IntKind.bits]; omega
theorem keyByte (c : UInt8) : keyOf Tryz.prog 5 (.int .u8 c.toNat) = some (.int .u8 c.toNat) := keyOf_int_mk Tryz.underlying5 (wf_u8 c)
theorem zero64 (w : World) : (zeroValue 2).run Tryz.prog w = .ok (.int .i64 0) w := by kernel_rfl

def Ns.Fit (m : Ns) : Prop := (-9223372036854775808 ≤ m.d ∧ m.d ≤ 9223372036854775807) ∧ (-9223372036854775808 ≤ m.s ∧ m.s ≤ 9223372036854775807) ∧ (-9223372036854775808 ≤ m.t ∧ m.t ≤ 9223372036854775807) ∧ (-9223372036854775808 ≤ m.i ∧ m.i ≤ 9223372036854775807)

/-- The numbers by their letters. -/
noncomputable def mapD (m : Ns) : DataW Unit := ((((DataW.map []).put (.int .u8 68) (.lit (.int .i64 m.d))).put (.int .u8 83) (.lit (.int .i64 m.s))).put (.int .u8 84) (.lit (.int .i64 m.t))).put (.int .u8 73) (.lit (.int .i64 m.i))
theorem map1 (m : Ns) : IsMap ((DataW.map [] : DataW Unit).put (.int .u8 68) (.lit (.int .i64 m.d))) := isMap_empty.put _ _
theorem map2 (m : Ns) : IsMap (((DataW.map [] : DataW Unit).put (.int .u8 68) (.lit (.int .i64 m.d))).put (.int .u8 83) (.lit (.int .i64 m.s))) := (map1 m).put _ _
theorem map3 (m : Ns) : IsMap ((((DataW.map [] : DataW Unit).put (.int .u8 68) (.lit (.int .i64 m.d))).put (.int .u8 83) (.lit (.int .i64 m.s))).put (.int .u8 84) (.lit (.int .i64 m.t))) := (map2 m).put _ _
theorem isKeyB (c : UInt8) : WideAt.IsKeyLit (.int .u8 c.toNat) := byteKey.key (keyByte c)
theorem lit_ne {a b : Int} (h : a ≠ b) : (Lit.int .u8 a) ≠ .int .u8 b := fun e => h (by injection e)

theorem mapD_yes (m : Ns) (hm : m.Fit) (c : UInt8) (h : isL c = true) : Maps.has (mapD m) (.int .u8 c.toNat) = true ∧ ∃ z, (mapD m).atKey (.int .u8 c.toNat) (.lit (.int .i64 0)) = .lit (.int .i64 z) ∧ fch m c = Lib.itoa z ∧ -9223372036854775808 ≤ z ∧ z ≤ 9223372036854775807 := by
  obtain ⟨h1, h2, h3, h4⟩ := hm
  have k68 := isKeyB 68
  have k83 := isKeyB 83
  have k84 := isKeyB 84
  have k73 := isKeyB 73
  simp only [show ((68 : UInt8).toNat : Int) = 68 by rfl, show ((83 : UInt8).toNat : Int) = 83 by rfl, show ((84 : UInt8).toNat : Int) = 84 by rfl, show ((73 : UInt8).toNat : Int) = 73 by rfl] at k68 k83 k84 k73
  simp only [isL, Bool.or_eq_true, decide_eq_true_eq] at h
  rcases h with ((rfl | rfl) | rfl) | rfl
  all_goals simp only [show ((68 : UInt8).toNat : Int) = 68 by rfl, show ((83 : UInt8).toNat : Int) = 83 by rfl, show ((84 : UInt8).toNat : Int) = 84 by rfl, show ((73 : UInt8).toNat : Int) = 73 by rfl]
  · refine ⟨?_, m.d, ?_, by simp [fch], h1.1, h1.2⟩
    · unfold mapD
      rw [has_put_other (lit_ne (by decide)), has_put_other (lit_ne (by decide)), has_put_other (lit_ne (by decide)), has_put_same isMap_empty k68]
    · unfold mapD
      rw [atKey_put_other (lit_ne (by decide)), atKey_put_other (lit_ne (by decide)), atKey_put_other (lit_ne (by decide)), atKey_put_same isMap_empty k68]
  · refine ⟨?_, m.s, ?_, by simp [fch], h2.1, h2.2⟩
    · unfold mapD
      rw [has_put_other (lit_ne (by decide)), has_put_other (lit_ne (by decide)), has_put_same (map1 m) k83]
    · unfold mapD
      rw [atKey_put_other (lit_ne (by decide)), atKey_put_other (lit_ne (by decide)), atKey_put_same (map1 m) k83]
  · refine ⟨?_, m.t, ?_, by simp [fch], h3.1, h3.2⟩
    · unfold mapD
      rw [has_put_other (lit_ne (by decide)), has_put_same (map2 m) k84]
    · unfold mapD
      rw [atKey_put_other (lit_ne (by decide)), atKey_put_same (map2 m) k84]
  · refine ⟨?_, m.i, ?_, by simp [fch], h4.1, h4.2⟩
    · unfold mapD
      rw [has_put_same (map3 m) k73]
    · unfold mapD
      rw [atKey_put_same (map3 m) k73]
theorem u8_ne {a b : UInt8} (h : a ≠ b) : (a.toNat : Int) ≠ b.toNat := fun e => h (UInt8.toNat_inj.1 (by omega))
theorem mapD_no (m : Ns) (c : UInt8) (h : isL c = false) : Maps.has (mapD m) (.int .u8 c.toNat) = false ∧ fch m c = [c] := by
  simp [isL] at h
  obtain ⟨⟨⟨a, b⟩, d⟩, e⟩ := h
  have a' : (c.toNat : Int) ≠ 68 := u8_ne a
  have b' : (c.toNat : Int) ≠ 83 := u8_ne b
  have d' : (c.toNat : Int) ≠ 84 := u8_ne d
  have e' : (c.toNat : Int) ≠ 73 := u8_ne e
  refine ⟨?_, by simp [fch, a, b, d, e]⟩
  unfold mapD
  rw [has_put_other (lit_ne e'), has_put_other (lit_ne d'), has_put_other (lit_ne b'), has_put_other (lit_ne a')]
  rfl

theorem fil_snoc (m : Ns) (p : List UInt8) (k : Nat) (c : UInt8) (h : p[k]? = some c) : fil m (p.take (k + 1)) = fil m (p.take k) ++ fch m c := by
  unfold fil
  rw [List.take_add_one, h, List.flatMap_append]
  simp
theorem fch_len (m : Ns) (hm : m.Fit) (c : UInt8) : (fch m c).length ≤ 21 := by
  obtain ⟨h1, h2, h3, h4⟩ := hm
  unfold fch
  repeat' split
  · exact Lib.itoa_length_le _ h1.1 h1.2
  · exact Lib.itoa_length_le _ h2.1 h2.2
  · exact Lib.itoa_length_le _ h3.1 h3.2
  · exact Lib.itoa_length_le _ h4.1 h4.2
  · simp
theorem fil_len (m : Ns) (hm : m.Fit) : ∀ p, (fil m p).length ≤ 21 * p.length
  | [] => by simp [fil]
  | c :: p => by
    have h1 := fch_len m hm c
    have h2 := fil_len m hm p
    have : fil m (c :: p) = fch m c ++ fil m p := by simp [fil]
    rw [this, List.length_append, List.length_cons]; omega
theorem wf_i64 {z : Int} (h : -9223372036854775808 ≤ z ∧ z ≤ 9223372036854775807) : (Lit.int .i64 z).wf = true := WalkArith.wf_i64 (by omega)
theorem cells_snoc (l : List UInt8) (c : UInt8) : Lib.byteCells l ++ [Value.int .u8 c.toNat] = Lib.byteCells (l ++ [c]) := by simp [Lib.byteCells]
theorem cells_app (l r : List UInt8) : Lib.byteCells l ++ Lib.byteCells r = Lib.byteCells (l ++ r) := by simp [Lib.byteCells]

set_option maxHeartbeats 3200000 in
theorem fill_any (B : Nat) (l p : List UInt8) (op : Int) (m : Ns) (sv : Value) (w : World) (hm : m.Fit) (hp : p.length ≤ 64) (hl : l.length ≤ 100000000) (hown : Row B w sv l) (hB : B ≤ w.heap.size)
    (hT : Lib.TabBelow Tryz.prog B w "internal/strconv.uint64pow10" .u64 Lib.pow10Tab) :
    Calls Tryz.prog 41 #[sv, .string (str p), inst op m.d m.s m.t m.i] w fun e w' => ∃ v', e = .returned v' ∧ Row B w' v' (l ++ fil m p) ∧ Below B w w' ∧ Lib.OthersKept 5 none w w' := by
  obtain ⟨i0, hi, hz0, hz1, hz2⟩ := info_parts infoByte
  have hmm := @run_makeMap Tryz.prog
  have HM := hide (fun c h => mapD_yes m hm c h)
  have HN := hide (fun c h => mapD_no m c h)
  have HF := hide (fil_snoc m p)
  have HL := hide (fun k => fil_len m hm (p.take k))
  have HLC := hide (fun c => fch_len m hm c)
  have HE : Hid (fil m (p.take p.length) = fil m p) := hide (by rw [List.take_length])
  have HD : Hid (mapD m = ((((DataW.map []).put (.int .u8 68) (.lit (.int .i64 m.d))).put (.int .u8 83) (.lit (.int .i64 m.s))).put (.int .u8 84) (.lit (.int .i64 m.t))).put (.int .u8 73) (.lit (.int .i64 m.i))) := hide rfl
  have f0 : Hid (fil m (p.take 0) = []) := hide rfl
  have w1 := wf_i64 hm.1
  have w2 := wf_i64 hm.2.1
  have w3 := wf_i64 hm.2.2.1
  have w4 := wf_i64 hm.2.2.2
  have hsz := str_size p
  have HX : Hid (∀ (n : Nat) (h : n < (str p).size), p[n]? = some ((str p)[n]'h)) := hide (fun n h => Lib.getElem_mk p n h)
  have HO := hide hown
  have HT := hide hT
  have hlp := hp
  rw [← hsz] at hlp
  generalize str p = s at *
  obtain ⟨d, s1, t, i⟩ := m
  dsimp only at *
  generalize hFil : fil ⟨d, s1, t, i⟩ = F at *
  generalize hFch : fch ⟨d, s1, t, i⟩ = FC at *
  generalize mapD ⟨d, s1, t, i⟩ = D at *
  clear hown hT hm hFil hFch
  unfold inst
  go_enter Tryz.func41, Tryz.ntmps41
  go_wp2_with fail
  obtain ⟨W1, h1, O1, G1⟩ := (World.ownsMap_made (H := Unit) (w.alloc (.cells #[.int .i64 op, .int .i64 d, .int .i64 s1, .int .i64 t, .int .i64 i] 23)) Tryz.prog 5 (plainElem Tryz.prog 2)).update byteKey Tryz.underlying57 (by unfold maxLen; omega) (show keyOf Tryz.prog 5 (.int .u8 68) = some (.int .u8 68) from keyByte 68) (plainElem_int Tryz.underlying2 w1)
  simp only [size_alloc] at h1 O1 G1
  rw [h1]
  have z1 := G1.size
  simp only [size_alloc] at z1
  have q2 : W1.cell? ⟨w.heap.size, 2, none⟩ = some (.int .i64 s1) := cell_grown G1 (by simp) (by simp)
  have q3 : W1.cell? ⟨w.heap.size, 3, none⟩ = some (.int .i64 t) := cell_grown G1 (by simp) (by simp)
  have q4 : W1.cell? ⟨w.heap.size, 4, none⟩ = some (.int .i64 i) := cell_grown G1 (by simp) (by simp)
  have HG1 := hide G1
  have HO1 := hide O1
  clear G1 O1 h1
  go_wp2_with fail
  obtain ⟨W2, h2, O2, G2⟩ := HO1.out.update byteKey Tryz.underlying57 (by unfold maxLen; omega) (show keyOf Tryz.prog 5 (.int .u8 83) = some (.int .u8 83) from keyByte 83) (plainElem_int Tryz.underlying2 w2)
  rw [h2]
  have z2 := G2.size
  have q3 : W2.cell? ⟨w.heap.size, 3, none⟩ = some (.int .i64 t) := cell_grown G2 q3 (by simp)
  have q4 : W2.cell? ⟨w.heap.size, 4, none⟩ = some (.int .i64 i) := cell_grown G2 q4 (by simp)
  have HG2 := hide G2
  have HO2 := hide O2
  clear G2 O2 h2 HO1
  go_wp2_with fail
  obtain ⟨W3, h3, O3, G3⟩ := HO2.out.update byteKey Tryz.underlying57 (by unfold maxLen; omega) (show keyOf Tryz.prog 5 (.int .u8 84) = some (.int .u8 84) from keyByte 84) (plainElem_int Tryz.underlying2 w3)
  rw [h3]
  have z3 := G3.size
  have q4 : W3.cell? ⟨w.heap.size, 4, none⟩ = some (.int .i64 i) := cell_grown G3 q4 (by simp)
  have HG3 := hide G3
  have HO3 := hide O3
  clear G3 O3 h3 HO2
  go_wp2_with fail
  obtain ⟨W4, h4, O4, G4⟩ := HO3.out.update byteKey Tryz.underlying57 (by unfold maxLen; omega) (show keyOf Tryz.prog 5 (.int .u8 73) = some (.int .u8 73) from keyByte 73) (plainElem_int Tryz.underlying2 w4)
  rw [h4]
  have z4 := G4.size
  rw [← HD.out] at O4
  have b4' : ∀ C, C ≤ w.heap.size → Below C w W4 := fun C hC => by
    have b0 : Below C w ((w.alloc (.cells #[.int .i64 op, .int .i64 d, .int .i64 s1, .int .i64 t, .int .i64 i] 23)).alloc (.map #[] 0)) := ((Below.refl C w).alloc hC _).alloc (by simp; omega) _
    have b1 := b0.grown HG1.out (by simp; omega) (fun j hj => by cases hj; omega)
    have b2 := b1.grown HG2.out (by omega) (fun j hj => by cases hj; omega)
    have b3 := b2.grown HG3.out (by omega) (fun j hj => by cases hj; omega)
    exact b3.grown G4 (by omega) (fun j hj => by cases hj; omega)
  have b4 := b4' B hB
  have k4 : Lib.OthersKept 5 none w W4 := (Lib.OthersKept.refl _ _ _).below (b4' _ (Nat.le_refl _))
  have r4 : Row B W4 sv l := by
    have h0 : ((w.alloc (.cells #[.int .i64 op, .int .i64 d, .int .i64 s1, .int .i64 t, .int .i64 i] 23)).alloc (.map #[] 0)).ownsRow B 5 1 sv l.length (Lib.byteCells l) := (HO.out.alloc _).alloc _
    have hne : sv.ownBlock = none ∨ sv.ownBlock ≠ some (w.heap.size + 1) := .inr (fun e => by have := (World.ownsRow.lt HO.out _ e).2; omega)
    exact (((h0.kept HG1.out hne).kept HG2.out hne).kept HG3.out hne).kept G4 hne
  have HB4 := hide b4
  have HK4 := hide k4
  have HR4 := hide r4
  have HO4 := hide O4
  clear G4 O4 h4 HO3 b4 b4' k4 r4 HG1 HG2 HG3 q2 q3 q4 HO
  go_wp2
  go_loopw [0, 23] (fun v i wr => ∃ k : Nat, k ≤ s.size ∧ i = .int .i64 k ∧ Hid (Row B wr v (l ++ F (p.take k))) ∧ Hid (Below B w wr) ∧ Hid (wr.ownsMap Tryz.prog 5 (plainElem Tryz.prog 2) (w.heap.size + 1) 4 D) ∧ w.heap.size + 1 < wr.heap.size ∧ Hid (Lib.OthersKept 5 none w wr))
    (fun _ i _ => s.size - (intOf i).toNat)
  case atStart => exact ⟨0, Nat.zero_le _, rfl, by rw [f0.out, List.append_nil]; exact HR4.out, HB4.out, HO4.out, by omega, HK4.out⟩
  case round =>
    obtain ⟨k, hk, rfl, HR, HB, HO, hz, HK⟩ := hrel
    by_cases hlt : k < s.size
    · have hlt' : (k : Int) < s.size := by omega
      have hx := HX.out k hlt
      obtain ⟨c, hc⟩ : ∃ c, c = s[k]'hlt := ⟨_, rfl⟩
      rw [← hc] at hx
      have hy : ((s[k]'hlt).toNat : Int) = (c.toNat : Int) := by rw [hc]
      have hF := HF.out k c hx
      have hlen := HL.out k
      have hfc := HLC.out c
      have hlen' : (F (p.take k)).length ≤ 21 * 64 := by
        have : (p.take k).length ≤ 64 := by simp; omega
        omega
      have HF2 := hide hF
      have HLN := hide hlen'
      have HFC := hide hfc
      clear hc hx hF hlen hlen' hfc
      by_cases hL : isL c = true
      · obtain ⟨m1, z, m2, m3, z0, z1⟩ := HM.out c hL
        have M1 := hide m1
        have M2 := hide m2
        have M3 := hide m3
        clear m1 m2 m3
        go_wp2_with (first
          | (at_lookup; refine wpList_lookup_own_ok_int _ rfl _ _ 57 rfl 5 2 .i64 byteKey Tryz.underlying57 Tryz.underlying2 (zero64 _) (w.heap.size + 1) 4 D rfl HO.out (.int .u8 c.toNat) (.int .u8 c.toNat) rfl (keyByte c) ?_; intro c' hat hwc; rw [M2.out] at hat; injection hat with hat; injection hat with _ hat; subst hat; rw [M1.out])
          | (go_at_call 66; refine (Tryz.strconv_AppendInt_10 B _ z z0 z1 _ _ _ HR.out (by omega) (by have := HLN.out; rw [List.length_append]; omega) (HT.out.on HB.out)).mono ?_; rintro e W5 ⟨v5, rfl, r5, b5, k5⟩; refine Hid.out ?_))
        refine Lib.hid ?_
        rw [cells_app, ← List.length_append, ← M3.out, List.append_assoc, ← HF2.out] at r5
        have HR5 := hide r5
        have HB5 := hide b5
        have HO5 := hide (ownsMap_kept HO.out k5)
        have HK5 := hide (HK.out.trans k5)
        have hz5 := b5.size
        clear r5 b5 k5
        go_wp2
        go_roundw
        case rel => exact ⟨k + 1, by omega, by go_num, HR5.out, HB.out.trans HB5.out, HO5.out, by omega, HK5.out⟩
        case measure => simp [intOf]; omega
      · have hL' : isL c = false := by simpa using hL
        obtain ⟨m1, m3⟩ := HN.out c hL'
        have M1 := hide m1
        have M3 := hide m3
        clear m1 m3 hL hL'
        go_wp2_with (first
          | (at_lookup; refine wpList_lookup_own_ok_int _ rfl _ _ 57 rfl 5 2 .i64 byteKey Tryz.underlying57 Tryz.underlying2 (zero64 _) (w.heap.size + 1) 4 D rfl HO.out (.int .u8 c.toNat) (.int .u8 c.toNat) rfl (keyByte c) ?_; intro c' hat hwc; rw [M1.out])
          | (at_builtin; refine wpList_append_own _ rfl _ _ 35 rfl B 5 i0 (.int .u8 0) 1 1 Tryz.underlying35 hi hz0 hz1 hz2 rfl (by decide) _ _ _ rfl (HR.out.alloc _) ⟨wr.heap.size, 0, none⟩ 1 1 [Value.int .u8 c.toNat] rfl rfl (by intro j u' hj; match j, hj with | 0, hj => simp at hj; subst hj; simp [Addr.add]) (by intro u' hu'; simp at hu'; subst hu'; rfl) (by have := HLN.out; rw [List.length_append]; unfold maxLen; omega) (by have := HLN.out; rw [List.length_append]; omega) (by simp; omega) ?_; intro v5 W5 r5 g5 n5; refine Hid.out ?_))
        refine Lib.hid ?_
        have k5 : Lib.OthersKept 5 none wr W5 := ((Lib.OthersKept.refl _ _ _).alloc _).grown g5 (fun g hg => by
          obtain ⟨c0, fz, hcc⟩ := Row.tag HR.out g hg
          exact ⟨c0, fz, by rw [Below.heap_alloc _ _ _ (World.ownsRow.lt HR.out _ hg).2]; exact hcc⟩)
        have b5 : Below B wr W5 := ((Below.refl B wr).alloc (by omega) _).grown g5 (by simp; omega) (fun g hg => (World.ownsRow.lt HR.out _ hg).1)
        have e5 : (l ++ F (p.take k)).length + 1 = (l ++ F (p.take (k + 1))).length := by rw [HF2.out, M3.out]; simp; omega
        rw [cells_snoc, e5, List.append_assoc, ← M3.out, ← HF2.out] at r5
        have HR5 := hide r5
        have HB5 := hide b5
        have HO5 := hide (ownsMap_kept HO.out k5)
        have HK5 := hide (HK.out.trans k5)
        have hz5 := b5.size
        clear r5 b5 k5 e5 n5 g5
        go_wp2
        go_roundw
        case rel => exact ⟨k + 1, by omega, by go_num, HR5.out, HB.out.trans HB5.out, HO5.out, by omega, HK5.out⟩
        case measure => simp [intOf]; omega
    · obtain rfl : k = s.size := by omega
      rw [hsz, HE.out] at HR
      go_wp2
      go_ret
      exact ⟨_, rfl, HR.out, HB.out, HK.out⟩

end Go.Proofs.YtcghekkhbiomgaaGreatDoor
