/- The contract of asm's Lines: the words of a text's lines. -/
import Derived.Test.YtcghekkhbiomgaaGreatDoorAsmParse
import Derived.Deep.LoopGhost
namespace Go.Proofs.YtcghekkhbiomgaaGreatDoor
open Go.RowKit
set_option linter.unusedVariables false
set_option maxRecDepth 100000
set_option linter.unusedSimpArgs false

/-- A line without the blanks about it; what a text's lines come to: so many rounds at most, the number of the next line, what is left, the words so far. -/
def lnT (l : List UInt8) : List UInt8 := Lib.trimB (hdB 10 l) 32
def lnG : Nat → Nat → List UInt8 → List Int → List Int × Nat
  | 0, n, l, ws => (ws, 0)
  | f + 1, n, l, ws =>
    if l = [] then (ws, 0)
    else if lnT l = [] ∨ (lnT l).head? = some 35 then lnG f (n + 1) (tlB 10 l) ws
    else match prsA (lnT l) with
      | none => ([], n)
      | some (k, m) => lnG f (n + 1) (tlB 10 l) (ws ++ [encW k m.d m.s m.t m.i])
def lns (l : List UInt8) : List Int × Nat := lnG l.length 1 l []
theorem lnG_nil (f n : Nat) (ws : List Int) : lnG f n [] ws = (ws, 0) := by cases f <;> simp [lnG]
theorem trimB_len (l : List UInt8) (c : UInt8) : (Lib.trimB l c).length ≤ l.length := by
  unfold Lib.trimB Lib.trimLeftB Lib.trimRightB
  refine Nat.le_trans (List.dropWhile_sublist _).length_le ?_
  rw [List.length_reverse]
  refine Nat.le_trans (List.dropWhile_sublist _).length_le ?_
  rw [List.length_reverse]
  exact Nat.le_refl _
theorem lnT_len (l : List UInt8) : (lnT l).length ≤ l.length := Nat.le_trans (trimB_len _ _) (hdB_len _ _)
theorem infoU32 : (Tryz.prog.info? 24).map (fun i => (i.zero, i.size, i.bytes)) = some (some (.int .u32 0), 1, 4) := by kernel_rfl
theorem u32_row (xs : List Int) (y : Int) : xs.map (Value.int .u32) ++ [.int .u32 y] = (xs ++ [y]).map (Value.int .u32) := by simp
theorem ownsRow_below {w w' : World} {B : Nat} {e : TypeId} {v : Value} {n : Nat} {xs : List Value} (h : w.ownsRow B e 1 v n xs) (hb : Below w.heap.size w w') : w'.ownsRow B e 1 v n xs :=
  h.kept (row := none) ⟨hb.os, hb.tape, hb.output, hb.size, fun i hi _ => hb.block i hi⟩ (by
    cases hv : v.ownBlock with
    | none => exact .inl rfl
    | some x => exact .inr (by simp))
theorem head_str {c : UInt8} {t : List UInt8} (h : 0 < (str (c :: t)).size) : (((str (c :: t))[0]'h).toNat : Int) = c.toNat := str_zero h

set_option maxHeartbeats 12800000 in
theorem lines_any (l : List UInt8) (w : World) (hl : l.length ≤ 1000000) (hL : LaidA w) :
    Calls Tryz.prog 14 #[.string (str l)] w fun e w' => ∃ v, e = .returned (.tuple #[v, .int .i64 (lns l).2]) ∧ w'.ownsRow w.heap.size 24 1 v (lns l).1.length ((lns l).1.map (Value.int .u32)) ∧ Below w.heap.size w w' := by
  obtain ⟨i0, hi, hz0, hz1, hz2'⟩ := info_parts infoU32
  have HL := hide hL
  have HC := hide (fun (r : List UInt8) (w : World) (h : r.length < 4294967281) (hL : LaidA w) => cut_any 10 r w h hL)
  have HTr := hide (fun (r : List UInt8) (w : World) (h : r.length ≤ 9223372036854775807) => trim_any r w h)
  have HPa := hide (fun (r : List UInt8) (w : World) (h : r.length ≤ 1000000) (hL : LaidA w) => parse_any r w h hL)
  have HLn := hide (fun f n ws => lnG_nil f n ws)
  have HUn : Hid (∀ f n l ws, l ≠ [] → lnG (f + 1) n l ws = if lnT l = [] ∨ (lnT l).head? = some 35 then lnG f (n + 1) (tlB 10 l) ws else match prsA (lnT l) with
      | none => ([], n)
      | some (k, m) => lnG f (n + 1) (tlB 10 l) (ws ++ [encW k m.d m.s m.t m.i])) := hide (fun f n l ws h => by rw [lnG, if_neg h])
  obtain ⟨tot, htot⟩ : ∃ tot, tot = lnG l.length 1 l [] := ⟨_, rfl⟩
  rw [show lns l = tot from htot.symm]
  have HTot := hide htot
  clear hL htot
  go_enter Tryz.func14, Tryz.ntmps14
  go_wp2
  go_loopg [0, 4, 5] l.length (fun g sv v nv wr => ∃ (r : List UInt8) (n : Nat) (ws : List Int) (v0 : Value), r.length ≤ g ∧ v0 = v ∧ sv = .string (str r) ∧ nv = .int .i64 n ∧ n + r.length ≤ l.length + 1 ∧ ws.length ≤ n ∧ 1 ≤ n ∧ Hid (lnG g n r ws = tot) ∧
      Hid (wr.ownsRow w.heap.size 24 1 v0 ws.length (ws.map (Value.int .u32))) ∧ Hid (Below w.heap.size w wr))
  case atStart => exact ⟨l, 1, [], _, Nat.le_refl _, rfl, rfl, rfl, by omega, by simp, by omega, HTot.out.symm, World.ownsRow_nil _ _ _ _, Below.refl _ _⟩
  case round =>
    obtain ⟨r, n, ws, v0, hg, rfl, rfl, rfl, hn, hws, hn1, HT, HO, HB⟩ := hrel
    by_cases hr : r = []
    · subst hr
      have HTe : Hid (tot = (ws, 0)) := hide (by rw [← HT.out, HLn.out])
      have he := str_empty []
      rw [decide_eq_true rfl] at he
      generalize str [] = sr at *
      go_wp2
      go_ret2
      exact ⟨_, by rw [HTe.out]; rfl, by rw [HTe.out]; exact HO.out, HB.out⟩
    · have he := str_empty r
      rw [decide_eq_false hr] at he
      have hrl : 0 < r.length := List.length_pos_iff.2 hr
      obtain ⟨g', rfl⟩ : ∃ g', gk = g' + 1 := ⟨gk - 1, by omega⟩
      have hT := HT.out
      rw [HUn.out _ _ _ _ hr] at hT
      have hlt := tlB_lt (c := 10) hr
      have hlen := lnT_len r
      have hC := HC.out r wr (by omega) (HL.out.then HB.out)
      have hhl := hdB_len 10 r
      have hTr := HTr.out (hdB 10 r)
      rw [show Lib.trimB (hdB 10 r) 32 = lnT r from rfl] at hTr
      have hPa := HPa.out (lnT r)
      have HC1 := hide hC
      have HTr1 := hide (fun w => hTr w (by omega))
      have HPa1 := hide (fun w => hPa w (by omega))
      generalize str (hdB 10 r) = sh at *
      generalize tlB 10 r = r2 at *
      clear hC hTr hPa hhl hlen HC HTr HPa HUn HT
      generalize str r = sr at *
      go_wp2_with fail
      refine HC1.out.mono ?_
      rintro e W1 ⟨b, rfl, n1, hW⟩
      rw [hW]
      clear hW W1 HC1
      go_wp2_with fail
      refine (HTr1.out _).mono ?_
      rintro e W1 ⟨rfl, n2, hW⟩
      have HO1 : Hid (W1.ownsRow w.heap.size 24 1 v0 ws.length (ws.map (Value.int .u32))) := by rw [hW]; exact HO
      have HB1 : Hid (Below w.heap.size w W1) := by rw [hW]; exact (HB.out.trans ((bel_drewN wr n1).mono HB.out.size)).trans ((bel_drewN _ n2).mono HB.out.size)
      clear hW HTr1 HB HO
      have HL1 := hide (HL.out.then HB1.out)
      have HL1 := hide (HL.out.then HB1.out)
      generalize lnT r = t at *
      cases t with
      | nil =>
        rw [if_pos (.inl rfl)] at hT
        have HT2 := hide hT
        have he2 := str_empty []
        rw [decide_eq_true rfl] at he2
        clear hT HPa1
        generalize str [] = st at *
        go_wp2
        go_roundg g'
        case measure => omega
        case rel => exact ⟨r2, n + 1, ws, v0, by omega, rfl, rfl, by go_num, by omega, by omega, by omega, HT2.out, HO1.out, HB1.out⟩
      | cons c t' =>
        have he2 := str_empty (c :: t')
        rw [decide_eq_false (by simp)] at he2
        have h0 : 0 < (str (c :: t')).size := by rw [str_size]; simp
        have hc0 := head_str h0
        by_cases hc : c = 35
        · subst hc
          rw [if_pos (.inr rfl)] at hT
          have HT2 := hide hT
          replace hc0 : (((str (35 :: t'))[0]'h0).toNat : Int) = 35 := hc0
          clear hT HPa1
          generalize str (35 :: t') = st at *
          go_wp2
          go_roundg g'
          case measure => omega
          case rel => exact ⟨r2, n + 1, ws, v0, by omega, rfl, rfl, by go_num, by omega, by omega, by omega, HT2.out, HO1.out, HB1.out⟩
        · rw [if_neg (by simp [hc])] at hT
          have hc' : ((c.toNat : Int) == 35) = false := by have := u8_ne hc; simpa using this
          have HTT := hide hT
          clear hT hc
          have HPa2 := hide (HPa1.out W1 HL1.out)
          generalize str (c :: t') = st at *
          clear HPa1
          cases hp : prsA (c :: t') with
          | none =>
            rw [hp] at HPa2 HTT
            have HTe : Hid (tot = ([], n)) := hide HTT.out.symm
            unfold prsV inst at HPa2
            clear HTT hp
            go_wp2_with fail
            refine HPa2.out.mono ?_
            rintro e W2 ⟨rfl, hb2⟩
            have HB2 := hide (HB1.out.trans (hb2.mono HB1.out.size))
            clear hb2 HPa2 HO1
            have hz2 := HB2.out.size
            go_wp2
            go_ret2
            refine ⟨_, by rw [HTe.out]; rfl, by rw [HTe.out]; exact World.ownsRow_nil _ _ _ _, ?_⟩
            exact HB2.out.alloc hz2 _
          | some x =>
            obtain ⟨k, m⟩ := x
            obtain ⟨k1, k2, kc, kok, ktx⟩ := prsA_some hp
            obtain ⟨_, _, _, v0', v1'⟩ := ok_bds kok kc
            rw [hp] at HPa2 HTT
            have HT2 : Hid (lnG g' (n + 1) r2 (ws ++ [encW k m.d m.s m.t m.i]) = tot) := HTT
            have HEn := hide (fun w h => enc_any k m.d m.s m.t m.i w (by omega) (by omega) h)
            unfold prsV inst at HPa2
            unfold inst at HEn
            clear HTT hp k1 k2 kc kok ktx v0' v1'
            generalize encW k m.d m.s m.t m.i = ew at *
            generalize encOk k m.d m.s m.t m.i = eo at *
            obtain ⟨d, s1, t, i⟩ := m
            dsimp only at *
            go_wp2_with fail
            refine HPa2.out.mono ?_
            rintro e W2 ⟨rfl, hb2⟩
            have HO2 := hide (ownsRow_below HO1.out hb2)
            have HB2 := hide (HB1.out.trans (hb2.mono HB1.out.size))
            have HL2 := hide (HL1.out.then hb2)
            clear hb2 HPa2 HO1 HB1 HL1
            go_wp2_with fail
            refine (HEn.out _ (HL2.out.laid.alloc _)).mono ?_
            rintro e W3 ⟨rfl, hb3⟩
            have hz2 := HB2.out.size
            have HO3 := hide (ownsRow_below (HO2.out.alloc _) hb3)
            have HB3 := hide ((HB2.out.alloc hz2 _).trans (hb3.mono (by simp; omega)))
            clear hb3 HEn HO2 HB2 HL2
            have hz3 := HB3.out.size
            go_wp2_with (at_builtin; refine wpList_append_own _ rfl _ _ 32 rfl w.heap.size 24 i0 (.int .u32 0) 1 4 Tryz.underlying32 hi hz0 hz1 hz2' rfl (by decide) _ _ _ rfl (HO3.out.alloc _) ⟨W3.heap.size, 0, none⟩ 1 1 [Value.int .u32 ew] rfl rfl (by intro j u' hj; match j, hj with | 0, hj => simp at hj; subst hj; simp [Addr.add]) (by intro u' hu'; simp at hu'; subst hu'; rfl) (by unfold maxLen; omega) (by omega) (by simp; omega) ?_; intro v5 W5 r5 g5 n5; refine Hid.out ?_)
            refine Lib.hid ?_
            have b5 : Below w.heap.size w W5 := (HB3.out.alloc hz3 _).grown g5 (by simp; omega) (fun g hg => (World.ownsRow.lt HO3.out _ hg).1)
            rw [u32_row, show ws.length + 1 = (ws ++ [ew]).length by simp] at r5
            have HR5 := hide r5
            have HB5 := hide b5
            clear r5 b5 n5 g5
            go_wp2
            go_roundg g'
            case measure => omega
            case rel => exact ⟨r2, n + 1, ws ++ [ew], v5, by omega, rfl, rfl, by go_num, by omega, by simp; omega, by omega, HT2.out, HR5.out, HB5.out⟩

end Go.Proofs.YtcghekkhbiomgaaGreatDoor
