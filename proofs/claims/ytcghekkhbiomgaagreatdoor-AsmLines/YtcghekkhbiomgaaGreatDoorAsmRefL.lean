/- The document's Lines: the words of a text's lines. -/
import Derived.Test.YtcghekkhbiomgaaGreatDoorAsmRefPA
import Derived.Test.YtcghekkhbiomgaaGreatDoorAsmRefPB
import Derived.Test.YtcghekkhbiomgaaGreatDoorAsmLns
namespace Go.Proofs.YtcghekkhbiomgaaGreatDoor
open Go.RowKit
set_option linter.unusedVariables false
set_option maxRecDepth 100000
set_option linter.unusedSimpArgs false

theorem rparse_any (l : List UInt8) (w : World) (hl : l.length ≤ 1000000) :
    Calls Tryz.prog 13 #[.string (str l)] w fun e w' => e = .returned (prsV (prsR l)) ∧ Below w.heap.size w w' := by
  by_cases h : (32 : UInt8) ∈ l
  · exact rparse_sp l w hl h
  · exact rparse_no l w hl h

/-- Where a line ends. -/
theorem cut_at {r : List UInt8} {j : Nat} {c : UInt8} (h : r[j]? = some c) (hno : ∀ q, q < j → r[q]? ≠ some c) : hdB c r = r.take j ∧ tlB c r = r.drop (j + 1) := by
  have e : r = r.take j ++ c :: r.drop (j + 1) := by
    rw [← drop_at h]; exact (List.take_append_drop j r).symm
  have hn : c ∉ r.take j := fun hm => by
    obtain ⟨q, hq, hqe⟩ := List.getElem_of_mem hm
    simp at hq
    refine hno q (by omega) ?_
    rw [List.getElem?_eq_getElem (by omega)]
    simp at hqe
    rw [hqe]
  have := hdB_app (r.drop (j + 1)) hn
  rw [← e] at this
  exact this
theorem cut_none {r : List UInt8} {c : UInt8} (hno : ∀ q, q < r.length → r[q]? ≠ some c) : hdB c r = r ∧ tlB c r = [] := hdB_no (fun hm => by
  obtain ⟨j, hj, hje⟩ := List.getElem_of_mem hm
  exact hno j hj (by rw [List.getElem?_eq_getElem hj, hje]))
/-- Blanks may be left out ahead first, or behind. -/
theorem rtrim_cons (c b : UInt8) (l : List UInt8) : Lib.trimRightB (b :: l) c = if Lib.trimRightB l c = [] then (if b = c then [] else [b]) else b :: Lib.trimRightB l c := by
  unfold Lib.trimRightB
  rw [List.reverse_cons, List.dropWhile_append]
  by_cases h : l.reverse.dropWhile (· == c) = []
  · rw [h]
    by_cases hb : b = c
    · simp [hb]
    · have : (b == c) = false := by simpa using hb
      simp [hb, this]
  · have h1 : (l.reverse.dropWhile (· == c)).isEmpty = false := by
      cases hd : l.reverse.dropWhile (· == c) with
      | nil => exact absurd hd h
      | cons x y => rfl
    have h2 : ¬ (l.reverse.dropWhile (· == c)).reverse = [] := fun e => h (by simpa using e)
    rw [h1, if_neg h2]
    simp
theorem trim_swap (c : UInt8) : ∀ l : List UInt8, Lib.trimRightB (Lib.trimLeftB l c) c = Lib.trimLeftB (Lib.trimRightB l c) c
  | [] => by simp [Lib.trimRightB, Lib.trimLeftB]
  | b :: l => by
    have ih := trim_swap c l
    rw [rtrim_cons]
    by_cases hb : b = c
    · have e1 : Lib.trimLeftB (b :: l) c = Lib.trimLeftB l c := by unfold Lib.trimLeftB; rw [List.dropWhile_cons_of_pos (by simp [hb])]
      rw [e1, ih]
      by_cases h : Lib.trimRightB l c = []
      · rw [if_pos h, if_pos hb, h]
      · rw [if_neg h]
        unfold Lib.trimLeftB
        rw [List.dropWhile_cons_of_pos (by simp [hb])]
    · have e1 : Lib.trimLeftB (b :: l) c = b :: l := by unfold Lib.trimLeftB; rw [List.dropWhile_cons_of_neg (by simp [hb])]
      rw [e1, rtrim_cons]
      by_cases h : Lib.trimRightB l c = []
      · rw [if_pos h, if_neg hb]
        unfold Lib.trimLeftB
        rw [List.dropWhile_cons_of_neg (by simp [hb])]
      · rw [if_neg h]
        unfold Lib.trimLeftB
        rw [List.dropWhile_cons_of_neg (by simp [hb])]
theorem lnT_is (r : List UInt8) : Lib.trimRightB (Lib.trimLeftB (hdB 10 r) 32) 32 = lnT r := trim_swap 32 _
theorem sl_str (l : List UInt8) (a b : Nat) : (str l).extract a b = str ((l.drop a).take (b - a)) := Lib.extract_mk l a b
theorem last_str {l : List UInt8} (h : (str l).size - 1 < (str l).size) : l[l.length - 1]? = some ((str l)[(str l).size - 1]'h) := by
  have := Lib.getElem_mk l ((str l).size - 1) h
  rw [← this, str_size]

set_option maxHeartbeats 25600000 in
theorem rlines_any (l : List UInt8) (w : World) (hl : l.length ≤ 1000000) :
    Calls Tryz.prog 15 #[.string (str l)] w fun e w' => ∃ v, e = .returned (.tuple #[v, .int .i64 (lns l).2]) ∧ w'.ownsRow w.heap.size 24 1 v (lns l).1.length ((lns l).1.map (Value.int .u32)) ∧ Below w.heap.size w w' := by
  obtain ⟨i0, hi, hy0, hy1, hy2⟩ := info_parts infoU32
  have HX : Hid (∀ (n : Nat) (h : n < (str l).size), l[n]? = some ((str l)[n]'h)) := hide (fun n h => Lib.getElem_mk l n h)
  have HSl := hide (sl_str l)
  have HPa := hide (fun (r : List UInt8) (w : World) (h : r.length ≤ 1000000) => rparse_any r w h)
  have HLn := hide (fun f n ws => lnG_nil f n ws)
  have HUn : Hid (∀ f n l ws, l ≠ [] → lnG (f + 1) n l ws = if lnT l = [] ∨ (lnT l).head? = some 35 then lnG f (n + 1) (tlB 10 l) ws else match prsA (lnT l) with
      | none => ([], n)
      | some (k, m) => lnG f (n + 1) (tlB 10 l) (ws ++ [encW k m.d m.s m.t m.i])) := hide (fun f n l ws h => by rw [lnG, if_neg h]; rfl)
  obtain ⟨tot, htot⟩ : ∃ tot, tot = lnG l.length 1 l [] := ⟨_, rfl⟩
  rw [show lns l = tot from htot.symm]
  have HTot := hide htot
  have hls := str_size l
  have HLS := hide hls
  rw [← hls] at hl
  generalize str l = s at *
  clear htot hls
  go_enter Tryz.func15, Tryz.ntmps15
  go_wp2
  go_loopg [4, 5, 6, 7] (s.size + 1) (fun g v nv fv iv wr => ∃ (i fr n f : Nat) (ws : List Int) (v0 : Value), g = s.size + 1 - i ∧ i ≤ s.size + 1 ∧ fr ≤ i ∧ (i = s.size + 1 → fr = s.size + 1) ∧ v0 = v ∧ nv = .int .i64 n ∧ fv = .int .i64 fr ∧ iv = .int .i64 i ∧ n ≤ i ∧ ws.length ≤ n ∧ Hid (s.size - fr ≤ f ∧ lnG f (n + 1) (l.drop fr) ws = tot) ∧
      Hid (∀ q, fr ≤ q → q < i → l[q]? ≠ some 10) ∧ Hid (wr.ownsRow w.heap.size 24 1 v0 ws.length (ws.map (Value.int .u32))) ∧ Hid (Below w.heap.size w wr))
  case atStart => exact ⟨0, 0, 0, l.length, [], _, rfl, Nat.zero_le _, Nat.le_refl _, by omega, rfl, rfl, rfl, rfl, Nat.le_refl _, Nat.le_refl _, ⟨by rw [HLS.out]; omega, HTot.out.symm⟩, fun q h1 h2 => by omega, World.ownsRow_nil _ _ _ _, Below.refl _ _⟩
  case round =>
    obtain ⟨i, fr, n, f, ws, v0, rfl, hi1, hfr, hfe, rfl, rfl, rfl, rfl, hn, hws, HT, HNo, HO, HB⟩ := hrel
    by_cases hle : i ≤ s.size
    · have hle' : (i : Int) ≤ s.size := by omega
      have hfr' : (fr : Int) ≤ i := by omega
      by_cases hlt : i < s.size
      · have hlt' : (i : Int) < s.size := by omega
        have hx := HX.out i hlt
        obtain ⟨c, hc⟩ : ∃ c, c = s[i]'hlt := ⟨_, rfl⟩
        rw [← hc] at hx
        have hy : ((s[i]'hlt).toNat : Int) = (c.toNat : Int) := by rw [hc]
        have HXc := hide hx
        clear hc hx
        by_cases hc10 : c = 10
        · subst hc10
          replace hy : ((s[i]'hlt).toNat : Int) = 10 := hy
          have hne : (i : Int) ≠ s.size := by omega
          have hne' : ((i : Int) == s.size) = false := by simpa using hne
          obtain ⟨a1, a2⟩ := cut_at (r := l.drop fr) (j := i - fr) (c := 10) (by rw [List.getElem?_drop, show fr + (i - fr) = i by omega]; exact HXc.out) (fun q hq => by rw [List.getElem?_drop]; exact HNo.out (fr + q) (by omega) (by omega))
          rw [List.drop_drop, show fr + (i - fr + 1) = i + 1 by omega] at a2
          have hrne : l.drop fr ≠ [] := fun e => by
            have h1 := HXc.out
            have h2 : (l.drop fr)[i - fr]? = some 10 := by rw [List.getElem?_drop, show fr + (i - fr) = i by omega]; exact h1
            rw [e] at h2
            cases h2
          have esl := HSl.out fr i
          rw [← a1] at esl
          clear hne
          have HTN : Hid ((if lnT (l.drop fr) = [] ∨ (lnT (l.drop fr)).head? = some 35 then lnG (f - 1) (n + 1 + 1) (l.drop (i + 1)) ws else match prsA (lnT (l.drop fr)) with
              | none => ([], n + 1)
              | some (k, m) => lnG (f - 1) (n + 1 + 1) (l.drop (i + 1)) (ws ++ [encW k m.d m.s m.t m.i])) = tot) := hide (by
            have hf := HT.out
            have hpos : 0 < (l.drop fr).length := List.length_pos_iff.2 hrne
            rw [List.length_drop, ← HLS.out] at hpos
            obtain ⟨f', rfl⟩ : ∃ f', f = f' + 1 := ⟨f - 1, by omega⟩
            have h2 := hf.2
            rw [HUn.out _ _ _ _ hrne, a2] at h2
            exact h2)
          have hff := HT.out.1
          obtain ⟨t0, ht0⟩ : ∃ t0, t0 = hdB 10 (l.drop fr) := ⟨_, rfl⟩
          have ht0l : t0.length ≤ 1000000 := by
            rw [ht0]
            refine Nat.le_trans (hdB_len _ _) ?_
            rw [List.length_drop, ← HLS.out]
            omega
          rw [← ht0] at esl
          have HT0 := hide ht0
          clear ht0 a1 a2 hrne HT HUn HLn
          go_wp2
          go_loopg [8] t0.length (fun g tv wi => wi = wr ∧ ∃ k : Nat, k ≤ t0.length ∧ g = t0.length - k ∧ tv = .string (str (t0.drop k)) ∧ Hid (∀ (j : Nat) b, j < k → t0[j]? = some b → b = 32))
          case atStart => exact ⟨rfl, 0, Nat.zero_le _, rfl, rfl, fun j b hj => absurd hj (Nat.not_lt_zero _)⟩
          case round =>
            obtain ⟨hwi, k, hk, rfl, rfl, HAl⟩ := hrel
            subst hwi
            cases hdk : t0.drop k with
            | nil =>
              have hkl : t0.length ≤ k := by have := congrArg List.length hdk; simp at this; omega
              have HEnd : Hid (∀ b, t0[k]? = some b → b ≠ 32) := hide (fun b hb => by rw [List.getElem?_eq_none hkl] at hb; cases hb)
              have he3 : (str ([] : List UInt8)).size = 0 := str_size []
              obtain ⟨st, hst⟩ : ∃ st, st = str ([] : List UInt8) := ⟨_, rfl⟩
              rw [← hst] at he3 ⊢
              have HSt := hide hst
              clear hst
              go_upto_region 14 with fail
              rw [HSt.out, ← hdk]
              clear HSt he3 hdk hkl
              have HTl := hide (Lib.trimLeftB_drop t0 32 k hk HAl.out HEnd.out)
              have HT1 : Hid (Lib.trimRightB (t0.drop k) 32 = lnT (l.drop fr)) := hide (by rw [← HTl.out, HT0.out, lnT_is])
              have ht1l : (t0.drop k).length ≤ 1000000 := by rw [List.length_drop]; omega
              clear HTl HEnd HAl HT0
              generalize t0.drop k = t1 at *
              go_wp2
              go_loopg [8] t1.length (fun g tv wi => wi = wr ∧ ∃ k : Nat, k ≤ t1.length ∧ k = g ∧ tv = .string (str (t1.take k)) ∧ Hid (∀ (j : Nat) b, k ≤ j → t1[j]? = some b → b = 32))
              case atStart => exact ⟨rfl, t1.length, Nat.le_refl _, rfl, by rw [List.take_length], fun j b hj hb => by rw [List.getElem?_eq_none hj] at hb; cases hb⟩
              case round =>
                obtain ⟨hwi, k, hk, rfl, rfl, HAl⟩ := hrel
                subst hwi
                have hts : (str (t1.take k)).size = k := by rw [str_size, List.length_take]; omega
                by_cases hk0 : k = 0
                · subst hk0
                  have HEnd : Hid (∀ b, 0 < 0 → t1[0 - 1]? = some b → b ≠ 32) := hide (fun b h => by omega)
                  have he3 : (str (t1.take 0)).size = 0 := hts

                  obtain ⟨st, hst⟩ : ∃ st, st = str (t1.take 0) := ⟨_, rfl⟩
                  rw [← hst] at he3
                  rw [← hst]
                  clear hts
                  have HSt := hide hst
                  clear hst
                  have HKz : Hid (0 = 0) := hide rfl
                  go_upto_region 16 with fail
                  rw [HSt.out]
                  clear HSt he3 HKz
                  obtain ⟨k, hk0⟩ : ∃ k, k = 0 := ⟨_, rfl⟩
                  rw [show t1.take 0 = t1.take k by rw [hk0]]
                  have HAl' : Hid (∀ (j : Nat) b, k ≤ j → t1[j]? = some b → b = 32) := hide (fun j b hj hb => HAl.out j b (by omega) hb)
                  have HEnd' : Hid (∀ b, 0 < k → t1[k - 1]? = some b → b ≠ 32) := hide (fun b h => by omega)
                  replace hk : k ≤ t1.length := by omega
                  clear hk0 HAl HEnd
                  have HAl := HAl'
                  have HEnd := HEnd'
                  clear HAl' HEnd'
                  have HTr := hide (Lib.trimRightB_take t1 32 k hk HAl.out HEnd.out)
                  have HTT : Hid ((if t1.take k = [] ∨ (t1.take k).head? = some 35 then lnG (f - 1) (n + 1 + 1) (l.drop (i + 1)) ws else match prsA (t1.take k) with
                      | none => ([], n + 1)
                      | some (k, m) => lnG (f - 1) (n + 1 + 1) (l.drop (i + 1)) (ws ++ [encW k m.d m.s m.t m.i])) = tot) := hide (by
                    have := HTN.out
                    rw [← HT1.out, HTr.out] at this
                    exact this)
                  have htlen : (t1.take k).length ≤ 1000000 := by rw [List.length_take]; omega
                  clear HTr HEnd HAl HTN HT1
                  generalize t1.take k = t at *
                  cases t with
                  | nil =>
                    have hT := HTT.out
                    rw [if_pos (.inl rfl)] at hT
                    have HT2 := hide hT
                    have he2 := str_empty []
                    rw [decide_eq_true rfl] at he2
                    clear hT HTT
                    generalize str [] = st2 at *
                    go_wp2
                    go_roundg (s.size + 1 - (i + 1))
                    case measure => omega
                    case rel => exact ⟨i + 1, i + 1, n + 1, f - 1, ws, v0, rfl, by omega, by omega, by omega, rfl, by go_num, by go_num, by go_num, by omega, by omega, ⟨by omega, HT2.out⟩, fun q h1 h2 => by omega, HO.out, HB.out⟩
                  | cons c' t' =>
                    have he2 := str_empty (c' :: t')
                    rw [decide_eq_false (by simp)] at he2
                    have h0 : 0 < (str (c' :: t')).size := by rw [str_size]; simp
                    have hc0 := head_str h0
                    by_cases hc35 : c' = 35
                    · subst hc35
                      have hT := HTT.out
                      rw [if_pos (.inr rfl)] at hT
                      have HT2 := hide hT
                      replace hc0 : (((str (35 :: t'))[0]'h0).toNat : Int) = 35 := hc0
                      clear hT HTT
                      generalize str (35 :: t') = st2 at *
                      go_wp2
                      go_roundg (s.size + 1 - (i + 1))
                      case measure => omega
                      case rel => exact ⟨i + 1, i + 1, n + 1, f - 1, ws, v0, rfl, by omega, by omega, by omega, rfl, by go_num, by go_num, by go_num, by omega, by omega, ⟨by omega, HT2.out⟩, fun q h1 h2 => by omega, HO.out, HB.out⟩
                    · have hT := HTT.out
                      rw [if_neg (by simp [hc35])] at hT
                      have hc' : ((c'.toNat : Int) == 35) = false := by have := u8_ne hc35; simpa using this
                      have HTT2 := hide hT
                      clear hT hc35 HTT
                      have HPa2 := hide (HPa.out (c' :: t') wr htlen)
                      rw [prs_eq] at HPa2
                      generalize str (c' :: t') = st2 at *
                      cases hp : prsA (c' :: t') with
                      | none =>
                        rw [hp] at HPa2 HTT2
                        have HTe : Hid (tot = ([], n + 1)) := hide HTT2.out.symm
                        unfold prsV inst at HPa2
                        clear HTT2 hp
                        go_wp2_with fail
                        refine HPa2.out.mono ?_
                        rintro e W2 ⟨rfl, hb2⟩
                        have HB2 := hide (HB.out.trans (hb2.mono HB.out.size))
                        clear hb2 HPa2 HO
                        have hz2 := HB2.out.size
                        go_wp2
                        go_ret2
                        refine ⟨_, by rw [HTe.out]; rfl, by rw [HTe.out]; exact World.ownsRow_nil _ _ _ _, ?_⟩
                        exact HB2.out.alloc hz2 _
                      | some x =>
                        obtain ⟨k, m⟩ := x
                        obtain ⟨k1, k2, kc, kok, ktx⟩ := prsA_some hp
                        obtain ⟨_, _, _, v0', v1'⟩ := ok_bds kok kc
                        rw [hp] at HPa2 HTT2
                        have HT2 : Hid (lnG (f - 1) (n + 1 + 1) (l.drop (i + 1)) (ws ++ [encW k m.d m.s m.t m.i]) = tot) := HTT2
                        have HEn := hide (fun w => renc_any k m.d m.s m.t m.i w (by omega) (by omega))
                        unfold prsV inst at HPa2
                        unfold inst at HEn
                        clear HTT2 hp k1 k2 kc kok ktx v0' v1'
                        generalize encW k m.d m.s m.t m.i = ew at *
                        generalize encOk k m.d m.s m.t m.i = eo at *
                        obtain ⟨d, s1, t, im⟩ := m
                        dsimp only at *
                        go_wp2_with fail
                        refine HPa2.out.mono ?_
                        rintro e W2 ⟨rfl, hb2⟩
                        have HO2 := hide (ownsRow_below HO.out hb2)
                        have HB2 := hide (HB.out.trans (hb2.mono HB.out.size))
                        clear hb2 HPa2
                        go_wp2_with fail
                        refine (HEn.out _).mono ?_
                        rintro e W3 ⟨rfl, hb3⟩
                        have hz2 := HB2.out.size
                        have HO3 := hide (ownsRow_below (HO2.out.alloc _) hb3)
                        have HB3 := hide ((HB2.out.alloc hz2 _).trans (hb3.mono (by simp; omega)))
                        clear hb3 HEn HO2 HB2
                        have hz3 := HB3.out.size
                        go_wp2_with (at_builtin; refine wpList_append_own _ rfl _ _ 32 rfl w.heap.size 24 i0 (.int .u32 0) 1 4 Tryz.underlying32 hi hy0 hy1 hy2 rfl (by decide) _ _ _ rfl (HO3.out.alloc _) ⟨W3.heap.size, 0, none⟩ 1 1 [Value.int .u32 ew] rfl rfl (by intro j u' hj; match j, hj with | 0, hj => simp at hj; subst hj; simp [Addr.add]) (by intro u' hu'; simp at hu'; subst hu'; rfl) (by unfold maxLen; omega) (by omega) (by simp; omega) ?_; intro v5 W5 r5 g5 n5; refine Hid.out ?_)
                        refine Lib.hid ?_
                        have b5 : Below w.heap.size w W5 := (HB3.out.alloc hz3 _).grown g5 (by simp; omega) (fun g hg => (World.ownsRow.lt HO3.out _ hg).1)
                        rw [u32_row, show ws.length + 1 = (ws ++ [ew]).length by simp] at r5
                        have HR5 := hide r5
                        have HB5 := hide b5
                        clear r5 b5 n5 g5
                        go_wp2
                        go_roundg (s.size + 1 - (i + 1))
                        case measure => omega
                        case rel => exact ⟨i + 1, i + 1, n + 1, f - 1, ws ++ [ew], v5, rfl, by omega, by omega, by omega, rfl, by go_num, by go_num, by go_num, by omega, by simp; omega, ⟨by omega, HT2.out⟩, fun q h1 h2 => by omega, HR5.out, HB5.out⟩
                · obtain ⟨k', rfl⟩ : ∃ k', k = k' + 1 := ⟨k - 1, by omega⟩
                  have hkl : k' < (str (t1.take (k' + 1))).size := by rw [hts]; omega
                  have hxk := Lib.getElem_mk (t1.take (k' + 1)) k' hkl
                  rw [List.getElem?_take, if_pos (by omega)] at hxk
                  obtain ⟨e, hee⟩ : ∃ e, e = (str (t1.take (k' + 1)))[k']'hkl := ⟨_, rfl⟩
                  rw [← hee] at hxk
                  have hye : (((str (t1.take (k' + 1)))[k']'hkl).toNat : Int) = (e.toNat : Int) := by rw [hee]
                  have HXk := hide hxk
                  have hex : (str (t1.take (k' + 1))).extract 0 k' = str (t1.take k') := by
                    rw [take_str, List.take_take, Nat.min_eq_left (by omega)]
                  clear hee hxk
                  by_cases he32 : e = 32
                  · subst he32
                    replace hye : (((str (t1.take (k' + 1)))[k']'hkl).toNat : Int) = 32 := hye
                    have HAl2 : Hid (∀ (j : Nat) b, k' ≤ j → t1[j]? = some b → b = 32) := hide (fun j b hj hb => by
                      by_cases e : j = k'
                      · subst e; rw [HXk.out] at hb; cases hb; rfl
                      · exact HAl.out j b (by omega) hb)
                    generalize str (t1.take (k' + 1)) = st at *
                    go_wp2
                    go_roundg k'
                    case measure => omega
                    case rel => exact ⟨rfl, k', by omega, rfl, rfl, HAl2.out⟩
                  · have hn32 : ((e.toNat : Int) == 32) = false := by have := u8_ne he32; simpa using this
                    have HEnd : Hid (∀ b, 0 < k' + 1 → t1[k' + 1 - 1]? = some b → b ≠ 32) := hide (fun b _ hb => by
                      rw [show k' + 1 - 1 = k' by omega, HXk.out] at hb
                      cases hb
                      exact he32)
                    clear he32
                    obtain ⟨st, hst⟩ : ∃ st, st = str (t1.take (k' + 1)) := ⟨_, rfl⟩
                    have hsz3 : st.size = k' + 1 := by rw [hst]; exact hts
                    have hye2 : ((st[k']'(by omega)).toNat : Int) = (e.toNat : Int) := by
                      subst hst; exact hye
                    rw [← hst]
                    have hk' : k' < st.size := by omega
                    have hye3 : ((st[k']'hk').toNat : Int) = (e.toNat : Int) := hye2
                    clear hye2
                    clear hts hye hex hkl HXk
                    have HSt := hide hst
                    clear hst
                    go_upto_region 16 with fail
                    rw [HSt.out]
                    clear HSt hye3 hsz3 hn32
                    obtain ⟨k, hkk⟩ : ∃ k, k = k' + 1 := ⟨_, rfl⟩
                    rw [← hkk] at HAl HEnd hk ⊢
                    clear hkk hk0 hk'
                    have HTr := hide (Lib.trimRightB_take t1 32 k hk HAl.out HEnd.out)
                    have HTT : Hid ((if t1.take k = [] ∨ (t1.take k).head? = some 35 then lnG (f - 1) (n + 1 + 1) (l.drop (i + 1)) ws else match prsA (t1.take k) with
                        | none => ([], n + 1)
                        | some (k, m) => lnG (f - 1) (n + 1 + 1) (l.drop (i + 1)) (ws ++ [encW k m.d m.s m.t m.i])) = tot) := hide (by
                      have := HTN.out
                      rw [← HT1.out, HTr.out] at this
                      exact this)
                    have htlen : (t1.take k).length ≤ 1000000 := by rw [List.length_take]; omega
                    clear HTr HEnd HAl HTN HT1
                    generalize t1.take k = t at *
                    cases t with
                    | nil =>
                      have hT := HTT.out
                      rw [if_pos (.inl rfl)] at hT
                      have HT2 := hide hT
                      have he2 := str_empty []
                      rw [decide_eq_true rfl] at he2
                      clear hT HTT
                      generalize str [] = st2 at *
                      go_wp2
                      go_roundg (s.size + 1 - (i + 1))
                      case measure => omega
                      case rel => exact ⟨i + 1, i + 1, n + 1, f - 1, ws, v0, rfl, by omega, by omega, by omega, rfl, by go_num, by go_num, by go_num, by omega, by omega, ⟨by omega, HT2.out⟩, fun q h1 h2 => by omega, HO.out, HB.out⟩
                    | cons c' t' =>
                      have he2 := str_empty (c' :: t')
                      rw [decide_eq_false (by simp)] at he2
                      have h0 : 0 < (str (c' :: t')).size := by rw [str_size]; simp
                      have hc0 := head_str h0
                      by_cases hc35 : c' = 35
                      · subst hc35
                        have hT := HTT.out
                        rw [if_pos (.inr rfl)] at hT
                        have HT2 := hide hT
                        replace hc0 : (((str (35 :: t'))[0]'h0).toNat : Int) = 35 := hc0
                        clear hT HTT
                        generalize str (35 :: t') = st2 at *
                        go_wp2
                        go_roundg (s.size + 1 - (i + 1))
                        case measure => omega
                        case rel => exact ⟨i + 1, i + 1, n + 1, f - 1, ws, v0, rfl, by omega, by omega, by omega, rfl, by go_num, by go_num, by go_num, by omega, by omega, ⟨by omega, HT2.out⟩, fun q h1 h2 => by omega, HO.out, HB.out⟩
                      · have hT := HTT.out
                        rw [if_neg (by simp [hc35])] at hT
                        have hc' : ((c'.toNat : Int) == 35) = false := by have := u8_ne hc35; simpa using this
                        have HTT2 := hide hT
                        clear hT hc35 HTT
                        have HPa2 := hide (HPa.out (c' :: t') wr htlen)
                        rw [prs_eq] at HPa2
                        generalize str (c' :: t') = st2 at *
                        cases hp : prsA (c' :: t') with
                        | none =>
                          rw [hp] at HPa2 HTT2
                          have HTe : Hid (tot = ([], n + 1)) := hide HTT2.out.symm
                          unfold prsV inst at HPa2
                          clear HTT2 hp
                          go_wp2_with fail
                          refine HPa2.out.mono ?_
                          rintro e W2 ⟨rfl, hb2⟩
                          have HB2 := hide (HB.out.trans (hb2.mono HB.out.size))
                          clear hb2 HPa2 HO
                          have hz2 := HB2.out.size
                          go_wp2
                          go_ret2
                          refine ⟨_, by rw [HTe.out]; rfl, by rw [HTe.out]; exact World.ownsRow_nil _ _ _ _, ?_⟩
                          exact HB2.out.alloc hz2 _
                        | some x =>
                          obtain ⟨k, m⟩ := x
                          obtain ⟨k1, k2, kc, kok, ktx⟩ := prsA_some hp
                          obtain ⟨_, _, _, v0', v1'⟩ := ok_bds kok kc
                          rw [hp] at HPa2 HTT2
                          have HT2 : Hid (lnG (f - 1) (n + 1 + 1) (l.drop (i + 1)) (ws ++ [encW k m.d m.s m.t m.i]) = tot) := HTT2
                          have HEn := hide (fun w => renc_any k m.d m.s m.t m.i w (by omega) (by omega))
                          unfold prsV inst at HPa2
                          unfold inst at HEn
                          clear HTT2 hp k1 k2 kc kok ktx v0' v1'
                          generalize encW k m.d m.s m.t m.i = ew at *
                          generalize encOk k m.d m.s m.t m.i = eo at *
                          obtain ⟨d, s1, t, im⟩ := m
                          dsimp only at *
                          go_wp2_with fail
                          refine HPa2.out.mono ?_
                          rintro e W2 ⟨rfl, hb2⟩
                          have HO2 := hide (ownsRow_below HO.out hb2)
                          have HB2 := hide (HB.out.trans (hb2.mono HB.out.size))
                          clear hb2 HPa2
                          go_wp2_with fail
                          refine (HEn.out _).mono ?_
                          rintro e W3 ⟨rfl, hb3⟩
                          have hz2 := HB2.out.size
                          have HO3 := hide (ownsRow_below (HO2.out.alloc _) hb3)
                          have HB3 := hide ((HB2.out.alloc hz2 _).trans (hb3.mono (by simp; omega)))
                          clear hb3 HEn HO2 HB2
                          have hz3 := HB3.out.size
                          go_wp2_with (at_builtin; refine wpList_append_own _ rfl _ _ 32 rfl w.heap.size 24 i0 (.int .u32 0) 1 4 Tryz.underlying32 hi hy0 hy1 hy2 rfl (by decide) _ _ _ rfl (HO3.out.alloc _) ⟨W3.heap.size, 0, none⟩ 1 1 [Value.int .u32 ew] rfl rfl (by intro j u' hj; match j, hj with | 0, hj => simp at hj; subst hj; simp [Addr.add]) (by intro u' hu'; simp at hu'; subst hu'; rfl) (by unfold maxLen; omega) (by omega) (by simp; omega) ?_; intro v5 W5 r5 g5 n5; refine Hid.out ?_)
                          refine Lib.hid ?_
                          have b5 : Below w.heap.size w W5 := (HB3.out.alloc hz3 _).grown g5 (by simp; omega) (fun g hg => (World.ownsRow.lt HO3.out _ hg).1)
                          rw [u32_row, show ws.length + 1 = (ws ++ [ew]).length by simp] at r5
                          have HR5 := hide r5
                          have HB5 := hide b5
                          clear r5 b5 n5 g5
                          go_wp2
                          go_roundg (s.size + 1 - (i + 1))
                          case measure => omega
                          case rel => exact ⟨i + 1, i + 1, n + 1, f - 1, ws ++ [ew], v5, rfl, by omega, by omega, by omega, rfl, by go_num, by go_num, by go_num, by omega, by simp; omega, ⟨by omega, HT2.out⟩, fun q h1 h2 => by omega, HR5.out, HB5.out⟩
            | cons e t'' =>
              have hxk : t0[k]? = some e := by have := congrArg (fun x => x[0]?) hdk; simpa using this
              have h0 : 0 < (str (e :: t'')).size := by rw [str_size]; simp
              have hye := head_str h0
              have hex := drop_one e t''
              have hd2 : t'' = t0.drop (k + 1) := by rw [← List.drop_drop, hdk]; rfl
              have hkl : k < t0.length := by
                rcases Nat.lt_or_ge k t0.length with h | h
                · exact h
                · rw [List.getElem?_eq_none h] at hxk; cases hxk
              by_cases he32 : e = 32
              · subst he32
                replace hye : (((str (32 :: t''))[0]'h0).toNat : Int) = 32 := hye
                have HAl2 : Hid (∀ (j : Nat) b, j < k + 1 → t0[j]? = some b → b = 32) := hide (fun j b hj hb => by
                  by_cases e : j = k
                  · subst e; rw [hxk] at hb; cases hb; rfl
                  · exact HAl.out j b (by omega) hb)
                have HD2 := hide hd2
                have h1 : (1 : Int) ≤ (str (32 :: t'')).size := by omega
                clear hd2 hxk hdk
                generalize str (32 :: t'') = st at *
                go_wp2
                go_roundg (t0.length - (k + 1))
                case measure => omega
                case rel => exact ⟨rfl, k + 1, by omega, rfl, by rw [← HD2.out], HAl2.out⟩
              · have hn32 : ((e.toNat : Int) == 32) = false := by have := u8_ne he32; simpa using this
                have HEnd : Hid (∀ b, t0[k]? = some b → b ≠ 32) := hide (fun b hb => by rw [hxk] at hb; cases hb; exact he32)
                obtain ⟨st, hst⟩ : ∃ st, st = str (e :: t'') := ⟨_, rfl⟩
                have h0' : 0 < st.size := by rw [hst]; exact h0
                have hye2 : ((st[0]'h0').toNat : Int) = (e.toNat : Int) := by
                  subst hst; exact hye
                rw [← hst]
                have HSt := hide hst
                clear hst hye hex h0 hd2 hxk he32
                go_upto_region 14 with fail
                rw [HSt.out, ← hdk]
                clear HSt hye2 h0' hn32 hdk hkl
                have HTl := hide (Lib.trimLeftB_drop t0 32 k hk HAl.out HEnd.out)
                have HT1 : Hid (Lib.trimRightB (t0.drop k) 32 = lnT (l.drop fr)) := hide (by rw [← HTl.out, HT0.out, lnT_is])
                have ht1l : (t0.drop k).length ≤ 1000000 := by rw [List.length_drop]; omega
                clear HTl HEnd HAl HT0
                generalize t0.drop k = t1 at *
                go_wp2
                go_loopg [8] t1.length (fun g tv wi => wi = wr ∧ ∃ k : Nat, k ≤ t1.length ∧ k = g ∧ tv = .string (str (t1.take k)) ∧ Hid (∀ (j : Nat) b, k ≤ j → t1[j]? = some b → b = 32))
                case atStart => exact ⟨rfl, t1.length, Nat.le_refl _, rfl, by rw [List.take_length], fun j b hj hb => by rw [List.getElem?_eq_none hj] at hb; cases hb⟩
                case round =>
                  obtain ⟨hwi, k, hk, rfl, rfl, HAl⟩ := hrel
                  subst hwi
                  have hts : (str (t1.take k)).size = k := by rw [str_size, List.length_take]; omega
                  by_cases hk0 : k = 0
                  · subst hk0
                    have HEnd : Hid (∀ b, 0 < 0 → t1[0 - 1]? = some b → b ≠ 32) := hide (fun b h => by omega)
                    have he3 : (str (t1.take 0)).size = 0 := hts

                    obtain ⟨st, hst⟩ : ∃ st, st = str (t1.take 0) := ⟨_, rfl⟩
                    rw [← hst] at he3
                    rw [← hst]
                    clear hts
                    have HSt := hide hst
                    clear hst
                    have HKz : Hid (0 = 0) := hide rfl
                    go_upto_region 16 with fail
                    rw [HSt.out]
                    clear HSt he3 HKz
                    obtain ⟨k, hk0⟩ : ∃ k, k = 0 := ⟨_, rfl⟩
                    rw [show t1.take 0 = t1.take k by rw [hk0]]
                    have HAl' : Hid (∀ (j : Nat) b, k ≤ j → t1[j]? = some b → b = 32) := hide (fun j b hj hb => HAl.out j b (by omega) hb)
                    have HEnd' : Hid (∀ b, 0 < k → t1[k - 1]? = some b → b ≠ 32) := hide (fun b h => by omega)
                    replace hk : k ≤ t1.length := by omega
                    clear hk0 HAl HEnd
                    have HAl := HAl'
                    have HEnd := HEnd'
                    clear HAl' HEnd'
                    have HTr := hide (Lib.trimRightB_take t1 32 k hk HAl.out HEnd.out)
                    have HTT : Hid ((if t1.take k = [] ∨ (t1.take k).head? = some 35 then lnG (f - 1) (n + 1 + 1) (l.drop (i + 1)) ws else match prsA (t1.take k) with
                        | none => ([], n + 1)
                        | some (k, m) => lnG (f - 1) (n + 1 + 1) (l.drop (i + 1)) (ws ++ [encW k m.d m.s m.t m.i])) = tot) := hide (by
                      have := HTN.out
                      rw [← HT1.out, HTr.out] at this
                      exact this)
                    have htlen : (t1.take k).length ≤ 1000000 := by rw [List.length_take]; omega
                    clear HTr HEnd HAl HTN HT1
                    generalize t1.take k = t at *
                    cases t with
                    | nil =>
                      have hT := HTT.out
                      rw [if_pos (.inl rfl)] at hT
                      have HT2 := hide hT
                      have he2 := str_empty []
                      rw [decide_eq_true rfl] at he2
                      clear hT HTT
                      generalize str [] = st2 at *
                      go_wp2
                      go_roundg (s.size + 1 - (i + 1))
                      case measure => omega
                      case rel => exact ⟨i + 1, i + 1, n + 1, f - 1, ws, v0, rfl, by omega, by omega, by omega, rfl, by go_num, by go_num, by go_num, by omega, by omega, ⟨by omega, HT2.out⟩, fun q h1 h2 => by omega, HO.out, HB.out⟩
                    | cons c' t' =>
                      have he2 := str_empty (c' :: t')
                      rw [decide_eq_false (by simp)] at he2
                      have h0 : 0 < (str (c' :: t')).size := by rw [str_size]; simp
                      have hc0 := head_str h0
                      by_cases hc35 : c' = 35
                      · subst hc35
                        have hT := HTT.out
                        rw [if_pos (.inr rfl)] at hT
                        have HT2 := hide hT
                        replace hc0 : (((str (35 :: t'))[0]'h0).toNat : Int) = 35 := hc0
                        clear hT HTT
                        generalize str (35 :: t') = st2 at *
                        go_wp2
                        go_roundg (s.size + 1 - (i + 1))
                        case measure => omega
                        case rel => exact ⟨i + 1, i + 1, n + 1, f - 1, ws, v0, rfl, by omega, by omega, by omega, rfl, by go_num, by go_num, by go_num, by omega, by omega, ⟨by omega, HT2.out⟩, fun q h1 h2 => by omega, HO.out, HB.out⟩
                      · have hT := HTT.out
                        rw [if_neg (by simp [hc35])] at hT
                        have hc' : ((c'.toNat : Int) == 35) = false := by have := u8_ne hc35; simpa using this
                        have HTT2 := hide hT
                        clear hT hc35 HTT
                        have HPa2 := hide (HPa.out (c' :: t') wr htlen)
                        rw [prs_eq] at HPa2
                        generalize str (c' :: t') = st2 at *
                        cases hp : prsA (c' :: t') with
                        | none =>
                          rw [hp] at HPa2 HTT2
                          have HTe : Hid (tot = ([], n + 1)) := hide HTT2.out.symm
                          unfold prsV inst at HPa2
                          clear HTT2 hp
                          go_wp2_with fail
                          refine HPa2.out.mono ?_
                          rintro e W2 ⟨rfl, hb2⟩
                          have HB2 := hide (HB.out.trans (hb2.mono HB.out.size))
                          clear hb2 HPa2 HO
                          have hz2 := HB2.out.size
                          go_wp2
                          go_ret2
                          refine ⟨_, by rw [HTe.out]; rfl, by rw [HTe.out]; exact World.ownsRow_nil _ _ _ _, ?_⟩
                          exact HB2.out.alloc hz2 _
                        | some x =>
                          obtain ⟨k, m⟩ := x
                          obtain ⟨k1, k2, kc, kok, ktx⟩ := prsA_some hp
                          obtain ⟨_, _, _, v0', v1'⟩ := ok_bds kok kc
                          rw [hp] at HPa2 HTT2
                          have HT2 : Hid (lnG (f - 1) (n + 1 + 1) (l.drop (i + 1)) (ws ++ [encW k m.d m.s m.t m.i]) = tot) := HTT2
                          have HEn := hide (fun w => renc_any k m.d m.s m.t m.i w (by omega) (by omega))
                          unfold prsV inst at HPa2
                          unfold inst at HEn
                          clear HTT2 hp k1 k2 kc kok ktx v0' v1'
                          generalize encW k m.d m.s m.t m.i = ew at *
                          generalize encOk k m.d m.s m.t m.i = eo at *
                          obtain ⟨d, s1, t, im⟩ := m
                          dsimp only at *
                          go_wp2_with fail
                          refine HPa2.out.mono ?_
                          rintro e W2 ⟨rfl, hb2⟩
                          have HO2 := hide (ownsRow_below HO.out hb2)
                          have HB2 := hide (HB.out.trans (hb2.mono HB.out.size))
                          clear hb2 HPa2
                          go_wp2_with fail
                          refine (HEn.out _).mono ?_
                          rintro e W3 ⟨rfl, hb3⟩
                          have hz2 := HB2.out.size
                          have HO3 := hide (ownsRow_below (HO2.out.alloc _) hb3)
                          have HB3 := hide ((HB2.out.alloc hz2 _).trans (hb3.mono (by simp; omega)))
                          clear hb3 HEn HO2 HB2
                          have hz3 := HB3.out.size
                          go_wp2_with (at_builtin; refine wpList_append_own _ rfl _ _ 32 rfl w.heap.size 24 i0 (.int .u32 0) 1 4 Tryz.underlying32 hi hy0 hy1 hy2 rfl (by decide) _ _ _ rfl (HO3.out.alloc _) ⟨W3.heap.size, 0, none⟩ 1 1 [Value.int .u32 ew] rfl rfl (by intro j u' hj; match j, hj with | 0, hj => simp at hj; subst hj; simp [Addr.add]) (by intro u' hu'; simp at hu'; subst hu'; rfl) (by unfold maxLen; omega) (by omega) (by simp; omega) ?_; intro v5 W5 r5 g5 n5; refine Hid.out ?_)
                          refine Lib.hid ?_
                          have b5 : Below w.heap.size w W5 := (HB3.out.alloc hz3 _).grown g5 (by simp; omega) (fun g hg => (World.ownsRow.lt HO3.out _ hg).1)
                          rw [u32_row, show ws.length + 1 = (ws ++ [ew]).length by simp] at r5
                          have HR5 := hide r5
                          have HB5 := hide b5
                          clear r5 b5 n5 g5
                          go_wp2
                          go_roundg (s.size + 1 - (i + 1))
                          case measure => omega
                          case rel => exact ⟨i + 1, i + 1, n + 1, f - 1, ws ++ [ew], v5, rfl, by omega, by omega, by omega, rfl, by go_num, by go_num, by go_num, by omega, by simp; omega, ⟨by omega, HT2.out⟩, fun q h1 h2 => by omega, HR5.out, HB5.out⟩
                  · obtain ⟨k', rfl⟩ : ∃ k', k = k' + 1 := ⟨k - 1, by omega⟩
                    have hkl : k' < (str (t1.take (k' + 1))).size := by rw [hts]; omega
                    have hxk := Lib.getElem_mk (t1.take (k' + 1)) k' hkl
                    rw [List.getElem?_take, if_pos (by omega)] at hxk
                    obtain ⟨e, hee⟩ : ∃ e, e = (str (t1.take (k' + 1)))[k']'hkl := ⟨_, rfl⟩
                    rw [← hee] at hxk
                    have hye : (((str (t1.take (k' + 1)))[k']'hkl).toNat : Int) = (e.toNat : Int) := by rw [hee]
                    have HXk := hide hxk
                    have hex : (str (t1.take (k' + 1))).extract 0 k' = str (t1.take k') := by
                      rw [take_str, List.take_take, Nat.min_eq_left (by omega)]
                    clear hee hxk
                    by_cases he32 : e = 32
                    · subst he32
                      replace hye : (((str (t1.take (k' + 1)))[k']'hkl).toNat : Int) = 32 := hye
                      have HAl2 : Hid (∀ (j : Nat) b, k' ≤ j → t1[j]? = some b → b = 32) := hide (fun j b hj hb => by
                        by_cases e : j = k'
                        · subst e; rw [HXk.out] at hb; cases hb; rfl
                        · exact HAl.out j b (by omega) hb)
                      generalize str (t1.take (k' + 1)) = st at *
                      go_wp2
                      go_roundg k'
                      case measure => omega
                      case rel => exact ⟨rfl, k', by omega, rfl, rfl, HAl2.out⟩
                    · have hn32 : ((e.toNat : Int) == 32) = false := by have := u8_ne he32; simpa using this
                      have HEnd : Hid (∀ b, 0 < k' + 1 → t1[k' + 1 - 1]? = some b → b ≠ 32) := hide (fun b _ hb => by
                        rw [show k' + 1 - 1 = k' by omega, HXk.out] at hb
                        cases hb
                        exact he32)
                      clear he32
                      obtain ⟨st, hst⟩ : ∃ st, st = str (t1.take (k' + 1)) := ⟨_, rfl⟩
                      have hsz3 : st.size = k' + 1 := by rw [hst]; exact hts
                      have hye2 : ((st[k']'(by omega)).toNat : Int) = (e.toNat : Int) := by
                        subst hst; exact hye
                      rw [← hst]
                      have hk' : k' < st.size := by omega
                      have hye3 : ((st[k']'hk').toNat : Int) = (e.toNat : Int) := hye2
                      clear hye2
                      clear hts hye hex hkl HXk
                      have HSt := hide hst
                      clear hst
                      go_upto_region 16 with fail
                      rw [HSt.out]
                      clear HSt hye3 hsz3 hn32
                      obtain ⟨k, hkk⟩ : ∃ k, k = k' + 1 := ⟨_, rfl⟩
                      rw [← hkk] at HAl HEnd hk ⊢
                      clear hkk hk0 hk'
                      have HTr := hide (Lib.trimRightB_take t1 32 k hk HAl.out HEnd.out)
                      have HTT : Hid ((if t1.take k = [] ∨ (t1.take k).head? = some 35 then lnG (f - 1) (n + 1 + 1) (l.drop (i + 1)) ws else match prsA (t1.take k) with
                          | none => ([], n + 1)
                          | some (k, m) => lnG (f - 1) (n + 1 + 1) (l.drop (i + 1)) (ws ++ [encW k m.d m.s m.t m.i])) = tot) := hide (by
                        have := HTN.out
                        rw [← HT1.out, HTr.out] at this
                        exact this)
                      have htlen : (t1.take k).length ≤ 1000000 := by rw [List.length_take]; omega
                      clear HTr HEnd HAl HTN HT1
                      generalize t1.take k = t at *
                      cases t with
                      | nil =>
                        have hT := HTT.out
                        rw [if_pos (.inl rfl)] at hT
                        have HT2 := hide hT
                        have he2 := str_empty []
                        rw [decide_eq_true rfl] at he2
                        clear hT HTT
                        generalize str [] = st2 at *
                        go_wp2
                        go_roundg (s.size + 1 - (i + 1))
                        case measure => omega
                        case rel => exact ⟨i + 1, i + 1, n + 1, f - 1, ws, v0, rfl, by omega, by omega, by omega, rfl, by go_num, by go_num, by go_num, by omega, by omega, ⟨by omega, HT2.out⟩, fun q h1 h2 => by omega, HO.out, HB.out⟩
                      | cons c' t' =>
                        have he2 := str_empty (c' :: t')
                        rw [decide_eq_false (by simp)] at he2
                        have h0 : 0 < (str (c' :: t')).size := by rw [str_size]; simp
                        have hc0 := head_str h0
                        by_cases hc35 : c' = 35
                        · subst hc35
                          have hT := HTT.out
                          rw [if_pos (.inr rfl)] at hT
                          have HT2 := hide hT
                          replace hc0 : (((str (35 :: t'))[0]'h0).toNat : Int) = 35 := hc0
                          clear hT HTT
                          generalize str (35 :: t') = st2 at *
                          go_wp2
                          go_roundg (s.size + 1 - (i + 1))
                          case measure => omega
                          case rel => exact ⟨i + 1, i + 1, n + 1, f - 1, ws, v0, rfl, by omega, by omega, by omega, rfl, by go_num, by go_num, by go_num, by omega, by omega, ⟨by omega, HT2.out⟩, fun q h1 h2 => by omega, HO.out, HB.out⟩
                        · have hT := HTT.out
                          rw [if_neg (by simp [hc35])] at hT
                          have hc' : ((c'.toNat : Int) == 35) = false := by have := u8_ne hc35; simpa using this
                          have HTT2 := hide hT
                          clear hT hc35 HTT
                          have HPa2 := hide (HPa.out (c' :: t') wr htlen)
                          rw [prs_eq] at HPa2
                          generalize str (c' :: t') = st2 at *
                          cases hp : prsA (c' :: t') with
                          | none =>
                            rw [hp] at HPa2 HTT2
                            have HTe : Hid (tot = ([], n + 1)) := hide HTT2.out.symm
                            unfold prsV inst at HPa2
                            clear HTT2 hp
                            go_wp2_with fail
                            refine HPa2.out.mono ?_
                            rintro e W2 ⟨rfl, hb2⟩
                            have HB2 := hide (HB.out.trans (hb2.mono HB.out.size))
                            clear hb2 HPa2 HO
                            have hz2 := HB2.out.size
                            go_wp2
                            go_ret2
                            refine ⟨_, by rw [HTe.out]; rfl, by rw [HTe.out]; exact World.ownsRow_nil _ _ _ _, ?_⟩
                            exact HB2.out.alloc hz2 _
                          | some x =>
                            obtain ⟨k, m⟩ := x
                            obtain ⟨k1, k2, kc, kok, ktx⟩ := prsA_some hp
                            obtain ⟨_, _, _, v0', v1'⟩ := ok_bds kok kc
                            rw [hp] at HPa2 HTT2
                            have HT2 : Hid (lnG (f - 1) (n + 1 + 1) (l.drop (i + 1)) (ws ++ [encW k m.d m.s m.t m.i]) = tot) := HTT2
                            have HEn := hide (fun w => renc_any k m.d m.s m.t m.i w (by omega) (by omega))
                            unfold prsV inst at HPa2
                            unfold inst at HEn
                            clear HTT2 hp k1 k2 kc kok ktx v0' v1'
                            generalize encW k m.d m.s m.t m.i = ew at *
                            generalize encOk k m.d m.s m.t m.i = eo at *
                            obtain ⟨d, s1, t, im⟩ := m
                            dsimp only at *
                            go_wp2_with fail
                            refine HPa2.out.mono ?_
                            rintro e W2 ⟨rfl, hb2⟩
                            have HO2 := hide (ownsRow_below HO.out hb2)
                            have HB2 := hide (HB.out.trans (hb2.mono HB.out.size))
                            clear hb2 HPa2
                            go_wp2_with fail
                            refine (HEn.out _).mono ?_
                            rintro e W3 ⟨rfl, hb3⟩
                            have hz2 := HB2.out.size
                            have HO3 := hide (ownsRow_below (HO2.out.alloc _) hb3)
                            have HB3 := hide ((HB2.out.alloc hz2 _).trans (hb3.mono (by simp; omega)))
                            clear hb3 HEn HO2 HB2
                            have hz3 := HB3.out.size
                            go_wp2_with (at_builtin; refine wpList_append_own _ rfl _ _ 32 rfl w.heap.size 24 i0 (.int .u32 0) 1 4 Tryz.underlying32 hi hy0 hy1 hy2 rfl (by decide) _ _ _ rfl (HO3.out.alloc _) ⟨W3.heap.size, 0, none⟩ 1 1 [Value.int .u32 ew] rfl rfl (by intro j u' hj; match j, hj with | 0, hj => simp at hj; subst hj; simp [Addr.add]) (by intro u' hu'; simp at hu'; subst hu'; rfl) (by unfold maxLen; omega) (by omega) (by simp; omega) ?_; intro v5 W5 r5 g5 n5; refine Hid.out ?_)
                            refine Lib.hid ?_
                            have b5 : Below w.heap.size w W5 := (HB3.out.alloc hz3 _).grown g5 (by simp; omega) (fun g hg => (World.ownsRow.lt HO3.out _ hg).1)
                            rw [u32_row, show ws.length + 1 = (ws ++ [ew]).length by simp] at r5
                            have HR5 := hide r5
                            have HB5 := hide b5
                            clear r5 b5 n5 g5
                            go_wp2
                            go_roundg (s.size + 1 - (i + 1))
                            case measure => omega
                            case rel => exact ⟨i + 1, i + 1, n + 1, f - 1, ws ++ [ew], v5, rfl, by omega, by omega, by omega, rfl, by go_num, by go_num, by go_num, by omega, by simp; omega, ⟨by omega, HT2.out⟩, fun q h1 h2 => by omega, HR5.out, HB5.out⟩
        · have hnc : ((c.toNat : Int) == 10) = false := by have := u8_ne hc10; simpa using this
          have HNo2 : Hid (∀ q, fr ≤ q → q < i + 1 → l[q]? ≠ some 10) := hide (fun q h1 h2 h => by
            by_cases e : q = i
            · subst e; rw [HXc.out] at h; cases h; exact hc10 rfl
            · exact HNo.out q h1 (by omega) h)
          clear hc10
          go_wp2
          go_roundg (s.size + 1 - (i + 1))
          case measure => omega
          case rel => exact ⟨i + 1, fr, n, f, ws, v0, rfl, by omega, by omega, by omega, rfl, rfl, rfl, by go_num, by omega, hws, HT.out, HNo2.out, HO.out, HB.out⟩
      · obtain rfl : i = s.size := by omega
        obtain ⟨a1, a2⟩ := cut_none (r := l.drop fr) (c := 10) (fun q hq => by
          rw [List.length_drop, ← HLS.out] at hq
          rw [List.getElem?_drop]; exact HNo.out (fr + q) (by omega) (by omega))
        have esl := HSl.out fr s.size
        rw [List.take_of_length_le (by rw [List.length_drop, ← HLS.out]; exact Nat.le_refl _), ← a1] at esl
        by_cases hrne : l.drop fr = []
        · have HTe : Hid (tot = (ws, 0)) := hide (by rw [← HT.out.2, hrne, HLn.out])
          have he := str_empty (hdB 10 (l.drop fr))
          rw [a1, hrne, decide_eq_true rfl] at he
          rw [a1, hrne] at esl
          generalize str [] = st at *
          clear a1 a2 hrne
          go_wp2
          go_ret2
          exact ⟨_, by rw [HTe.out]; rfl, by rw [HTe.out]; exact HO.out, HB.out⟩
        · have a3 : tlB 10 (l.drop fr) = l.drop (s.size + 1) := by rw [a2, List.drop_eq_nil_of_le (by rw [← HLS.out]; omega)]
          have he0 := str_empty (hdB 10 (l.drop fr))
          rw [a1, decide_eq_false hrne, ← a1] at he0
          clear a2
          have a2 := a3
          have hrne' := hrne
          clear a3 hrne
          have hrne := hrne'
          clear hrne'
          have HTN : Hid ((if lnT (l.drop fr) = [] ∨ (lnT (l.drop fr)).head? = some 35 then lnG (f - 1) (n + 1 + 1) (l.drop (s.size + 1)) ws else match prsA (lnT (l.drop fr)) with
              | none => ([], n + 1)
              | some (k, m) => lnG (f - 1) (n + 1 + 1) (l.drop (s.size + 1)) (ws ++ [encW k m.d m.s m.t m.i])) = tot) := hide (by
            have hf := HT.out
            have hpos : 0 < (l.drop fr).length := List.length_pos_iff.2 hrne
            rw [List.length_drop, ← HLS.out] at hpos
            obtain ⟨f', rfl⟩ : ∃ f', f = f' + 1 := ⟨f - 1, by omega⟩
            have h2 := hf.2
            rw [HUn.out _ _ _ _ hrne, a2] at h2
            exact h2)
          have hff := HT.out.1
          obtain ⟨t0, ht0⟩ : ∃ t0, t0 = hdB 10 (l.drop fr) := ⟨_, rfl⟩
          have ht0l : t0.length ≤ 1000000 := by
            rw [ht0]
            refine Nat.le_trans (hdB_len _ _) ?_
            rw [List.length_drop, ← HLS.out]
            omega
          rw [← ht0] at esl he0
          have he00 : t0.isEmpty = false := by
            have h := str_empty t0
            rw [he0] at h
            have h2 : ¬ t0 = [] := fun e => by simp [e] at h
            simpa using h2
          have HT0 := hide ht0
          clear ht0 a1 a2 hrne HT HUn HLn
          go_wp2
          go_loopg [8] t0.length (fun g tv wi => wi = wr ∧ ∃ k : Nat, k ≤ t0.length ∧ g = t0.length - k ∧ tv = .string (str (t0.drop k)) ∧ Hid (∀ (j : Nat) b, j < k → t0[j]? = some b → b = 32))
          case atStart => exact ⟨rfl, 0, Nat.zero_le _, rfl, rfl, fun j b hj => absurd hj (Nat.not_lt_zero _)⟩
          case round =>
            obtain ⟨hwi, k, hk, rfl, rfl, HAl⟩ := hrel
            subst hwi
            cases hdk : t0.drop k with
            | nil =>
              have hkl : t0.length ≤ k := by have := congrArg List.length hdk; simp at this; omega
              have HEnd : Hid (∀ b, t0[k]? = some b → b ≠ 32) := hide (fun b hb => by rw [List.getElem?_eq_none hkl] at hb; cases hb)
              have he3 : (str ([] : List UInt8)).size = 0 := str_size []
              obtain ⟨st, hst⟩ : ∃ st, st = str ([] : List UInt8) := ⟨_, rfl⟩
              rw [← hst] at he3 ⊢
              have HSt := hide hst
              clear hst
              go_upto_region 14 with fail
              rw [HSt.out, ← hdk]
              clear HSt he3 hdk hkl
              have HTl := hide (Lib.trimLeftB_drop t0 32 k hk HAl.out HEnd.out)
              have HT1 : Hid (Lib.trimRightB (t0.drop k) 32 = lnT (l.drop fr)) := hide (by rw [← HTl.out, HT0.out, lnT_is])
              have ht1l : (t0.drop k).length ≤ 1000000 := by rw [List.length_drop]; omega
              clear HTl HEnd HAl HT0
              generalize t0.drop k = t1 at *
              go_wp2
              go_loopg [8] t1.length (fun g tv wi => wi = wr ∧ ∃ k : Nat, k ≤ t1.length ∧ k = g ∧ tv = .string (str (t1.take k)) ∧ Hid (∀ (j : Nat) b, k ≤ j → t1[j]? = some b → b = 32))
              case atStart => exact ⟨rfl, t1.length, Nat.le_refl _, rfl, by rw [List.take_length], fun j b hj hb => by rw [List.getElem?_eq_none hj] at hb; cases hb⟩
              case round =>
                obtain ⟨hwi, k, hk, rfl, rfl, HAl⟩ := hrel
                subst hwi
                have hts : (str (t1.take k)).size = k := by rw [str_size, List.length_take]; omega
                by_cases hk0 : k = 0
                · subst hk0
                  have HEnd : Hid (∀ b, 0 < 0 → t1[0 - 1]? = some b → b ≠ 32) := hide (fun b h => by omega)
                  have he3 : (str (t1.take 0)).size = 0 := hts

                  obtain ⟨st, hst⟩ : ∃ st, st = str (t1.take 0) := ⟨_, rfl⟩
                  rw [← hst] at he3
                  rw [← hst]
                  clear hts
                  have HSt := hide hst
                  clear hst
                  have HKz : Hid (0 = 0) := hide rfl
                  go_upto_region 16 with fail
                  rw [HSt.out]
                  clear HSt he3 HKz
                  obtain ⟨k, hk0⟩ : ∃ k, k = 0 := ⟨_, rfl⟩
                  rw [show t1.take 0 = t1.take k by rw [hk0]]
                  have HAl' : Hid (∀ (j : Nat) b, k ≤ j → t1[j]? = some b → b = 32) := hide (fun j b hj hb => HAl.out j b (by omega) hb)
                  have HEnd' : Hid (∀ b, 0 < k → t1[k - 1]? = some b → b ≠ 32) := hide (fun b h => by omega)
                  replace hk : k ≤ t1.length := by omega
                  clear hk0 HAl HEnd
                  have HAl := HAl'
                  have HEnd := HEnd'
                  clear HAl' HEnd'
                  have HTr := hide (Lib.trimRightB_take t1 32 k hk HAl.out HEnd.out)
                  have HTT : Hid ((if t1.take k = [] ∨ (t1.take k).head? = some 35 then lnG (f - 1) (n + 1 + 1) (l.drop (s.size + 1)) ws else match prsA (t1.take k) with
                      | none => ([], n + 1)
                      | some (k, m) => lnG (f - 1) (n + 1 + 1) (l.drop (s.size + 1)) (ws ++ [encW k m.d m.s m.t m.i])) = tot) := hide (by
                    have := HTN.out
                    rw [← HT1.out, HTr.out] at this
                    exact this)
                  have htlen : (t1.take k).length ≤ 1000000 := by rw [List.length_take]; omega
                  clear HTr HEnd HAl HTN HT1
                  generalize t1.take k = t at *
                  cases t with
                  | nil =>
                    have hT := HTT.out
                    rw [if_pos (.inl rfl)] at hT
                    have HT2 := hide hT
                    have he2 := str_empty []
                    rw [decide_eq_true rfl] at he2
                    clear hT HTT
                    generalize str [] = st2 at *
                    go_wp2
                    go_roundg (s.size + 1 - (s.size + 1))
                    case measure => omega
                    case rel => exact ⟨s.size + 1, s.size + 1, n + 1, f - 1, ws, v0, rfl, by omega, by omega, by omega, rfl, by go_num, by go_num, by go_num, by omega, by omega, ⟨by omega, HT2.out⟩, fun q h1 h2 => by omega, HO.out, HB.out⟩
                  | cons c' t' =>
                    have he2 := str_empty (c' :: t')
                    rw [decide_eq_false (by simp)] at he2
                    have h0 : 0 < (str (c' :: t')).size := by rw [str_size]; simp
                    have hc0 := head_str h0
                    by_cases hc35 : c' = 35
                    · subst hc35
                      have hT := HTT.out
                      rw [if_pos (.inr rfl)] at hT
                      have HT2 := hide hT
                      replace hc0 : (((str (35 :: t'))[0]'h0).toNat : Int) = 35 := hc0
                      clear hT HTT
                      generalize str (35 :: t') = st2 at *
                      go_wp2
                      go_roundg (s.size + 1 - (s.size + 1))
                      case measure => omega
                      case rel => exact ⟨s.size + 1, s.size + 1, n + 1, f - 1, ws, v0, rfl, by omega, by omega, by omega, rfl, by go_num, by go_num, by go_num, by omega, by omega, ⟨by omega, HT2.out⟩, fun q h1 h2 => by omega, HO.out, HB.out⟩
                    · have hT := HTT.out
                      rw [if_neg (by simp [hc35])] at hT
                      have hc' : ((c'.toNat : Int) == 35) = false := by have := u8_ne hc35; simpa using this
                      have HTT2 := hide hT
                      clear hT hc35 HTT
                      have HPa2 := hide (HPa.out (c' :: t') wr htlen)
                      rw [prs_eq] at HPa2
                      generalize str (c' :: t') = st2 at *
                      cases hp : prsA (c' :: t') with
                      | none =>
                        rw [hp] at HPa2 HTT2
                        have HTe : Hid (tot = ([], n + 1)) := hide HTT2.out.symm
                        unfold prsV inst at HPa2
                        clear HTT2 hp
                        go_wp2_with fail
                        refine HPa2.out.mono ?_
                        rintro e W2 ⟨rfl, hb2⟩
                        have HB2 := hide (HB.out.trans (hb2.mono HB.out.size))
                        clear hb2 HPa2 HO
                        have hz2 := HB2.out.size
                        go_wp2
                        go_ret2
                        refine ⟨_, by rw [HTe.out]; rfl, by rw [HTe.out]; exact World.ownsRow_nil _ _ _ _, ?_⟩
                        exact HB2.out.alloc hz2 _
                      | some x =>
                        obtain ⟨k, m⟩ := x
                        obtain ⟨k1, k2, kc, kok, ktx⟩ := prsA_some hp
                        obtain ⟨_, _, _, v0', v1'⟩ := ok_bds kok kc
                        rw [hp] at HPa2 HTT2
                        have HT2 : Hid (lnG (f - 1) (n + 1 + 1) (l.drop (s.size + 1)) (ws ++ [encW k m.d m.s m.t m.i]) = tot) := HTT2
                        have HEn := hide (fun w => renc_any k m.d m.s m.t m.i w (by omega) (by omega))
                        unfold prsV inst at HPa2
                        unfold inst at HEn
                        clear HTT2 hp k1 k2 kc kok ktx v0' v1'
                        generalize encW k m.d m.s m.t m.i = ew at *
                        generalize encOk k m.d m.s m.t m.i = eo at *
                        obtain ⟨d, s1, t, im⟩ := m
                        dsimp only at *
                        go_wp2_with fail
                        refine HPa2.out.mono ?_
                        rintro e W2 ⟨rfl, hb2⟩
                        have HO2 := hide (ownsRow_below HO.out hb2)
                        have HB2 := hide (HB.out.trans (hb2.mono HB.out.size))
                        clear hb2 HPa2
                        go_wp2_with fail
                        refine (HEn.out _).mono ?_
                        rintro e W3 ⟨rfl, hb3⟩
                        have hz2 := HB2.out.size
                        have HO3 := hide (ownsRow_below (HO2.out.alloc _) hb3)
                        have HB3 := hide ((HB2.out.alloc hz2 _).trans (hb3.mono (by simp; omega)))
                        clear hb3 HEn HO2 HB2
                        have hz3 := HB3.out.size
                        go_wp2_with (at_builtin; refine wpList_append_own _ rfl _ _ 32 rfl w.heap.size 24 i0 (.int .u32 0) 1 4 Tryz.underlying32 hi hy0 hy1 hy2 rfl (by decide) _ _ _ rfl (HO3.out.alloc _) ⟨W3.heap.size, 0, none⟩ 1 1 [Value.int .u32 ew] rfl rfl (by intro j u' hj; match j, hj with | 0, hj => simp at hj; subst hj; simp [Addr.add]) (by intro u' hu'; simp at hu'; subst hu'; rfl) (by unfold maxLen; omega) (by omega) (by simp; omega) ?_; intro v5 W5 r5 g5 n5; refine Hid.out ?_)
                        refine Lib.hid ?_
                        have b5 : Below w.heap.size w W5 := (HB3.out.alloc hz3 _).grown g5 (by simp; omega) (fun g hg => (World.ownsRow.lt HO3.out _ hg).1)
                        rw [u32_row, show ws.length + 1 = (ws ++ [ew]).length by simp] at r5
                        have HR5 := hide r5
                        have HB5 := hide b5
                        clear r5 b5 n5 g5
                        go_wp2
                        go_roundg (s.size + 1 - (s.size + 1))
                        case measure => omega
                        case rel => exact ⟨s.size + 1, s.size + 1, n + 1, f - 1, ws ++ [ew], v5, rfl, by omega, by omega, by omega, rfl, by go_num, by go_num, by go_num, by omega, by simp; omega, ⟨by omega, HT2.out⟩, fun q h1 h2 => by omega, HR5.out, HB5.out⟩
                · obtain ⟨k', rfl⟩ : ∃ k', k = k' + 1 := ⟨k - 1, by omega⟩
                  have hkl : k' < (str (t1.take (k' + 1))).size := by rw [hts]; omega
                  have hxk := Lib.getElem_mk (t1.take (k' + 1)) k' hkl
                  rw [List.getElem?_take, if_pos (by omega)] at hxk
                  obtain ⟨e, hee⟩ : ∃ e, e = (str (t1.take (k' + 1)))[k']'hkl := ⟨_, rfl⟩
                  rw [← hee] at hxk
                  have hye : (((str (t1.take (k' + 1)))[k']'hkl).toNat : Int) = (e.toNat : Int) := by rw [hee]
                  have HXk := hide hxk
                  have hex : (str (t1.take (k' + 1))).extract 0 k' = str (t1.take k') := by
                    rw [take_str, List.take_take, Nat.min_eq_left (by omega)]
                  clear hee hxk
                  by_cases he32 : e = 32
                  · subst he32
                    replace hye : (((str (t1.take (k' + 1)))[k']'hkl).toNat : Int) = 32 := hye
                    have HAl2 : Hid (∀ (j : Nat) b, k' ≤ j → t1[j]? = some b → b = 32) := hide (fun j b hj hb => by
                      by_cases e : j = k'
                      · subst e; rw [HXk.out] at hb; cases hb; rfl
                      · exact HAl.out j b (by omega) hb)
                    generalize str (t1.take (k' + 1)) = st at *
                    go_wp2
                    go_roundg k'
                    case measure => omega
                    case rel => exact ⟨rfl, k', by omega, rfl, rfl, HAl2.out⟩
                  · have hn32 : ((e.toNat : Int) == 32) = false := by have := u8_ne he32; simpa using this
                    have HEnd : Hid (∀ b, 0 < k' + 1 → t1[k' + 1 - 1]? = some b → b ≠ 32) := hide (fun b _ hb => by
                      rw [show k' + 1 - 1 = k' by omega, HXk.out] at hb
                      cases hb
                      exact he32)
                    clear he32
                    obtain ⟨st, hst⟩ : ∃ st, st = str (t1.take (k' + 1)) := ⟨_, rfl⟩
                    have hsz3 : st.size = k' + 1 := by rw [hst]; exact hts
                    have hye2 : ((st[k']'(by omega)).toNat : Int) = (e.toNat : Int) := by
                      subst hst; exact hye
                    rw [← hst]
                    have hk' : k' < st.size := by omega
                    have hye3 : ((st[k']'hk').toNat : Int) = (e.toNat : Int) := hye2
                    clear hye2
                    clear hts hye hex hkl HXk
                    have HSt := hide hst
                    clear hst
                    go_upto_region 16 with fail
                    rw [HSt.out]
                    clear HSt hye3 hsz3 hn32
                    obtain ⟨k, hkk⟩ : ∃ k, k = k' + 1 := ⟨_, rfl⟩
                    rw [← hkk] at HAl HEnd hk ⊢
                    clear hkk hk0 hk'
                    have HTr := hide (Lib.trimRightB_take t1 32 k hk HAl.out HEnd.out)
                    have HTT : Hid ((if t1.take k = [] ∨ (t1.take k).head? = some 35 then lnG (f - 1) (n + 1 + 1) (l.drop (s.size + 1)) ws else match prsA (t1.take k) with
                        | none => ([], n + 1)
                        | some (k, m) => lnG (f - 1) (n + 1 + 1) (l.drop (s.size + 1)) (ws ++ [encW k m.d m.s m.t m.i])) = tot) := hide (by
                      have := HTN.out
                      rw [← HT1.out, HTr.out] at this
                      exact this)
                    have htlen : (t1.take k).length ≤ 1000000 := by rw [List.length_take]; omega
                    clear HTr HEnd HAl HTN HT1
                    generalize t1.take k = t at *
                    cases t with
                    | nil =>
                      have hT := HTT.out
                      rw [if_pos (.inl rfl)] at hT
                      have HT2 := hide hT
                      have he2 := str_empty []
                      rw [decide_eq_true rfl] at he2
                      clear hT HTT
                      generalize str [] = st2 at *
                      go_wp2
                      go_roundg (s.size + 1 - (s.size + 1))
                      case measure => omega
                      case rel => exact ⟨s.size + 1, s.size + 1, n + 1, f - 1, ws, v0, rfl, by omega, by omega, by omega, rfl, by go_num, by go_num, by go_num, by omega, by omega, ⟨by omega, HT2.out⟩, fun q h1 h2 => by omega, HO.out, HB.out⟩
                    | cons c' t' =>
                      have he2 := str_empty (c' :: t')
                      rw [decide_eq_false (by simp)] at he2
                      have h0 : 0 < (str (c' :: t')).size := by rw [str_size]; simp
                      have hc0 := head_str h0
                      by_cases hc35 : c' = 35
                      · subst hc35
                        have hT := HTT.out
                        rw [if_pos (.inr rfl)] at hT
                        have HT2 := hide hT
                        replace hc0 : (((str (35 :: t'))[0]'h0).toNat : Int) = 35 := hc0
                        clear hT HTT
                        generalize str (35 :: t') = st2 at *
                        go_wp2
                        go_roundg (s.size + 1 - (s.size + 1))
                        case measure => omega
                        case rel => exact ⟨s.size + 1, s.size + 1, n + 1, f - 1, ws, v0, rfl, by omega, by omega, by omega, rfl, by go_num, by go_num, by go_num, by omega, by omega, ⟨by omega, HT2.out⟩, fun q h1 h2 => by omega, HO.out, HB.out⟩
                      · have hT := HTT.out
                        rw [if_neg (by simp [hc35])] at hT
                        have hc' : ((c'.toNat : Int) == 35) = false := by have := u8_ne hc35; simpa using this
                        have HTT2 := hide hT
                        clear hT hc35 HTT
                        have HPa2 := hide (HPa.out (c' :: t') wr htlen)
                        rw [prs_eq] at HPa2
                        generalize str (c' :: t') = st2 at *
                        cases hp : prsA (c' :: t') with
                        | none =>
                          rw [hp] at HPa2 HTT2
                          have HTe : Hid (tot = ([], n + 1)) := hide HTT2.out.symm
                          unfold prsV inst at HPa2
                          clear HTT2 hp
                          go_wp2_with fail
                          refine HPa2.out.mono ?_
                          rintro e W2 ⟨rfl, hb2⟩
                          have HB2 := hide (HB.out.trans (hb2.mono HB.out.size))
                          clear hb2 HPa2 HO
                          have hz2 := HB2.out.size
                          go_wp2
                          go_ret2
                          refine ⟨_, by rw [HTe.out]; rfl, by rw [HTe.out]; exact World.ownsRow_nil _ _ _ _, ?_⟩
                          exact HB2.out.alloc hz2 _
                        | some x =>
                          obtain ⟨k, m⟩ := x
                          obtain ⟨k1, k2, kc, kok, ktx⟩ := prsA_some hp
                          obtain ⟨_, _, _, v0', v1'⟩ := ok_bds kok kc
                          rw [hp] at HPa2 HTT2
                          have HT2 : Hid (lnG (f - 1) (n + 1 + 1) (l.drop (s.size + 1)) (ws ++ [encW k m.d m.s m.t m.i]) = tot) := HTT2
                          have HEn := hide (fun w => renc_any k m.d m.s m.t m.i w (by omega) (by omega))
                          unfold prsV inst at HPa2
                          unfold inst at HEn
                          clear HTT2 hp k1 k2 kc kok ktx v0' v1'
                          generalize encW k m.d m.s m.t m.i = ew at *
                          generalize encOk k m.d m.s m.t m.i = eo at *
                          obtain ⟨d, s1, t, im⟩ := m
                          dsimp only at *
                          go_wp2_with fail
                          refine HPa2.out.mono ?_
                          rintro e W2 ⟨rfl, hb2⟩
                          have HO2 := hide (ownsRow_below HO.out hb2)
                          have HB2 := hide (HB.out.trans (hb2.mono HB.out.size))
                          clear hb2 HPa2
                          go_wp2_with fail
                          refine (HEn.out _).mono ?_
                          rintro e W3 ⟨rfl, hb3⟩
                          have hz2 := HB2.out.size
                          have HO3 := hide (ownsRow_below (HO2.out.alloc _) hb3)
                          have HB3 := hide ((HB2.out.alloc hz2 _).trans (hb3.mono (by simp; omega)))
                          clear hb3 HEn HO2 HB2
                          have hz3 := HB3.out.size
                          go_wp2_with (at_builtin; refine wpList_append_own _ rfl _ _ 32 rfl w.heap.size 24 i0 (.int .u32 0) 1 4 Tryz.underlying32 hi hy0 hy1 hy2 rfl (by decide) _ _ _ rfl (HO3.out.alloc _) ⟨W3.heap.size, 0, none⟩ 1 1 [Value.int .u32 ew] rfl rfl (by intro j u' hj; match j, hj with | 0, hj => simp at hj; subst hj; simp [Addr.add]) (by intro u' hu'; simp at hu'; subst hu'; rfl) (by unfold maxLen; omega) (by omega) (by simp; omega) ?_; intro v5 W5 r5 g5 n5; refine Hid.out ?_)
                          refine Lib.hid ?_
                          have b5 : Below w.heap.size w W5 := (HB3.out.alloc hz3 _).grown g5 (by simp; omega) (fun g hg => (World.ownsRow.lt HO3.out _ hg).1)
                          rw [u32_row, show ws.length + 1 = (ws ++ [ew]).length by simp] at r5
                          have HR5 := hide r5
                          have HB5 := hide b5
                          clear r5 b5 n5 g5
                          go_wp2
                          go_roundg (s.size + 1 - (s.size + 1))
                          case measure => omega
                          case rel => exact ⟨s.size + 1, s.size + 1, n + 1, f - 1, ws ++ [ew], v5, rfl, by omega, by omega, by omega, rfl, by go_num, by go_num, by go_num, by omega, by simp; omega, ⟨by omega, HT2.out⟩, fun q h1 h2 => by omega, HR5.out, HB5.out⟩
            | cons e t'' =>
              have hxk : t0[k]? = some e := by have := congrArg (fun x => x[0]?) hdk; simpa using this
              have h0 : 0 < (str (e :: t'')).size := by rw [str_size]; simp
              have hye := head_str h0
              have hex := drop_one e t''
              have hd2 : t'' = t0.drop (k + 1) := by rw [← List.drop_drop, hdk]; rfl
              have hkl : k < t0.length := by
                rcases Nat.lt_or_ge k t0.length with h | h
                · exact h
                · rw [List.getElem?_eq_none h] at hxk; cases hxk
              by_cases he32 : e = 32
              · subst he32
                replace hye : (((str (32 :: t''))[0]'h0).toNat : Int) = 32 := hye
                have HAl2 : Hid (∀ (j : Nat) b, j < k + 1 → t0[j]? = some b → b = 32) := hide (fun j b hj hb => by
                  by_cases e : j = k
                  · subst e; rw [hxk] at hb; cases hb; rfl
                  · exact HAl.out j b (by omega) hb)
                have HD2 := hide hd2
                have h1 : (1 : Int) ≤ (str (32 :: t'')).size := by omega
                clear hd2 hxk hdk
                generalize str (32 :: t'') = st at *
                go_wp2
                go_roundg (t0.length - (k + 1))
                case measure => omega
                case rel => exact ⟨rfl, k + 1, by omega, rfl, by rw [← HD2.out], HAl2.out⟩
              · have hn32 : ((e.toNat : Int) == 32) = false := by have := u8_ne he32; simpa using this
                have HEnd : Hid (∀ b, t0[k]? = some b → b ≠ 32) := hide (fun b hb => by rw [hxk] at hb; cases hb; exact he32)
                obtain ⟨st, hst⟩ : ∃ st, st = str (e :: t'') := ⟨_, rfl⟩
                have h0' : 0 < st.size := by rw [hst]; exact h0
                have hye2 : ((st[0]'h0').toNat : Int) = (e.toNat : Int) := by
                  subst hst; exact hye
                rw [← hst]
                have HSt := hide hst
                clear hst hye hex h0 hd2 hxk he32
                go_upto_region 14 with fail
                rw [HSt.out, ← hdk]
                clear HSt hye2 h0' hn32 hdk hkl
                have HTl := hide (Lib.trimLeftB_drop t0 32 k hk HAl.out HEnd.out)
                have HT1 : Hid (Lib.trimRightB (t0.drop k) 32 = lnT (l.drop fr)) := hide (by rw [← HTl.out, HT0.out, lnT_is])
                have ht1l : (t0.drop k).length ≤ 1000000 := by rw [List.length_drop]; omega
                clear HTl HEnd HAl HT0
                generalize t0.drop k = t1 at *
                go_wp2
                go_loopg [8] t1.length (fun g tv wi => wi = wr ∧ ∃ k : Nat, k ≤ t1.length ∧ k = g ∧ tv = .string (str (t1.take k)) ∧ Hid (∀ (j : Nat) b, k ≤ j → t1[j]? = some b → b = 32))
                case atStart => exact ⟨rfl, t1.length, Nat.le_refl _, rfl, by rw [List.take_length], fun j b hj hb => by rw [List.getElem?_eq_none hj] at hb; cases hb⟩
                case round =>
                  obtain ⟨hwi, k, hk, rfl, rfl, HAl⟩ := hrel
                  subst hwi
                  have hts : (str (t1.take k)).size = k := by rw [str_size, List.length_take]; omega
                  by_cases hk0 : k = 0
                  · subst hk0
                    have HEnd : Hid (∀ b, 0 < 0 → t1[0 - 1]? = some b → b ≠ 32) := hide (fun b h => by omega)
                    have he3 : (str (t1.take 0)).size = 0 := hts

                    obtain ⟨st, hst⟩ : ∃ st, st = str (t1.take 0) := ⟨_, rfl⟩
                    rw [← hst] at he3
                    rw [← hst]
                    clear hts
                    have HSt := hide hst
                    clear hst
                    have HKz : Hid (0 = 0) := hide rfl
                    go_upto_region 16 with fail
                    rw [HSt.out]
                    clear HSt he3 HKz
                    obtain ⟨k, hk0⟩ : ∃ k, k = 0 := ⟨_, rfl⟩
                    rw [show t1.take 0 = t1.take k by rw [hk0]]
                    have HAl' : Hid (∀ (j : Nat) b, k ≤ j → t1[j]? = some b → b = 32) := hide (fun j b hj hb => HAl.out j b (by omega) hb)
                    have HEnd' : Hid (∀ b, 0 < k → t1[k - 1]? = some b → b ≠ 32) := hide (fun b h => by omega)
                    replace hk : k ≤ t1.length := by omega
                    clear hk0 HAl HEnd
                    have HAl := HAl'
                    have HEnd := HEnd'
                    clear HAl' HEnd'
                    have HTr := hide (Lib.trimRightB_take t1 32 k hk HAl.out HEnd.out)
                    have HTT : Hid ((if t1.take k = [] ∨ (t1.take k).head? = some 35 then lnG (f - 1) (n + 1 + 1) (l.drop (s.size + 1)) ws else match prsA (t1.take k) with
                        | none => ([], n + 1)
                        | some (k, m) => lnG (f - 1) (n + 1 + 1) (l.drop (s.size + 1)) (ws ++ [encW k m.d m.s m.t m.i])) = tot) := hide (by
                      have := HTN.out
                      rw [← HT1.out, HTr.out] at this
                      exact this)
                    have htlen : (t1.take k).length ≤ 1000000 := by rw [List.length_take]; omega
                    clear HTr HEnd HAl HTN HT1
                    generalize t1.take k = t at *
                    cases t with
                    | nil =>
                      have hT := HTT.out
                      rw [if_pos (.inl rfl)] at hT
                      have HT2 := hide hT
                      have he2 := str_empty []
                      rw [decide_eq_true rfl] at he2
                      clear hT HTT
                      generalize str [] = st2 at *
                      go_wp2
                      go_roundg (s.size + 1 - (s.size + 1))
                      case measure => omega
                      case rel => exact ⟨s.size + 1, s.size + 1, n + 1, f - 1, ws, v0, rfl, by omega, by omega, by omega, rfl, by go_num, by go_num, by go_num, by omega, by omega, ⟨by omega, HT2.out⟩, fun q h1 h2 => by omega, HO.out, HB.out⟩
                    | cons c' t' =>
                      have he2 := str_empty (c' :: t')
                      rw [decide_eq_false (by simp)] at he2
                      have h0 : 0 < (str (c' :: t')).size := by rw [str_size]; simp
                      have hc0 := head_str h0
                      by_cases hc35 : c' = 35
                      · subst hc35
                        have hT := HTT.out
                        rw [if_pos (.inr rfl)] at hT
                        have HT2 := hide hT
                        replace hc0 : (((str (35 :: t'))[0]'h0).toNat : Int) = 35 := hc0
                        clear hT HTT
                        generalize str (35 :: t') = st2 at *
                        go_wp2
                        go_roundg (s.size + 1 - (s.size + 1))
                        case measure => omega
                        case rel => exact ⟨s.size + 1, s.size + 1, n + 1, f - 1, ws, v0, rfl, by omega, by omega, by omega, rfl, by go_num, by go_num, by go_num, by omega, by omega, ⟨by omega, HT2.out⟩, fun q h1 h2 => by omega, HO.out, HB.out⟩
                      · have hT := HTT.out
                        rw [if_neg (by simp [hc35])] at hT
                        have hc' : ((c'.toNat : Int) == 35) = false := by have := u8_ne hc35; simpa using this
                        have HTT2 := hide hT
                        clear hT hc35 HTT
                        have HPa2 := hide (HPa.out (c' :: t') wr htlen)
                        rw [prs_eq] at HPa2
                        generalize str (c' :: t') = st2 at *
                        cases hp : prsA (c' :: t') with
                        | none =>
                          rw [hp] at HPa2 HTT2
                          have HTe : Hid (tot = ([], n + 1)) := hide HTT2.out.symm
                          unfold prsV inst at HPa2
                          clear HTT2 hp
                          go_wp2_with fail
                          refine HPa2.out.mono ?_
                          rintro e W2 ⟨rfl, hb2⟩
                          have HB2 := hide (HB.out.trans (hb2.mono HB.out.size))
                          clear hb2 HPa2 HO
                          have hz2 := HB2.out.size
                          go_wp2
                          go_ret2
                          refine ⟨_, by rw [HTe.out]; rfl, by rw [HTe.out]; exact World.ownsRow_nil _ _ _ _, ?_⟩
                          exact HB2.out.alloc hz2 _
                        | some x =>
                          obtain ⟨k, m⟩ := x
                          obtain ⟨k1, k2, kc, kok, ktx⟩ := prsA_some hp
                          obtain ⟨_, _, _, v0', v1'⟩ := ok_bds kok kc
                          rw [hp] at HPa2 HTT2
                          have HT2 : Hid (lnG (f - 1) (n + 1 + 1) (l.drop (s.size + 1)) (ws ++ [encW k m.d m.s m.t m.i]) = tot) := HTT2
                          have HEn := hide (fun w => renc_any k m.d m.s m.t m.i w (by omega) (by omega))
                          unfold prsV inst at HPa2
                          unfold inst at HEn
                          clear HTT2 hp k1 k2 kc kok ktx v0' v1'
                          generalize encW k m.d m.s m.t m.i = ew at *
                          generalize encOk k m.d m.s m.t m.i = eo at *
                          obtain ⟨d, s1, t, im⟩ := m
                          dsimp only at *
                          go_wp2_with fail
                          refine HPa2.out.mono ?_
                          rintro e W2 ⟨rfl, hb2⟩
                          have HO2 := hide (ownsRow_below HO.out hb2)
                          have HB2 := hide (HB.out.trans (hb2.mono HB.out.size))
                          clear hb2 HPa2
                          go_wp2_with fail
                          refine (HEn.out _).mono ?_
                          rintro e W3 ⟨rfl, hb3⟩
                          have hz2 := HB2.out.size
                          have HO3 := hide (ownsRow_below (HO2.out.alloc _) hb3)
                          have HB3 := hide ((HB2.out.alloc hz2 _).trans (hb3.mono (by simp; omega)))
                          clear hb3 HEn HO2 HB2
                          have hz3 := HB3.out.size
                          go_wp2_with (at_builtin; refine wpList_append_own _ rfl _ _ 32 rfl w.heap.size 24 i0 (.int .u32 0) 1 4 Tryz.underlying32 hi hy0 hy1 hy2 rfl (by decide) _ _ _ rfl (HO3.out.alloc _) ⟨W3.heap.size, 0, none⟩ 1 1 [Value.int .u32 ew] rfl rfl (by intro j u' hj; match j, hj with | 0, hj => simp at hj; subst hj; simp [Addr.add]) (by intro u' hu'; simp at hu'; subst hu'; rfl) (by unfold maxLen; omega) (by omega) (by simp; omega) ?_; intro v5 W5 r5 g5 n5; refine Hid.out ?_)
                          refine Lib.hid ?_
                          have b5 : Below w.heap.size w W5 := (HB3.out.alloc hz3 _).grown g5 (by simp; omega) (fun g hg => (World.ownsRow.lt HO3.out _ hg).1)
                          rw [u32_row, show ws.length + 1 = (ws ++ [ew]).length by simp] at r5
                          have HR5 := hide r5
                          have HB5 := hide b5
                          clear r5 b5 n5 g5
                          go_wp2
                          go_roundg (s.size + 1 - (s.size + 1))
                          case measure => omega
                          case rel => exact ⟨s.size + 1, s.size + 1, n + 1, f - 1, ws ++ [ew], v5, rfl, by omega, by omega, by omega, rfl, by go_num, by go_num, by go_num, by omega, by simp; omega, ⟨by omega, HT2.out⟩, fun q h1 h2 => by omega, HR5.out, HB5.out⟩
                  · obtain ⟨k', rfl⟩ : ∃ k', k = k' + 1 := ⟨k - 1, by omega⟩
                    have hkl : k' < (str (t1.take (k' + 1))).size := by rw [hts]; omega
                    have hxk := Lib.getElem_mk (t1.take (k' + 1)) k' hkl
                    rw [List.getElem?_take, if_pos (by omega)] at hxk
                    obtain ⟨e, hee⟩ : ∃ e, e = (str (t1.take (k' + 1)))[k']'hkl := ⟨_, rfl⟩
                    rw [← hee] at hxk
                    have hye : (((str (t1.take (k' + 1)))[k']'hkl).toNat : Int) = (e.toNat : Int) := by rw [hee]
                    have HXk := hide hxk
                    have hex : (str (t1.take (k' + 1))).extract 0 k' = str (t1.take k') := by
                      rw [take_str, List.take_take, Nat.min_eq_left (by omega)]
                    clear hee hxk
                    by_cases he32 : e = 32
                    · subst he32
                      replace hye : (((str (t1.take (k' + 1)))[k']'hkl).toNat : Int) = 32 := hye
                      have HAl2 : Hid (∀ (j : Nat) b, k' ≤ j → t1[j]? = some b → b = 32) := hide (fun j b hj hb => by
                        by_cases e : j = k'
                        · subst e; rw [HXk.out] at hb; cases hb; rfl
                        · exact HAl.out j b (by omega) hb)
                      generalize str (t1.take (k' + 1)) = st at *
                      go_wp2
                      go_roundg k'
                      case measure => omega
                      case rel => exact ⟨rfl, k', by omega, rfl, rfl, HAl2.out⟩
                    · have hn32 : ((e.toNat : Int) == 32) = false := by have := u8_ne he32; simpa using this
                      have HEnd : Hid (∀ b, 0 < k' + 1 → t1[k' + 1 - 1]? = some b → b ≠ 32) := hide (fun b _ hb => by
                        rw [show k' + 1 - 1 = k' by omega, HXk.out] at hb
                        cases hb
                        exact he32)
                      clear he32
                      obtain ⟨st, hst⟩ : ∃ st, st = str (t1.take (k' + 1)) := ⟨_, rfl⟩
                      have hsz3 : st.size = k' + 1 := by rw [hst]; exact hts
                      have hye2 : ((st[k']'(by omega)).toNat : Int) = (e.toNat : Int) := by
                        subst hst; exact hye
                      rw [← hst]
                      have hk' : k' < st.size := by omega
                      have hye3 : ((st[k']'hk').toNat : Int) = (e.toNat : Int) := hye2
                      clear hye2
                      clear hts hye hex hkl HXk
                      have HSt := hide hst
                      clear hst
                      go_upto_region 16 with fail
                      rw [HSt.out]
                      clear HSt hye3 hsz3 hn32
                      obtain ⟨k, hkk⟩ : ∃ k, k = k' + 1 := ⟨_, rfl⟩
                      rw [← hkk] at HAl HEnd hk ⊢
                      clear hkk hk0 hk'
                      have HTr := hide (Lib.trimRightB_take t1 32 k hk HAl.out HEnd.out)
                      have HTT : Hid ((if t1.take k = [] ∨ (t1.take k).head? = some 35 then lnG (f - 1) (n + 1 + 1) (l.drop (s.size + 1)) ws else match prsA (t1.take k) with
                          | none => ([], n + 1)
                          | some (k, m) => lnG (f - 1) (n + 1 + 1) (l.drop (s.size + 1)) (ws ++ [encW k m.d m.s m.t m.i])) = tot) := hide (by
                        have := HTN.out
                        rw [← HT1.out, HTr.out] at this
                        exact this)
                      have htlen : (t1.take k).length ≤ 1000000 := by rw [List.length_take]; omega
                      clear HTr HEnd HAl HTN HT1
                      generalize t1.take k = t at *
                      cases t with
                      | nil =>
                        have hT := HTT.out
                        rw [if_pos (.inl rfl)] at hT
                        have HT2 := hide hT
                        have he2 := str_empty []
                        rw [decide_eq_true rfl] at he2
                        clear hT HTT
                        generalize str [] = st2 at *
                        go_wp2
                        go_roundg (s.size + 1 - (s.size + 1))
                        case measure => omega
                        case rel => exact ⟨s.size + 1, s.size + 1, n + 1, f - 1, ws, v0, rfl, by omega, by omega, by omega, rfl, by go_num, by go_num, by go_num, by omega, by omega, ⟨by omega, HT2.out⟩, fun q h1 h2 => by omega, HO.out, HB.out⟩
                      | cons c' t' =>
                        have he2 := str_empty (c' :: t')
                        rw [decide_eq_false (by simp)] at he2
                        have h0 : 0 < (str (c' :: t')).size := by rw [str_size]; simp
                        have hc0 := head_str h0
                        by_cases hc35 : c' = 35
                        · subst hc35
                          have hT := HTT.out
                          rw [if_pos (.inr rfl)] at hT
                          have HT2 := hide hT
                          replace hc0 : (((str (35 :: t'))[0]'h0).toNat : Int) = 35 := hc0
                          clear hT HTT
                          generalize str (35 :: t') = st2 at *
                          go_wp2
                          go_roundg (s.size + 1 - (s.size + 1))
                          case measure => omega
                          case rel => exact ⟨s.size + 1, s.size + 1, n + 1, f - 1, ws, v0, rfl, by omega, by omega, by omega, rfl, by go_num, by go_num, by go_num, by omega, by omega, ⟨by omega, HT2.out⟩, fun q h1 h2 => by omega, HO.out, HB.out⟩
                        · have hT := HTT.out
                          rw [if_neg (by simp [hc35])] at hT
                          have hc' : ((c'.toNat : Int) == 35) = false := by have := u8_ne hc35; simpa using this
                          have HTT2 := hide hT
                          clear hT hc35 HTT
                          have HPa2 := hide (HPa.out (c' :: t') wr htlen)
                          rw [prs_eq] at HPa2
                          generalize str (c' :: t') = st2 at *
                          cases hp : prsA (c' :: t') with
                          | none =>
                            rw [hp] at HPa2 HTT2
                            have HTe : Hid (tot = ([], n + 1)) := hide HTT2.out.symm
                            unfold prsV inst at HPa2
                            clear HTT2 hp
                            go_wp2_with fail
                            refine HPa2.out.mono ?_
                            rintro e W2 ⟨rfl, hb2⟩
                            have HB2 := hide (HB.out.trans (hb2.mono HB.out.size))
                            clear hb2 HPa2 HO
                            have hz2 := HB2.out.size
                            go_wp2
                            go_ret2
                            refine ⟨_, by rw [HTe.out]; rfl, by rw [HTe.out]; exact World.ownsRow_nil _ _ _ _, ?_⟩
                            exact HB2.out.alloc hz2 _
                          | some x =>
                            obtain ⟨k, m⟩ := x
                            obtain ⟨k1, k2, kc, kok, ktx⟩ := prsA_some hp
                            obtain ⟨_, _, _, v0', v1'⟩ := ok_bds kok kc
                            rw [hp] at HPa2 HTT2
                            have HT2 : Hid (lnG (f - 1) (n + 1 + 1) (l.drop (s.size + 1)) (ws ++ [encW k m.d m.s m.t m.i]) = tot) := HTT2
                            have HEn := hide (fun w => renc_any k m.d m.s m.t m.i w (by omega) (by omega))
                            unfold prsV inst at HPa2
                            unfold inst at HEn
                            clear HTT2 hp k1 k2 kc kok ktx v0' v1'
                            generalize encW k m.d m.s m.t m.i = ew at *
                            generalize encOk k m.d m.s m.t m.i = eo at *
                            obtain ⟨d, s1, t, im⟩ := m
                            dsimp only at *
                            go_wp2_with fail
                            refine HPa2.out.mono ?_
                            rintro e W2 ⟨rfl, hb2⟩
                            have HO2 := hide (ownsRow_below HO.out hb2)
                            have HB2 := hide (HB.out.trans (hb2.mono HB.out.size))
                            clear hb2 HPa2
                            go_wp2_with fail
                            refine (HEn.out _).mono ?_
                            rintro e W3 ⟨rfl, hb3⟩
                            have hz2 := HB2.out.size
                            have HO3 := hide (ownsRow_below (HO2.out.alloc _) hb3)
                            have HB3 := hide ((HB2.out.alloc hz2 _).trans (hb3.mono (by simp; omega)))
                            clear hb3 HEn HO2 HB2
                            have hz3 := HB3.out.size
                            go_wp2_with (at_builtin; refine wpList_append_own _ rfl _ _ 32 rfl w.heap.size 24 i0 (.int .u32 0) 1 4 Tryz.underlying32 hi hy0 hy1 hy2 rfl (by decide) _ _ _ rfl (HO3.out.alloc _) ⟨W3.heap.size, 0, none⟩ 1 1 [Value.int .u32 ew] rfl rfl (by intro j u' hj; match j, hj with | 0, hj => simp at hj; subst hj; simp [Addr.add]) (by intro u' hu'; simp at hu'; subst hu'; rfl) (by unfold maxLen; omega) (by omega) (by simp; omega) ?_; intro v5 W5 r5 g5 n5; refine Hid.out ?_)
                            refine Lib.hid ?_
                            have b5 : Below w.heap.size w W5 := (HB3.out.alloc hz3 _).grown g5 (by simp; omega) (fun g hg => (World.ownsRow.lt HO3.out _ hg).1)
                            rw [u32_row, show ws.length + 1 = (ws ++ [ew]).length by simp] at r5
                            have HR5 := hide r5
                            have HB5 := hide b5
                            clear r5 b5 n5 g5
                            go_wp2
                            go_roundg (s.size + 1 - (s.size + 1))
                            case measure => omega
                            case rel => exact ⟨s.size + 1, s.size + 1, n + 1, f - 1, ws ++ [ew], v5, rfl, by omega, by omega, by omega, rfl, by go_num, by go_num, by go_num, by omega, by simp; omega, ⟨by omega, HT2.out⟩, fun q h1 h2 => by omega, HR5.out, HB5.out⟩
    · obtain rfl : i = s.size + 1 := by omega
      have hfr2 := hfe rfl
      have HTe : Hid (tot = (ws, 0)) := hide (by rw [← HT.out.2, hfr2, List.drop_eq_nil_of_le (by rw [← HLS.out]; omega), HLn.out])
      go_wp2
      go_ret2
      exact ⟨_, by rw [HTe.out]; rfl, by rw [HTe.out]; exact HO.out, HB.out⟩

end Go.Proofs.YtcghekkhbiomgaaGreatDoor
