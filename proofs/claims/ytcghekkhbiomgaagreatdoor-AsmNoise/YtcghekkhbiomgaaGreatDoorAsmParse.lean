/- The contract of asm's Parse: the instruction that has just this text. -/
import Derived.Test.YtcghekkhbiomgaaGreatDoorAsmRead
namespace Go.Proofs.YtcghekkhbiomgaaGreatDoor
open Go.RowKit Go.Maps
set_option linter.unusedVariables false
set_option maxRecDepth 100000
set_option linter.unusedSimpArgs false

/-- A variable that holds an instruction. -/
structure Cel (w : World) (b : Nat) (o d s t i : Int) : Prop where
  c0 : w.cell? ⟨b, 0, none⟩ = some (.int .i64 o)
  c1 : w.cell? ⟨b, 1, none⟩ = some (.int .i64 d)
  c2 : w.cell? ⟨b, 2, none⟩ = some (.int .i64 s)
  c3 : w.cell? ⟨b, 3, none⟩ = some (.int .i64 t)
  c4 : w.cell? ⟨b, 4, none⟩ = some (.int .i64 i)
  z : ∀ j, w.frozen? ⟨b, j, none⟩ = false
theorem cel_alloc (w : World) (o d s t i : Int) : Cel (w.alloc (.cells #[.int .i64 o, .int .i64 d, .int .i64 s, .int .i64 t, .int .i64 i] 23)) w.heap.size o d s t i :=
  ⟨by simp, by simp, by simp, by simp, by simp, by simp⟩
theorem Cel.below {w w' : World} {b B : Nat} {o d s t i : Int} (h : Cel w b o d s t i) (hb : Below B w w') (hB : b < B) : Cel w' b o d s t i :=
  ⟨(hb.cell (p := ⟨b, 0, none⟩) hB).trans h.c0, (hb.cell (p := ⟨b, 1, none⟩) hB).trans h.c1, (hb.cell (p := ⟨b, 2, none⟩) hB).trans h.c2, (hb.cell (p := ⟨b, 3, none⟩) hB).trans h.c3, (hb.cell (p := ⟨b, 4, none⟩) hB).trans h.c4,
    fun j => (hb.frozen (p := ⟨b, j, none⟩) hB).trans (h.z j)⟩

def prsV : Option (Nat × Ns) → Value
  | some (k, m) => .tuple #[inst k m.d m.s m.t m.i, .bool true]
  | none => .tuple #[inst 0 0 0 0 0, .bool false]

theorem FindIs.fnd {l : List UInt8} {e : Ending} (h : FindIs (str l) e) : (∃ k : Nat, fnd l = some k ∧ e = .returned (.tuple #[.int .i64 k, .bool true])) ∨ (fnd l = none ∧ e = .returned (.tuple #[.int .i64 0, .bool false])) := by
  rcases h with ⟨k, h1, h2, h3, rfl⟩ | ⟨h1, rfl⟩
  · left
    have e : namesL.getD k [] = l := by
      have := congrArg (fun s => s.data.toList) h3
      simpa [nm] using this
    exact ⟨k, by rw [← e]; exact fnd_of h1 h2, rfl⟩
  · right
    refine ⟨?_, rfl⟩
    cases hf : Go.Proofs.YtcghekkhbiomgaaGreatDoor.fnd l with
    | none => rfl
    | some k =>
      obtain ⟨h2, h3, h4⟩ := fnd_some hf
      exact absurd (by unfold nm; rw [h4]) (h1 k h2 h3)
theorem str_inj {a b : List UInt8} (h : str a = str b) : a = b := by
  have := congrArg (fun s => s.data.toList) h
  simpa using this

set_option maxHeartbeats 6400000 in
theorem parse_any (l : List UInt8) (w : World) (hl : l.length ≤ 1000000) (hL : LaidA w) :
    Calls Tryz.prog 12 #[.string (str l)] w fun e w' => e = .returned (prsV (prsA l)) ∧ Below w.heap.size w w' := by
  have HC := hide (fun w hL => cut_any 32 l w (by omega) hL)
  have HF := hide (fun w h => find_any (str (hdB 32 l)) w h)
  have HL := hide hL
  have hP : prsA l = (match fnd (hdB 32 l) with
    | none => none
    | some k => match rdn (pat k) (tlB 32 l) ⟨0, 0, 0, 0⟩ with
      | none => none
      | some m => if okN k m = true ∧ tx k m = l then some (k, m) else none) := rfl
  have ht := tlB_len 32 l
  obtain ⟨tot, htot⟩ : ∃ tot, tot = prsA l := ⟨_, rfl⟩
  rw [← htot]
  rw [← htot] at hP
  have HP := hide hP
  have hls := str_size l
  have HLS := hide hls
  obtain ⟨s, hs⟩ : ∃ s, s = str l := ⟨_, rfl⟩
  rw [← hs]
  rw [← hs] at HC
  have HS := hide hs
  clear hP htot hL hls hs
  go_enter Tryz.func12, Tryz.ntmps12
  go_wp2_with fail
  refine (HC.out _ (HL.out.alloc _)).mono ?_
  rintro e W1 ⟨b, rfl, n, hW⟩
  have c1 : Cel W1 w.heap.size 0 0 0 0 0 := by rw [hW]; exact (cel_alloc w 0 0 0 0 0).below (bel_drewN _ n) (by simp)
  have HB1 : Hid (Below w.heap.size w W1) := by rw [hW]; exact ((Below.refl _ w).alloc (Nat.le_refl _) _).trans ((bel_drewN _ n).mono (by simp))
  have hz1 : w.heap.size < W1.heap.size := by rw [hW]; show w.heap.size < (w.alloc _).heap.size; simp
  have HL1 := hide (HL.out.then HB1.out)
  clear hW HC HL
  obtain ⟨hd, hhd⟩ : ∃ hd, hd = str (hdB 32 l) := ⟨_, rfl⟩
  obtain ⟨tl, htl⟩ : ∃ tl, tl = str (tlB 32 l) := ⟨_, rfl⟩
  rw [← hhd, ← htl]
  rw [← hhd] at HF
  have HH := hide hhd
  have HTl := hide htl
  clear hhd htl
  go_wp2_with fail
  refine (HF.out _ HL1.out.laid).mono ?_
  rintro e W ⟨hf, hW⟩
  rw [hW]
  clear hW W HF
  rw [HH.out] at hf
  rcases hf.fnd with ⟨k, hk, rfl⟩ | ⟨hk, rfl⟩
  · obtain ⟨hk1, hk2, _⟩ := fnd_some hk
    have HP2 : Hid (tot = (match rdn (pat k) (tlB 32 l) ⟨0, 0, 0, 0⟩ with
      | none => none
      | some m => if okN k m = true ∧ tx k m = l then some (k, m) else none)) := hide (by rw [HP.out, hk])
    have HPat := hide (fun w h => pat_any k w h)
    have HR := hide (fun w h => rdn_any (pat k) (tlB 32 l) w (pat_len k) (by omega) h)
    rw [← HTl.out] at HR
    obtain ⟨pt, hpt⟩ : ∃ pt, pt = str (pat k) := ⟨_, rfl⟩
    rw [← hpt] at HPat HR
    clear hf hk HP hpt ht
    go_wp2_with fail
    refine (HPat.out _ HL1.out.laid).mono ?_
    rintro e W ⟨rfl, hW⟩
    rw [hW]
    clear hW W HPat
    go_wp2_with fail
    refine (HR.out _ HL1.out).mono ?_
    rintro e W2 ⟨hrd, hb2⟩
    have c2 := c1.below hb2 hz1
    have hz2 : w.heap.size < W2.heap.size := Nat.lt_of_lt_of_le hz1 hb2.size
    have HB2 := hide (HB1.out.trans (hb2.mono (by omega)))
    have HL2 := hide (HL1.out.then hb2)
    have HP2 := hide HP2.out
    clear hb2 HR c1 HB1 HL1 hz1
    cases hrdn : rdn (pat k) (tlB 32 l) ⟨0, 0, 0, 0⟩ with
    | none =>
      rw [hrdn] at hrd
      have HT : Hid (tot = none) := hide (by rw [HP2.out, hrdn])
      obtain rfl : e = .returned (.tuple #[.map none, .bool false]) := hrd
      clear hrdn HP2 HL2
      obtain ⟨q0, q1, q2, q3, q4, z⟩ := c2
      have z0 := z 0
      have z1 := z 1
      have z2 := z 2
      have z3 := z 3
      have z4 := z 4
      clear z
      go_wp2
      refine bodyPost_ret (v := .tuple #[inst 0 0 0 0 0, .bool false]) (by simp [results, Tryz.results12, go_sem, inst, q0, q1, q2, q3, q4, hz2]) rfl ⟨by rw [HT.out]; rfl, ?_⟩
      have hb := HB2.out
      clear HB2
      go_grown
    | some m =>
      rw [hrdn] at hrd
      obtain ⟨mb, n, D, rfl, hown, hmap, hfit⟩ := hrd
      have hT : tot = if okN k m = true ∧ tx k m = l then some (k, m) else none := by rw [HP2.out, hrdn]
      have HT0 := hide hT
      have HO := hide hown
      have HM := hide hmap
      have HFit := hide hfit
      clear hT hown hmap hfit hrdn HP2
      have HEn := hide (fun w h => enc_any k m.d m.s m.t m.i w HFit.out.2.2.2.1 HFit.out.2.2.2.2 h)
      have HTx := hide (fun w h => text_any k m w HFit.out h)
      obtain ⟨ok, hok⟩ : ∃ ok, ok = okN k m := ⟨_, rfl⟩
      unfold okN at hok
      rw [← hok] at HEn
      have HOk : Hid (okN k m = ok) := hide hok.symm
      generalize encW k m.d m.s m.t m.i = ew at *
      obtain ⟨t, ht⟩ : ∃ t, t = str (tx k m) := ⟨_, rfl⟩
      rw [← ht] at HTx
      have HTe := hide ht
      have hne : ∀ _ : tx k m = l, t = s := fun h => by rw [ht, h, HS.out]
      have hne' : ∀ _ : ¬ tx k m = l, t ≠ s := fun h e => h (str_inj (by rw [← ht, ← HS.out, e]))
      have HNE := hide hne
      have HNE' := hide hne'
      clear hok ht hne hne'
      unfold inst at HEn HTx
      have hq0 : Hid (keyOf Tryz.prog 5 (.int .u8 68) = some (.int .u8 68)) := hide (keyByte 68)
      have hq1 : Hid (keyOf Tryz.prog 5 (.int .u8 83) = some (.int .u8 83)) := hide (keyByte 83)
      have hq2 : Hid (keyOf Tryz.prog 5 (.int .u8 84) = some (.int .u8 84)) := hide (keyByte 84)
      have hq3 : Hid (keyOf Tryz.prog 5 (.int .u8 73) = some (.int .u8 73)) := hide (keyByte 73)
      go_wp2_with (first
        | (at_lookup; refine wpList_lookup_own_int _ rfl _ _ 57 rfl 5 2 .i64 byteKey Tryz.underlying57 Tryz.underlying2 (zero64 _) mb n D rfl HO.out (.int .u8 68) (.int .u8 68) rfl hq0.out ?_; intro c' hat hwc; rw [HM.out.d] at hat; injection hat with hat; injection hat with _ hat; rw [← hat]; clear hat hwc c')
        | (at_lookup; refine wpList_lookup_own_int _ rfl _ _ 57 rfl 5 2 .i64 byteKey Tryz.underlying57 Tryz.underlying2 (zero64 _) mb n D rfl HO.out (.int .u8 83) (.int .u8 83) rfl hq1.out ?_; intro c' hat hwc; rw [HM.out.s] at hat; injection hat with hat; injection hat with _ hat; rw [← hat]; clear hat hwc c')
        | (at_lookup; refine wpList_lookup_own_int _ rfl _ _ 57 rfl 5 2 .i64 byteKey Tryz.underlying57 Tryz.underlying2 (zero64 _) mb n D rfl HO.out (.int .u8 84) (.int .u8 84) rfl hq2.out ?_; intro c' hat hwc; rw [HM.out.t] at hat; injection hat with hat; injection hat with _ hat; rw [← hat]; clear hat hwc c')
        | (at_lookup; refine wpList_lookup_own_int _ rfl _ _ 57 rfl 5 2 .i64 byteKey Tryz.underlying57 Tryz.underlying2 (zero64 _) mb n D rfl HO.out (.int .u8 73) (.int .u8 73) rfl hq3.out ?_; intro c' hat hwc; rw [HM.out.i] at hat; injection hat with hat; injection hat with _ hat; rw [← hat]; clear hat hwc c')
        | (go_at_call 33; refine (HEn.out _ (HL2.out.laid.alloc _)).mono ?_; rintro e W3 ⟨rfl, hb3⟩; refine Hid.out ?_))
      refine Lib.hid ?_
      have c3 := (c2.below ((Below.refl _ W2).alloc (Nat.le_refl _) (.cells #[.int .i64 k, .int .i64 m.d, .int .i64 m.s, .int .i64 m.t, .int .i64 m.i] 23)) hz2).below hb3 (by simp; omega)
      have d3 := (cel_alloc W2 k m.d m.s m.t m.i).below hb3 (by simp)
      have hz3 : W2.heap.size < W3.heap.size := by have := hb3.size; simp at this; omega
      have HB3 : Hid (Below w.heap.size w W3) := hide ((HB2.out.alloc (by omega) _).trans (hb3.mono (by simp; omega)))
      have HL3 := hide ((HL2.out.alloc _).then hb3)
      clear c2 hb3 HEn HL2 HO HM hq0 hq1 hq2 hq3 HB2
      obtain ⟨b2, hb2⟩ : ∃ b2, b2 = W2.heap.size := ⟨_, rfl⟩
      rw [← hb2] at d3 hz3 hz2
      rw [← hb2]
      have n1 : w.heap.size ≠ b2 := by omega
      have n2 : b2 ≠ w.heap.size := by omega
      clear hb2
      cases ok with
      | false =>
        have HT : Hid (tot = none) := hide (by rw [HT0.out, HOk.out]; simp)
        clear HTx HT0 HOk HNE HNE'
        obtain ⟨p0, p1, p2, p3, p4, y⟩ := d3
        clear y
        obtain ⟨q0, q1, q2, q3, q4, z⟩ := c3
        have z0 := z 0
        have z1 := z 1
        have z2 := z 2
        have z3 := z 3
        have z4 := z 4
        clear z
        go_wp2
        refine bodyPost_ret (v := .tuple #[inst 0 0 0 0 0, .bool false]) (by simp [results, Tryz.results12, go_sem, inst, q0, q1, q2, q3, q4, hz2]) rfl ⟨by rw [HT.out]; rfl, ?_⟩
        have hb := HB3.out
        clear HB3
        go_grown
      | true =>
        have d3' := d3
        obtain ⟨p0, p1, p2, p3, p4, y⟩ := d3
        clear y
        go_wp2_with (go_at_call 9; refine (HTx.out _ HL3.out).mono ?_; rintro e W4 ⟨rfl, hb4⟩; refine Hid.out ?_)
        refine Lib.hid ?_
        have c4 := c3.below hb4 (by omega)
        have d4 := d3'.below hb4 hz3
        have hz4 : b2 < W4.heap.size := Nat.lt_of_lt_of_le hz3 hb4.size
        have HB4 := hide (HB3.out.trans (hb4.mono (by omega)))
        clear c3 d3' hb4 HTx HL3 HB3 p0 p1 p2 p3 p4 hz3
        by_cases hx : tx k m = l
        · have HT : Hid (tot = some (k, m)) := hide (by rw [HT0.out, HOk.out, if_pos ⟨rfl, hx⟩])
          have hst := str_yes (HNE.out hx)
          clear HT0 HOk HNE HNE' hx
          obtain ⟨p0, p1, p2, p3, p4, y⟩ := d4
          clear y
          obtain ⟨q0, q1, q2, q3, q4, z⟩ := c4
          have z0 := z 0
          have z1 := z 1
          have z2 := z 2
          have z3 := z 3
          have z4 := z 4
          clear z
          go_wp2
          refine bodyPost_ret (v := .tuple #[inst k m.d m.s m.t m.i, .bool true]) (by simp [results, Tryz.results12, go_sem, inst, q0, q1, q2, q3, q4, hz2]) rfl ⟨by rw [HT.out]; rfl, ?_⟩
          have hb := HB4.out
          clear HB4
          go_grown
        · have HT : Hid (tot = none) := hide (by rw [HT0.out, HOk.out, if_neg (fun h => hx h.2)])
          have hst := str_no (HNE'.out hx)
          clear HT0 HOk HNE HNE' hx
          obtain ⟨p0, p1, p2, p3, p4, y⟩ := d4
          clear y
          obtain ⟨q0, q1, q2, q3, q4, z⟩ := c4
          have z0 := z 0
          have z1 := z 1
          have z2 := z 2
          have z3 := z 3
          have z4 := z 4
          clear z
          go_wp2
          refine bodyPost_ret (v := .tuple #[inst 0 0 0 0 0, .bool false]) (by simp [results, Tryz.results12, go_sem, inst, q0, q1, q2, q3, q4, hz2]) rfl ⟨by rw [HT.out]; rfl, ?_⟩
          have hb := HB4.out
          clear HB4
          go_grown
  · have HT : Hid (tot = none) := hide (by rw [HP.out, hk])
    clear hf hk HP HL1
    obtain ⟨q0, q1, q2, q3, q4, z⟩ := c1
    have z0 := z 0
    have z1 := z 1
    have z2 := z 2
    have z3 := z 3
    have z4 := z 4
    clear z
    go_wp2
    refine bodyPost_ret (v := .tuple #[inst 0 0 0 0 0, .bool false]) (by simp [results, Tryz.results12, go_sem, inst, q0, q1, q2, q3, q4, hz1]) rfl ⟨by rw [HT.out]; rfl, ?_⟩
    have hb := HB1.out
    clear HB1
    go_grown

end Go.Proofs.YtcghekkhbiomgaaGreatDoor
