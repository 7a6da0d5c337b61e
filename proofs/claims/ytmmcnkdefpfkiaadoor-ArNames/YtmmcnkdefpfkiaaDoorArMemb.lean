/- A part written, the document's way: a text behind bytes; the contract of member. -/
import Derived.Test.YtmmcnkdefpfkiaaDoorArDec
import Derived.Test.YtmmcnkdefpfkiaaDoorArHead
namespace Go.Proofs.YtmmcnkdefpfkiaaDoor
open Go.RowKit Go.Maps
set_option linter.unusedVariables false
set_option maxRecDepth 100000
set_option maxRecDepth 20000
set_option linter.unusedSimpArgs false

/-- A text behind a row of the call's own: whose the row is then. -/
theorem wpList_own_str_at {w : World} {ops : Array Oper} {rest : List Oper} {o : Oper} {a : Act} {Q : Exit → Act → World → Prop} (hgd : o.guard = none) (s x : Operand)
    (ho : o.op = .call { callee := .builtin .append, args := #[s, x], argTypes := #[24, 9] }) (B : Nat) (v : Value) (l m : T8) (S : ByteArray) (hS : S = str m) (hs : a.eval s = v) (hx : a.eval x = .string S)
    (hown : w.ownsRow B 5 1 v l.length (cs8 l)) (hm : 0 < m.length) (hl : l.length + m.length ≤ 20000000000) (hB : B ≤ w.heap.size)
    (h : ∀ v' w', w'.ownsRow B 5 1 v' (l ++ m).length (cs8 (l ++ m)) → w.grownBy w' v.ownBlock → (v'.ownBlock = v.ownBlock ∨ v'.ownBlock = some w.heap.size) → wpList Tryd.prog ops Q rest (a.put o.dst v') w') : wpList Tryd.prog ops Q (o :: rest) a w := by
  obtain ⟨i0, hi, hz0, hz1, hz2⟩ := info_parts Tryd.info8
  subst hS
  have hsz := str_size m
  have hxl := cs8_len l
  obtain ⟨v', w', hr, h2, h3, _⟩ := Lib.run_append_own_string (P := Tryd.prog) w B 24 9 o.type 5 i0 Tryd.underlying24 Tryd.underlying9 hi hz0 hz1 hz2 v l.length (cs8 l) hown (str m) (by unfold maxLen; omega) (by omega) hB
  have hat : v'.ownBlock = v.ownBlock ∨ v'.ownBlock = some w.heap.size := by
    rcases hown.2 with ⟨rfl, h0⟩ | ⟨g, cap, cur, rfl, hbg, hg, hnc, hcm, hcs, htake⟩
    · have hq := run_append_nil_string (P := Tryd.prog) w 24 9 o.type 5 i0 (.int .u8 0) Tryd.underlying24 Tryd.underlying9 hi hz0 (str m) (by omega) (by omega) (by rw [hz2]; omega)
      rw [hr] at hq
      cases hq
      exact .inr rfl
    · by_cases hroom : l.length + (str m).size ≤ cap
      · have hq := Lib.run_append_room_string (P := Tryd.prog) w 24 9 o.type 5 i0 Tryd.underlying24 Tryd.underlying9 hi hz1 g l.length cap cur hg (str m) hroom (by omega)
        rw [hr] at hq
        cases hq
        exact .inl rfl
      · have hq := Lib.run_append_grow_string (P := Tryd.prog) w 24 9 o.type 5 i0 (.int .u8 0) Tryd.underlying24 Tryd.underlying9 hi hz0 ⟨g, 0, none⟩ l.length cap (cs8 l) (by rw [hz1]; omega) (hown.cells (g := g) rfl) (str m) (by omega) (by omega) (by rw [hz2]; exact growslice_fits (by omega) (by omega))
        rw [hr] at hq
        cases hq
        exact .inr rfl
  refine wpList_plain hgd fun K hK => ?_
  unfold Oper.wp execOp
  simp only [ho, resolve, invoke, builtin, Sem.run_bind, Sem.run_pure, Result.andThen_ok, List.map_toArray, List.map_cons, List.map_nil, hs, hx, hr]
  refine hK _ _ (h _ _ ?_ h3 hat)
  rw [cs8_app, List.length_append, ← strCells_cs8 m, ← hsz]
  exact h2

/-- A text behind bytes that fill their place. -/
theorem wpList_lit_str {w : World} {ops : Array Oper} {rest : List Oper} {o : Oper} {a : Act} {Q : Exit → Act → World → Prop} (hgd : o.guard = none) (s x : Operand)
    (ho : o.op = .call { callee := .builtin .append, args := #[s, x], argTypes := #[24, 9] }) (l m : T8) (y : Addr) (S : ByteArray) (hS : S = str m) (hs : a.eval s = .slice (some y) l.length l.length) (hx : a.eval x = .string S)
    (hy : Rt w (some y) l.length l) (hm : 0 < m.length) (hl : l.length + m.length ≤ 20000000000)
    (h : ∀ v' w', w'.ownsRow w.heap.size 5 1 v' (l ++ m).length (cs8 (l ++ m)) → w.grownBy w' none → wpList Tryd.prog ops Q rest (a.put o.dst v') w') : wpList Tryd.prog ops Q (o :: rest) a w := by
  obtain ⟨i0, hi, hz0, hz1, hz2⟩ := info_parts Tryd.info8
  subst hS
  have hsz := str_size m
  refine wpList_plain hgd fun K hK => ?_
  have hgf : Builtin.nextslicecap (l.length + (str m).size) l.length * i0.bytes ≤ 281474976710656 := by rw [hz2]; exact growslice_fits (by omega) (by omega)
  have hr := Lib.run_append_grow_string (P := Tryd.prog) w 24 9 o.type 5 i0 (.int .u8 0) Tryd.underlying24 Tryd.underlying9 hi hz0 y l.length l.length (cs8 l) (by rw [hz1, cs8_len]; omega) (cells_of hy y rfl) (str m) (by omega) (by omega) hgf
  have hxl := cs8_len l
  have hlen : (cs8 l ++ Lib.strCells (str m)).length = (l.length + (str m).size) * 1 := by rw [List.length_append, hxl, Lib.strCells_length, Nat.mul_one]
  have hge := grownCap_ge w (l.length + (str m).size) l.length 5
  have hcm : grownCap w (l.length + (str m).size) l.length 5 ≤ maxLen := grownCap_le_maxLen w (l.length + (str m).size) l.length 5 (by unfold maxLen; omega)
  have hown : (w.drew.alloc (.cells ((cs8 l).toArray ++ (Lib.strCells (str m)).toArray ++ Builtin.zeroCells (Value.int .u8 0).cells (grownCap w (l.length + (str m).size) l.length 5 - (l.length + (str m).size))) 5)).ownsRow w.heap.size 5 1
      (.slice (some ⟨w.heap.size, 0, none⟩) (l.length + (str m).size) (grownCap w (l.length + (str m).size) l.length 5)) (l.length + (str m).size) (cs8 l ++ Lib.strCells (str m)) := by
    refine ⟨hlen, .inr ⟨w.heap.size, _, _, rfl, Nat.le_refl _, heap_alloc_new w.drew _, hge, hcm, ?_, ?_⟩⟩
    · have hz1' : (Value.int IntKind.u8 0).cells.size = 1 := rfl
      simp only [Array.size_append, List.size_toArray, size_zeroCells, hz1', hxl, Lib.strCells_length]
      omega
    · simp only [Array.toList_append, List.append_assoc]
      rw [← List.append_assoc, ← hlen]
      exact List.take_left
  have e1 : l.length + (str m).size = (l ++ m).length := by rw [List.length_append, hsz]
  unfold Oper.wp execOp
  simp only [ho, resolve, invoke, builtin, Sem.run_bind, Sem.run_pure, Result.andThen_ok, List.map_toArray, List.map_cons, List.map_nil, hs, hx, hr]
  have hrow : ∀ (W : World) (V : Value) (n : Nat) (r : List Value), W.ownsRow w.heap.size 5 1 V n r → n = (l ++ m).length → r = cs8 (l ++ m) → W.ownsRow w.heap.size 5 1 V (l ++ m).length (cs8 (l ++ m)) := by
    intro W V n r hr hn hrr
    rw [← hn, ← hrr]
    exact hr
  refine hK _ _ (h _ _ (hrow _ _ _ _ hown e1 (by rw [strCells_cs8, ← cs8_app])) ⟨rfl, rfl, rfl, by simp, fun k hk _ => (((Below.refl w.heap.size w).drew).alloc (by simp) _).block k hk⟩)

/-- What the document's part begins with. -/
theorem hd_doc (f : T8) (n : Nat) : padR 16 f ++ (padR 12 [48] ++ (padR 6 [48] ++ (padR 6 [48] ++ (padR 8 [54, 52, 52] ++ (padR 10 (Lib.decDigits n) ++ [96, 10]))))) = hdT f n := by
  unfold hdT
  rfl

set_option maxHeartbeats 8000000 in
theorem rmemb_any (w0 w : World) (v : Value) (l f d : T8) (a : Option Addr) (c : Nat) (hB : Bx w0 w v l) (rd : Rt w a c d) (sep : 0 < d.length → ∀ k, v.ownBlock = some k → ∀ x, a = some x → x.block ≠ k) (hf : f.length ≤ 16) (hd : d.length ≤ 1000000000) (hl : l.length ≤ 10000000000) :
    Calls Tryd.prog 15 #[v, .string (str f), .slice a d.length c] w fun e w' => ∃ v', e = .returned v' ∧ w'.ownsRow w0.heap.size 5 1 v' (l ++ wP f d).length (cs8 (l ++ wP f d)) ∧ Below w0.heap.size w0 w' ∧ KB w w' v := by
  obtain ⟨i0, hi, hz0, hz1, hz2⟩ := info_parts Tryd.info8
  have HBX := hide hB
  have HRD := hide rd
  have HSEP := hide sep
  have hsz0 := hB.bel.size
  have hdc := rd.le
  have hdm := rd.max
  have hdl := dec_len10 d.length hd
  have hltd : 0 < d.length → ∀ x, a = some x → x.block < w.heap.size := fun h0 x hx => by
    have := World.block_lt_of_cell? w _ ((show Rd w a d.length c (nI d) from HRD.out).cell x hx 0 h0)
    have e : (x.add 0).block = x.block := by unfold Addr.add; split <;> rfl
    omega
  have HLTD := hide hltd
  clear hltd
  have W1 := hide (fun W => wide_any f 16 W (by decide) (by omega))
  have W2 := hide (fun W => wide_any [48] 12 W (by decide) (by decide))
  have W3 := hide (fun W => wide_any [48] 6 W (by decide) (by decide))
  have W4 := hide (fun W => wide_any [54, 52, 52] 8 W (by decide) (by decide))
  have W5 := hide (fun W => wide_any (Lib.decDigits d.length) 10 W (by decide) (by omega))
  have WD := hide (fun W => rdec_any (d.length + 1) d.length (by omega) (by omega) W)
  have s1 : (str (padR 16 f)).size = 16 := by rw [str_size, padR_len 16 f hf]
  have s2 : (str (padR 12 [48])).size = 12 := rfl
  have s3 : (str (padR 6 [48])).size = 6 := rfl
  have s4 : (str (padR 8 [54, 52, 52])).size = 8 := rfl
  have s5 : (str (padR 10 (Lib.decDigits d.length))).size = 10 := by rw [str_size, padR_len 10 _ hdl]
  have HS : Hid (((((str (padR 16 f) ++ str (padR 12 [48])) ++ str (padR 6 [48])) ++ str (padR 6 [48])) ++ str (padR 8 [54, 52, 52])) ++ str (padR 10 (Lib.decDigits d.length)) ++ (⟨#[96, 10]⟩ : ByteArray) = str (hdT f d.length)) := by
    show _ = _
    rw [show (⟨#[96, 10]⟩ : ByteArray) = str [96, 10] from rfl, ← hd_doc]
    simp only [str_cat, List.append_assoc]
  have hh60 := hdT_len f d.length hf hd
  obtain ⟨av, cv, rfl, hvr⟩ := hB.rt
  have hvc := hvr.le
  have hvm := hvr.max
  clear hB rd sep hvr
  go_enter Tryd.func15, Tryd.ntmps15
  generalize str (padR 16 f) = S1 at *
  generalize str (padR 12 [48]) = S2 at *
  generalize str (padR 6 [48]) = S3 at *
  generalize str (padR 8 [54, 52, 52]) = S4 at *
  generalize str (padR 10 (Lib.decDigits d.length)) = S5 at *
  generalize str (Lib.decDigits d.length) = SD at *
  generalize str f = SF at *
  go_upto_region 1 with fail
  go_cut [0] (fun u wx => Hid (Wr w0 w wx (.slice av l.length cv) u (l ++ hdT f d.length) a c d))
  case first =>
    go_wp2_with fail
    refine (W1.out _).mono ?_
    rintro e w' ⟨rfl, hw⟩
    obtain rfl := hw.symm
    clear hw
    go_wp2_with fail
    refine (W2.out _).mono ?_
    rintro e w' ⟨rfl, hw⟩
    obtain rfl := hw.symm
    clear hw
    go_wp2_with fail
    refine (W3.out _).mono ?_
    rintro e w' ⟨rfl, hw⟩
    obtain rfl := hw.symm
    clear hw
    go_wp2_with fail
    refine (W3.out _).mono ?_
    rintro e w' ⟨rfl, hw⟩
    obtain rfl := hw.symm
    clear hw
    go_wp2_with fail
    refine (W4.out _).mono ?_
    rintro e w' ⟨rfl, hw⟩
    obtain rfl := hw.symm
    clear hw
    go_wp2_with fail
    refine (WD.out _).mono ?_
    rintro e w3 ⟨rfl, hb3⟩
    have HB3 := hide hb3
    clear hb3
    go_wp2_with fail
    refine (W5.out _).mono ?_
    rintro e w' ⟨rfl, hw⟩
    obtain rfl := hw.symm
    clear hw
    have hsz3 := HB3.out.size
    rcases HBX.out.row with ⟨x, hvx, hxr, hxb⟩ | hown
    · cases hvx
      have HXR := hide (Rd.below hxr HB3.out)
      clear hxr
      go_wp2_with (at_builtin; refine wpList_lit_str rfl _ _ rfl l (hdT f d.length) x _ HS.out rfl rfl HXR.out (by omega) (by omega) ?_)
      intro v' w5 hown' hgrow
      have HR5 : Hid (Wr w0 w w5 (.slice (some x) l.length l.length) v' (l ++ hdT f d.length) a c d) := by
        have s1 := hgrow.size
        refine ⟨?_, (HBX.out.bel.trans (HB3.out.mono hsz0)).grown hgrow (by omega) (fun k hk => by cases hk), fun k hk _ => (hgrow.block k (by omega) (by simp)).trans (HB3.out.block k hk), Rt.far (Rd.below HRD.out HB3.out) hgrow (fun _ _ _ => by simp), fun h0 k hk y hy => ?_, by omega, hsz0, fun k hk => .inr ?_, HLTD.out⟩
        · rw [List.length_append, hh60]
          exact row_low hown' (by omega)
        · have h1 := row_ge hown' hk
          have h2 := HLTD.out h0 y hy
          omega
        · have h1 := row_ge hown' hk
          omega
      clear hown' hgrow
      go_wp2_with fail
      go_meet
      case rel => exact HR5.out
    · have HW4 : Hid (Wr w0 w w3 (.slice av l.length cv) (.slice av l.length cv) l a c d) :=
        ⟨rowKept (B0 := 0) hown HB3.out, HBX.out.bel.trans (HB3.out.mono hsz0), fun k hk _ => HB3.out.block k hk, Rd.below HRD.out HB3.out, fun h0 k hk x hx => HSEP.out h0 k hk x hx, hsz3, hsz0, fun k hk => .inl hk, HLTD.out⟩
      clear hown
      go_wp2_with (at_builtin; refine wpList_own_str_at rfl _ _ rfl w0.heap.size _ l (hdT f d.length) _ HS.out rfl rfl HW4.out.row (by omega) (by omega) (by omega) ?_)
      intro v' w5 hown' hgrow hat
      have HR5 : Hid (Wr w0 w w5 (.slice av l.length cv) v' (l ++ hdT f d.length) a c d) := HW4.out.step (Below.refl _ _) hgrow hat (by rw [List.length_append, hh60]; exact hown')
      clear hown' hgrow hat
      go_wp2_with fail
      go_meet
      case rel => exact HR5.out
  case rest =>
    have HW5 := hcut
    have hwl : (l ++ hdT f d.length).length = l.length + 60 := by rw [List.length_append, hh60]
    have hwp : l ++ wP f d = (l ++ hdT f d.length) ++ d ++ oddT d := by simp [wP]
    have HWP := hide hwp
    clear hwp HBX HLTD HSEP HRD W1 W2 W3 W4 W5 WD HS
    generalize l ++ hdT f d.length = l5 at *
    have HM := hide HW5.out.row
    go_upto_region 2 with fail
    go_cut [0] (fun u wx => Hid (Wr w0 w wx (.slice av l.length cv) u (l5 ++ d) a c d))
    case first =>
      cases a with
      | none =>
        have h1 := HW5.out.rd.nil rfl
        have h2 := HW5.out.rd.le
        obtain rfl : d = [] := List.eq_nil_of_length_eq_zero (by omega)
        obtain rfl : c = 0 := h1
        go_wp2_with (at_builtin; refine wpList_append_own_none rfl _ _ 24 rfl w0.heap.size 5 i0 1 Tryd.underlying24 hi _ _ _ rfl HW5.out.row rfl ?_)
        go_wp2_with fail
        go_meet
        case rel =>
          have := HW5.out
          rw [List.append_nil]
          exact this
      | some x =>
        have HC2 := hide (cells_of HW5.out.rd x rfl)
        have l2 := cs8_len d
        have o2 := cs8_one d
        have app := cs8_app l5 d
        have hs5 := HW5.out.sz
        generalize cs8 d = CH at *
        go_wp2_with (at_builtin; refine wpList_append_own_at _ rfl _ _ 24 rfl w0.heap.size 5 i0 (.int .u8 0) 1 1 Tryd.underlying24 hi hz0 hz1 hz2 rfl (by decide) _ _ _ rfl HW5.out.row x d.length c CH rfl (by omega) HC2.out o2 (by unfold maxLen; omega) (by omega) (by omega) ?_)
        intro v' w6 hown' hgrow _ hat
        have HR6 : Hid (Wr w0 w w6 (.slice av l.length cv) v' (l5 ++ d) (some x) c d) := HW5.out.step (Below.refl _ _) hgrow hat (by rw [app, List.length_append, hwl]; exact hown')
        clear hown' hgrow hat
        go_wp2_with fail
        go_meet
        case rel => exact HR6.out
    case rest =>
      have HW6 := hcut
      clear HW5 HM
      have hl6 : (l5 ++ d).length = l5.length + d.length := List.length_append
      generalize l5 ++ d = l6 at *
      by_cases hodd : d.length % 2 = 1
      · have ho1 : ((d.length : Int) % 2 == 1) = true := by simp; omega
        have ho2 : ((d.length : Int).tmod 2 == 1) = true := by rw [Int.tmod_eq_emod_of_nonneg (by omega)]; exact ho1
        have HOD : Hid (oddT d = [10]) := by show _ = _; unfold oddT; rw [if_pos hodd]
        have l2 := cs8_len l6
        have app := cs8_app l6 [10]
        have hs6 := HW6.out.sz
        go_wp2_with (at_builtin; refine wpList_append_own_at _ rfl _ _ 24 rfl w0.heap.size 5 i0 (.int .u8 0) 1 1 Tryd.underlying24 hi hz0 hz1 hz2 rfl (by decide) _ _ _ rfl (HW6.out.row.alloc _) ⟨_, 0, none⟩ 1 1 [.int .u8 10] rfl rfl ?c1 ?c2 (by unfold maxLen; omega) (by omega) (by simp; omega) ?_)
        case c1 =>
          intro j u hj
          match j, hj with
          | 0, hj => simp at hj; subst hj; simp [Addr.add]
        case c2 => intro u hu; simp at hu; subst hu; rfl
        intro v' w7 hown' hgrow _ hat
        have HR7 := hide (HW6.out.step (l' := l6 ++ [10]) ((Below.refl _ _).alloc (Nat.le_refl _) _) hgrow (by simpa using hat) (by rw [app, List.length_append, hl6, hwl]; exact hown'))
        clear hown' hgrow hat
        go_wp2_with fail
        go_ret
        refine ⟨_, rfl, ?_, HR7.out.bel, HR7.out.kb⟩
        rw [HWP.out, HOD.out]
        exact HR7.out.row
      · have ho1 : ((d.length : Int) % 2 == 1) = false := by simp; omega
        have ho2 : ((d.length : Int).tmod 2 == 1) = false := by rw [Int.tmod_eq_emod_of_nonneg (by omega)]; exact ho1
        have HOD : Hid (oddT d = []) := by show _ = _; unfold oddT; rw [if_neg hodd]
        go_wp2_with fail
        go_ret
        refine ⟨_, rfl, ?_, HW6.out.bel, HW6.out.kb⟩
        rw [HWP.out, HOD.out, List.append_nil]
        exact HW6.out.row

end Go.Proofs.YtmmcnkdefpfkiaaDoor
