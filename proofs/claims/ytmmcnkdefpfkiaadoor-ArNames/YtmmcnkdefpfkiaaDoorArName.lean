/- A member's name, read: contracts of longName and name. -/
import Derived.Test.YtmmcnkdefpfkiaaDoorArLib
import Derived.Deep.QuietTactic
import Derived.BigQuiet
import Derived.Deep.DeepCutAuto
namespace Go.Proofs.YtmmcnkdefpfkiaaDoor
open Go.RowKit
set_option linter.unusedVariables false
set_option maxRecDepth 100000
set_option maxRecDepth 20000
set_option linter.unusedSimpArgs false

/-- strings.ContainsAny at the three bytes that a name may not have. -/
def ConAny : Prop := ∀ (n : T8) (w : World), n.length ≤ 200 → Calls Tryd.prog 35 #[.string (str n), .string ⟨#[0, 47, 10]⟩] w fun e w' => e = .returned (.bool (n.any badC)) ∧ Below w.heap.size w w'

/-- What is read among the long names. -/
def lkP (lg : T8) (n : Nat) : Option T8 := if n < lg.length then (if (Lib.cut ((lg.drop n).take 202) [47, 10]).2.2 = true then some (Lib.cut ((lg.drop n).take 202) [47, 10]).1 else none) else none

theorem str_emp (l : T8) : (str l).toList.isEmpty = decide (l = []) := by
  rw [ByteArray.toList_eq]
  cases l <;> rfl

/-- A name told, or the panic. -/
def NmR (o : Option T8) (e : Ending) : Prop := match o with | some x => e = .returned (.string (str x)) | none => e = .panicked pncL
theorem NmR.no {o : Option T8} (h : o = none) : NmR o (.panicked pncL) := by rw [h]; exact rfl
theorem NmR.yes {o : Option T8} {x : T8} {S : ByteArray} (h : o = some x) (hS : str x = S) : NmR o (.returned (.string S)) := by rw [h, ← hS]; exact rfl

theorem lname_no (b : Nat) (a : Option Addr) (len cap : Nat) (v0 v1 v2 v4 v5 : Value) (n : Nat) (w : World) (h : RB w b v0 v1 v2 (.slice a len cap) v4 v5) (hl : len ≤ 9223372036854775807) (hn : ¬ n < len) (hn' : n ≤ 18446744073709551615) :
    Calls Tryd.prog 34 #[.pointer (some ⟨b, 0, none⟩), .int .u64 (n : Int)] w fun e w' => e = .panicked pncL ∧ w' = w := by
  have c3 := h.cell3
  have hd : decide ((n : Int) < (len : Int)) = false := decide_eq_false (by omega)
  clear h
  go_enter Tryd.func34, Tryd.ntmps34
  go_wp2_with (go_at_call 12; refine (need_no _).mono ?_; rintro e w' ⟨rfl, rfl⟩)
  exact ⟨rfl, rfl, rfl⟩

theorem lname_any (W : World) (b : Nat) (a : Option Addr) (cap : Nat) (lg : T8) (v0 v1 v2 v4 v5 : Value) (n : Nat) (w : World) (h : RB w b v0 v1 v2 (.slice a lg.length cap) v4 v5) (rt : Rt W a cap lg) (hbl : Below W.heap.size W w) (L : LaidR w) (hn : n < lg.length) (hlg : lg.length ≤ 1048576) :
    Calls Tryd.prog 34 #[.pointer (some ⟨b, 0, none⟩), .int .u64 (n : Int)] w fun e w' => Below w.heap.size w w' ∧ NmR (lkP lg n) e := by
  have c3 := h.cell3
  have rw' := Rd.below rt hbl
  obtain ⟨xb, xo, hx, hcell⟩ := rw'.addr (by omega)
  subst hx
  have hle := rt.le
  have hmx := rt.max
  have HC := hide (cutB_any ((lg.drop n).take 202) w (by simp; omega) L)
  have h1 := Rd.part rw' n (min (lg.length - n) 202) (by omega)
  have hcs := Rd.str h1
  have e0 : ((nI lg).drop n).take (min (lg.length - n) 202) = nI ((lg.drop n).take 202) := by
    rw [nI_drop, nI_take]
    congr 1
    rw [List.take_eq_take_iff]
    simp
    omega
  have e3 : min (lg.length - n) 202 = (min (((lg.length - n : Nat) : Int)) 202).toNat := by omega
  have e4 : (⟨xb, xo, none⟩ : Addr).add n = ⟨xb, xo + n, none⟩ := by unfold Addr.add; split <;> simp_all
  rw [e0, nI_str, e3, e4] at hcs
  have hk : lkP lg n = if (Lib.cut ((lg.drop n).take 202) [47, 10]).2.2 = true then some (Lib.cut ((lg.drop n).take 202) [47, 10]).1 else none := by rw [lkP, if_pos hn]
  rw [hk]
  clear hk h h1 e0 e3 e4 rt rw' L hcell hbl
  generalize str ((lg.drop n).take 202) = S at *
  generalize Lib.cut ((lg.drop n).take 202) [47, 10] = C at *
  obtain ⟨C1, C2, C3⟩ := C
  simp only at HC ⊢
  generalize hL : lg.length = M at *
  have hd : decide ((n : Int) < (M : Int)) = true := decide_eq_true (by omega)
  have hcn : ¬ cap = n := by omega
  go_enter Tryd.func34, Tryd.ntmps34
  go_wp2_with (go_at_call 12; refine (need_yes _).mono ?_; rintro e w' ⟨rfl, rfl⟩)
  refine HC.out.mono ?_
  rintro e w2 ⟨rfl, hb⟩
  have HB := hide hb
  clear hb HC hcs
  cases C3
  · go_wp2_with (go_at_call 12; refine (need_no _).mono ?_; rintro e w' ⟨rfl, rfl⟩)
    exact ⟨rfl, HB.out, NmR.no rfl⟩
  · go_wp2_with (go_at_call 12; refine (need_yes _).mono ?_; rintro e w' ⟨rfl, rfl⟩)
    go_ret
    exact ⟨HB.out, NmR.yes rfl rfl⟩

def pu (l : T8) : Option Nat := match Lib.parseUintB 64 l with | .ok n => some n | _ => none
theorem pu_some {l : T8} {n : Nat} : pu l = some n ↔ Lib.parseUintB 64 l = .ok n := by
  unfold pu
  cases h : Lib.parseUintB 64 l <;> simp
theorem pu_none {l : T8} (h : pu l = none) : ∀ n, Lib.parseUintB 64 l ≠ .ok n := fun n hn => by rw [pu_some.2 hn] at h; cases h
theorem pum_le (M : Nat) (hM : M ≤ 18446744073709551615) : ∀ (l : T8) (acc v : Nat), acc ≤ M → Lib.parseUintM M acc l = .ok v → v ≤ M
  | [], acc, v, ha, h => by simp [Lib.parseUintM] at h; omega
  | c :: r, acc, v, ha, h => by
    unfold Lib.parseUintM at h
    split at h
    · split at h
      · cases h
      · split at h
        · cases h
        · exact pum_le M hM r _ v (by omega) h
    · cases h
theorem pu_le {l : T8} {n : Nat} (h : pu l = some n) : n ≤ 18446744073709551615 := by
  have h1 := pu_some.1 h
  unfold Lib.parseUintB at h1
  split at h1
  · cases h1
  · exact pum_le _ (by decide) _ _ _ (by decide) h1
def okO (n : T8) : Option T8 := if okN n = true then some n else none
/-- What is read of a name's field without its spaces. -/
def nmPQ (lg fd : T8) : Option T8 := if hdB 47 fd = [] then (pu (tlB 47 fd)).bind (lkP lg) else if tlB 47 fd = [] then some (hdB 47 fd) else none
def nmP (lg fd : T8) : Option T8 := if (47 : UInt8) ∈ fd then (nmPQ lg fd).bind okO else none
theorem cut_found (c : UInt8) : ∀ l : T8, (Lib.cut l [c]).2.2 = decide (c ∈ l)
  | [] => by rw [cut_nil]; rfl
  | b :: l => by
    by_cases h : b = c
    · subst h; rw [cut_same]; simp
    · have ih := cut_found c l
      have hp : List.isPrefixOf [c] (b :: l) = false := by simp [List.isPrefixOf]; exact fun e => h e.symm
      have hi : Lib.index (b :: l) [c] = if Lib.index l [c] == -1 then -1 else Lib.index l [c] + 1 := by
        conv => lhs; unfold Lib.index
        rw [hp]; simp
      have hg := Lib.index_ge l [c]
      have e2 : decide (c ∈ b :: l) = decide (c ∈ l) := by simp [Ne.symm h]
      rw [e2, ← ih]
      unfold Lib.cut
      rw [hi]
      by_cases hn : Lib.index l [c] = -1
      · simp [hn]
      · have h0 : 0 ≤ Lib.index l [c] := by omega
        have h1 : (Lib.index l [c] == -1) = false := by simpa using hn
        rw [h1, if_pos h0]
        simp only [Bool.false_eq_true, if_false]
        rw [if_pos (by omega)]

theorem okN_eq (x : T8) : okN x = (decide (x ≠ []) && decide (x.length ≤ 200) && !(x.any badC)) := by
  unfold okN
  congr 1
  congr 1
  cases x <;> simp

theorem name_any (W : World) (b : Nat) (a : Option Addr) (cap : Nat) (lg fd : T8) (v0 v1 v2 v4 v5 : Value) (w : World) (h : RB w b v0 v1 v2 (.slice a lg.length cap) v4 v5) (rt : Rt W a cap lg) (hbl : Below W.heap.size W w) (L : LaidR w) (hlg : lg.length ≤ 1048576) (hfd : fd.length ≤ 1000) (hcon : ConAny) :
    Calls Tryd.prog 28 #[.pointer (some ⟨b, 0, none⟩), .string (str fd)] w fun e w' => Below w.heap.size w w' ∧ NmR (nmP lg fd) e := by
  have HC := hide (cutA_any fd w (by omega) L)
  rw [(cut1 47 fd).1, (cut1 47 fd).2, cut_found] at HC
  have ht := tlB_len 47 fd
  have hh := hdB_len 47 fd
  have hlc := rt.le
  have hlm := rt.max
  have HH := hide h
  have HRT := hide rt
  have HBL := hide hbl
  have HL := hide L
  have HCON := hide hcon
  clear h rt hbl L hcon
  by_cases h47 : (47 : UInt8) ∈ fd
  · have hm := decide_eq_true h47
    rw [hm] at HC
    have hP : nmP lg fd = (nmPQ lg fd).bind okO := by rw [nmP, if_pos h47]
    rw [hP]
    unfold nmPQ
    generalize hH : hdB 47 fd = hd at *
    generalize hT : tlB 47 fd = tl at *
    clear hH hT hP hm
    by_cases hz : hd = []
    · rw [if_pos hz]
      have e1 : (str hd).toList.isEmpty = true := by rw [str_emp]; exact decide_eq_true hz
      generalize str hd = SH at *
      clear hz
      cases hpu : pu tl with
      | none =>
        simp only [Option.bind_none]
        have HD := hide (fun (u : World) (lu : LaidR u) => decimal_no tl u (by omega) (pu_none hpu) lu)
        generalize str tl = ST at *
        go_enter Tryd.func28, Tryd.ntmps28
        go_wp2_with fail
        refine HC.out.mono ?_
        rintro e w1 ⟨rfl, hb⟩
        have HB := hide hb
        have HD1 := hide (HD.out w1 (HL.out.then hb))
        clear hb HC HD
        go_wp2_with (go_at_call 12; refine (need_yes _).mono ?_; rintro e w' ⟨rfl, rfl⟩)
        refine HD1.out.mono ?_
        rintro e w2 ⟨rfl, hb2⟩
        exact ⟨rfl, HB.out.trans (hb2.mono HB.out.size), NmR.no rfl⟩
      | some n =>
        simp only [Option.bind_some]
        have HD := hide (fun (u : World) => decimal_yes tl n u (by omega) (pu_some.1 hpu))
        have hnl := pu_le hpu
        generalize str tl = ST at *
        clear hpu
        by_cases hn : n < lg.length
        · cases hk : lkP lg n with
          | none =>
            simp only [Option.bind_none]
            go_enter Tryd.func28, Tryd.ntmps28
            go_wp2_with fail
            refine HC.out.mono ?_
            rintro e w1 ⟨rfl, hb⟩
            have HB := hide hb
            have HD1 := hide (HD.out w1)
            clear hb HC HD
            go_wp2_with (go_at_call 12; refine (need_yes _).mono ?_; rintro e w' ⟨rfl, rfl⟩)
            refine HD1.out.mono ?_
            rintro e w2 ⟨rfl, hb2⟩
            have HB2 := hide (HB.out.trans (hb2.mono HB.out.size))
            clear hb2 HD1 HB
            have HN := hide (lname_any W b a cap lg v0 v1 v2 v4 v5 n w2 (HH.out.below HB2.out) HRT.out (HBL.out.trans (HB2.out.mono HBL.out.size)) (HL.out.then HB2.out) hn hlg)
            rw [hk] at HN
            go_wp2_with fail
            refine HN.out.mono ?_
            rintro e w3 ⟨hb3, he⟩
            obtain rfl := he
            exact ⟨rfl, HB2.out.trans (hb3.mono HB2.out.size), NmR.no rfl⟩
          | some x =>
            simp only [Option.bind_some]
            go_enter Tryd.func28, Tryd.ntmps28
            go_wp2_with fail
            refine HC.out.mono ?_
            rintro e w1 ⟨rfl, hb⟩
            have HB := hide hb
            have HD1 := hide (HD.out w1)
            clear hb HC HD
            go_wp2_with (go_at_call 12; refine (need_yes _).mono ?_; rintro e w' ⟨rfl, rfl⟩)
            refine HD1.out.mono ?_
            rintro e w2 ⟨rfl, hb2⟩
            have HB2 := hide (HB.out.trans (hb2.mono HB.out.size))
            clear hb2 HD1 HB
            have HN := hide (lname_any W b a cap lg v0 v1 v2 v4 v5 n w2 (HH.out.below HB2.out) HRT.out (HBL.out.trans (HB2.out.mono HBL.out.size)) (HL.out.then HB2.out) hn hlg)
            rw [hk] at HN
            go_wp2_with fail
            refine HN.out.mono ?_
            rintro e w3 ⟨hb3, he⟩
            obtain rfl := he
            have HB := hide (HB2.out.trans (hb3.mono HB2.out.size))
            clear hb3 HB2 HN hk
            generalize hSX : str x = SX at *
            by_cases q0 : x = []
            · have o1 : okO x = none := by rw [q0]; rfl
              have e1 : SX.toList.isEmpty = true := by rw [← hSX, str_emp]; exact decide_eq_true q0
              clear q0 hSX
              go_wp2_with (go_at_call 12; refine (need_no _).mono ?_; rintro e w' ⟨rfl, rfl⟩)
              exact ⟨rfl, HB.out, NmR.no (by first | assumption | rfl)⟩
            have e1 : SX.toList.isEmpty = false := by rw [← hSX, str_emp]; exact decide_eq_false q0
            by_cases q1 : x.length ≤ 200
            · have hsz : SX.size = x.length := by rw [← hSX]; exact str_size _
              have HX : Hid (∀ u : World, Calls Tryd.prog 35 #[.string (str x), .string ⟨#[0, 47, 10]⟩] u fun e w' => e = .returned (.bool (x.any badC)) ∧ Below u.heap.size u w') := fun u => HCON.out x u q1
              rw [hSX] at HX
              have hb1 : decide ((x.length : Int) ≤ 200) = true := decide_eq_true (by omega)
              cases q2 : x.any badC
              · have o1 : okO x = some x := by unfold okO; rw [if_pos]; rw [okN_eq, q2, decide_eq_true q0, decide_eq_true q1]; rfl
                rw [q2] at HX
                clear q0 q2
                go_wp2_with fail
                refine (HX.out _).mono ?_
                rintro e w9 ⟨rfl, hb9⟩
                have HB9 := hide (HB.out.trans (hb9.mono HB.out.size))
                clear hb9 HX HB
                go_wp2_with (go_at_call 12; refine (need_yes _).mono ?_; rintro e w' ⟨rfl, rfl⟩)
                go_ret
                exact ⟨HB9.out, NmR.yes o1 hSX⟩
              · have o1 : okO x = none := by unfold okO; rw [if_neg]; rw [okN_eq, q2]; simp
                rw [q2] at HX
                clear q0 q2
                go_wp2_with fail
                refine (HX.out _).mono ?_
                rintro e w9 ⟨rfl, hb9⟩
                have HB9 := hide (HB.out.trans (hb9.mono HB.out.size))
                clear hb9 HX HB
                go_wp2_with (go_at_call 12; refine (need_no _).mono ?_; rintro e w' ⟨rfl, rfl⟩)
                exact ⟨rfl, HB9.out, NmR.no (by first | assumption | rfl)⟩
            · have hsz : SX.size = x.length := by rw [← hSX]; exact str_size _
              have hb1 : decide ((x.length : Int) ≤ 200) = false := decide_eq_false (by omega)
              have o1 : okO x = none := by unfold okO; rw [if_neg]; rw [okN_eq, decide_eq_false q1]; simp
              clear q0
              go_wp2_with (go_at_call 12; refine (need_no _).mono ?_; rintro e w' ⟨rfl, rfl⟩)
              exact ⟨rfl, HB.out, NmR.no (by first | assumption | rfl)⟩
        · have hk : lkP lg n = none := by rw [lkP, if_neg hn]
          rw [hk]
          simp only [Option.bind_none]
          go_enter Tryd.func28, Tryd.ntmps28
          go_wp2_with fail
          refine HC.out.mono ?_
          rintro e w1 ⟨rfl, hb⟩
          have HB := hide hb
          have HD1 := hide (HD.out w1)
          clear hb HC HD
          go_wp2_with (go_at_call 12; refine (need_yes _).mono ?_; rintro e w' ⟨rfl, rfl⟩)
          refine HD1.out.mono ?_
          rintro e w2 ⟨rfl, hb2⟩
          have HB2 := hide (HB.out.trans (hb2.mono HB.out.size))
          clear hb2 HD1 HB
          have HN := hide (lname_no b a lg.length cap v0 v1 v2 v4 v5 n w2 (HH.out.below HB2.out) (by omega) hn hnl)
          go_wp2_with fail
          refine HN.out.mono ?_
          rintro e w3 ⟨rfl, rfl⟩
          exact ⟨rfl, HB2.out, NmR.no rfl⟩
    · rw [if_neg hz]
      have e0 : (str hd).toList.isEmpty = false := by rw [str_emp]; exact decide_eq_false hz
      by_cases htz : tl = []
      · rw [if_pos htz]
        simp only [Option.bind_some]
        have e2 : (str tl).toList.isEmpty = true := by rw [str_emp]; exact decide_eq_true htz
        generalize hSX : str hd = SH at *
        generalize str tl = ST at *
        clear htz
        go_enter Tryd.func28, Tryd.ntmps28
        go_wp2_with fail
        refine HC.out.mono ?_
        rintro e w1 ⟨rfl, hb⟩
        have HB := hide hb
        clear hb HC
        go_upto_region 6 with (go_at_call 12; refine (need_yes _).mono ?_; rintro e w' ⟨rfl, rfl⟩)
        by_cases q0 : hd = []
        · exact absurd q0 hz
        have e1 := e0
        by_cases q1 : hd.length ≤ 200
        · have hsz : SH.size = hd.length := by rw [← hSX]; exact str_size _
          have HX : Hid (∀ u : World, Calls Tryd.prog 35 #[.string (str hd), .string ⟨#[0, 47, 10]⟩] u fun e w' => e = .returned (.bool (hd.any badC)) ∧ Below u.heap.size u w') := fun u => HCON.out hd u q1
          rw [hSX] at HX
          have hb1 : decide ((hd.length : Int) ≤ 200) = true := decide_eq_true (by omega)
          cases q2 : hd.any badC
          · have o1 : okO hd = some hd := by unfold okO; rw [if_pos]; rw [okN_eq, q2, decide_eq_true q0, decide_eq_true q1]; rfl
            rw [q2] at HX
            clear q0 q2
            go_wp2_with fail
            refine (HX.out _).mono ?_
            rintro e w9 ⟨rfl, hb9⟩
            have HB9 := hide (HB.out.trans (hb9.mono HB.out.size))
            clear hb9 HX HB
            go_wp2_with (go_at_call 12; refine (need_yes _).mono ?_; rintro e w' ⟨rfl, rfl⟩)
            go_ret
            exact ⟨HB9.out, NmR.yes o1 hSX⟩
          · have o1 : okO hd = none := by unfold okO; rw [if_neg]; rw [okN_eq, q2]; simp
            rw [q2] at HX
            clear q0 q2
            go_wp2_with fail
            refine (HX.out _).mono ?_
            rintro e w9 ⟨rfl, hb9⟩
            have HB9 := hide (HB.out.trans (hb9.mono HB.out.size))
            clear hb9 HX HB
            go_wp2_with (go_at_call 12; refine (need_no _).mono ?_; rintro e w' ⟨rfl, rfl⟩)
            exact ⟨rfl, HB9.out, NmR.no (by first | assumption | rfl)⟩
        · have hsz : SH.size = hd.length := by rw [← hSX]; exact str_size _
          have hb1 : decide ((hd.length : Int) ≤ 200) = false := decide_eq_false (by omega)
          have o1 : okO hd = none := by unfold okO; rw [if_neg]; rw [okN_eq, decide_eq_false q1]; simp
          clear q0
          go_wp2_with (go_at_call 12; refine (need_no _).mono ?_; rintro e w' ⟨rfl, rfl⟩)
          exact ⟨rfl, HB.out, NmR.no (by first | assumption | rfl)⟩
      · rw [if_neg htz]
        simp only [Option.bind_none]
        have e2 : (str tl).toList.isEmpty = false := by rw [str_emp]; exact decide_eq_false htz
        generalize str hd = SH at *
        generalize str tl = ST at *
        clear hz htz
        go_enter Tryd.func28, Tryd.ntmps28
        go_wp2_with fail
        refine HC.out.mono ?_
        rintro e w1 ⟨rfl, hb⟩
        have HB := hide hb
        clear hb HC
        go_upto_region 3 with (go_at_call 12; refine (need_yes _).mono ?_; rintro e w' ⟨rfl, rfl⟩)
        go_wp2_with (go_at_call 12; refine (need_no _).mono ?_; rintro e w' ⟨rfl, rfl⟩)
        exact ⟨rfl, HB.out, NmR.no (by first | assumption | rfl)⟩
  · have hm := decide_eq_false h47
    rw [hm] at HC
    have hP : nmP lg fd = none := by rw [nmP, if_neg h47]
    rw [hP]
    clear hP hm h47
    generalize str fd = S at *
    go_enter Tryd.func28, Tryd.ntmps28
    go_wp2_with fail
    refine HC.out.mono ?_
    rintro e w1 ⟨rfl, hb⟩
    have HB := hide hb
    clear hb HC
    go_wp2_with (go_at_call 12; refine (need_no _).mono ?_; rintro e w' ⟨rfl, rfl⟩)
    exact ⟨rfl, HB.out, NmR.no (by first | assumption | rfl)⟩

end Go.Proofs.YtmmcnkdefpfkiaaDoor
