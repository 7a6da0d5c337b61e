/- The names of an index: the contract of armap.namesBehind. -/
import Derived.Test.YteknmlcgdjoccaaArmFirst
import Derived.Test.YteknmlcgdjoccaaStrCut
import Derived.Deep.LoopGhost
import Derived.Deep.AppendLies
namespace Go.Proofs.Yteknmlcgdjoccaa
open Go.RowKit
set_option linter.unusedVariables false
set_option maxRecDepth 20000
set_option linter.unusedSimpArgs false

/-- So many names, each with a nought behind it, and nothing more. -/
def nmsO : Nat → T8 → Option (List T8)
  | 0, r => if r = [] then some [] else none
  | k + 1, r => if (0 : UInt8) ∈ r then (nmsO k (r.drop ((nmO r).length + 1))).map (nmO r :: ·) else none
def nbO (n : Nat) (l : T8) : Option (List T8) := if n * 4 ≤ l.length then nmsO n (l.drop (n * 4)) else none
theorem nmsO_len : ∀ (n : Nat) (r : T8) (ns : List T8), nmsO n r = some ns → ns.length = n
  | 0, r, ns, h => by
    unfold nmsO at h
    split at h
    · cases h; rfl
    · cases h
  | n + 1, r, ns, h => by
    unfold nmsO at h
    split at h
    · cases hm : nmsO n (r.drop ((nmO r).length + 1)) with
      | none => rw [hm] at h; cases h
      | some x => rw [hm] at h; cases h; simp [nmsO_len n _ x hm]
    · cases h
/-- What is told of names: a row of the call's own, or that there are none such. -/
def NbR (w w' : World) (o : Option (List T8)) (e : Ending) : Prop :=
  match o with
  | some ns => ∃ v, e = .returned (.tuple #[v, .bool true]) ∧ w'.ownsRow w.heap.size 9 1 v ns.length (csT ns)
  | none => ∃ v, e = .returned (.tuple #[v, .bool false])
theorem NbR.no {w w' : World} {o : Option (List T8)} (v : Value) (h : o = none) : NbR w w' o (.returned (.tuple #[v, .bool false])) := by rw [h]; exact ⟨v, rfl⟩
theorem NbR.yes {w w' : World} {o : Option (List T8)} {ns : List T8} (v : Value) (h : o = some ns) (hr : w'.ownsRow w.heap.size 9 1 v ns.length (csT ns)) : NbR w w' o (.returned (.tuple #[v, .bool true])) := by rw [h]; exact ⟨v, rfl, hr⟩

/-- Bytes behind the first n. -/
theorem Rt.tail {w : World} {b o c : Nat} {l : T8} (h : Rt w (some ⟨b, o, none⟩) c l) (n : Nat) (hn : n ≤ l.length) : Rt w (some ⟨b, o + n, none⟩) (c - n) (l.drop n) := by
  have := h.mid n (l.length - n) (by omega)
  rw [List.take_of_length_le (by simp)] at this
  exact this
theorem Rt.tailM {w : World} {a : Option Addr} {c : Nat} {l : T8} (h : Rt w a c l) (n : Nat) (hn : n ≤ l.length) : Rt w (a.map (fun x => x.add n)) (c - n) (l.drop n) := by
  cases a with
  | none =>
    have h1 := h.nil rfl
    have h2 := h.le
    subst h1
    obtain rfl : l = [] := List.eq_nil_of_length_eq_zero (by omega)
    simpa using h
  | some x =>
    have := Rd.part h n (l.length - n) (by omega)
    rw [nI_drop, List.take_of_length_le (by rw [nI_len]; simp)] at this
    have e2 : (l.drop n).length = l.length - n := by simp
    show Rd w _ _ _ _
    rw [e2]
    exact this
theorem Rt.tail_end {w : World} {a : Option Addr} {c : Nat} {l : T8} (h : Rt w a c l) (n : Nat) (hn : n ≤ l.length) (hc : c = n) : Rt w a 0 (l.drop n) := by
  have := Rd.part_end h n (l.length - n) (by omega) hc
  rw [nI_drop, List.take_of_length_le (by rw [nI_len]; simp)] at this
  have e2 : (l.drop n).length = l.length - n := by simp
  show Rd w _ _ _ _
  rw [e2]
  exact this

theorem bytesOf_nI (r : T8) : Lib.bytesOf (nI r) = r := by
  unfold Lib.bytesOf nI
  rw [List.map_map]
  refine (List.map_congr_left (fun x _ => ?_)).trans (List.map_id _)
  simp

set_option maxHeartbeats 3200000 in
theorem nb_any (a : Option Addr) (cap : Nat) (l : T8) (w : World) (r : Rt w a cap l) (n : Nat) (hn : n ≤ 2000) :
    Calls Try.prog 17 #[.slice a l.length cap, .int .i64 (n : Int)] w fun e w' => Below w.heap.size w w' ∧ NbR w w' (nbO n l) e := by
  obtain ⟨i0, hi, hz0, hz1, hz2⟩ := info_parts Try.infoStr
  have hle := r.le
  have hmx := r.max
  have hnil := r.nil
  have HR := hide r
  clear r
  have hn0 : 0 ≤ n := Nat.zero_le _
  by_cases hlt : l.length < n * 4
  · have hd : decide ((l.length : Int) < (n : Int) * 4) = true := decide_eq_true (by omega)
    have HO : Hid (nbO n l = none) := by
      show nbO n l = none
      unfold nbO
      rw [if_neg (by omega)]
    clear hnil
    go_enter Try.func17, Try.ntmps17
    go_wp2
    go_ret2
    exact ⟨Below.refl _ _, NbR.no _ HO.out⟩
  · have hd : decide ((l.length : Int) < (n : Int) * 4) = false := decide_eq_false (by omega)
    have HO : Hid (nbO n l = nmsO n (l.drop (n * 4))) := by
      show nbO n l = _
      unfold nbO
      rw [if_pos (by omega)]
    go_enter Try.func17, Try.ntmps17
    go_upto_region 4 with fail
    go_cut [0] (fun u wx => wx = w ∧ ∃ a c, u = .slice a (l.length - n * 4) c ∧ Hid (Rt w a c (l.drop (n * 4))))
    case first =>
      go_wp2_with fail
      · go_meet
        exact ⟨rfl, _, _, rfl, HR.out.tail_end _ (by omega) (by assumption)⟩
      · go_meet
        exact ⟨rfl, _, _, rfl, HR.out.tailM _ (by omega)⟩
    case rest =>
      obtain ⟨rfl, a9, c9, rfl, HR9⟩ := hcut
      have HE0 : Hid (nbO n l = nmsO n (l.drop (n * 4))) := HO
      have hr9l : l.length - n * 4 = (l.drop (n * 4)).length := by simp
      rw [hr9l]
      generalize l.drop (n * 4) = r0 at *
      clear HO HR hd hlt hle hmx hnil hr9l
      go_upto_region 6 with (at_make; refine wpList_make_own _ rfl _ _ 31 rfl wc.heap.size 9 i0 (.string ⟨#[]⟩) 1 Try.underlying31 hi hz0 hz1 .i64 .i64 (n : Int) n rfl rfl (by omega) (by rw [hz2]; omega) (by unfold maxLen; omega) (Nat.le_refl _) ?_)
      intro W1 hown hgrow
      have O1 := hide hown
      have B1 := hide ((Below.refl wc.heap.size wc).grown hgrow (Nat.le_refl _) (fun k hk => by cases hk))
      have hO1 : Hid (W1.ownsRow wc.heap.size 9 1 (.slice (some ⟨wc.heap.size, 0, none⟩) 0 n) 0 (csT [])) := O1
      clear hown hgrow O1
      go_wp2
      go_loopg [0, 7, 8, 21] n (fun gg v0 v7 v8 i wr => ∃ (k : Nat) (aq : Option Addr) (cq : Nat) (r : T8) (N : List T8), k ≤ n ∧ gg = n - k ∧ i = .int .i64 (k : Int) ∧ v0 = .slice aq r.length cq ∧ Hid (Rt wc aq cq r) ∧ N.length = k ∧ Hid (nmsO n r0 = (nmsO (n - k) r).map (N ++ ·)) ∧ Hid (wr.ownsRow wc.heap.size 9 1 v7 k (csT N)) ∧ Hid (Below wc.heap.size wc wr))
      case atStart => exact ⟨0, _, _, r0, [], by omega, rfl, rfl, rfl, HR9, rfl, by show _ = _; simp, hO1, B1⟩
      case round =>
        obtain ⟨k, aq, cq, r, N, hk, rfl, rfl, rfl, HQ, hN, HM, HW, HB⟩ := hrel
        clear hO1 B1 HR9
        by_cases hlt : k < n
        · have hd2 : decide ((k : Int) < (n : Int)) = true := decide_eq_true (by omega)
          have hix := hide (bix_any aq r.length cq (nI r) wr (Rd.below HQ.out HB.out))
          rw [bytesOf_nI] at hix
          obtain ⟨p, hp⟩ : ∃ p, n - k = p + 1 := ⟨n - k - 1, by omega⟩
          have hp2 : n - (k + 1) = p := by omega
          rw [hp] at HM
          by_cases h0 : (0 : UInt8) ∈ r
          · have hlt0 := nmO_lt h0
            have htk := nmO_take r
            have hm1 : nmsO (p + 1) r = (nmsO p (r.drop ((nmO r).length + 1))).map (nmO r :: ·) := by conv => lhs; unfold nmsO; rw [if_pos h0]
            rw [index_some h0] at hix
            have HN := hide (Rt.txt (Rt.front (show Rt wr aq cq r from Rd.below HQ.out HB.out) (nmO r).length (by omega)) (nmO r).length (by rw [List.length_take]; omega))
            rw [htk] at HN
            have HT1 := hide (fun hc : cq = (nmO r).length + 1 => HQ.out.tail_end ((nmO r).length + 1) (by omega) hc)
            have HT2 := hide (HQ.out.tailM ((nmO r).length + 1) (by omega))
            have HM2 : Hid (nmsO n r0 = (nmsO p (r.drop ((nmO r).length + 1))).map ((N ++ [nmO r]) ++ ·)) := by
              show _ = _
              rw [HM.out, hm1, Option.map_map]
              congr 1
              funext x
              simp
            have hrl : (r.drop ((nmO r).length + 1)).length = r.length - ((nmO r).length + 1) := by simp
            have hcq := HQ.out.le
            have hcx := HQ.out.max
            have hcs : csT (N ++ [nmO r]) = csT N ++ [.string (str (nmO r))] := by simp [csT]
            generalize hm : nmO r = m at *
            generalize hml : m.length = ml at *
            generalize hrt : r.drop (ml + 1) = rt at *
            generalize csT N = xs at *
            generalize hsm : str m = S at *
            clear HM hm1 htk HQ hml hrt
            have hd3 : decide ((ml : Int) < 0) = false := decide_eq_false (by omega)
            go_wp2_with fail
            refine hix.out.mono ?_
            rintro e w' ⟨rfl, rfl⟩
            have hcv := HN.out
            clear hix HN
            have zr := HB.out.size
            go_upto_region 12 with (at_builtin; go_loud (refine wpList_append_own _ rfl _ _ 31 rfl wc.heap.size 9 i0 (.string ⟨#[]⟩) 1 16 Try.underlying31 hi hz0 hz1 hz2 rfl (by decide) _ _ _ rfl (HW.out.alloc _) ⟨w'.heap.size, 0, none⟩ 1 1 [.string S] rfl rfl (World.news_of_block (cs := #[.string S]) (t := 9) (fr := (0, 0)) (heap_alloc_new w' _)) (by simp [Value.oneCell']) (by unfold maxLen; omega) (by omega) (by simp; omega) ?_); intro v9 W9 hown9 hgrow9 _; refine Hid.out ?_)
            refine hide ?_
            have hcv2 : xs ++ [.string S] = csT (N ++ [m]) := hcs.symm
            have O9 : Hid (W9.ownsRow wc.heap.size 9 1 v9 (k + 1) (csT (N ++ [m]))) := by
              show W9.ownsRow _ _ _ _ _ _
              rw [← hcv2]
              exact hown9
            have B9 := hide ((HB.out.alloc zr _).grown hgrow9 (by simp; omega) (fun j hj => (HW.out.lt j hj).1))
            have hN2 : (N ++ [m]).length = k + 1 := by simp [hN]
            clear hown9 hgrow9 HW HB hcs hcv hcv2 hsm
            by_cases hce : cq = ml + 1
            · have HT := hide (HT1.out hce)
              clear HT1 HT2
              go_wp2_with fail
              rw [← hrl]
              go_roundg (n - (k + 1))
              case measure => omega
              case rel => exact ⟨k + 1, _, _, rt, N ++ [m], by omega, rfl, by go_num, rfl, HT.out, hN2, by rw [hp2]; exact HM2.out, O9.out, B9.out⟩
            · have HT := HT2
              clear HT1 HT2
              go_wp2_with fail
              rw [← hrl]
              go_roundg (n - (k + 1))
              case measure => omega
              case rel => exact ⟨k + 1, _, _, rt, N ++ [m], by omega, rfl, by go_num, rfl, HT.out, hN2, by rw [hp2]; exact HM2.out, O9.out, B9.out⟩
          · rw [index_none h0] at hix
            have HZ : Hid (nmsO n r0 = none) := by
              show _ = _
              have hm1 : nmsO (p + 1) r = none := by unfold nmsO; rw [if_neg h0]
              rw [HM.out, hm1]
              rfl
            clear HM
            go_wp2_with fail
            refine hix.out.mono ?_
            rintro e w' ⟨rfl, rfl⟩
            clear hix
            go_wp2_with fail
            go_ret2
            exact ⟨HB.out, NbR.no _ (HE0.out.trans HZ.out)⟩
        · obtain rfl : k = n := by omega
          rw [Nat.sub_self] at HM
          have hd2 : decide ((k : Int) < (k : Int)) = false := decide_eq_false (by omega)
          by_cases hr0 : r = []
          · subst hr0
            have HZ : Hid (nmsO k r0 = some N) := by
              show _ = _
              rw [HM.out]
              simp [nmsO]
            clear HM
            go_wp2_with fail
            go_ret2
            exact ⟨HB.out, NbR.yes _ (HE0.out.trans HZ.out) (by rw [hN]; exact HW.out)⟩
          · have HZ : Hid (nmsO k r0 = none) := by
              show _ = _
              rw [HM.out]
              unfold nmsO
              rw [if_neg hr0]
              rfl
            have hrl : ((r.length : Int) == 0) = false := by
              have := List.length_pos_iff.2 hr0
              simp
              exact hr0
            clear HM hr0
            go_wp2_with fail
            go_ret2
            exact ⟨HB.out, NbR.no _ (HE0.out.trans HZ.out)⟩

end Go.Proofs.Yteknmlcgdjoccaa
