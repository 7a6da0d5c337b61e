/- Texts of this claim, joined: MemRefN, MemRefP, EnvKnown, EnvNotesW, EnvOpen, EnvPlaysP, MachPut, MachMadeP, MachMem, MachKnown, MachAluR, InstEnc, InstReg, InstEncs, InstKnown. -/
import Derived.Test.YtdhjjlnabbpinaaGreatDoorJ04
import Derived.Deep.LoopGhost
import Derived.Test.YtdhjjlnabbpinaaGreatDoorJ03
import Derived.Lib.SlBytesConst
import Derived.ProofKit
import Derived.OpenShut
import Derived.SizedLaws
import Derived.Maps.AppendAt
import Derived.Test.YtdhjjlnabbpinaaGreatDoorJ01
import Derived.Test.YtdhjjlnabbpinaaGreatDoorShelf
import Derived.Deep.RegionWith
/- The contract of the document's Map: the pages laid. -/
namespace Go.Proofs.YtdhjjlnabbpinaaGreatDoor
open Go.RowKit Go.Maps
set_option linter.unusedVariables false
set_option maxRecDepth 100000

set_option maxRecDepth 20000 in
set_option maxHeartbeats 6400000 in
/-- The pages are laid, one by one. -/
theorem rmap_yes (m : Nat) (S : Mm) (F : Nat → Prop) (a0 size : Nat) (p : Int) (a : Option Addr) (len cap : Nat) (bs : List Int) (w : World) (h : RM w m S F)
    (r : Rd w a len cap bs) (hsep : 0 < len → ∀ x, a = some x → ¬ F x.block) (hok : MapOk S a0 size p len)
    (hbits : (bits .and .i64 p 2 == 0) = true ∨ ((bits .and .i64 p 2 == 0) = false ∧ (bits .and .i64 p 1 == 0) = true)) :
    Calls Tryz.prog 21 #[.pointer (some ⟨m, 0, none⟩), .int .u64 (a0 : Int), .int .u64 (size : Int), .int .i64 p, .slice a len cap] w fun e w' =>
      e = .returned (.int .i64 0) ∧ ∃ F', RM w' m ((S.mapped (a0 / 4096) ((size + 4095) / 4096) p).lay a0 bs) F' ∧ Went F w F' w' := by
  have hle0 := r.le
  have hmx := r.max
  have hbl := r.length
  obtain ⟨⟨h1, h2, h3⟩, hpo, hls, hsp⟩ := hok
  have hpb := hpo.bd
  have hp1 : ¬ p < 1 := by omega
  have hp7 : ¬ 7 < p := by omega
  have hf' : (a0 : Int) / 4096 = ((a0 / 4096 : Nat) : Int) := by omega
  have hm' : (a0 : Int) % 4096 = 0 := by omega
  have hn' : ((size : Int) + 4096 - 1) / 4096 = (((size + 4095) / 4096 : Nat) : Int) := by omega
  have hfn : a0 / 4096 + (size + 4095) / 4096 ≤ 34359738368 := by omega
  have hcov : len ≤ (size + 4095) / 4096 * 4096 := by omega
  have hn0 : 0 < (size + 4095) / 4096 := by omega
  have hfa : a0 / 4096 * 4096 = a0 := by omega
  have hcn := hsp.1
  have HSz := hide (rsize_any m S F w h)
  have hcg := h.good.count
  have HSp := hide hsp.2
  have HM := hide h
  have HRd := hide r
  have HSe := hide hsep
  have HPo := hide hpo
  have x3 : ¬ (140737488355328 : Int) < (a0 : Int) := by omega
  have x4 : ¬ (140737488355328 - (a0 : Int)) < (size : Int) := by omega
  have x5 : ¬ (size : Int) < (len : Int) := by omega
  have x2 : ((size : Int) == 0) = false := by simp; omega
  generalize a0 / 4096 = f at *
  generalize (size + 4095) / 4096 = n at *
  have x6 : decide ((268435456 : Int) < (n : Int) * 4096) = false := by simp; omega
  have x7 : decide ((268435456 : Int) < ((S.count * 4096 : Nat) : Int) + (n : Int) * 4096) = false := by simp; omega
  clear h r hsep hsp hpo
  rcases hbits with hb2 | ⟨hb2, hb1⟩
  · have hz2 : (bits .and .i64 p 2 != 0) = false := by unfold bne; rw [hb2]; rfl
    clear hb2
    go_enter Tryz.func21, Tryz.ntmps21
    go_wp2_with fail
    refine HSz.out.mono ?_
    rintro e w' ⟨rfl, rfl⟩
    clear HSz
    go_wp2
    obtain ⟨b0, pb0, db0, hX0⟩ := HM.out
    have hc0 := hX0.cell
    have HX0 := hide hX0
    clear hX0
    go_loop [12] (fun v => ∃ k : Nat, k ≤ n ∧ v = .int .u64 (k : Int)) (fun v => n - (intOf v).toNat)
    case atStart => exact ⟨0, by omega, rfl⟩
    case round =>
      obtain ⟨k, hk, rfl⟩ := hrel
      by_cases hlt : k < n
      · have hr := HX0.out.look0 (f + k) (by omega) (HSp.out (f + k) (by omega) (by omega))
        rw [show ((f + k : Nat) : Int) = (f : Int) + (k : Int) by omega] at hr
        go_wp2
        go_round
        case rel => exact ⟨k + 1, by omega, by go_num⟩
        case measure => simp [intOf]; omega
      · obtain rfl : k = n := by omega
        clear HX0 hc0 hlt hk
        go_wp2
        go_loopg [13] k (fun g v wr => ∃ (j : Nat) (F' : Nat → Prop), j ≤ k ∧ g = k - j ∧ v = .int .u64 (j : Int) ∧ Hid (RM wr m ((S.mapped f j p).lay a0 (bs.take (j * 4096))) F') ∧ Hid (Went F w' F' wr))
        case atStart => exact ⟨0, F, by omega, rfl, rfl, by rw [Mm.mapped_zero, Nat.zero_mul, List.take_zero, Mm.lay_nil]; exact HM.out, Went.refl _ _⟩
        case round =>
          obtain ⟨j, F', hj, rfl, rfl, HR, HW⟩ := hrel
          by_cases hlt : j < k
          · obtain ⟨Z, hmk, hZl, hZa⟩ := page_nought
            obtain ⟨b, pb, db, hX⟩ := HR.out
            have HX := hide hX
            have HZl := hide hZl
            have HZa := hide hZa
            have hc := hX.cell
            have hmb := hX.flt m hX.fm
            have h0 : ((S.mapped f j p).lay a0 (bs.take (j * 4096))).perm (f + j) = 0 := by
              simp only [Mm.mapped, Mm.lay]
              rw [if_neg (by omega)]
              exact HSp.out (f + j) (by omega) (by omega)
            have H0 := hide h0
            have hbb := hX.map.lt
            clear hX hZl hZa h0 HR
            by_cases hin : j * 4096 < len
            · have hin' : decide ((j : Int) * 4096 < (len : Int)) = true := by simp; omega
              go_upto_region 16 with fail
              obtain ⟨D, hD⟩ : ∃ D, D = wr.heap.size := ⟨_, rfl⟩
              obtain ⟨P, hP⟩ : ∃ P, P = wr.heap.size + 1 := ⟨_, rfl⟩
              rw [← hP, ← hD]
              obtain ⟨U, hU⟩ : ∃ U, U = (wr.alloc (.cells Z.toArray 5)).alloc (.cells #[.int .i64 p, .slice (some ⟨D, 0, none⟩) 4096 4096] 108) := ⟨_, rfl⟩
              rw [← hU]
              have hKU : Kept (fun _ => False) wr U := by rw [hU]; exact ((Kept.refl _ _).alloc _).alloc _
              have HXU : Hid (RMx U m b pb db ((S.mapped f j p).lay a0 (bs.take (j * 4096))) F') := HX.out.kept hKU (fun _ _ h => h)
              have HUD : Hid (U.heap[D]? = some (.cells Z.toArray 5 (0, 0))) := by
                rw [hU, hD, Below.heap_alloc _ _ _ (by simp)]
                exact heap_alloc_new wr _
              have HUP : Hid (U.heap[P]? = some (.cells #[.int .i64 p, .slice (some ⟨D, 0, none⟩) 4096 4096] 108 (0, 0))) := by
                rw [hU, hP]
                have h9 := heap_alloc_new (wr.alloc (.cells Z.toArray 5)) (.cells #[.int .i64 p, .slice (some ⟨D, 0, none⟩) 4096 4096] 108)
                rw [show (wr.alloc (.cells Z.toArray 5)).heap.size = wr.heap.size + 1 by simp] at h9
                exact h9
              have HFD : Hid (¬ F' D) := fun h => by have := HX.out.flt D h; omega
              have HFP : Hid (¬ F' P) := fun h => by have := HX.out.flt P h; omega
              have HPD : Hid (P ≠ D) := by show _ ≠ _; omega
              have HWU : Hid (Went F w' F' U) := HW.out.trans ⟨hKU.mono (fun _ h => h.elim), fun k hk => Or.inl hk⟩
              have HDw : Hid (w'.heap.size ≤ D ∧ w'.heap.size ≤ P) := by
                have := HW.out.1.size
                exact ⟨by omega, by omega⟩
              have hcU := HXU.out.cell
              clear hU hKU HX HW hmk hD hP hmb hc hbb
              obtain ⟨bb, oo, hae, hcc⟩ := HRd.out.addr (by omega)
              subst hae
              have HSe2 := HSe
              have hRU : Rd U (some ⟨bb, oo, none⟩) len cap bs := HWU.out.1.rd HRd.out HSe.out
              obtain ⟨z, hz⟩ : ∃ z, z = j * 4096 := ⟨_, rfl⟩
              have hz' : (j : Int) * 4096 = (z : Int) := by omega
              have hzl : z < len := by omega
              have hzl' : (z : Int) ≤ (len : Int) := by omega
              have hzl2 : z ≤ len := by omega
              have hzc : ¬ cap = z := by omega
              have hwz : IntKind.u64.wrap (z : Int) = (z : Int) := by rw [IntKind.wrap_u64]; omega
              obtain ⟨X, hX⟩ : ∃ X, X = ((bs.drop z).take 4096).map (Value.int .u8) := ⟨_, rfl⟩
              obtain ⟨q, hq⟩ : ∃ q, q = Nat.min (len - z) 4096 := ⟨_, rfl⟩
              have hql : q = min (len - z) 4096 := hq
              have HXl : Hid (X.length = q) := by
                show _ = _
                rw [hX, hql]; simp; omega
              have HQ := hide hq
              have HSrc : Hid (∀ i v, X[i]? = some v → U.cell? ((⟨bb, oo + z, none⟩ : Addr).add i) = some v) := by
                have h9 := hRU.part z (len - z) (by omega)
                rw [addr_add] at h9
                obtain ⟨ad, e9, h8⟩ := h9.firsts q (by omega) (by omega)
                cases e9
                have e7 : ((bs.drop z).take (len - z)).take q = (bs.drop z).take 4096 := by
                  rw [List.take_take, show min q (len - z) = q by omega]
                  apply List.ext_getElem?
                  intro i
                  rw [List.getElem?_take, List.getElem?_take]
                  by_cases hi : i < q
                  · rw [if_pos hi, if_pos (by omega)]
                  · rw [if_neg hi]
                    by_cases hi2 : i < 4096
                    · rw [if_pos hi2, List.getElem?_eq_none (by simp; omega)]
                    · rw [if_neg hi2]
                rw [e7, ← hX] at h8
                exact h8
              have HOne : Hid (∀ v ∈ X, v.oneCell' = true) := by rw [hX]; exact ints_oneCell _ _
              have HX1 := hide hX
              have HZh := hide hz
              have HFit : Hid (0 + X.length ≤ Z.length) := by rw [HXl.out, HZl.out]; show 0 + q ≤ _; omega
              have hcP : U.cell? ⟨P, 1, none⟩ = some (.slice (some ⟨D, 0, none⟩) 4096 4096) := by rw [cell_of_row _ _ 1 _ _ _ HUP.out]; rfl
              have Hby := hide (((HRd.out.bytes.drop z).take 4096))
              clear hX hq hRU hcc hz hql
              go_region_law (refine step_copy_kept rfl (.tmp 105) (.tmp 109) 24 24 rfl 5 Tryz.underlying24 Tryz.size8 (some ⟨D, 0, none⟩) (some ⟨bb, oo + z, none⟩) 4096 4096 (len - z) (cap - z) (by simp [Act.eval]) (by simp [Act.eval]) D 0 Z 5 HUD.out X q HXl.out HQ.out (fun _ => ⟨rfl, _, rfl, HSrc.out⟩) HFit.out HOne.out ?_; intro w6 HG6 HK6)
              have HXW : Hid (RMx w6 m b pb db ((S.mapped f j p).lay a0 (bs.take (j * 4096))) F') := HXU.out.kept (w' := w6) (G := fun k => k = D) ((Kept.refl _ U).drew.trans HK6.out (fun k hk => Or.inl hk)) (fun k hk e => HFD.out (by subst e; exact hk))
              have HKW : Hid (Kept (fun k => k = D) U w6) := (Kept.refl _ U).drew.trans HK6.out (fun k hk => Or.inl hk)
              have hcU6 := HXW.out.cell
              have HWP : Hid (w6.heap[P]? = some (.cells #[.int .i64 p, .slice (some ⟨D, 0, none⟩) 4096 4096] 108 (0, 0))) := by
                rw [HKW.out.block P (Array.getElem?_eq_some_iff.1 HUP.out).1 HPD.out]; exact HUP.out
              obtain ⟨V, hrun, hRM, hKV⟩ := HXW.out.step (i := f + j) (P := P) (D := D) (p := p) (cs := (bs.drop (j * 4096)).take 4096) H0.out HPo.out.bd (by omega) (by have := hcn; simp only [Mm.mapped, Mm.lay]; omega) HFP.out HFD.out HPD.out (by simp; omega) (by rw [← HZh.out]; exact Hby.out) HWP.out (L := splice Z 0 X) HG6.out (by rw [length_splice _ _ _ HFit.out]; exact HZl.out) (fun i hi => by
                rw [splice_get _ _ _ HFit.out, HX1.out, ← HZh.out, List.length_map]
                by_cases hic : i < ((bs.drop z).take 4096).length
                · rw [if_pos (by omega), Nat.sub_zero, List.getElem?_map]
                  simp only [List.getD_eq_getElem?_getD]
                  rw [List.getElem?_eq_getElem hic]
                  rfl
                · rw [if_neg (by omega), HZa.out i hi, List.getD_eq_getElem?_getD, List.getElem?_eq_none (by omega)]; rfl)
              clear HUP HUD HG6 HK6 HSrc HXl HOne HFit HX1 Hby HWP hcP
              have hrun' := hrun
              rw [show ((f + j : Nat) : Int) = (f : Int) + (j : Int) by omega] at hrun'
              have HRV : Hid (RM V m ((S.mapped f (j + 1) p).lay a0 (bs.take ((j + 1) * 4096))) (fun k => F' k ∨ k = P ∨ k = D)) := by
                have h9 := hRM
                have e9 := Mm.mapped_more S f j p bs
                rw [hfa] at e9
                rwa [e9] at h9
              have HWV : Hid (Went F w' (fun k => F' k ∨ k = P ∨ k = D) V) := ⟨(HWU.out.1.trans HKW.out (fun k hk => by subst hk; exact Or.inr HDw.out.1)).trans hKV (fun k hk => HWU.out.2 k (by subst hk; exact HXW.out.fb)), fun k hk => by
                rcases hk with hk | hk | hk
                · exact HWU.out.2 k hk
                · subst hk; exact Or.inr HDw.out.2
                · subst hk; exact Or.inr HDw.out.1⟩
              clear hrun hRM hKV HXU HWU
              go_wp2
              go_roundg (k - (j + 1))
              case measure => omega
              case rel => exact ⟨j + 1, _, by omega, rfl, by go_num, HRV.out, HWV.out⟩
            · have hin' : decide ((j : Int) * 4096 < (len : Int)) = false := by simp; omega
              go_upto_region 17 with fail
              obtain ⟨D, hD⟩ : ∃ D, D = wr.heap.size := ⟨_, rfl⟩
              obtain ⟨P, hP⟩ : ∃ P, P = wr.heap.size + 1 := ⟨_, rfl⟩
              rw [← hP, ← hD]
              obtain ⟨U, hU⟩ : ∃ U, U = (wr.alloc (.cells Z.toArray 5)).alloc (.cells #[.int .i64 p, .slice (some ⟨D, 0, none⟩) 4096 4096] 108) := ⟨_, rfl⟩
              rw [← hU]
              have hKU : Kept (fun _ => False) wr U := by rw [hU]; exact ((Kept.refl _ _).alloc _).alloc _
              have HXU : Hid (RMx U m b pb db ((S.mapped f j p).lay a0 (bs.take (j * 4096))) F') := HX.out.kept hKU (fun _ _ h => h)
              have HUD : Hid (U.heap[D]? = some (.cells Z.toArray 5 (0, 0))) := by
                rw [hU, hD, Below.heap_alloc _ _ _ (by simp)]
                exact heap_alloc_new wr _
              have HUP : Hid (U.heap[P]? = some (.cells #[.int .i64 p, .slice (some ⟨D, 0, none⟩) 4096 4096] 108 (0, 0))) := by
                rw [hU, hP]
                have h9 := heap_alloc_new (wr.alloc (.cells Z.toArray 5)) (.cells #[.int .i64 p, .slice (some ⟨D, 0, none⟩) 4096 4096] 108)
                rw [show (wr.alloc (.cells Z.toArray 5)).heap.size = wr.heap.size + 1 by simp] at h9
                exact h9
              have HFD : Hid (¬ F' D) := fun h => by have := HX.out.flt D h; omega
              have HFP : Hid (¬ F' P) := fun h => by have := HX.out.flt P h; omega
              have HPD : Hid (P ≠ D) := by show _ ≠ _; omega
              have HWU : Hid (Went F w' F' U) := HW.out.trans ⟨hKU.mono (fun _ h => h.elim), fun k hk => Or.inl hk⟩
              have HDw : Hid (w'.heap.size ≤ D ∧ w'.heap.size ≤ P) := by
                have := HW.out.1.size
                exact ⟨by omega, by omega⟩
              have hcU := HXU.out.cell
              clear hU hKU HX HW hmk hD hP hmb hc hbb
              have hcs0 : (bs.drop (j * 4096)).take 4096 = [] := by rw [List.drop_eq_nil_of_le (by omega)]; rfl
              obtain ⟨V, hrun, hRM, hKV⟩ := HXU.out.step (i := f + j) (P := P) (D := D) (p := p) (cs := (bs.drop (j * 4096)).take 4096) H0.out HPo.out.bd (by omega) (by have := hcn; simp only [Mm.mapped, Mm.lay]; omega) HFP.out HFD.out HPD.out (by rw [hcs0]; simp) (by rw [hcs0]; exact Bytes.nil) HUP.out (L := Z) HUD.out HZl.out (fun i hi => by rw [hcs0, HZa.out i hi]; rfl)
              clear hcs0 HUP HUD
              have hrun' := hrun
              rw [show ((f + j : Nat) : Int) = (f : Int) + (j : Int) by omega] at hrun'
              have HRV : Hid (RM V m ((S.mapped f (j + 1) p).lay a0 (bs.take ((j + 1) * 4096))) (fun k => F' k ∨ k = P ∨ k = D)) := by
                have h9 := hRM
                have e9 := Mm.mapped_more S f j p bs
                rw [hfa] at e9
                rwa [e9] at h9
              have HWV : Hid (Went F w' (fun k => F' k ∨ k = P ∨ k = D) V) := ⟨HWU.out.1.trans hKV (fun k hk => HWU.out.2 k (by subst hk; exact HXU.out.fb)), fun k hk => by
                rcases hk with hk | hk | hk
                · exact HWU.out.2 k hk
                · subst hk; exact Or.inr HDw.out.2
                · subst hk; exact Or.inr HDw.out.1⟩
              clear hrun hRM hKV HXU HWU
              go_wp2
              go_roundg (k - (j + 1))
              case measure => omega
              case rel => exact ⟨j + 1, _, by omega, rfl, by go_num, HRV.out, HWV.out⟩
          · obtain rfl : j = k := by omega
            have HR2 : Hid (RM wr m ((S.mapped f j p).lay a0 bs) F') := by
              have h9 := HR.out
              rwa [List.take_of_length_le (by omega)] at h9
            go_wp2
            go_ret
            exact ⟨rfl, F', HR2.out, HW.out⟩
  · have hz2 : (bits .and .i64 p 2 != 0) = true := by unfold bne; rw [hb2]; rfl
    have hz1 : (bits .and .i64 p 1 != 0) = false := by unfold bne; rw [hb1]; rfl
    clear hb2 hb1
    go_enter Tryz.func21, Tryz.ntmps21
    go_wp2_with fail
    refine HSz.out.mono ?_
    rintro e w' ⟨rfl, rfl⟩
    clear HSz
    go_wp2
    obtain ⟨b0, pb0, db0, hX0⟩ := HM.out
    have hc0 := hX0.cell
    have HX0 := hide hX0
    clear hX0
    go_loop [12] (fun v => ∃ k : Nat, k ≤ n ∧ v = .int .u64 (k : Int)) (fun v => n - (intOf v).toNat)
    case atStart => exact ⟨0, by omega, rfl⟩
    case round =>
      obtain ⟨k, hk, rfl⟩ := hrel
      by_cases hlt : k < n
      · have hr := HX0.out.look0 (f + k) (by omega) (HSp.out (f + k) (by omega) (by omega))
        rw [show ((f + k : Nat) : Int) = (f : Int) + (k : Int) by omega] at hr
        go_wp2
        go_round
        case rel => exact ⟨k + 1, by omega, by go_num⟩
        case measure => simp [intOf]; omega
      · obtain rfl : k = n := by omega
        clear HX0 hc0 hlt hk
        go_wp2
        go_loopg [13] k (fun g v wr => ∃ (j : Nat) (F' : Nat → Prop), j ≤ k ∧ g = k - j ∧ v = .int .u64 (j : Int) ∧ Hid (RM wr m ((S.mapped f j p).lay a0 (bs.take (j * 4096))) F') ∧ Hid (Went F w' F' wr))
        case atStart => exact ⟨0, F, by omega, rfl, rfl, by rw [Mm.mapped_zero, Nat.zero_mul, List.take_zero, Mm.lay_nil]; exact HM.out, Went.refl _ _⟩
        case round =>
          obtain ⟨j, F', hj, rfl, rfl, HR, HW⟩ := hrel
          by_cases hlt : j < k
          · obtain ⟨Z, hmk, hZl, hZa⟩ := page_nought
            obtain ⟨b, pb, db, hX⟩ := HR.out
            have HX := hide hX
            have HZl := hide hZl
            have HZa := hide hZa
            have hc := hX.cell
            have hmb := hX.flt m hX.fm
            have h0 : ((S.mapped f j p).lay a0 (bs.take (j * 4096))).perm (f + j) = 0 := by
              simp only [Mm.mapped, Mm.lay]
              rw [if_neg (by omega)]
              exact HSp.out (f + j) (by omega) (by omega)
            have H0 := hide h0
            have hbb := hX.map.lt
            clear hX hZl hZa h0 HR
            by_cases hin : j * 4096 < len
            · have hin' : decide ((j : Int) * 4096 < (len : Int)) = true := by simp; omega
              go_upto_region 16 with fail
              obtain ⟨D, hD⟩ : ∃ D, D = wr.heap.size := ⟨_, rfl⟩
              obtain ⟨P, hP⟩ : ∃ P, P = wr.heap.size + 1 := ⟨_, rfl⟩
              rw [← hP, ← hD]
              obtain ⟨U, hU⟩ : ∃ U, U = (wr.alloc (.cells Z.toArray 5)).alloc (.cells #[.int .i64 p, .slice (some ⟨D, 0, none⟩) 4096 4096] 108) := ⟨_, rfl⟩
              rw [← hU]
              have hKU : Kept (fun _ => False) wr U := by rw [hU]; exact ((Kept.refl _ _).alloc _).alloc _
              have HXU : Hid (RMx U m b pb db ((S.mapped f j p).lay a0 (bs.take (j * 4096))) F') := HX.out.kept hKU (fun _ _ h => h)
              have HUD : Hid (U.heap[D]? = some (.cells Z.toArray 5 (0, 0))) := by
                rw [hU, hD, Below.heap_alloc _ _ _ (by simp)]
                exact heap_alloc_new wr _
              have HUP : Hid (U.heap[P]? = some (.cells #[.int .i64 p, .slice (some ⟨D, 0, none⟩) 4096 4096] 108 (0, 0))) := by
                rw [hU, hP]
                have h9 := heap_alloc_new (wr.alloc (.cells Z.toArray 5)) (.cells #[.int .i64 p, .slice (some ⟨D, 0, none⟩) 4096 4096] 108)
                rw [show (wr.alloc (.cells Z.toArray 5)).heap.size = wr.heap.size + 1 by simp] at h9
                exact h9
              have HFD : Hid (¬ F' D) := fun h => by have := HX.out.flt D h; omega
              have HFP : Hid (¬ F' P) := fun h => by have := HX.out.flt P h; omega
              have HPD : Hid (P ≠ D) := by show _ ≠ _; omega
              have HWU : Hid (Went F w' F' U) := HW.out.trans ⟨hKU.mono (fun _ h => h.elim), fun k hk => Or.inl hk⟩
              have HDw : Hid (w'.heap.size ≤ D ∧ w'.heap.size ≤ P) := by
                have := HW.out.1.size
                exact ⟨by omega, by omega⟩
              have hcU := HXU.out.cell
              clear hU hKU HX HW hmk hD hP hmb hc hbb
              obtain ⟨bb, oo, hae, hcc⟩ := HRd.out.addr (by omega)
              subst hae
              have HSe2 := HSe
              have hRU : Rd U (some ⟨bb, oo, none⟩) len cap bs := HWU.out.1.rd HRd.out HSe.out
              obtain ⟨z, hz⟩ : ∃ z, z = j * 4096 := ⟨_, rfl⟩
              have hz' : (j : Int) * 4096 = (z : Int) := by omega
              have hzl : z < len := by omega
              have hzl' : (z : Int) ≤ (len : Int) := by omega
              have hzl2 : z ≤ len := by omega
              have hzc : ¬ cap = z := by omega
              have hwz : IntKind.u64.wrap (z : Int) = (z : Int) := by rw [IntKind.wrap_u64]; omega
              obtain ⟨X, hX⟩ : ∃ X, X = ((bs.drop z).take 4096).map (Value.int .u8) := ⟨_, rfl⟩
              obtain ⟨q, hq⟩ : ∃ q, q = Nat.min (len - z) 4096 := ⟨_, rfl⟩
              have hql : q = min (len - z) 4096 := hq
              have HXl : Hid (X.length = q) := by
                show _ = _
                rw [hX, hql]; simp; omega
              have HQ := hide hq
              have HSrc : Hid (∀ i v, X[i]? = some v → U.cell? ((⟨bb, oo + z, none⟩ : Addr).add i) = some v) := by
                have h9 := hRU.part z (len - z) (by omega)
                rw [addr_add] at h9
                obtain ⟨ad, e9, h8⟩ := h9.firsts q (by omega) (by omega)
                cases e9
                have e7 : ((bs.drop z).take (len - z)).take q = (bs.drop z).take 4096 := by
                  rw [List.take_take, show min q (len - z) = q by omega]
                  apply List.ext_getElem?
                  intro i
                  rw [List.getElem?_take, List.getElem?_take]
                  by_cases hi : i < q
                  · rw [if_pos hi, if_pos (by omega)]
                  · rw [if_neg hi]
                    by_cases hi2 : i < 4096
                    · rw [if_pos hi2, List.getElem?_eq_none (by simp; omega)]
                    · rw [if_neg hi2]
                rw [e7, ← hX] at h8
                exact h8
              have HOne : Hid (∀ v ∈ X, v.oneCell' = true) := by rw [hX]; exact ints_oneCell _ _
              have HX1 := hide hX
              have HZh := hide hz
              have HFit : Hid (0 + X.length ≤ Z.length) := by rw [HXl.out, HZl.out]; show 0 + q ≤ _; omega
              have hcP : U.cell? ⟨P, 1, none⟩ = some (.slice (some ⟨D, 0, none⟩) 4096 4096) := by rw [cell_of_row _ _ 1 _ _ _ HUP.out]; rfl
              have Hby := hide (((HRd.out.bytes.drop z).take 4096))
              clear hX hq hRU hcc hz hql
              go_region_law (refine step_copy_kept rfl (.tmp 105) (.tmp 109) 24 24 rfl 5 Tryz.underlying24 Tryz.size8 (some ⟨D, 0, none⟩) (some ⟨bb, oo + z, none⟩) 4096 4096 (len - z) (cap - z) (by simp [Act.eval]) (by simp [Act.eval]) D 0 Z 5 HUD.out X q HXl.out HQ.out (fun _ => ⟨rfl, _, rfl, HSrc.out⟩) HFit.out HOne.out ?_; intro w6 HG6 HK6)
              have HXW : Hid (RMx w6 m b pb db ((S.mapped f j p).lay a0 (bs.take (j * 4096))) F') := HXU.out.kept (w' := w6) (G := fun k => k = D) ((Kept.refl _ U).drew.trans HK6.out (fun k hk => Or.inl hk)) (fun k hk e => HFD.out (by subst e; exact hk))
              have HKW : Hid (Kept (fun k => k = D) U w6) := (Kept.refl _ U).drew.trans HK6.out (fun k hk => Or.inl hk)
              have hcU6 := HXW.out.cell
              have HWP : Hid (w6.heap[P]? = some (.cells #[.int .i64 p, .slice (some ⟨D, 0, none⟩) 4096 4096] 108 (0, 0))) := by
                rw [HKW.out.block P (Array.getElem?_eq_some_iff.1 HUP.out).1 HPD.out]; exact HUP.out
              obtain ⟨V, hrun, hRM, hKV⟩ := HXW.out.step (i := f + j) (P := P) (D := D) (p := p) (cs := (bs.drop (j * 4096)).take 4096) H0.out HPo.out.bd (by omega) (by have := hcn; simp only [Mm.mapped, Mm.lay]; omega) HFP.out HFD.out HPD.out (by simp; omega) (by rw [← HZh.out]; exact Hby.out) HWP.out (L := splice Z 0 X) HG6.out (by rw [length_splice _ _ _ HFit.out]; exact HZl.out) (fun i hi => by
                rw [splice_get _ _ _ HFit.out, HX1.out, ← HZh.out, List.length_map]
                by_cases hic : i < ((bs.drop z).take 4096).length
                · rw [if_pos (by omega), Nat.sub_zero, List.getElem?_map]
                  simp only [List.getD_eq_getElem?_getD]
                  rw [List.getElem?_eq_getElem hic]
                  rfl
                · rw [if_neg (by omega), HZa.out i hi, List.getD_eq_getElem?_getD, List.getElem?_eq_none (by omega)]; rfl)
              clear HUP HUD HG6 HK6 HSrc HXl HOne HFit HX1 Hby HWP hcP
              have hrun' := hrun
              rw [show ((f + j : Nat) : Int) = (f : Int) + (j : Int) by omega] at hrun'
              have HRV : Hid (RM V m ((S.mapped f (j + 1) p).lay a0 (bs.take ((j + 1) * 4096))) (fun k => F' k ∨ k = P ∨ k = D)) := by
                have h9 := hRM
                have e9 := Mm.mapped_more S f j p bs
                rw [hfa] at e9
                rwa [e9] at h9
              have HWV : Hid (Went F w' (fun k => F' k ∨ k = P ∨ k = D) V) := ⟨(HWU.out.1.trans HKW.out (fun k hk => by subst hk; exact Or.inr HDw.out.1)).trans hKV (fun k hk => HWU.out.2 k (by subst hk; exact HXW.out.fb)), fun k hk => by
                rcases hk with hk | hk | hk
                · exact HWU.out.2 k hk
                · subst hk; exact Or.inr HDw.out.2
                · subst hk; exact Or.inr HDw.out.1⟩
              clear hrun hRM hKV HXU HWU
              go_wp2
              go_roundg (k - (j + 1))
              case measure => omega
              case rel => exact ⟨j + 1, _, by omega, rfl, by go_num, HRV.out, HWV.out⟩
            · have hin' : decide ((j : Int) * 4096 < (len : Int)) = false := by simp; omega
              go_upto_region 17 with fail
              obtain ⟨D, hD⟩ : ∃ D, D = wr.heap.size := ⟨_, rfl⟩
              obtain ⟨P, hP⟩ : ∃ P, P = wr.heap.size + 1 := ⟨_, rfl⟩
              rw [← hP, ← hD]
              obtain ⟨U, hU⟩ : ∃ U, U = (wr.alloc (.cells Z.toArray 5)).alloc (.cells #[.int .i64 p, .slice (some ⟨D, 0, none⟩) 4096 4096] 108) := ⟨_, rfl⟩
              rw [← hU]
              have hKU : Kept (fun _ => False) wr U := by rw [hU]; exact ((Kept.refl _ _).alloc _).alloc _
              have HXU : Hid (RMx U m b pb db ((S.mapped f j p).lay a0 (bs.take (j * 4096))) F') := HX.out.kept hKU (fun _ _ h => h)
              have HUD : Hid (U.heap[D]? = some (.cells Z.toArray 5 (0, 0))) := by
                rw [hU, hD, Below.heap_alloc _ _ _ (by simp)]
                exact heap_alloc_new wr _
              have HUP : Hid (U.heap[P]? = some (.cells #[.int .i64 p, .slice (some ⟨D, 0, none⟩) 4096 4096] 108 (0, 0))) := by
                rw [hU, hP]
                have h9 := heap_alloc_new (wr.alloc (.cells Z.toArray 5)) (.cells #[.int .i64 p, .slice (some ⟨D, 0, none⟩) 4096 4096] 108)
                rw [show (wr.alloc (.cells Z.toArray 5)).heap.size = wr.heap.size + 1 by simp] at h9
                exact h9
              have HFD : Hid (¬ F' D) := fun h => by have := HX.out.flt D h; omega
              have HFP : Hid (¬ F' P) := fun h => by have := HX.out.flt P h; omega
              have HPD : Hid (P ≠ D) := by show _ ≠ _; omega
              have HWU : Hid (Went F w' F' U) := HW.out.trans ⟨hKU.mono (fun _ h => h.elim), fun k hk => Or.inl hk⟩
              have HDw : Hid (w'.heap.size ≤ D ∧ w'.heap.size ≤ P) := by
                have := HW.out.1.size
                exact ⟨by omega, by omega⟩
              have hcU := HXU.out.cell
              clear hU hKU HX HW hmk hD hP hmb hc hbb
              have hcs0 : (bs.drop (j * 4096)).take 4096 = [] := by rw [List.drop_eq_nil_of_le (by omega)]; rfl
              obtain ⟨V, hrun, hRM, hKV⟩ := HXU.out.step (i := f + j) (P := P) (D := D) (p := p) (cs := (bs.drop (j * 4096)).take 4096) H0.out HPo.out.bd (by omega) (by have := hcn; simp only [Mm.mapped, Mm.lay]; omega) HFP.out HFD.out HPD.out (by rw [hcs0]; simp) (by rw [hcs0]; exact Bytes.nil) HUP.out (L := Z) HUD.out HZl.out (fun i hi => by rw [hcs0, HZa.out i hi]; rfl)
              clear hcs0 HUP HUD
              have hrun' := hrun
              rw [show ((f + j : Nat) : Int) = (f : Int) + (j : Int) by omega] at hrun'
              have HRV : Hid (RM V m ((S.mapped f (j + 1) p).lay a0 (bs.take ((j + 1) * 4096))) (fun k => F' k ∨ k = P ∨ k = D)) := by
                have h9 := hRM
                have e9 := Mm.mapped_more S f j p bs
                rw [hfa] at e9
                rwa [e9] at h9
              have HWV : Hid (Went F w' (fun k => F' k ∨ k = P ∨ k = D) V) := ⟨HWU.out.1.trans hKV (fun k hk => HWU.out.2 k (by subst hk; exact HXU.out.fb)), fun k hk => by
                rcases hk with hk | hk | hk
                · exact HWU.out.2 k hk
                · subst hk; exact Or.inr HDw.out.2
                · subst hk; exact Or.inr HDw.out.1⟩
              clear hrun hRM hKV HXU HWU
              go_wp2
              go_roundg (k - (j + 1))
              case measure => omega
              case rel => exact ⟨j + 1, _, by omega, rfl, by go_num, HRV.out, HWV.out⟩
          · obtain rfl : j = k := by omega
            have HR2 : Hid (RM wr m ((S.mapped f j p).lay a0 bs) F') := by
              have h9 := HR.out
              rwa [List.take_of_length_le (by omega)] at h9
            go_wp2
            go_ret
            exact ⟨rfl, F', HR2.out, HW.out⟩

end Go.Proofs.YtdhjjlnabbpinaaGreatDoor

/- The contract of the document's Map, whole. -/
namespace Go.Proofs.YtdhjjlnabbpinaaGreatDoor
open Go.RowKit Go.Maps
set_option linter.unusedVariables false
set_option maxRecDepth 100000

set_option maxRecDepth 20000 in
set_option maxHeartbeats 3200000 in
theorem rmap_no1 (m : Nat) (S : Mm) (F : Nat → Prop) (a0 size : Nat) (p : Int) (a : Option Addr) (len cap : Nat) (bs : List Int) (w : World) (h : RM w m S F) (ha : a0 ≤ 18446744073709551615) (hs : size ≤ 18446744073709551615)
    (r : Rd w a len cap bs) (hp0 : -9223372036854775808 ≤ p) (hp1 : p ≤ 9223372036854775807) (h1 : ¬ a0 % 4096 = 0) :
    Calls Tryz.prog 21 #[.pointer (some ⟨m, 0, none⟩), .int .u64 (a0 : Int), .int .u64 (size : Int), .int .i64 p, .slice a len cap] w fun e w' =>
      e = .returned (.int .i64 20) ∧ w' = w := by
  have hle0 := r.le
  have hmx := r.max
  clear h r
  go_enter Tryz.func21, Tryz.ntmps21
  go_wp2_with fail
  go_ret
  exact ⟨rfl, rfl⟩

set_option maxRecDepth 20000 in
set_option maxHeartbeats 3200000 in
theorem rmap_no2 (m : Nat) (S : Mm) (F : Nat → Prop) (a0 size : Nat) (p : Int) (a : Option Addr) (len cap : Nat) (bs : List Int) (w : World) (h : RM w m S F) (ha : a0 ≤ 18446744073709551615) (hs : size ≤ 18446744073709551615)
    (r : Rd w a len cap bs) (hp0 : -9223372036854775808 ≤ p) (hp1 : p ≤ 9223372036854775807) (h1 : a0 % 4096 = 0) (h2 : ¬ 0 < size) :
    Calls Tryz.prog 21 #[.pointer (some ⟨m, 0, none⟩), .int .u64 (a0 : Int), .int .u64 (size : Int), .int .i64 p, .slice a len cap] w fun e w' =>
      e = .returned (.int .i64 20) ∧ w' = w := by
  have hle0 := r.le
  have hmx := r.max
  clear h r
  have hm' : (a0 : Int) % 4096 = 0 := by omega
  obtain rfl : size = 0 := by omega
  go_enter Tryz.func21, Tryz.ntmps21
  go_wp2_with fail
  go_ret
  exact ⟨rfl, rfl⟩

set_option maxRecDepth 20000 in
set_option maxHeartbeats 3200000 in
theorem rmap_no3 (m : Nat) (S : Mm) (F : Nat → Prop) (a0 size : Nat) (p : Int) (a : Option Addr) (len cap : Nat) (bs : List Int) (w : World) (h : RM w m S F) (ha : a0 ≤ 18446744073709551615) (hs : size ≤ 18446744073709551615)
    (r : Rd w a len cap bs) (hp0 : -9223372036854775808 ≤ p) (hp1 : p ≤ 9223372036854775807) (h1 : a0 % 4096 = 0) (h2 : 0 < size) (h3 : ¬ a0 ≤ 140737488355328) :
    Calls Tryz.prog 21 #[.pointer (some ⟨m, 0, none⟩), .int .u64 (a0 : Int), .int .u64 (size : Int), .int .i64 p, .slice a len cap] w fun e w' =>
      e = .returned (.int .i64 20) ∧ w' = w := by
  have hle0 := r.le
  have hmx := r.max
  clear h r
  have hm' : (a0 : Int) % 4096 = 0 := by omega
  have x2 : ((size : Int) == 0) = false := by simp; omega
  have x3 : (140737488355328 : Int) < (a0 : Int) := by omega
  go_enter Tryz.func21, Tryz.ntmps21
  go_wp2_with fail
  go_ret
  exact ⟨rfl, rfl⟩

set_option maxRecDepth 20000 in
set_option maxHeartbeats 3200000 in
theorem rmap_no4 (m : Nat) (S : Mm) (F : Nat → Prop) (a0 size : Nat) (p : Int) (a : Option Addr) (len cap : Nat) (bs : List Int) (w : World) (h : RM w m S F) (ha : a0 ≤ 18446744073709551615) (hs : size ≤ 18446744073709551615)
    (r : Rd w a len cap bs) (hp0 : -9223372036854775808 ≤ p) (hp1 : p ≤ 9223372036854775807) (h1 : a0 % 4096 = 0) (h2 : 0 < size) (h3 : a0 ≤ 140737488355328) (h4 : ¬ a0 + size ≤ 140737488355328) :
    Calls Tryz.prog 21 #[.pointer (some ⟨m, 0, none⟩), .int .u64 (a0 : Int), .int .u64 (size : Int), .int .i64 p, .slice a len cap] w fun e w' =>
      e = .returned (.int .i64 20) ∧ w' = w := by
  have hle0 := r.le
  have hmx := r.max
  clear h r
  have hm' : (a0 : Int) % 4096 = 0 := by omega
  have x2 : ((size : Int) == 0) = false := by simp; omega
  have x3 : ¬ (140737488355328 : Int) < (a0 : Int) := by omega
  have x4 : (140737488355328 - (a0 : Int)) < (size : Int) := by omega
  go_enter Tryz.func21, Tryz.ntmps21
  go_wp2_with fail
  go_ret
  exact ⟨rfl, rfl⟩

set_option maxRecDepth 20000 in
set_option maxHeartbeats 3200000 in
theorem rmap_no5 (m : Nat) (S : Mm) (F : Nat → Prop) (a0 size : Nat) (p : Int) (a : Option Addr) (len cap : Nat) (bs : List Int) (w : World) (h : RM w m S F) (ha : a0 ≤ 18446744073709551615) (hs : size ≤ 18446744073709551615)
    (r : Rd w a len cap bs) (hp0 : -9223372036854775808 ≤ p) (hp1 : p ≤ 9223372036854775807) (h1 : a0 % 4096 = 0) (h2 : 0 < size) (h4 : a0 + size ≤ 140737488355328) (h5 : ¬ len ≤ size) :
    Calls Tryz.prog 21 #[.pointer (some ⟨m, 0, none⟩), .int .u64 (a0 : Int), .int .u64 (size : Int), .int .i64 p, .slice a len cap] w fun e w' =>
      e = .returned (.int .i64 20) ∧ w' = w := by
  have hle0 := r.le
  have hmx := r.max
  clear h r
  have hm' : (a0 : Int) % 4096 = 0 := by omega
  have x2 : ((size : Int) == 0) = false := by simp; omega
  have x3 : ¬ (140737488355328 : Int) < (a0 : Int) := by omega
  have x4 : ¬ (140737488355328 - (a0 : Int)) < (size : Int) := by omega
  have x5 : (size : Int) < (len : Int) := by omega
  go_enter Tryz.func21, Tryz.ntmps21
  go_wp2_with fail
  go_ret
  exact ⟨rfl, rfl⟩

set_option maxRecDepth 20000 in
set_option maxHeartbeats 3200000 in
theorem rmap_no6 (m : Nat) (S : Mm) (F : Nat → Prop) (a0 size : Nat) (p : Int) (a : Option Addr) (len cap : Nat) (bs : List Int) (w : World) (h : RM w m S F) (ha : a0 ≤ 18446744073709551615) (hs : size ≤ 18446744073709551615)
    (r : Rd w a len cap bs) (hp0 : -9223372036854775808 ≤ p) (hp1 : p ≤ 9223372036854775807) (h1 : a0 % 4096 = 0) (h2 : 0 < size) (h4 : a0 + size ≤ 140737488355328) (h5 : len ≤ size) (h6 : ¬ 1 ≤ p) :
    Calls Tryz.prog 21 #[.pointer (some ⟨m, 0, none⟩), .int .u64 (a0 : Int), .int .u64 (size : Int), .int .i64 p, .slice a len cap] w fun e w' =>
      e = .returned (.int .i64 20) ∧ w' = w := by
  have hle0 := r.le
  have hmx := r.max
  clear h r
  have hm' : (a0 : Int) % 4096 = 0 := by omega
  have x2 : ((size : Int) == 0) = false := by simp; omega
  have x3 : ¬ (140737488355328 : Int) < (a0 : Int) := by omega
  have x4 : ¬ (140737488355328 - (a0 : Int)) < (size : Int) := by omega
  have x5 : ¬ (size : Int) < (len : Int) := by omega
  have x6 : p < 1 := by omega
  go_enter Tryz.func21, Tryz.ntmps21
  go_wp2_with fail
  go_ret
  exact ⟨rfl, rfl⟩

set_option maxRecDepth 20000 in
set_option maxHeartbeats 3200000 in
theorem rmap_no7 (m : Nat) (S : Mm) (F : Nat → Prop) (a0 size : Nat) (p : Int) (a : Option Addr) (len cap : Nat) (bs : List Int) (w : World) (h : RM w m S F) (ha : a0 ≤ 18446744073709551615) (hs : size ≤ 18446744073709551615)
    (r : Rd w a len cap bs) (hp0 : -9223372036854775808 ≤ p) (hp1 : p ≤ 9223372036854775807) (h1 : a0 % 4096 = 0) (h2 : 0 < size) (h4 : a0 + size ≤ 140737488355328) (h5 : len ≤ size) (h6 : 1 ≤ p) (h7 : ¬ p ≤ 7) :
    Calls Tryz.prog 21 #[.pointer (some ⟨m, 0, none⟩), .int .u64 (a0 : Int), .int .u64 (size : Int), .int .i64 p, .slice a len cap] w fun e w' =>
      e = .returned (.int .i64 20) ∧ w' = w := by
  have hle0 := r.le
  have hmx := r.max
  clear h r
  have hm' : (a0 : Int) % 4096 = 0 := by omega
  have x2 : ((size : Int) == 0) = false := by simp; omega
  have x3 : ¬ (140737488355328 : Int) < (a0 : Int) := by omega
  have x4 : ¬ (140737488355328 - (a0 : Int)) < (size : Int) := by omega
  have x5 : ¬ (size : Int) < (len : Int) := by omega
  have x6 : ¬ p < 1 := by omega
  have x7 : 7 < p := by omega
  go_enter Tryz.func21, Tryz.ntmps21
  go_wp2_with fail
  go_ret
  exact ⟨rfl, rfl⟩

set_option maxRecDepth 20000 in
set_option maxHeartbeats 3200000 in
theorem rmap_no8 (m : Nat) (S : Mm) (F : Nat → Prop) (a0 size : Nat) (p : Int) (a : Option Addr) (len cap : Nat) (bs : List Int) (w : World) (h : RM w m S F) (ha : a0 ≤ 18446744073709551615) (hs : size ≤ 18446744073709551615)
    (r : Rd w a len cap bs) (hp0 : -9223372036854775808 ≤ p) (hp1 : p ≤ 9223372036854775807) (h1 : a0 % 4096 = 0) (h2 : 0 < size) (h4 : a0 + size ≤ 140737488355328) (h5 : len ≤ size) (h6 : 1 ≤ p) (h7 : p ≤ 7) (h8 : (bits .and .i64 p 2 != 0) = true) (h9 : (bits .and .i64 p 1 != 0) = true) :
    Calls Tryz.prog 21 #[.pointer (some ⟨m, 0, none⟩), .int .u64 (a0 : Int), .int .u64 (size : Int), .int .i64 p, .slice a len cap] w fun e w' =>
      e = .returned (.int .i64 20) ∧ w' = w := by
  have hle0 := r.le
  have hmx := r.max
  clear h r
  have hm' : (a0 : Int) % 4096 = 0 := by omega
  have x2 : ((size : Int) == 0) = false := by simp; omega
  have x3 : ¬ (140737488355328 : Int) < (a0 : Int) := by omega
  have x4 : ¬ (140737488355328 - (a0 : Int)) < (size : Int) := by omega
  have x5 : ¬ (size : Int) < (len : Int) := by omega
  have x6 : ¬ p < 1 := by omega
  have x7 : ¬ 7 < p := by omega
  go_enter Tryz.func21, Tryz.ntmps21
  go_wp2_with fail
  go_ret
  exact ⟨rfl, rfl⟩

set_option maxRecDepth 20000 in
set_option maxHeartbeats 3200000 in
theorem rmap_no9 (m : Nat) (S : Mm) (F : Nat → Prop) (a0 size : Nat) (p : Int) (a : Option Addr) (len cap : Nat) (bs : List Int) (w : World) (h : RM w m S F) (ha : a0 ≤ 18446744073709551615) (hs : size ≤ 18446744073709551615)
    (r : Rd w a len cap bs) (hp0 : -9223372036854775808 ≤ p) (hp1 : p ≤ 9223372036854775807) (h1 : a0 % 4096 = 0) (h2 : 0 < size) (h4 : a0 + size ≤ 140737488355328) (h5 : len ≤ size) (h6 : 1 ≤ p) (h7 : p ≤ 7) (hbits : (bits .and .i64 p 2 != 0) = false ∨ ((bits .and .i64 p 2 != 0) = true ∧ (bits .and .i64 p 1 != 0) = false)) (h9 : ¬ (size + 4095) / 4096 ≤ 65536) :
    Calls Tryz.prog 21 #[.pointer (some ⟨m, 0, none⟩), .int .u64 (a0 : Int), .int .u64 (size : Int), .int .i64 p, .slice a len cap] w fun e w' =>
      e = .returned (.int .i64 20) ∧ w' = w := by
  have hle0 := r.le
  have hmx := r.max
  clear h r
  have hm' : (a0 : Int) % 4096 = 0 := by omega
  have x2 : ((size : Int) == 0) = false := by simp; omega
  have x3 : ¬ (140737488355328 : Int) < (a0 : Int) := by omega
  have x4 : ¬ (140737488355328 - (a0 : Int)) < (size : Int) := by omega
  have x5 : ¬ (size : Int) < (len : Int) := by omega
  have x6 : ¬ p < 1 := by omega
  have x7 : ¬ 7 < p := by omega
  have hn' : ((size : Int) + 4096 - 1) / 4096 = (((size + 4095) / 4096 : Nat) : Int) := by omega
  have hnb : (size + 4095) / 4096 ≤ 34359738368 := by omega
  generalize (size + 4095) / 4096 = n at *
  have x8 : decide ((268435456 : Int) < (n : Int) * 4096) = true := by simp; omega
  rcases hbits with hb2 | ⟨hb2, hb1⟩
  · go_enter Tryz.func21, Tryz.ntmps21
    go_wp2_with fail
    go_ret
    exact ⟨rfl, rfl⟩
  · go_enter Tryz.func21, Tryz.ntmps21
    go_wp2_with fail
    go_ret
    exact ⟨rfl, rfl⟩

set_option maxRecDepth 20000 in
set_option maxHeartbeats 3200000 in
theorem rmap_no10 (m : Nat) (S : Mm) (F : Nat → Prop) (a0 size : Nat) (p : Int) (a : Option Addr) (len cap : Nat) (bs : List Int) (w : World) (h : RM w m S F) (ha : a0 ≤ 18446744073709551615) (hs : size ≤ 18446744073709551615)
    (r : Rd w a len cap bs) (hp0 : -9223372036854775808 ≤ p) (hp1 : p ≤ 9223372036854775807) (h1 : a0 % 4096 = 0) (h2 : 0 < size) (h4 : a0 + size ≤ 140737488355328) (h5 : len ≤ size) (h6 : 1 ≤ p) (h7 : p ≤ 7) (hbits : (bits .and .i64 p 2 != 0) = false ∨ ((bits .and .i64 p 2 != 0) = true ∧ (bits .and .i64 p 1 != 0) = false)) (h9 : (size + 4095) / 4096 ≤ 65536) (h10 : ¬ S.count + (size + 4095) / 4096 ≤ 65536) :
    Calls Tryz.prog 21 #[.pointer (some ⟨m, 0, none⟩), .int .u64 (a0 : Int), .int .u64 (size : Int), .int .i64 p, .slice a len cap] w fun e w' =>
      e = .returned (.int .i64 20) ∧ w' = w := by
  have hle0 := r.le
  have hmx := r.max
  have HSz := hide (rsize_any m S F w h)
  have hcg := h.good.count
  clear h r
  have hm' : (a0 : Int) % 4096 = 0 := by omega
  have x2 : ((size : Int) == 0) = false := by simp; omega
  have x3 : ¬ (140737488355328 : Int) < (a0 : Int) := by omega
  have x4 : ¬ (140737488355328 - (a0 : Int)) < (size : Int) := by omega
  have x5 : ¬ (size : Int) < (len : Int) := by omega
  have x6 : ¬ p < 1 := by omega
  have x7 : ¬ 7 < p := by omega
  have hn' : ((size : Int) + 4096 - 1) / 4096 = (((size + 4095) / 4096 : Nat) : Int) := by omega
  have hnb : (size + 4095) / 4096 ≤ 34359738368 := by omega
  generalize (size + 4095) / 4096 = n at *
  have x8 : decide ((268435456 : Int) < (n : Int) * 4096) = false := by simp; omega
  have x9 : decide ((268435456 : Int) < ((S.count * 4096 : Nat) : Int) + (n : Int) * 4096) = true := by simp; omega
  rcases hbits with hb2 | ⟨hb2, hb1⟩
  · go_enter Tryz.func21, Tryz.ntmps21
    go_wp2_with fail
    refine HSz.out.mono ?_
    rintro e w' ⟨rfl, rfl⟩
    clear HSz
    go_wp2_with fail
    go_ret
    exact ⟨rfl, rfl⟩
  · go_enter Tryz.func21, Tryz.ntmps21
    go_wp2_with fail
    refine HSz.out.mono ?_
    rintro e w' ⟨rfl, rfl⟩
    clear HSz
    go_wp2_with fail
    go_ret
    exact ⟨rfl, rfl⟩

set_option maxRecDepth 20000 in
set_option maxHeartbeats 3200000 in
theorem rmap_no11 (m : Nat) (S : Mm) (F : Nat → Prop) (a0 size : Nat) (p : Int) (a : Option Addr) (len cap : Nat) (bs : List Int) (w : World) (h : RM w m S F) (ha : a0 ≤ 18446744073709551615) (hs : size ≤ 18446744073709551615)
    (r : Rd w a len cap bs) (hp0 : -9223372036854775808 ≤ p) (hp1 : p ≤ 9223372036854775807) (h1 : a0 % 4096 = 0) (h2 : 0 < size) (h4 : a0 + size ≤ 140737488355328) (h5 : len ≤ size) (h6 : 1 ≤ p) (h7 : p ≤ 7) (hbits : (bits .and .i64 p 2 != 0) = false ∨ ((bits .and .i64 p 2 != 0) = true ∧ (bits .and .i64 p 1 != 0) = false)) (h10 : S.count + (size + 4095) / 4096 ≤ 65536) (h11 : ¬ ∀ i, a0 / 4096 ≤ i → i < a0 / 4096 + (size + 4095) / 4096 → S.perm i = 0) :
    Calls Tryz.prog 21 #[.pointer (some ⟨m, 0, none⟩), .int .u64 (a0 : Int), .int .u64 (size : Int), .int .i64 p, .slice a len cap] w fun e w' =>
      e = .returned (.int .i64 20) ∧ w' = w := by
  have hle0 := r.le
  have hmx := r.max
  have HSz := hide (rsize_any m S F w h)
  have hcg := h.good.count
  have HM := hide h
  clear h r
  have hm' : (a0 : Int) % 4096 = 0 := by omega
  have x2 : ((size : Int) == 0) = false := by simp; omega
  have x3 : ¬ (140737488355328 : Int) < (a0 : Int) := by omega
  have x4 : ¬ (140737488355328 - (a0 : Int)) < (size : Int) := by omega
  have x5 : ¬ (size : Int) < (len : Int) := by omega
  have x6 : ¬ p < 1 := by omega
  have x7 : ¬ 7 < p := by omega
  have hn' : ((size : Int) + 4096 - 1) / 4096 = (((size + 4095) / 4096 : Nat) : Int) := by omega
  have hnb : (size + 4095) / 4096 ≤ 34359738368 := by omega
  have hf' : (a0 : Int) / 4096 = ((a0 / 4096 : Nat) : Int) := by omega
  have hfb : a0 / 4096 ≤ 34359738368 := by omega
  have HNo := hide h11
  clear h11
  generalize a0 / 4096 = f at *
  generalize (size + 4095) / 4096 = n at *
  have x8 : decide ((268435456 : Int) < (n : Int) * 4096) = false := by simp; omega
  have x9 : decide ((268435456 : Int) < ((S.count * 4096 : Nat) : Int) + (n : Int) * 4096) = false := by simp; omega
  rcases hbits with hb2 | ⟨hb2, hb1⟩
  · go_enter Tryz.func21, Tryz.ntmps21
    go_wp2_with fail
    refine HSz.out.mono ?_
    rintro e w' ⟨rfl, rfl⟩
    clear HSz
    go_wp2
    obtain ⟨b0, pb0, db0, hX0⟩ := HM.out
    have hc0 := hX0.cell
    have HX0 := hide hX0
    clear hX0
    go_loop [12] (fun v => ∃ k : Nat, k ≤ n ∧ v = .int .u64 (k : Int) ∧ ∀ j, f ≤ j → j < f + k → S.perm j = 0) (fun v => n - (intOf v).toNat)
    case atStart => exact ⟨0, by omega, rfl, fun j h1 h2 => by omega⟩
    case round =>
      obtain ⟨k, hk, rfl, hall⟩ := hrel
      have HA := hide hall
      clear hall
      by_cases hlt : k < n
      · by_cases hz : S.perm (f + k) = 0
        · have hr := HX0.out.look0 (f + k) (by omega) hz
          rw [show ((f + k : Nat) : Int) = (f : Int) + (k : Int) by omega] at hr
          have HZ := hide hz
          clear hz
          go_wp2
          go_round
          case rel =>
            refine ⟨k + 1, by omega, by go_num, fun j h1 h2 => ?_⟩
            by_cases hjk : j = f + k
            · subst hjk; exact HZ.out
            · exact HA.out j h1 (by omega)
          case measure => simp [intOf]; omega
        · have hr := HX0.out.look (f + k) (by omega) hz
          rw [show ((f + k : Nat) : Int) = (f : Int) + (k : Int) by omega] at hr
          generalize pb0 (f + k) = P at hr
          clear hz
          go_wp2
          go_ret
          exact ⟨rfl, rfl⟩
      · exact absurd (fun j h1 h2 => HA.out j h1 (by omega)) HNo.out
  · go_enter Tryz.func21, Tryz.ntmps21
    go_wp2_with fail
    refine HSz.out.mono ?_
    rintro e w' ⟨rfl, rfl⟩
    clear HSz
    go_wp2
    obtain ⟨b0, pb0, db0, hX0⟩ := HM.out
    have hc0 := hX0.cell
    have HX0 := hide hX0
    clear hX0
    go_loop [12] (fun v => ∃ k : Nat, k ≤ n ∧ v = .int .u64 (k : Int) ∧ ∀ j, f ≤ j → j < f + k → S.perm j = 0) (fun v => n - (intOf v).toNat)
    case atStart => exact ⟨0, by omega, rfl, fun j h1 h2 => by omega⟩
    case round =>
      obtain ⟨k, hk, rfl, hall⟩ := hrel
      have HA := hide hall
      clear hall
      by_cases hlt : k < n
      · by_cases hz : S.perm (f + k) = 0
        · have hr := HX0.out.look0 (f + k) (by omega) hz
          rw [show ((f + k : Nat) : Int) = (f : Int) + (k : Int) by omega] at hr
          have HZ := hide hz
          clear hz
          go_wp2
          go_round
          case rel =>
            refine ⟨k + 1, by omega, by go_num, fun j h1 h2 => ?_⟩
            by_cases hjk : j = f + k
            · subst hjk; exact HZ.out
            · exact HA.out j h1 (by omega)
          case measure => simp [intOf]; omega
        · have hr := HX0.out.look (f + k) (by omega) hz
          rw [show ((f + k : Nat) : Int) = (f : Int) + (k : Int) by omega] at hr
          generalize pb0 (f + k) = P at hr
          clear hz
          go_wp2
          go_ret
          exact ⟨rfl, rfl⟩
      · exact absurd (fun j h1 h2 => HA.out j h1 (by omega)) HNo.out

theorem perm_bits {p : Int} (h6 : 1 ≤ p) (h7 : p ≤ 7) : (PermOk p ∧ ((bits .and .i64 p 2 == 0) = true ∨ ((bits .and .i64 p 2 == 0) = false ∧ (bits .and .i64 p 1 == 0) = true))) ∨ (¬ PermOk p ∧ (bits .and .i64 p 2 != 0) = true ∧ (bits .and .i64 p 1 != 0) = true) := by
  have h : p = 1 ∨ p = 2 ∨ p = 3 ∨ p = 4 ∨ p = 5 ∨ p = 6 ∨ p = 7 := by omega
  rcases h with rfl | rfl | rfl | rfl | rfl | rfl | rfl <;> decide

theorem rmap_any (m : Nat) (S : Mm) (F : Nat → Prop) (a0 size : Nat) (p : Int) (a : Option Addr) (len cap : Nat) (bs : List Int) (w : World) (h : RM w m S F) (ha : a0 ≤ 18446744073709551615) (hs : size ≤ 18446744073709551615)
    (hp0 : -9223372036854775808 ≤ p) (hp1 : p ≤ 9223372036854775807) (r : Rd w a len cap bs) (hsep : 0 < len → ∀ x, a = some x → ¬ F x.block) :
    Calls Tryz.prog 21 #[.pointer (some ⟨m, 0, none⟩), .int .u64 (a0 : Int), .int .u64 (size : Int), .int .i64 p, .slice a len cap] w fun e w' =>
      e = .returned (.int .i64 (if mapB S a0 size p len = true then 0 else 20)) ∧ ∃ F', RM w' m (mappedTo S a0 size p bs) F' ∧ Went F w F' w' := by
  have hbl := r.length
  have no : ¬ MapOk S a0 size p len → (Calls Tryz.prog 21 #[.pointer (some ⟨m, 0, none⟩), .int .u64 (a0 : Int), .int .u64 (size : Int), .int .i64 p, .slice a len cap] w fun e w' => e = .returned (.int .i64 20) ∧ w' = w) →
      Calls Tryz.prog 21 #[.pointer (some ⟨m, 0, none⟩), .int .u64 (a0 : Int), .int .u64 (size : Int), .int .i64 p, .slice a len cap] w fun e w' =>
        e = .returned (.int .i64 (if mapB S a0 size p len = true then 0 else 20)) ∧ ∃ F', RM w' m (mappedTo S a0 size p bs) F' ∧ Went F w F' w' := fun hn hc => by
    unfold mappedTo
    rw [hbl, mapB_no hn]
    refine hc.mono ?_
    rintro e w' ⟨rfl, rfl⟩
    exact ⟨rfl, F, h, Went.refl _ _⟩
  by_cases h1 : a0 % 4096 = 0
  · by_cases h2 : 0 < size
    · by_cases h4 : a0 + size ≤ 140737488355328
      · by_cases h5 : len ≤ size
        · by_cases h6 : 1 ≤ p
          · by_cases h7 : p ≤ 7
            · rcases perm_bits h6 h7 with ⟨hpo, hb⟩ | ⟨hpo, hb2, hb1⟩
              · have hb' : (bits .and .i64 p 2 != 0) = false ∨ ((bits .and .i64 p 2 != 0) = true ∧ (bits .and .i64 p 1 != 0) = false) := by
                  unfold bne
                  rcases hb with hb | ⟨hb, hb'⟩
                  · exact Or.inl (by rw [hb]; rfl)
                  · exact Or.inr ⟨by rw [hb]; rfl, by rw [hb']; rfl⟩
                by_cases h9 : (size + 4095) / 4096 ≤ 65536
                · by_cases h10 : S.count + (size + 4095) / 4096 ≤ 65536
                  · by_cases h11 : ∀ i, a0 / 4096 ≤ i → i < a0 / 4096 + (size + 4095) / 4096 → S.perm i = 0
                    · have hok : MapOk S a0 size p len := ⟨⟨h1, h2, h4⟩, hpo, h5, h10, h11⟩
                      unfold mappedTo
                      rw [hbl, mapB_yes hok]
                      exact rmap_yes m S F a0 size p a len cap bs w h r hsep hok hb
                    · exact no (fun hk => h11 hk.2.2.2.2) (rmap_no11 m S F a0 size p a len cap bs w h ha hs r hp0 hp1 h1 h2 h4 h5 h6 h7 hb' h10 h11)
                  · exact no (fun hk => h10 hk.2.2.2.1) (rmap_no10 m S F a0 size p a len cap bs w h ha hs r hp0 hp1 h1 h2 h4 h5 h6 h7 hb' h9 h10)
                · exact no (fun hk => h9 (by have := hk.2.2.2.1; omega)) (rmap_no9 m S F a0 size p a len cap bs w h ha hs r hp0 hp1 h1 h2 h4 h5 h6 h7 hb' h9)
              · exact no (fun hk => hpo hk.2.1) (rmap_no8 m S F a0 size p a len cap bs w h ha hs r hp0 hp1 h1 h2 h4 h5 h6 h7 hb2 hb1)
            · exact no (fun hk => h7 hk.2.1.bd.2) (rmap_no7 m S F a0 size p a len cap bs w h ha hs r hp0 hp1 h1 h2 h4 h5 h6 h7)
          · exact no (fun hk => h6 hk.2.1.bd.1) (rmap_no6 m S F a0 size p a len cap bs w h ha hs r hp0 hp1 h1 h2 h4 h5 h6)
        · exact no (fun hk => h5 hk.2.2.1) (rmap_no5 m S F a0 size p a len cap bs w h ha hs r hp0 hp1 h1 h2 h4 h5)
      · by_cases h3 : a0 ≤ 140737488355328
        · exact no (fun hk => h4 hk.1.2.2) (rmap_no4 m S F a0 size p a len cap bs w h ha hs r hp0 hp1 h1 h2 h3 h4)
        · exact no (fun hk => h4 hk.1.2.2) (rmap_no3 m S F a0 size p a len cap bs w h ha hs r hp0 hp1 h1 h2 h3)
    · exact no (fun hk => h2 hk.1.2.1) (rmap_no2 m S F a0 size p a len cap bs w h ha hs r hp0 hp1 h1 h2)
  · exact no (fun hk => h1 hk.1.1) (rmap_no1 m S F a0 size p a len cap bs w h ha hs r hp0 hp1 h1)

end Go.Proofs.YtdhjjlnabbpinaaGreatDoor

/- The chapter's example: what 'known' tells. -/
namespace Go.Proofs.YtdhjjlnabbpinaaGreatDoor
open Go.RowKit
set_option linter.unusedVariables false
set_option maxRecDepth 100000

/-- Bytes written out in the text. -/
theorem Rd.litc {w : World} {X : Nat} {t : TypeId} {fr : Nat × Nat} (xs : List Int) (h : w.heap[X]? = some (.cells (xs.map (Value.int .u8)).toArray t fr)) (hf : Bytes xs) (hl : xs.length ≤ 9223372036854775807) : Rd w (some ⟨X, 0, none⟩) xs.length xs.length xs := by
  refine ⟨rfl, Nat.le_refl _, hl, hf, (fun h => by cases h), fun x hx i hi => ?_⟩
  cases hx
  have e : (⟨X, 0, none⟩ : Addr).add i = ⟨X, i, none⟩ := by unfold Addr.add; split <;> simp_all
  rw [e, cell_of_row _ _ i _ t fr h]
  simp [hi]



end Go.Proofs.YtdhjjlnabbpinaaGreatDoor

/- The walk of EnvNotes: many events that are noted at once are noted one by one. -/
namespace Go.Proofs.YtdhjjlnabbpinaaGreatDoor
open Go.RowKit
set_option linter.unusedVariables false
set_option maxRecDepth 100000

theorem Evs.blk {w : World} {a : Option Addr} {len : Nat} {es : List Evt} (h : Evs w a len es) (hl : 0 < len) (x : Addr) (hx : a = some x) : x.block < w.heap.size := by
  have h0 := h.length
  obtain ⟨b, o, h1, h2⟩ := h.cell 0 _ (List.getElem?_eq_getElem (by omega))
  have h3 := h2 0 (by omega)
  rw [h1] at hx
  cases hx
  exact World.block_lt_of_cell? w ⟨b, o + 0 * 4 + 0, none⟩ (h3.trans rfl)

/-- Events that came in. -/
theorem Has.arg {w0 w : World} {l : List (World → (Nat → Prop) → Prop)} (h : Has w0 w l) {a : Option Addr} {len : Nat} {es : List Evt} (hE : Evs w0 a len es) : Has w0 w (ArgT w0.heap.size a len es :: l) :=
  h.more (F := fun _ => False) (Below.refl _ _) ⟨hE.below h.bel, fun hl x hx => Or.inr (hE.blk hl x hx), fun x hx hl y hy => Or.inr ((hE.ok x hx).b.blk hl y hy), fun k hk => hk.elim⟩ (fun k hk => hk.elim) (arg_stays _ _ _ _)



end Go.Proofs.YtdhjjlnabbpinaaGreatDoor

/- Events and scripts of acts that came in: what their cells hold; how long an event's bytes are at most. -/
namespace Go.Proofs.YtdhjjlnabbpinaaGreatDoor
open Go.RowKit Go.ChangeShapes Go.WideShapes Go.ChangeAt
set_option linter.unusedVariables false
set_option maxRecDepth 100000

theorem exists_list {α : Type} {P : Nat → α → Prop} : ∀ n : Nat, (∀ i, i < n → ∃ y, P i y) → ∃ l : List α, l.length = n ∧ ∀ i y, l[i]? = some y → P i y
  | 0, _ => ⟨[], rfl, fun i y h => by simp at h⟩
  | n + 1, h => by
    obtain ⟨l, h1, h2⟩ := exists_list n (fun i hi => h i (by omega))
    obtain ⟨y, hy⟩ := h n (by omega)
    refine ⟨l ++ [y], by simp [h1], fun i z hz => ?_⟩
    rcases Nat.lt_or_ge i n with h3 | h3
    · rw [List.getElem?_append_left (by omega)] at hz
      exact h2 i z hz
    · rw [List.getElem?_append_right (by omega)] at hz
      have h4 : i - l.length = 0 := by
        rcases Nat.eq_zero_or_pos (i - l.length) with h5 | h5
        · exact h5
        · rw [List.getElem?_eq_none (by simp; omega)] at hz
          cases hz
      rw [h4] at hz
      have h5 : i = n := by omega
      subst h5
      simp at hz
      subst hz
      exact hy

theorem weights_mem_all {H : Type} {P : Program} {e : TypeId} : ∀ {l : List (DataW H)} {d : DataW H}, d ∈ l → ∀ q ∈ d.weights P e, q ∈ DataW.weightsAll P e l
  | d0 :: l, d, hd, q, hq => by
    simp only [DataW.weightsAll, List.mem_append]
    rcases List.mem_cons.1 hd with rfl | hd
    · exact Or.inl hq
    · exact Or.inr (weights_mem_all hd q hq)

section
variable {H : Type} {enc : TypeId × Value → H} {w : World} {base : Nat} {spare : Nat → Bool} {held : Bool}

theorem trod_int_is {t : TypeId} {k : IntKind} (ht : Tryz.prog.underlying t = some (.int k)) {n : Nat} {cs : List Value} {x : DataW H × List MemPlace} (h : DataW.trod enc Tryz.prog w base spare held n t cs = some x) : ∃ z, cs = [.int k z] ∧ (Lit.int k z).wf = true := by
  cases n with
  | zero => simp [DataW.trod] at h
  | succ n =>
    unfold DataW.trod at h
    rw [ht] at h
    split at h <;> simp_all

theorem four {cs : List Value} (h : cs.length = 4) : ∃ c0 c1 c2 c3, cs = [c0, c1, c2, c3] := by
  match cs, h with
  | [c0, c1, c2, c3], _ => exact ⟨c0, c1, c2, c3, rfl⟩

theorem open_evt {n : Nat} {cs : List Value} {x : DataW H × List MemPlace} (h : DataW.trod enc Tryz.prog w base (fun _ => true) held n 115 cs = some x) :
    ∃ y : Evt, y.Ok w ∧ cs = y.cells ∧ ((∀ q ∈ x.1.weights Tryz.prog 115, q ≤ reachBytes) → y.len ≤ 140737488355328) := by
  obtain ⟨xs, m, rfl, rfl, hl, hxl, hf⟩ := DataW.trod_struct Tryz.underlying115 h
  have h4 : Tryz.prog.cellsOf 115 = 4 := by kernel_rfl
  have c3 : Tryz.prog.cellsOf 3 = 1 := by kernel_rfl
  have c2 : Tryz.prog.cellsOf 2 = 1 := by kernel_rfl
  have c22 : Tryz.prog.cellsOf 24 = 1 := by kernel_rfl
  have b8 : Tryz.prog.bytesOf 5 = 1 := by kernel_rfl
  rw [h4] at hl
  obtain ⟨d0, d1, d2, d3, rfl⟩ := four hl
  have g : ∀ (i : Nat) (f : Field), (#[({ name := "Kind", type := 3, offset := 0, embedded := false, tag := "", pkgPath := "", byteOffset := 0 } : Field), { name := "Fd", type := 2, offset := 1, embedded := false, tag := "", pkgPath := "", byteOffset := 8 }, { name := "B", type := 24, offset := 2, embedded := false, tag := "", pkgPath := "", byteOffset := 16 }, { name := "N", type := 3, offset := 3, embedded := false, tag := "", pkgPath := "", byteOffset := 40 }] : Array Field)[i]? = some f → ∃ y, xs[i]? = some y ∧ DataW.trod enc Tryz.prog w base (fun _ => true) held m f.type (([d0, d1, d2, d3].drop f.offset).take (Tryz.prog.cellsOf f.type)) = some y := fun i f hif => by
    have h2 := hf i f hif
    have hi : i < xs.length := by
      rw [hxl]
      exact (Array.getElem?_eq_some_iff.1 hif).1
    rw [List.getElem?_eq_getElem hi] at h2
    exact ⟨_, List.getElem?_eq_getElem hi, h2⟩
  obtain ⟨_, _, t0⟩ := g 0 { name := "Kind", type := 3, offset := 0, embedded := false, tag := "", pkgPath := "", byteOffset := 0 } rfl
  obtain ⟨_, _, t1⟩ := g 1 { name := "Fd", type := 2, offset := 1, embedded := false, tag := "", pkgPath := "", byteOffset := 8 } rfl
  obtain ⟨y2, hy2, t2⟩ := g 2 { name := "B", type := 24, offset := 2, embedded := false, tag := "", pkgPath := "", byteOffset := 16 } rfl
  obtain ⟨_, _, t3⟩ := g 3 { name := "N", type := 3, offset := 3, embedded := false, tag := "", pkgPath := "", byteOffset := 40 } rfl
  simp only [c3, c2, c22, List.drop_succ_cons, List.drop_zero, List.take_succ_cons, List.take_zero] at t0 t1 t2 t3
  obtain ⟨z0, e0, f0⟩ := trod_int_is Tryz.underlying3 t0
  obtain ⟨z1, e1, f1⟩ := trod_int_is Tryz.underlying2 t1
  obtain ⟨z3, e3, f3⟩ := trod_int_is Tryz.underlying3 t3
  have hb : ∃ a l c bs, [d2] = [Value.slice a l c] ∧ Rd w a l c bs ∧ ((∀ q ∈ (DataW.agg (xs.map (·.1))).weights Tryz.prog 115, q ≤ reachBytes) → l ≤ 140737488355328) := by
    rcases open_ints Tryz.underlying24 Tryz.underlying5 (by kernel_rfl) t2 with ⟨hcs, _⟩ | ⟨x, l, c, zs, hcs, _, hl, hm, hz, hx2, hcell, hwz⟩
    · exact ⟨none, 0, 0, [], hcs, Rd.nothing w, fun _ => by omega⟩
    · have r : IsRow .u8 w (some x) l c zs := .inr ⟨_, rfl, hl, hm, by simpa using hz, hcell, hwz⟩
      have r2 := r.rn (top := 255) (by decide) (fun n hn => bounds_u8 hn)
      refine ⟨some x, l, c, zs.take l, hcs, ⟨r2.length, r2.le, r2.max, r2.fit, r2.nil, r2.cell⟩, fun hq => ?_⟩
      have hd : (xs.map (·.1))[2]? = some (DataW.slice (lits .u8 (zs.take l)) (lits .u8 (zs.drop l))) := by
        rw [List.getElem?_map, hy2, hx2]
        rfl
      have h9 := DataW.weights_mem_each (P := Tryz.prog) (ts := [3, 2, 24, 3]) (j := 2) (t := 24) rfl hd ((lits (H := H) .u8 (zs.take l)).length + (lits (H := H) .u8 (zs.drop l)).length) (by
        rw [DataW.weights, Tryz.underlying24]
        simp [b8])
      have h10 := hq _ (by
        rw [DataW.weights, Tryz.underlying115]
        exact h9)
      have h11 := r2.length
      have h12 : (lits (H := H) .u8 (zs.take l)).length = l := by
        simp only [lits, List.length_map]
        exact h11
      rw [h12] at h10
      have := reachBytes_lt
      omega
  obtain ⟨ba, bl, bc, bbs, e2, hr, hsz⟩ := hb
  injection e0 with e0; injection e1 with e1; injection e2 with e2; injection e3 with e3
  subst e0 e1 e2 e3
  exact ⟨⟨z0, z1, ba, bl, bc, z3, bbs⟩, ⟨bounds_i64 f0, bounds_i64 f1, bounds_i64 f3, hr⟩, rfl, hsz⟩

theorem open_evts {a : Option Addr} {len cap : Nat} {d : DataW H} {p : List MemPlace} (h : DataW.Trod enc Tryz.prog w base (fun _ => true) held 60 (.slice a len cap) d p) (hq : ∀ q ∈ d.weights Tryz.prog 60, q ≤ reachBytes) :
    ∃ es, Evs w a len es ∧ ∀ x ∈ es, x.len ≤ 140737488355328 := by
  obtain ⟨fuel, h⟩ := h
  have h4 : Tryz.prog.cellsOf 115 = 4 := by kernel_rfl
  rcases DataW.trod_slice Tryz.underlying60 h with ⟨h0, _⟩ | ⟨x, l, c, elems, rest, n, _, hcs, hd, hb, hl, hm, hlen, hel, hsp, hns⟩
  · simp [Value.cells] at h0
    obtain ⟨rfl, rfl, rfl⟩ := h0
    exact ⟨[], ⟨rfl, by omega, (fun x hx => by cases hx), fun i x hx => by simp at hx⟩, fun x hx => by cases hx⟩
  · simp [Value.cells] at hcs
    obtain ⟨rfl, rfl, rfl⟩ := hcs
    have hd' : d = .slice (elems.map (·.1)) (rest.map (·.1)) := congrArg Prod.fst hd
    have el : ∀ i, i < len → ∃ y : Evt, y.Ok w ∧ (∀ j, j < 4 → w.cell? ((x.add (i * 4)).add j) = y.cells[j]?) ∧ y.len ≤ 140737488355328 := fun i hi => by
      have h1 := hel i hi
      rw [List.getElem?_eq_getElem (by omega)] at h1
      obtain ⟨cs', h2, h3⟩ := Option.bind_eq_some_iff.1 h1
      rw [h4] at h2
      obtain ⟨_, h6, h5⟩ := World.cells?_some h2
      obtain ⟨y, hy, rfl, hy2⟩ := open_evt h3
      refine ⟨y, hy, h5, hy2 (fun q hqq => hq q ?_)⟩
      rw [hd', DataW.weights, Tryz.underlying60]
      refine List.mem_cons_of_mem _ (List.mem_append_left _ (weights_mem_all (d := (elems[i]'(by omega)).1) (List.mem_map_of_mem (List.getElem_mem _)) q hqq))
    obtain ⟨es, hes, hP⟩ := exists_list len el
    refine ⟨es, ⟨hes, by unfold maxLen at hm; omega, fun y hy => ?_, fun i y hy => ?_⟩, fun y hy => ?_⟩
    · obtain ⟨i, hi⟩ := List.mem_iff_getElem?.1 hy
      exact (hP i y hi).1
    · obtain ⟨b, o, spot⟩ := x
      have h5 := (hP i y hy).2.1
      have hil := (List.getElem?_eq_some_iff.1 hy).1
      obtain ⟨y0, _, h50, _⟩ := el 0 (by omega)
      have h6 := h50 0 (by omega)
      have hs : spot = none := by
        rw [show y0.cells[0]? = some (.int .i64 y0.kind) from rfl] at h6
        have h7 := World.cell?_spot h6
        simpa [Addr.add] using h7
      subst hs
      refine ⟨b, o, rfl, fun j hj => ?_⟩
      have h7 := h5 j hj
      have e1 : ((⟨b, o, none⟩ : Addr).add (i * 4)).add j = ⟨b, o + i * 4 + j, none⟩ := by unfold Addr.add; repeat' split <;> simp_all
      rw [e1] at h7
      exact h7
    · obtain ⟨i, hi⟩ := List.mem_iff_getElem?.1 hy
      exact (hP i y hi).2.2

end

end Go.Proofs.YtdhjjlnabbpinaaGreatDoor

/- What EnvPlays stands on: the document's environment beside the program's, a row of bytes beside both; a script of acts that came in. -/
namespace Go.Proofs.YtdhjjlnabbpinaaGreatDoor
open Go.RowKit Go.ChangeShapes Go.WideShapes Go.ChangeAt
set_option linter.unusedVariables false
set_option maxRecDepth 100000

section
variable {w0 w W2 : World} {l : List (World → (Nat → Prop) → Prop)}

theorem has_ref (h : Has w0 w l) {a : Option Addr} {len cap : Nat} {bs : List Int} (r : Rd w0 a len cap bs) : Has w0 (w.alloc (.cells #[.slice a len cap, .slice none 0 0] 62)) (EV w0.heap.size 62 w.heap.size bs [] :: l) := by
  have hb : Below w.heap.size w (w.alloc (.cells #[.slice a len cap, .slice none 0 0] 62)) := (Below.refl _ _).alloc (Nat.le_refl _) _
  have hz := h.bel.size
  refine h.more (F := fun k => k = w.heap.size) hb ⟨a, len, cap, .slice none 0 0, [], ⟨heap_alloc_new w _, (r.below h.bel).below hb, World.ownsRow_nil _ _ _ _, (fun x hx => by cases hx), rfl, (fun g hg => by cases hg), fun hl x hx => ?_, (fun x hx => by cases hx), fun k hk => ?_⟩, rfl⟩ (fun k hk => ?_) (ev_stays _ _ _ _ _)
  · have h1 := r.blk hl x hx
    exact ⟨Or.inr h1, by omega, by intro h; cases h⟩
  · subst hk
    simp
  · subst hk
    exact Nat.le_refl _

theorem has_row (h : Has w0 w l) : Has w0 w (RowT (.slice none 0 0) [] :: l) :=
  h.more (F := fun _ => False) (Below.refl _ _) ⟨World.ownsRow_nil _ _ _ _, Bytes.nil, (fun g hg => by cases hg), fun k hk => hk.elim⟩ (fun k hk => hk.elim) (row_stays _ _ _)

theorem Has.grow {v v2 : Value} {L m : Nat} {bs xs : List Int} (h : Has w0 w (RowT v bs :: l)) (hL : bs.length = L) (hx : xs.length = m) (hb : Bytes xs) (hown : W2.ownsRow 0 5 1 v2 (L + m) (bs.map (Value.int .u8) ++ xs.map (Value.int .u8))) (hgrow : w.grownBy W2 v.ownBlock) (hat : v2.ownBlock = v.ownBlock ∨ v2.ownBlock = some w.heap.size) : Has w0 W2 (RowT v2 (bs ++ xs) :: l) := by
  subst hL hx
  obtain ⟨F, ⟨h1, h2, h3, h4⟩, h5, h6⟩ := h.step
  refine h6 W2 _ (fun k => v2.ownBlock = some k) ⟨?_, h2.append hb, fun g hg => hg, fun k hk => ownsRow_blk hown k hk⟩ ⟨Kept.of_grown hgrow (fun k hk => h3 k hk), fun k hk => ?_⟩ (row_stays _ _ _)
  · unfold RowB
    rw [List.length_append, List.map_append]
    exact hown
  · rcases hat with h7 | h7
    · exact Or.inl (h3 k (h7 ▸ hk))
    · rw [h7] at hk
      cases hk
      exact Or.inr (Nat.le_refl _)

theorem Has.row {v : Value} {bs : List Int} (h : Has w0 w (RowT v bs :: l)) : ∃ a cap, v = .slice a bs.length cap ∧ Rd w a bs.length cap bs := by
  obtain ⟨F, h1, h2, h3, h4⟩ := h.top
  exact Rd.own h1 h2

theorem str_append (a b : List Int) : strOfNums a ++ strOfNums b = strOfNums (a ++ b) := by
  apply ByteArray.ext
  simp [strOfNums]

theorem outOf_short (fd : Int) : ∀ (tr : List Says), (∀ s ∈ tr, s.bs.length ≤ 50) → (outOf fd tr).length ≤ 50 * tr.length
  | [], _ => by simp [outOf]
  | s :: tr, h => by
    have h1 := outOf_short fd tr (fun x hx => h x (List.mem_cons_of_mem _ hx))
    have h2 := h s (List.mem_cons_self ..)
    have e : outOf fd (s :: tr) = (if s.kind = 0 ∧ s.fd = fd then s.bs else []) ++ outOf fd tr := by simp [outOf]
    rw [e, List.length_append, List.length_cons]
    split
    · omega
    · simp; omega

end

/-- An act: what is done, how many bytes are taken, the event. -/
structure ActE where
  wh : Nat
  nn : Int
  x : Evt

def ActE.cells (y : ActE) : List Value := [.int .u8 (y.wh : Int), .int .i64 y.nn, .int .i64 y.x.kind, .int .i64 y.x.fd, .slice y.x.a y.x.len y.x.cap, .int .i64 y.x.n]

structure ActE.Ok (y : ActE) (w : World) : Prop where
  wh : y.wh ≤ 255
  nn : -9223372036854775808 ≤ y.nn ∧ y.nn ≤ 9223372036854775807
  x : y.x.Ok w

/-- A slice of acts that came in. -/
def IsActE (w : World) (a : Option Addr) (len : Nat) : Prop := len ≤ 9223372036854775807 ∧ ∀ i, i < len → ∃ b o, a = some ⟨b, o, none⟩ ∧ ∃ y : ActE, y.Ok w ∧ ∀ j, j < 6 → w.cell? ⟨b, o + i * 6 + j, none⟩ = y.cells[j]?

section
variable {H : Type} {enc : TypeId × Value → H} {w : World} {base : Nat} {spare : Nat → Bool} {held : Bool}

theorem six {cs : List Value} (h : cs.length = 6) : ∃ c0 c1 c2 c3 c4 c5, cs = [c0, c1, c2, c3, c4, c5] := by
  match cs, h with
  | [c0, c1, c2, c3, c4, c5], _ => exact ⟨c0, c1, c2, c3, c4, c5, rfl⟩





end

end Go.Proofs.YtdhjjlnabbpinaaGreatDoor

/- The contract of the document's Put at four bytes, behind a row of the caller's own. -/
namespace Go.Proofs.YtdhjjlnabbpinaaGreatDoor
open Go.RowKit Go.Maps
set_option linter.unusedVariables false
set_option maxRecDepth 100000
set_option linter.unusedSimpArgs false

/-- A word's bytes. -/
def w4 (x : Int) : List Int := [x % 256, x / 256 % 256, x / 65536 % 256, x / 16777216 % 256]
def w4k (x : Int) (k : Nat) : Int := x / 2 ^ (8 * k) % 256
theorem w4_take (x : Int) (k : Nat) (hk : k < 4) : (w4 x).take (k + 1) = (w4 x).take k ++ [w4k x k] := by
  match k, hk with
  | 0, _ => simp [w4, w4k]
  | 1, _ => simp [w4, w4k]
  | 2, _ => simp [w4, w4k]
  | 3, _ => simp [w4, w4k]
theorem w4_bytes (x : Int) : Bytes (w4 x) := fun y hy => by
  simp [w4] at hy
  omega

set_option maxHeartbeats 12800000 in
theorem wput4 (B : Nat) (v : Value) (len : Nat) (bs : List Int) (x : Int) (w : World) (hO : w.ownsRow B 5 1 v len (bs.map (Value.int .u8))) (hB : B ≤ w.heap.size)
    (hx : 0 ≤ x) (hx' : x ≤ 4294967295) (hl : len ≤ 1000000) :
    Calls Tryz.prog 19 #[v, .int .u64 x, .int .i64 4] w fun e w' =>
      ∃ v', e = .returned v' ∧ w'.ownsRow B 5 1 v' (len + 4) ((bs ++ w4 x).map (Value.int .u8)) ∧ Below B w w' := by
  obtain ⟨i0, hi, hz0, hz1, hz2⟩ := info_parts Tryz.info8
  have HO := hide hO
  have HTk := hide (fun k hk => w4_take x k hk)
  have HE : Hid ((w4 x).take 4 = w4 x) := hide rfl
  clear hO
  go_enter Tryz.func19, Tryz.ntmps19
  go_wp2
  go_loopg [0, 7] 4 (fun g u i wr => ∃ (k : Nat) (u0 : Value), k ≤ 4 ∧ g = 4 - k ∧ u0 = u ∧ i = .int .i64 k ∧ Hid (wr.ownsRow B 5 1 u0 (len + k) ((bs ++ (w4 x).take k).map (Value.int .u8))) ∧ Hid (Below B w wr))
  case atStart => exact ⟨0, _, by omega, rfl, rfl, rfl, by rw [List.take_zero, List.append_nil]; exact HO.out, Below.refl _ _⟩
  case round =>
    obtain ⟨k, u0, hk, rfl, rfl, rfl, HO2, HB⟩ := hrel
    clear HO
    by_cases hlt : k < 4
    · have hlt' : (k : Int) < 4 := by omega
      have hsz : B ≤ wr.heap.size := Nat.le_trans hB HB.out.size
      have HLT := hide HO2.out.lt
      go_wp2_with (at_builtin; refine wpList_append_own _ rfl _ _ 24 rfl B 5 i0 (.int .u8 0) 1 1 Tryz.underlying24 hi hz0 hz1 hz2 rfl (by decide) _ _ _ rfl (HO2.out.alloc _) ⟨wr.heap.size, 0, none⟩ 1 1 [.int .u8 (w4k x k)] rfl rfl ?d1 ?d2 ?d3 ?d4 ?d5 ?_)
      case d1 =>
        intro j u hj
        match j, hj with
        | 0, hj => simp at hj; subst hj; simp [Addr.add, w4k]
      case d2 => intro u hu; simp at hu; subst hu; rfl
      case d3 => unfold maxLen; omega
      case d4 => omega
      case d5 => simp; omega
      · intro v' w1 hown' hgrow _
        have R : Hid (w1.ownsRow B 5 1 v' (len + (k + 1)) ((bs ++ (w4 x).take (k + 1)).map (Value.int .u8))) := by
          rw [HTk.out k hlt]; simpa [Nat.add_assoc] using hide hown'
        have B1 : Hid (Below B w w1) := hide ((HB.out.alloc hsz _).grown hgrow (by simp; omega) (fun j hj => (HLT.out j hj).1))
        clear hown' hgrow HO2 HB HLT
        go_wp2
        go_roundg (4 - (k + 1))
        case measure => omega
        case rel => exact ⟨k + 1, v', by omega, rfl, rfl, by go_num, R.out, B1.out⟩
    · obtain rfl : k = 4 := by omega
      go_wp2
      go_ret
      exact ⟨_, rfl, by have := HO2.out; rwa [HE.out] at this, HB.out⟩

/-! ### Memories among other things -/

def RMt (m : Nat) (S : Mm) (w : World) (F : Nat → Prop) : Prop := RM w m S F
theorem rmt_stays (B m : Nat) (S : Mm) : Stays B (RMt m S) := ⟨fun h hk hd _ => RM.kept h hk hd, fun h => RM.flt h⟩

section
variable {w0 w w' : World} {l : List (World → (Nat → Prop) → Prop)} {m : Nat} {S : Mm} {a : Option Addr} {len cap : Nat} {bs : List Int}

theorem h_new (h : Has w0 w l) : Calls Tryz.prog 17 #[] w fun e w' => ∃ m, e = .returned (.pointer (some ⟨m, 0, none⟩)) ∧ Has w0 w' (PMt m Mm.new :: l) :=
  (new_any w).mono fun e w' ⟨m, F, h1, h2, h3, h4⟩ => ⟨m, h1, h.more h4 (P := PMt m Mm.new) h2 h3 (pmt_stays _ _ _)⟩
theorem h_rnew (h : Has w0 w l) : Calls Tryz.prog 18 #[] w fun e w' => ∃ m, e = .returned (.pointer (some ⟨m, 0, none⟩)) ∧ Has w0 w' (RMt m Mm.new :: l) :=
  (rnew_any w).mono fun e w' ⟨m, F, h1, h2, h3, h4⟩ => ⟨m, h1, h.more h4 (P := RMt m Mm.new) h2 h3 (rmt_stays _ _ _)⟩

theorem h_map (h : Has w0 w (PMt m S :: RdT a len cap bs :: l)) (a0 size : Nat) (p : Int) (ha : a0 ≤ 18446744073709551615) (hs : size ≤ 18446744073709551615) (hp : 1 ≤ p ∧ p ≤ 7) :
    Calls Tryz.prog 20 #[.pointer (some ⟨m, 0, none⟩), .int .u64 (a0 : Int), .int .u64 (size : Int), .int .i64 p, .slice a len cap] w fun e w' => (∃ v, e = .returned v) ∧ Has w0 w' (PMt m (mappedTo S a0 size p bs) :: RdT a len cap bs :: l) := by
  obtain ⟨F, G, g1, g2, g3, g4, g5⟩ := h.open2
  refine (map_any m S F a0 size p a len cap bs w g1 ha hs (by omega) (by omega) g2.1 (fun hl x hx hf => g3 _ hf (g2.2.1 hl x hx))).mono ?_
  rintro e w' ⟨k1, F', k2, k3⟩
  exact ⟨⟨_, k1⟩, g5 w' (PMt m _) F' k2 k3 (pmt_stays _ _ _)⟩
theorem h_rmap (h : Has w0 w (RMt m S :: RdT a len cap bs :: l)) (a0 size : Nat) (p : Int) (ha : a0 ≤ 18446744073709551615) (hs : size ≤ 18446744073709551615) (hp : 1 ≤ p ∧ p ≤ 7) :
    Calls Tryz.prog 21 #[.pointer (some ⟨m, 0, none⟩), .int .u64 (a0 : Int), .int .u64 (size : Int), .int .i64 p, .slice a len cap] w fun e w' => (∃ v, e = .returned v) ∧ Has w0 w' (RMt m (mappedTo S a0 size p bs) :: RdT a len cap bs :: l) := by
  obtain ⟨F, G, g1, g2, g3, g4, g5⟩ := h.open2
  refine (rmap_any m S F a0 size p a len cap bs w g1 ha hs (by omega) (by omega) g2.1 (fun hl x hx hf => g3 _ hf (g2.2.1 hl x hx))).mono ?_
  rintro e w' ⟨k1, F', k2, k3⟩
  exact ⟨⟨_, k1⟩, g5 w' (RMt m _) F' k2 k3 (rmt_stays _ _ _)⟩
theorem h_map0 (h : Has w0 w (PMt m S :: l)) (r : Rd w0 a len cap bs) (a0 size : Nat) (p : Int) (ha : a0 ≤ 18446744073709551615) (hs : size ≤ 18446744073709551615) (hp : 1 ≤ p ∧ p ≤ 7) :
    Calls Tryz.prog 20 #[.pointer (some ⟨m, 0, none⟩), .int .u64 (a0 : Int), .int .u64 (size : Int), .int .i64 p, .slice a len cap] w fun e w' => (∃ v, e = .returned v) ∧ Has w0 w' (PMt m (mappedTo S a0 size p bs) :: l) := by
  obtain ⟨F, g1, g2, g3⟩ := h.step
  refine (map_any m S F a0 size p a len cap bs w g1 ha hs (by omega) (by omega) (r.below h.bel) (fun hl x hx hf => by have h1 := g2 _ hf; have h2 := r.blk hl x hx; omega)).mono ?_
  rintro e w' ⟨k1, F', k2, k3⟩
  exact ⟨⟨_, k1⟩, g3 w' (PMt m _) F' k2 k3 (pmt_stays _ _ _)⟩
theorem h_rmap0 (h : Has w0 w (RMt m S :: l)) (r : Rd w0 a len cap bs) (a0 size : Nat) (p : Int) (ha : a0 ≤ 18446744073709551615) (hs : size ≤ 18446744073709551615) (hp : 1 ≤ p ∧ p ≤ 7) :
    Calls Tryz.prog 21 #[.pointer (some ⟨m, 0, none⟩), .int .u64 (a0 : Int), .int .u64 (size : Int), .int .i64 p, .slice a len cap] w fun e w' => (∃ v, e = .returned v) ∧ Has w0 w' (RMt m (mappedTo S a0 size p bs) :: l) := by
  obtain ⟨F, g1, g2, g3⟩ := h.step
  refine (rmap_any m S F a0 size p a len cap bs w g1 ha hs (by omega) (by omega) (r.below h.bel) (fun hl x hx hf => by have h1 := g2 _ hf; have h2 := r.blk hl x hx; omega)).mono ?_
  rintro e w' ⟨k1, F', k2, k3⟩
  exact ⟨⟨_, k1⟩, g3 w' (RMt m _) F' k2 k3 (rmt_stays _ _ _)⟩

/-! ### The document's machine -/

def rcells (mm me : Nat) (x : Nat → Int) (pc : Nat) (k c t : Int) : List Value :=
  .pointer (some ⟨mm, 0, none⟩) :: .pointer (some ⟨me, 0, none⟩) :: ((List.range 32).map (fun i => Value.int .u64 (x i)) ++ [.int .u64 (pc : Int), .int .i64 k, .int .i64 c, .int .i64 t])

/-- Block m is the document's machine over the memory mm and the environment me. -/
def RD (m mm me : Nat) (x : Nat → Int) (pc : Nat) (k c t : Int) (w : World) (F : Nat → Prop) : Prop :=
  w.heap[m]? = some (.cells (rcells mm me x pc k c t).toArray 38 (0, 0)) ∧ Fits x pc k c t ∧ F m ∧ ∀ k, F k → k < w.heap.size
theorem rd_mach_stays (B m mm me : Nat) (x : Nat → Int) (pc : Nat) (k c t : Int) : Stays B (RD m mm me x pc k c t) :=
  ⟨fun ⟨h1, h2, h3, h4⟩ hk hd hG => ⟨(hk.block m (h4 m h3) (hd m h3)).trans h1, h2, h3, fun k hF => Nat.lt_of_lt_of_le (h4 k hF) hk.size⟩, fun ⟨h1, h2, h3, h4⟩ => h4⟩

def RH (w0 w : World) (m mm me : Nat) (M : Mc) (l : List (World → (Nat → Prop) → Prop)) : Prop :=
  Has w0 w (RD m mm me M.x M.pc M.kind M.code M.trap :: RMt mm M.mem :: EV w0.heap.size 62 me M.ins M.tr :: l)

theorem newmach_any (mm me entry : Nat) (w : World) (he : entry ≤ 18446744073709551615) (h : Has w0 w l) :
    Calls Tryz.prog 24 #[.pointer (some ⟨mm, 0, none⟩), .pointer (some ⟨me, 0, none⟩), .int .u64 (entry : Int)] w fun e w' => ∃ m, e = .returned (.pointer (some ⟨m, 0, none⟩)) ∧ Has w0 w' (RD m mm me (fun _ => 0) entry 0 0 0 :: l) := by
  have in0 : (-9223372036854775808 : Int) ≤ 0 ∧ (0 : Int) ≤ 9223372036854775807 := by decide
  have H := hide h
  clear h
  go_enter Tryz.func24, Tryz.ntmps24
  go_wp2
  go_ret
  refine ⟨w.heap.size, rfl, H.out.more (F := fun k => k = w.heap.size) (below_alloc _ _) ⟨heap_alloc_new w _, ⟨fun i => by simp, rfl, fun i hi => rfl, he, in0, in0, in0⟩, rfl, fun k hk => by subst hk; simp⟩ (fun k hk => by subst hk; exact Nat.le_refl _) (rd_mach_stays _ _ _ _ _ _ _ _ _)⟩

end

end Go.Proofs.YtdhjjlnabbpinaaGreatDoor

/- The statements' help 'made': a machine with words at a place where they may be run, data above, and the document's beside it. -/
namespace Go.Proofs.YtdhjjlnabbpinaaGreatDoor
open Go.RowKit Go.Maps
set_option linter.unusedVariables false
set_option maxRecDepth 100000

def wsBytes (ws : List Int) : List Int := ws.flatMap w4
theorem wsBytes_take (ws : List Int) (j : Nat) (h : j < ws.length) : wsBytes (ws.take (j + 1)) = wsBytes (ws.take j) ++ w4 (ws.getD j 0) := by
  unfold wsBytes
  rw [List.take_add_one, List.flatMap_append]
  simp [h]
theorem wsBytes_length : ∀ ws : List Int, (wsBytes ws).length = ws.length * 4
  | [] => rfl
  | x :: ws => by
    have := wsBytes_length ws
    unfold wsBytes at *
    rw [List.flatMap_cons, List.length_append, this, List.length_cons]
    simp [w4]
    omega
theorem wsBytes_bytes (ws : List Int) : Bytes (wsBytes ws) := fun y hy => by
  unfold wsBytes at hy
  obtain ⟨x, _, h⟩ := List.mem_flatMap.1 hy
  exact w4_bytes x y h

/-- The memory that is made. -/
noncomputable def madeS (ws ds : List Int) : Mm := mappedTo (mappedTo Mm.new 65536 4096 5 (wsBytes ws)) 131072 4096 6 ds
noncomputable def madeM (ws ds is : List Int) : Mc := ⟨madeS ws ds, is, [], fun _ => 0, 65536, 0, 0, 0⟩

theorem ownsRow_zero {w : World} {base : Nat} {e : TypeId} {size : Nat} {v : Value} {n : Nat} {xs : List Value} (h : w.ownsRow base e size v n xs) : w.ownsRow 0 e size v n xs := by
  refine ⟨h.1, ?_⟩
  rcases h.2 with h1 | ⟨g, cap, cur, rfl, h2, h3⟩
  · exact Or.inl h1
  · exact Or.inr ⟨g, cap, cur, rfl, Nat.zero_le _, h3⟩

section
variable {w0 w w' : World} {l : List (World → (Nat → Prop) → Prop)}

theorem Has.rowrd {v : Value} {bs : List Int} (h : Has w0 w (RowT v bs :: l)) : ∃ a cap, v = .slice a bs.length cap ∧ Has w0 w (RdT a bs.length cap bs :: l) := by
  obtain ⟨F, ⟨h1, h2, h3, h4⟩, h5, h6⟩ := h.step
  obtain ⟨a, cap, hv, hr⟩ := Rd.own h1 h2
  refine ⟨a, cap, hv, h6 w _ F ⟨hr, fun hl x hx => h3 _ ?_, h4⟩ (Went.refl _ _) (rd_stays _ _ _ _ _)⟩
  subst hx
  rw [hv]
  rfl

theorem perm6 {A B C D E G : World → (Nat → Prop) → Prop} : (A :: B :: C :: D :: E :: G :: l).Perm (C :: D :: E :: A :: G :: B :: l) :=
  (List.Perm.cons A (List.perm_middle (a := B) (l₁ := [C, D, E, G]) (l₂ := l)).symm).trans (List.perm_middle (a := A) (l₁ := [C, D, E]) (l₂ := G :: B :: l)).symm

set_option maxHeartbeats 3200000 in
theorem made_any (a1 : Option Addr) (n1 c1 : Nat) (ws : List Int) (a2 : Option Addr) (n2 c2 : Nat) (ds : List Int) (a3 : Option Addr) (n3 c3 : Nat) (is : List Int) (w : World) (h : Has w0 w l)
    (r1 : Rn .u32 4294967295 w a1 n1 c1 ws) (h1 : n1 ≤ 60) (r2 : Rd w0 a2 n2 c2 ds) (h2 : n2 ≤ 200) (r3 : Rd w0 a3 n3 c3 is) (h3 : n3 ≤ 100) :
    Calls Tryz.prog 7 #[.slice a1 n1 c1, .slice a2 n2 c2, .slice a3 n3 c3] w fun e w' => ∃ m mm me m2 mm2 me2, e = .returned (.tuple #[.pointer (some ⟨m, 0, none⟩), .pointer (some ⟨m2, 0, none⟩)]) ∧
      MH w0 w' m mm me (madeM ws ds is) (RD m2 mm2 me2 (fun _ => 0) 65536 0 0 0 :: RMt mm2 (madeS ws ds) :: EV w0.heap.size 62 me2 is [] :: l) := by
  have H := hide h
  have R1 := hide r1
  have R2 := hide r2
  have R3 := hide r3
  have hl1 := r1.le
  have hm1 := r1.max
  have hl2 := r2.le
  have hm2 := r2.max
  have hl3 := r3.le
  have hm3 := r3.max
  have HL1 := hide r1.length
  clear h r1 r2 r3
  go_enter Tryz.func7, Tryz.ntmps7
  go_wp2
  go_loopg [8, 9] n1 (fun g u i wr => ∃ (j : Nat) (u0 : Value), j ≤ n1 ∧ g = n1 - j ∧ u0 = u ∧ i = .int .i64 j ∧ Hid (wr.ownsRow w.heap.size 5 1 u0 (j * 4) ((wsBytes (ws.take j)).map (Value.int .u8))) ∧ Hid (Below w.heap.size w wr))
  case atStart => exact ⟨0, _, by omega, rfl, rfl, rfl, World.ownsRow_nil _ _ _ _, Below.refl _ _⟩
  case round =>
    obtain ⟨j, u0, hj, rfl, rfl, rfl, HO, HB⟩ := hrel
    by_cases hlt : j < n1
    · have hlt' : (j : Int) < (n1 : Int) := by omega
      obtain ⟨b, o, ha, hc⟩ := R1.out.addr (by omega)
      subst ha
      obtain ⟨y, hy⟩ : ∃ y, ws.getD j 0 = y := ⟨_, rfl⟩
      have hcj := (HB.out.cell (World.block_lt_of_cell? _ _ (hc j hlt))).trans (hc j hlt)
      rw [hy] at hcj
      have hyb : 0 ≤ y ∧ y ≤ 4294967295 := by rw [← hy]; have := R1.out.at j; simpa using this
      have HY := hide hy
      have hy0 := hyb.1
      have hy1 := hyb.2
      clear hc hy hyb
      go_wp2_with fail
      refine (wput4 w.heap.size u0 (j * 4) (wsBytes (ws.take j)) y wr HO.out HB.out.size hy0 hy1 (by omega)).mono ?_
      rintro e W ⟨v', rfl, hO, hB⟩
      have O2 : Hid (W.ownsRow w.heap.size 5 1 v' ((j + 1) * 4) ((wsBytes (ws.take (j + 1))).map (Value.int .u8))) := by
        rw [wsBytes_take ws j (by rw [HL1.out]; exact hlt), HY.out, show (j + 1) * 4 = j * 4 + 4 by omega]
        exact hO
      have B2 := hide (HB.out.trans hB)
      clear hO hB HO HB hcj
      go_wp2
      go_roundg (n1 - (j + 1))
      case measure => omega
      case rel => exact ⟨j + 1, v', by omega, rfl, rfl, by go_num, O2.out, B2.out⟩
    · obtain rfl : j = n1 := by omega
      have hws : ws.take j = ws := List.take_of_length_le (by rw [HL1.out]; exact Nat.le_refl _)
      have hbl : (wsBytes ws).length = j * 4 := by rw [wsBytes_length, HL1.out]
      have hO := HO.out
      rw [hws] at hO
      have hB := H.out.more HB.out (P := RowT u0 (wsBytes ws)) (F := fun k => u0.ownBlock = some k) ⟨by
          unfold RowB
          rw [hbl]
          exact ownsRow_zero hO, wsBytes_bytes ws, fun g hg => hg, fun k hk => ownsRow_blk hO k hk⟩ (fun k hk => (hO.lt k hk).1) (row_stays _ _ _)
      obtain ⟨ab, cb, rfl, hB1⟩ := hB.rowrd
      have HB1 := hide hB1
      rw [hbl] at HB1
      clear hB hB1 hO HO HB hws R1 H
      rw [hbl]
      clear hbl HL1
      go_wp2_with fail
      refine (h_new HB1.out).mono ?_
      rintro e W1 ⟨mm, rfl, g1⟩
      go_wp2_with fail
      refine (h_rnew g1).mono ?_
      rintro e W2 ⟨mm2, rfl, g2⟩
      have G2 := hide (g2.perm p_rot)
      clear g1 g2 HB1
      go_wp2_with fail
      refine (h_map G2.out 65536 4096 5 (by decide) (by decide) (by decide)).mono ?_
      rintro e W3 ⟨⟨v3, rfl⟩, g3⟩
      have G3 := hide ((g3.perm p_back).perm (List.Perm.cons _ (List.Perm.swap ..)))
      clear g3 G2
      go_wp2_with fail
      refine (h_rmap G3.out 65536 4096 5 (by decide) (by decide) (by decide)).mono ?_
      rintro e W4 ⟨⟨v4, rfl⟩, g4⟩
      have G4 := hide (g4.perm p_back)
      clear g4 G3
      go_wp2_with fail
      refine (h_map0 G4.out R2.out 131072 4096 6 (by decide) (by decide) (by decide)).mono ?_
      rintro e W5 ⟨⟨v5, rfl⟩, g5⟩
      have G5 := hide g5.swap
      clear g5 G4
      go_wp2_with fail
      refine (h_rmap0 G5.out R2.out 131072 4096 6 (by decide) (by decide) (by decide)).mono ?_
      rintro e W6 ⟨⟨v6, rfl⟩, g6⟩
      have G6 := hide (g6.perm p_back).drop
      clear g6 G5
      go_wp2_with fail
      refine (has_new G6.out (R3.out.below G6.out.bel) (by omega)).mono ?_
      rintro e W7 ⟨me, rfl, g7⟩
      have G7 := hide (g7.perm p_back)
      clear g7 G6
      go_wp2_with fail
      refine (new_mach mm me 65536 _ _ _ _ G7.out (by decide)).mono ?_
      rintro e W8 ⟨m, rfl, g8⟩
      have G8 := hide (has_ref g8 R3.out)
      clear g8 G7
      go_wp2_with fail
      refine (newmach_any mm2 W8.heap.size 65536 _ (by decide) G8.out).mono ?_
      rintro e W9 ⟨m2, rfl, g9⟩
      have G9 := hide (g9.perm perm6)
      clear g9 G8
      go_wp2
      go_ret2
      exact ⟨m, mm, me, m2, mm2, W8.heap.size, rfl, G9.out⟩

end

end Go.Proofs.YtdhjjlnabbpinaaGreatDoor

/- Plain facts on the memory that the statements make: what may be done where, the words in it; a step at a known word. -/
namespace Go.Proofs.YtdhjjlnabbpinaaGreatDoor
open Go.RowKit Go.Maps
set_option linter.unusedVariables false
set_option maxRecDepth 100000
set_option maxRecDepth 20000

theorem made1_ok (n : Nat) (hn : n ≤ 4096) : mapB Mm.new 65536 4096 5 n = true := mapB_yes ⟨by decide, by decide, hn, by decide, fun i _ _ => rfl⟩
theorem made1_eq (bs : List Int) (hn : bs.length ≤ 4096) : mappedTo Mm.new 65536 4096 5 bs = (Mm.new.mapped 16 1 5).lay 65536 bs := by unfold mappedTo; exact if_pos (made1_ok _ hn)
theorem made1_perm (bs : List Int) (hn : bs.length ≤ 4096) (i : Nat) : (mappedTo Mm.new 65536 4096 5 bs).perm i = if i = 16 then 5 else 0 := by
  rw [made1_eq bs hn]; simp only [Mm.lay, Mm.mapped, Mm.new]
  by_cases h : i = 16
  · rw [if_pos h, if_pos (by omega)]
  · rw [if_neg h, if_neg (by omega)]
theorem made2_ok (bs : List Int) (hn : bs.length ≤ 4096) (n : Nat) (hn2 : n ≤ 4096) : mapB (mappedTo Mm.new 65536 4096 5 bs) 131072 4096 6 n = true :=
  mapB_yes ⟨by decide, by decide, hn2, by rw [made1_eq bs hn]; show 0 + 1 + (4096 + 4095) / 4096 ≤ 65536; decide, fun i h1 h2 => by rw [made1_perm bs hn, if_neg (by omega)]⟩
theorem madeS_eq (ws ds : List Int) (h1 : ws.length ≤ 60) (h2 : ds.length ≤ 4096) : madeS ws ds = ((mappedTo Mm.new 65536 4096 5 (wsBytes ws)).mapped 32 1 6).lay 131072 ds := by
  unfold madeS
  exact if_pos (made2_ok _ (by rw [wsBytes_length]; omega) _ h2)
theorem madeS_perm (ws ds : List Int) (h1 : ws.length ≤ 60) (h2 : ds.length ≤ 4096) (i : Nat) : (madeS ws ds).perm i = if i = 32 then 6 else if i = 16 then 5 else 0 := by
  rw [madeS_eq ws ds h1 h2]; simp only [Mm.lay, Mm.mapped]
  rw [made1_perm _ (by rw [wsBytes_length]; omega)]
  by_cases h : i = 32
  · rw [if_pos h, if_pos (by omega)]
  · rw [if_neg h, if_neg (by omega)]
theorem madeS_byte (ws ds : List Int) (h1 : ws.length ≤ 60) (h2 : ds.length ≤ 4096) (j : Nat) (hj : j < 4096) : (madeS ws ds).byte (65536 + j) = (wsBytes ws).getD j 0 := by
  rw [madeS_eq ws ds h1 h2, made1_eq _ (by rw [wsBytes_length]; omega)]; simp only [Mm.lay, Mm.mapped, Mm.new]
  rw [if_neg (by omega), if_neg (by omega)]
  by_cases h : j < (wsBytes ws).length
  · rw [if_pos (by omega), show 65536 + j - 65536 = j by omega]
  · rw [if_neg (by omega), if_pos (by omega), List.getD_eq_getElem?_getD, List.getElem?_eq_none (by omega)]
    rfl
theorem wsBytes_at : ∀ (ws : List Int) (i k : Nat), k < 4 → (wsBytes ws).getD (4 * i + k) 0 = (w4 (ws.getD i 0)).getD k 0
  | [], i, k, hk => by
    rw [show wsBytes [] = [] from rfl]
    match k, hk with
    | 0, _ => simp [w4]
    | 1, _ => simp [w4]
    | 2, _ => simp [w4]
    | 3, _ => simp [w4]
  | x :: ws, 0, k, hk => by
    rw [show wsBytes (x :: ws) = w4 x ++ wsBytes ws from rfl, List.getD_eq_getElem?_getD, List.getElem?_append_left (by simp [w4]; omega)]
    simp
  | x :: ws, i + 1, k, hk => by
    have h := wsBytes_at ws i k hk
    rw [show wsBytes (x :: ws) = w4 x ++ wsBytes ws from rfl, List.getD_eq_getElem?_getD, List.getElem?_append_right (by simp [w4]; omega), ← List.getD_eq_getElem?_getD]
    rw [show 4 * (i + 1) + k - (w4 x).length = 4 * i + k by simp [w4]; omega, h]
    simp
theorem num_w4 (x : Int) (h0 : 0 ≤ x) (h1 : x ≤ 4294967295) : num (w4 x) = x := by
  simp only [w4, num]
  omega
theorem made_fetch (ws ds : List Int) (h1 : ws.length ≤ 60) (h2 : ds.length ≤ 4096) (i : Nat) (hi : i < 1024) (hw : 0 ≤ ws.getD i 0 ∧ ws.getD i 0 ≤ 4294967295) :
    mayB (madeS ws ds) (65536 + 4 * i) 4 1 = true ∧ fetchV (madeS ws ds) (65536 + 4 * i) = ws.getD i 0 := by
  have hm : mayB (madeS ws ds) (65536 + 4 * i) 4 1 = true := by
    rw [mayB_one (i := 16) (q := 5) (by decide) (by omega) (by omega) (by rw [madeS_perm ws ds h1 h2]; rfl)]
    decide
  refine ⟨hm, ?_⟩
  unfold fetchV
  rw [if_pos hm]
  have e : (madeS ws ds).read (65536 + 4 * i) 4 = w4 (ws.getD i 0) := by
    have hb : ∀ k, k < 4 → (madeS ws ds).byte (65536 + 4 * i + k) = (w4 (ws.getD i 0)).getD k 0 := fun k hk => by
      rw [Nat.add_assoc, madeS_byte ws ds h1 h2 _ (by omega), wsBytes_at ws i k hk]
    have e1 : (madeS ws ds).read (65536 + 4 * i) 4 = [(madeS ws ds).byte (65536 + 4 * i + 0), (madeS ws ds).byte (65536 + 4 * i + 1), (madeS ws ds).byte (65536 + 4 * i + 2), (madeS ws ds).byte (65536 + 4 * i + 3)] := rfl
    rw [e1, hb 0 (by decide), hb 1 (by decide), hb 2 (by decide), hb 3 (by decide)]
    rfl
  rw [e, num_w4 _ hw.1 hw.2]

theorem opOf_eq {v : Int} {o : Nat} (h1 : 1 ≤ o) (h2 : o < 66) (h : Mt o v) : opOf v = o := by
  rcases opOf_is v with ⟨_, h3⟩ | ⟨h3, h4, h5⟩
  · exact absurd h (h3 o h1 h2)
  · exact Mt_one h3 h4 h1 h2 h5 h

/-- A step at a known word. -/
theorem Mc.step_is {M : Mc} {v : Int} {o : Nat} (hk : M.kind = 0) (hp : M.pc % 4 = 0) (hm : mayB M.mem M.pc 4 1 = true) (hv : fetchV M.mem M.pc = v) (h1 : 1 ≤ o) (h2 : o < 66) (hM : Mt o v) :
    M.step = M.doF o (rdO (fmo o) v) (r1O (fmo o) v) (r2O (fmo o) v) (imO (fmo o) v) := by
  unfold Mc.step
  rw [if_pos hk, if_pos hp, if_pos hm, hv, opOf_eq h1 h2 hM, if_neg (by omega)]
theorem Mc.step_ill {M : Mc} {v : Int} (hk : M.kind = 0) (hp : M.pc % 4 = 0) (hm : mayB M.mem M.pc 4 1 = true) (hv : fetchV M.mem M.pc = v) (hM : ∀ o, 1 ≤ o → o < 66 → ¬ Mt o v) : M.step = M.trapped 2 := by
  unfold Mc.step
  have e : opOf v = 0 := by
    rcases opOf_is v with ⟨h3, _⟩ | ⟨h3, h4, h5⟩
    · exact h3
    · exact absurd h5 (hM _ h3 h4)
  rw [if_pos hk, if_pos hp, if_pos hm, hv, e, if_pos rfl]

/-! ### known's run -/

def knW : List Int := [97519763, 7341331, 115]
noncomputable def knM : Mc := madeM knW [] []

theorem kn_run : (knM.runF 9).kind = 1 ∧ (knM.runF 9).code = 7 ∧ (knM.runF 9).trap = 0 ∧ (knM.runF 9).x 17 = 93 ∧ (knM.runF 9).pc = 65544 := by
  have f0 := made_fetch knW [] (by decide) (by decide) 0 (by decide) (by decide)
  have f1 := made_fetch knW [] (by decide) (by decide) 1 (by decide) (by decide)
  have f2 := made_fetch knW [] (by decide) (by decide) 2 (by decide) (by decide)
  have s1 : knM.runF 1 = knM.put 17 93 := by
    show knM.step = _
    rw [Mc.step_is (v := 97519763) (o := 22) rfl (by decide) f0.1 f0.2 (by decide) (by decide) (by decide +kernel)]
    rw [show rdO (fmo ((22 : Nat) : Int)) 97519763 = 17 by decide +kernel, show r1O (fmo ((22 : Nat) : Int)) 97519763 = 0 by decide +kernel, show r2O (fmo ((22 : Nat) : Int)) 97519763 = 0 by decide +kernel, show imO (fmo ((22 : Nat) : Int)) 97519763 = 93 by decide +kernel]
    unfold Mc.doF
    rw [if_neg (by decide), if_neg (by decide), if_neg (by decide), if_neg (by decide), if_neg (by decide), if_neg (by decide), if_neg (by decide), if_pos (by decide), if_pos (show fmo ((22 : Nat) : Int) = 1 by decide +kernel)]
    rfl
  have s2 : knM.runF 2 = (knM.put 17 93).put 10 7 := by
    show (knM.runF 1).step = _
    rw [s1, Mc.step_is (v := 7341331) (o := 22) rfl (by decide) f1.1 f1.2 (by decide) (by decide) (by decide +kernel)]
    rw [show rdO (fmo ((22 : Nat) : Int)) 7341331 = 10 by decide +kernel, show r1O (fmo ((22 : Nat) : Int)) 7341331 = 0 by decide +kernel, show r2O (fmo ((22 : Nat) : Int)) 7341331 = 0 by decide +kernel, show imO (fmo ((22 : Nat) : Int)) 7341331 = 7 by decide +kernel]
    unfold Mc.doF
    rw [if_neg (by decide), if_neg (by decide), if_neg (by decide), if_neg (by decide), if_neg (by decide), if_neg (by decide), if_neg (by decide), if_pos (by decide), if_pos (show fmo ((22 : Nat) : Int) = 1 by decide +kernel)]
    rfl
  have s3 : knM.runF 3 = { (knM.put 17 93).put 10 7 with kind := 1, code := 7, trap := 0 } := by
    show (knM.runF 2).step = _
    rw [s2, Mc.step_is (v := 115) (o := 64) rfl (by decide) f2.1 f2.2 (by decide) (by decide) (by decide +kernel)]
    unfold Mc.doF
    rw [if_neg (by decide), if_neg (by decide), if_neg (by decide), if_neg (by decide), if_neg (by decide), if_neg (by decide), if_neg (by decide), if_neg (by decide), if_neg (by decide), if_pos rfl]
    unfold Mc.call
    rw [if_pos (show ((knM.put 17 93).put 10 7).x 17 = 93 from rfl)]
    rfl
  have e : knM.runF 9 = knM.runF 3 := Mc.runF_ended (by rw [s3]; decide) 9 (by decide)
  rw [e, s3]
  exact ⟨rfl, rfl, rfl, rfl, rfl⟩

end Go.Proofs.YtdhjjlnabbpinaaGreatDoor

/- The statements' known: a program that exits with 7. -/
namespace Go.Proofs.YtdhjjlnabbpinaaGreatDoor
open Go.RowKit Go.Maps
set_option linter.unusedVariables false
set_option maxRecDepth 100000

theorem alu_known (w : World) : Calls Tryz.prog 32 #[.int .i64 53, .int .u64 9223372036854775808, .int .u64 4] w fun e w' => e = .returned (.int .u64 2) ∧ w' = w := by
  have := alu_any 53 9223372036854775808 4 w (by decide) (by decide) (by decide) (by decide) (by decide) (by decide)
  rw [show aluF 53 9223372036854775808 4 = 2 by decide] at this
  exact this

set_option maxHeartbeats 1600000 in
theorem known_8 (w : World) (hL : Laid w) : Calls Tryz.prog 6 #[] w fun e w' => e = .returned (.bool true) ∧ Below w.heap.size w w' := by
  obtain ⟨k1, k2, k3, k4, k5⟩ := kn_run
  have hb : Below w.heap.size w (w.alloc (.cells #[.int .u32 97519763, .int .u32 7341331, .int .u32 115] 48)) := below_alloc _ _
  have hR : Rn .u32 4294967295 (w.alloc (.cells #[.int .u32 97519763, .int .u32 7341331, .int .u32 115] 48)) (some ⟨w.heap.size, 0, none⟩) 3 3 knW := Rn.lit .u32 4294967295 48 w knW (by decide) (by decide) (by decide)
  have HMd := hide (made_any (w0 := w) (l := []) _ _ _ _ none 0 0 [] none 0 0 [] _ (Has.start hb) hR (by decide) (Rd.nothing w) (by decide) (Rd.nothing w) (by decide))
  have HK := hide (And.intro k1 (And.intro k2 (And.intro k3 (And.intro k4 k5))))
  have HL := hide hL
  clear hb hR k1 k2 k3 k4 k5 hL
  go_enter Tryz.func6, Tryz.ntmps6
  go_wp2_with fail
  refine HMd.out.mono ?_
  rintro e W1 ⟨m, mm, me, m2, mm2, me2, rfl, h1⟩
  have H1 := hide h1
  clear h1 HMd
  go_wp2_with fail
  refine (run_any 9 W1 H1.out HL.out (by decide) (by decide) (by decide)).mono ?_
  rintro e W2 ⟨rfl, h2⟩
  have H2 : Hid (MH w W2 m mm me (knM.runF 9) _) := h2
  have e1 : stV (knM.runF 9).kind (knM.runF 9).code (knM.runF 9).trap = .agg #[.int .i64 1, .int .i64 7, .int .i64 0] := by
    rw [HK.out.1, HK.out.2.1, HK.out.2.2.1]
    rfl
  have e2 : stV ((madeM knW [] []).runF 9).kind ((madeM knW [] []).runF 9).code ((madeM knW [] []).runF 9).trap = .agg #[.int .i64 1, .int .i64 7, .int .i64 0] := e1
  rw [e2]
  have HB2 := hide (H2.out.bel.trans ((below_alloc W2 (.cells #[.int .i64 1, .int .i64 7, .int .i64 0] 36)).mono H2.out.bel.size))
  have H3 := hide (H2.out.below (below_alloc W2 (.cells #[.int .i64 1, .int .i64 7, .int .i64 0] 36)))
  have HR := hide (mh_rg H3.out 17 (by decide) 93 HK.out.2.2.2.1)
  obtain ⟨F, hd⟩ := H3.out.hd
  have HP := hide (pc_any _ hd)
  rw [HK.out.2.2.2.2] at HP
  clear e1 e2 h2 H1 H2 H3 hd
  go_wp2_with fail
  refine HR.out.mono ?_
  rintro e W3 ⟨rfl, hW3⟩
  rw [hW3]
  clear hW3 W3
  go_wp2_with fail
  refine HP.out.mono ?_
  rintro e W3 ⟨rfl, hW3⟩
  rw [hW3]
  clear hW3 W3
  go_wp2_with fail
  refine (alu_known _).mono ?_
  rintro e W3 ⟨rfl, hW3⟩
  rw [hW3]
  clear hW3 W3
  go_wp2
  go_ret
  exact ⟨rfl, HB2.out⟩

end Go.Proofs.YtdhjjlnabbpinaaGreatDoor

/- Contracts of the document's Alu and of what it calls: each operation makes of two numbers what aluF says. -/
namespace Go.Proofs.YtdhjjlnabbpinaaGreatDoor
open Go.RowKit
set_option linter.unusedVariables false
set_option maxRecDepth 100000
set_option linter.unusedSimpArgs false

theorem one_any (b : Bool) (w : World) : Calls Tryz.prog 90 #[.bool b] w fun e w' => e = .returned (.int .u64 (if b = true then 1 else 0)) ∧ w' = w := by
  cases b
  · go_enter Tryz.func90, Tryz.ntmps90
    go_wp2
    go_ret
    exact ⟨rfl, rfl⟩
  · go_enter Tryz.func90, Tryz.ntmps90
    go_wp2
    go_ret
    exact ⟨rfl, rfl⟩

theorem word_any' (a : Int) (w : World) : Calls Tryz.prog 91 #[.int .u64 a] w fun e w' => e = .returned (.int .u64 (sx a)) ∧ w' = w := by
  go_enter Tryz.func91, Tryz.ntmps91
  go_wp2
  go_ret
  refine ⟨ret_int ?_, rfl⟩
  first | rfl | (simp only [aluF, wrap_u64, wrap_u32, wrap_s64, wrap_s32, wrap64_is, wrap32_is, sx_def]; done) | (simp only [aluF, wrap_u64, wrap_u32, wrap_s64, wrap_s32, wrap64_is, wrap32_is, sx_def]; rfl) | (rw [HK.out]; rfl)

theorem rdiv_any' (a b : Int) (w : World) (a0 : -9223372036854775808 ≤ a) (a1 : a ≤ 9223372036854775807) (b0 : -9223372036854775808 ≤ b) (b1 : b ≤ 9223372036854775807) :
    Calls Tryz.prog 93 #[.int .i64 a, .int .i64 b] w fun e w' => e = .returned (.int .i64 (if b = 0 then -1 else s64 (a.tdiv b))) ∧ w' = w := by
  by_cases hb : b = 0
  · rw [if_pos hb]
    subst hb
    go_enter Tryz.func93, Tryz.ntmps93
    go_wp2
    go_ret
    exact ⟨rfl, rfl⟩
  · rw [if_neg hb]
    have hb' : (b == 0) = false := by simpa using hb
    by_cases h1 : b = -1
    · subst h1
      have e : s64 (a.tdiv (-1)) = s64 (-a) := by rw [Int.tdiv_neg, Int.tdiv_one]
      rw [e]
      go_enter Tryz.func93, Tryz.ntmps93
      go_wp2
      go_ret
      exact ⟨ret_int (by simp only [wrap64_is]), rfl⟩
    · have h1' : (b == -1) = false := by simpa using h1
      go_enter Tryz.func93, Tryz.ntmps93
      go_wp2
      go_ret
      exact ⟨ret_int (by simp only [wrap64_is]), rfl⟩

theorem rrem_any' (a b : Int) (w : World) (a0 : -9223372036854775808 ≤ a) (a1 : a ≤ 9223372036854775807) (b0 : -9223372036854775808 ≤ b) (b1 : b ≤ 9223372036854775807) :
    Calls Tryz.prog 95 #[.int .i64 a, .int .i64 b] w fun e w' => e = .returned (.int .i64 (if b = 0 then a else a.tmod b)) ∧ w' = w := by
  by_cases hb : b = 0
  · rw [if_pos hb]
    subst hb
    go_enter Tryz.func95, Tryz.ntmps95
    go_wp2
    go_ret
    exact ⟨rfl, rfl⟩
  · rw [if_neg hb]
    have hb' : (b == 0) = false := by simpa using hb
    by_cases h1 : b = -1
    · subst h1
      have e : a.tmod (-1) = 0 := by rw [Int.tmod_neg, Int.tmod_one]
      rw [e]
      go_enter Tryz.func95, Tryz.ntmps95
      go_wp2
      go_ret
      exact ⟨rfl, rfl⟩
    · have h1' : (b == -1) = false := by simpa using h1
      go_enter Tryz.func95, Tryz.ntmps95
      go_wp2
      go_ret
      exact ⟨rfl, rfl⟩

theorem rdivu_any' (a b : Int) (w : World) (a0 : 0 ≤ a) (a1 : a ≤ 18446744073709551615) (b0 : 0 ≤ b) (b1 : b ≤ 18446744073709551615) :
    Calls Tryz.prog 94 #[.int .u64 a, .int .u64 b] w fun e w' => e = .returned (.int .u64 (if b = 0 then 18446744073709551615 else a / b)) ∧ w' = w := by
  by_cases hb : b = 0
  · rw [if_pos hb]
    subst hb
    go_enter Tryz.func94, Tryz.ntmps94
    go_wp2
    go_ret
    exact ⟨rfl, rfl⟩
  · rw [if_neg hb]
    have hb' : (b == 0) = false := by simpa using hb
    go_enter Tryz.func94, Tryz.ntmps94
    go_wp2
    go_ret
    exact ⟨rfl, rfl⟩

theorem rremu_any' (a b : Int) (w : World) (a0 : 0 ≤ a) (a1 : a ≤ 18446744073709551615) (b0 : 0 ≤ b) (b1 : b ≤ 18446744073709551615) :
    Calls Tryz.prog 96 #[.int .u64 a, .int .u64 b] w fun e w' => e = .returned (.int .u64 (if b = 0 then a else a % b)) ∧ w' = w := by
  by_cases hb : b = 0
  · rw [if_pos hb]
    subst hb
    go_enter Tryz.func96, Tryz.ntmps96
    go_wp2
    go_ret
    exact ⟨rfl, rfl⟩
  · rw [if_neg hb]
    have hb' : (b == 0) = false := by simpa using hb
    go_enter Tryz.func96, Tryz.ntmps96
    go_wp2
    go_ret
    exact ⟨rfl, rfl⟩

theorem rmulh_51 (a b : Int) (w : World) (a0 : 0 ≤ a) (a1 : a ≤ 18446744073709551615) (b0 : 0 ≤ b) (b1 : b ≤ 18446744073709551615) :
    Calls Tryz.prog 92 #[.int .u64 a, .int .u64 b, .bool true, .bool true] w fun e w' => e = .returned (.int .u64 (aluF 51 a b)) ∧ w' = w := by
  obtain ⟨x, rfl⟩ := Int.eq_ofNat_of_zero_le a0
  obtain ⟨y, rfl⟩ := Int.eq_ofNat_of_zero_le b0
  have HM := hide (Tryz.bits_Mul64 x y (by omega) (by omega) w)
  obtain ⟨h, hh⟩ : ∃ h : Nat, x * y / 18446744073709551616 = h := ⟨_, rfl⟩
  obtain ⟨l, hl⟩ : ∃ l : Nat, x * y % 18446744073709551616 = l := ⟨_, rfl⟩
  have eh : (x : Int) * (y : Int) / 18446744073709551616 = (h : Int) := by rw [← hh, ← Int.natCast_mul]; simp
  have hb : h ≤ 18446744073709551615 := by rw [← hh]; exact hi_bd (by omega) (by omega)
  have hlb : l ≤ 18446744073709551615 := by rw [← hl]; omega
  rw [hh, hl] at HM
  have EH := hide eh
  clear eh hh hl
  have hsa : (decide (wrap64 (x : Int) < 0) = true ∧ s64 x < 0) ∨ (decide (wrap64 (x : Int) < 0) = false ∧ ¬ s64 x < 0) := by
    rw [wrap64_is]; by_cases h : s64 x < 0 <;> simp [h]
  have hsb : (decide (wrap64 (y : Int) < 0) = true ∧ s64 y < 0) ∨ (decide (wrap64 (y : Int) < 0) = false ∧ ¬ s64 y < 0) := by
    rw [wrap64_is]; by_cases h : s64 y < 0 <;> simp [h]
  rcases hsa with ⟨ta, na⟩ | ⟨ta, na⟩ <;> rcases hsb with ⟨tb, nb⟩ | ⟨tb, nb⟩
  all_goals have NA := hide na
  all_goals clear na
  all_goals have NB := hide nb
  all_goals clear nb
  all_goals go_enter Tryz.func92, Tryz.ntmps92
  all_goals go_wp2_with fail
  all_goals refine HM.out.mono ?_
  all_goals rintro e w' ⟨rfl, rfl⟩
  all_goals go_wp2
  all_goals go_ret
  all_goals refine ⟨ret_int ?_, rfl⟩
  all_goals simp only [aluF, wrap_u64, wrap_u32, wrap_s64, wrap_s32, wrap64_is, wrap32_is, sx_def, EH.out]
  all_goals have na := NA.out
  all_goals have nb := NB.out
  all_goals repeat' split
  all_goals unfold u64
  all_goals omega

theorem rmulh_52 (a b : Int) (w : World) (a0 : 0 ≤ a) (a1 : a ≤ 18446744073709551615) (b0 : 0 ≤ b) (b1 : b ≤ 18446744073709551615) :
    Calls Tryz.prog 92 #[.int .u64 a, .int .u64 b, .bool true, .bool false] w fun e w' => e = .returned (.int .u64 (aluF 52 a b)) ∧ w' = w := by
  obtain ⟨x, rfl⟩ := Int.eq_ofNat_of_zero_le a0
  obtain ⟨y, rfl⟩ := Int.eq_ofNat_of_zero_le b0
  have HM := hide (Tryz.bits_Mul64 x y (by omega) (by omega) w)
  obtain ⟨h, hh⟩ : ∃ h : Nat, x * y / 18446744073709551616 = h := ⟨_, rfl⟩
  obtain ⟨l, hl⟩ : ∃ l : Nat, x * y % 18446744073709551616 = l := ⟨_, rfl⟩
  have eh : (x : Int) * (y : Int) / 18446744073709551616 = (h : Int) := by rw [← hh, ← Int.natCast_mul]; simp
  have hb : h ≤ 18446744073709551615 := by rw [← hh]; exact hi_bd (by omega) (by omega)
  have hlb : l ≤ 18446744073709551615 := by rw [← hl]; omega
  rw [hh, hl] at HM
  have EH := hide eh
  clear eh hh hl
  have hsa : (decide (wrap64 (x : Int) < 0) = true ∧ s64 x < 0) ∨ (decide (wrap64 (x : Int) < 0) = false ∧ ¬ s64 x < 0) := by
    rw [wrap64_is]; by_cases h : s64 x < 0 <;> simp [h]
  rcases hsa with ⟨ta, na⟩ | ⟨ta, na⟩
  all_goals have NA := hide na
  all_goals clear na
  all_goals go_enter Tryz.func92, Tryz.ntmps92
  all_goals go_wp2_with fail
  all_goals refine HM.out.mono ?_
  all_goals rintro e w' ⟨rfl, rfl⟩
  all_goals go_wp2
  all_goals go_ret
  all_goals refine ⟨ret_int ?_, rfl⟩
  all_goals simp only [aluF, wrap_u64, wrap_u32, wrap_s64, wrap_s32, wrap64_is, wrap32_is, sx_def, EH.out]
  all_goals have na := NA.out
  all_goals repeat' split
  all_goals unfold u64
  all_goals omega

theorem rmulh_53 (a b : Int) (w : World) (a0 : 0 ≤ a) (a1 : a ≤ 18446744073709551615) (b0 : 0 ≤ b) (b1 : b ≤ 18446744073709551615) :
    Calls Tryz.prog 92 #[.int .u64 a, .int .u64 b, .bool false, .bool false] w fun e w' => e = .returned (.int .u64 (aluF 53 a b)) ∧ w' = w := by
  obtain ⟨x, rfl⟩ := Int.eq_ofNat_of_zero_le a0
  obtain ⟨y, rfl⟩ := Int.eq_ofNat_of_zero_le b0
  have HM := hide (Tryz.bits_Mul64 x y (by omega) (by omega) w)
  obtain ⟨h, hh⟩ : ∃ h : Nat, x * y / 18446744073709551616 = h := ⟨_, rfl⟩
  obtain ⟨l, hl⟩ : ∃ l : Nat, x * y % 18446744073709551616 = l := ⟨_, rfl⟩
  have eh : (x : Int) * (y : Int) / 18446744073709551616 = (h : Int) := by rw [← hh, ← Int.natCast_mul]; simp
  have hb : h ≤ 18446744073709551615 := by rw [← hh]; exact hi_bd (by omega) (by omega)
  have hlb : l ≤ 18446744073709551615 := by rw [← hl]; omega
  rw [hh, hl] at HM
  have EH := hide eh
  clear eh hh hl
  all_goals go_enter Tryz.func92, Tryz.ntmps92
  all_goals go_wp2_with fail
  all_goals refine HM.out.mono ?_
  all_goals rintro e w' ⟨rfl, rfl⟩
  all_goals go_wp2
  all_goals go_ret
  all_goals refine ⟨ret_int ?_, rfl⟩
  all_goals simp only [aluF, wrap_u64, wrap_u32, wrap_s64, wrap_s32, wrap64_is, wrap32_is, sx_def, EH.out]

theorem ralu_22 (a b : Int) (w : World) (a0 : 0 ≤ a) (a1 : a ≤ 18446744073709551615) (b0 : 0 ≤ b) (b1 : b ≤ 18446744073709551615) :
    Calls Tryz.prog 45 #[.int .i64 22, .int .u64 a, .int .u64 b] w fun e w' => e = .returned (.int .u64 (aluF 22 a b)) ∧ w' = w := by
  go_enter Tryz.func45, Tryz.ntmps45
  go_wp2
  go_ret
  refine ⟨ret_int ?_, rfl⟩
  first | rfl | (simp only [aluF, wrap_u64, wrap_u32, wrap_s64, wrap_s32, wrap64_is, wrap32_is, sx_def]; done) | (simp only [aluF, wrap_u64, wrap_u32, wrap_s64, wrap_s32, wrap64_is, wrap32_is, sx_def]; rfl) | (rw [HK.out]; rfl)

theorem ralu_31 (a b : Int) (w : World) (a0 : 0 ≤ a) (a1 : a ≤ 18446744073709551615) (b0 : 0 ≤ b) (b1 : b ≤ 18446744073709551615) :
    Calls Tryz.prog 45 #[.int .i64 31, .int .u64 a, .int .u64 b] w fun e w' => e = .returned (.int .u64 (aluF 31 a b)) ∧ w' = w := by
  go_enter Tryz.func45, Tryz.ntmps45
  go_wp2
  go_ret
  refine ⟨ret_int ?_, rfl⟩
  first | rfl | (simp only [aluF, wrap_u64, wrap_u32, wrap_s64, wrap_s32, wrap64_is, wrap32_is, sx_def]; done) | (simp only [aluF, wrap_u64, wrap_u32, wrap_s64, wrap_s32, wrap64_is, wrap32_is, sx_def]; rfl) | (rw [HK.out]; rfl)

theorem ralu_32 (a b : Int) (w : World) (a0 : 0 ≤ a) (a1 : a ≤ 18446744073709551615) (b0 : 0 ≤ b) (b1 : b ≤ 18446744073709551615) :
    Calls Tryz.prog 45 #[.int .i64 32, .int .u64 a, .int .u64 b] w fun e w' => e = .returned (.int .u64 (aluF 32 a b)) ∧ w' = w := by
  go_enter Tryz.func45, Tryz.ntmps45
  go_wp2
  go_ret
  refine ⟨ret_int ?_, rfl⟩
  first | rfl | (simp only [aluF, wrap_u64, wrap_u32, wrap_s64, wrap_s32, wrap64_is, wrap32_is, sx_def]; done) | (simp only [aluF, wrap_u64, wrap_u32, wrap_s64, wrap_s32, wrap64_is, wrap32_is, sx_def]; rfl) | (rw [HK.out]; rfl)

theorem ralu_25 (a b : Int) (w : World) (a0 : 0 ≤ a) (a1 : a ≤ 18446744073709551615) (b0 : 0 ≤ b) (b1 : b ≤ 18446744073709551615) :
    Calls Tryz.prog 45 #[.int .i64 25, .int .u64 a, .int .u64 b] w fun e w' => e = .returned (.int .u64 (aluF 25 a b)) ∧ w' = w := by
  go_enter Tryz.func45, Tryz.ntmps45
  go_wp2
  go_ret
  exact ⟨rfl, rfl⟩

theorem ralu_36 (a b : Int) (w : World) (a0 : 0 ≤ a) (a1 : a ≤ 18446744073709551615) (b0 : 0 ≤ b) (b1 : b ≤ 18446744073709551615) :
    Calls Tryz.prog 45 #[.int .i64 36, .int .u64 a, .int .u64 b] w fun e w' => e = .returned (.int .u64 (aluF 36 a b)) ∧ w' = w := by
  go_enter Tryz.func45, Tryz.ntmps45
  go_wp2
  go_ret
  exact ⟨rfl, rfl⟩

theorem ralu_26 (a b : Int) (w : World) (a0 : 0 ≤ a) (a1 : a ≤ 18446744073709551615) (b0 : 0 ≤ b) (b1 : b ≤ 18446744073709551615) :
    Calls Tryz.prog 45 #[.int .i64 26, .int .u64 a, .int .u64 b] w fun e w' => e = .returned (.int .u64 (aluF 26 a b)) ∧ w' = w := by
  go_enter Tryz.func45, Tryz.ntmps45
  go_wp2
  go_ret
  exact ⟨rfl, rfl⟩

theorem ralu_39 (a b : Int) (w : World) (a0 : 0 ≤ a) (a1 : a ≤ 18446744073709551615) (b0 : 0 ≤ b) (b1 : b ≤ 18446744073709551615) :
    Calls Tryz.prog 45 #[.int .i64 39, .int .u64 a, .int .u64 b] w fun e w' => e = .returned (.int .u64 (aluF 39 a b)) ∧ w' = w := by
  go_enter Tryz.func45, Tryz.ntmps45
  go_wp2
  go_ret
  exact ⟨rfl, rfl⟩

theorem ralu_27 (a b : Int) (w : World) (a0 : 0 ≤ a) (a1 : a ≤ 18446744073709551615) (b0 : 0 ≤ b) (b1 : b ≤ 18446744073709551615) :
    Calls Tryz.prog 45 #[.int .i64 27, .int .u64 a, .int .u64 b] w fun e w' => e = .returned (.int .u64 (aluF 27 a b)) ∧ w' = w := by
  go_enter Tryz.func45, Tryz.ntmps45
  go_wp2
  go_ret
  exact ⟨rfl, rfl⟩

theorem ralu_40 (a b : Int) (w : World) (a0 : 0 ≤ a) (a1 : a ≤ 18446744073709551615) (b0 : 0 ≤ b) (b1 : b ≤ 18446744073709551615) :
    Calls Tryz.prog 45 #[.int .i64 40, .int .u64 a, .int .u64 b] w fun e w' => e = .returned (.int .u64 (aluF 40 a b)) ∧ w' = w := by
  go_enter Tryz.func45, Tryz.ntmps45
  go_wp2
  go_ret
  exact ⟨rfl, rfl⟩

theorem ralu_50 (a b : Int) (w : World) (a0 : 0 ≤ a) (a1 : a ≤ 18446744073709551615) (b0 : 0 ≤ b) (b1 : b ≤ 18446744073709551615) :
    Calls Tryz.prog 45 #[.int .i64 50, .int .u64 a, .int .u64 b] w fun e w' => e = .returned (.int .u64 (aluF 50 a b)) ∧ w' = w := by
  go_enter Tryz.func45, Tryz.ntmps45
  go_wp2
  go_ret
  refine ⟨ret_int ?_, rfl⟩
  first | rfl | (simp only [aluF, wrap_u64, wrap_u32, wrap_s64, wrap_s32, wrap64_is, wrap32_is, sx_def]; done) | (simp only [aluF, wrap_u64, wrap_u32, wrap_s64, wrap_s32, wrap64_is, wrap32_is, sx_def]; rfl) | (rw [HK.out]; rfl)

theorem ralu_23 (a b : Int) (w : World) (a0 : 0 ≤ a) (a1 : a ≤ 18446744073709551615) (b0 : 0 ≤ b) (b1 : b ≤ 18446744073709551615) :
    Calls Tryz.prog 45 #[.int .i64 23, .int .u64 a, .int .u64 b] w fun e w' => e = .returned (.int .u64 (aluF 23 a b)) ∧ w' = w := by
  obtain ⟨t, ht⟩ : ∃ t : Bool, decide (wrap64 a < wrap64 b) = t := ⟨_, rfl⟩
  have HT := hide (one_any t w)
  have hv : (if t = true then (1 : Int) else 0) = aluF 23 a b := by
    simp only [aluF, ← ht, decide_eq_true_eq, wrap64_is]
  have HV := hide hv
  clear hv
  generalize (if t = true then (1 : Int) else 0) = v at *
  go_enter Tryz.func45, Tryz.ntmps45
  go_wp2_with fail
  refine HT.out.mono ?_
  rintro e w' ⟨rfl, rfl⟩
  go_wp2
  go_ret
  exact ⟨ret_int HV.out, rfl⟩

theorem ralu_34 (a b : Int) (w : World) (a0 : 0 ≤ a) (a1 : a ≤ 18446744073709551615) (b0 : 0 ≤ b) (b1 : b ≤ 18446744073709551615) :
    Calls Tryz.prog 45 #[.int .i64 34, .int .u64 a, .int .u64 b] w fun e w' => e = .returned (.int .u64 (aluF 34 a b)) ∧ w' = w := by
  obtain ⟨t, ht⟩ : ∃ t : Bool, decide (wrap64 a < wrap64 b) = t := ⟨_, rfl⟩
  have HT := hide (one_any t w)
  have hv : (if t = true then (1 : Int) else 0) = aluF 34 a b := by
    simp only [aluF, ← ht, decide_eq_true_eq, wrap64_is]
  have HV := hide hv
  clear hv
  generalize (if t = true then (1 : Int) else 0) = v at *
  go_enter Tryz.func45, Tryz.ntmps45
  go_wp2_with fail
  refine HT.out.mono ?_
  rintro e w' ⟨rfl, rfl⟩
  go_wp2
  go_ret
  exact ⟨ret_int HV.out, rfl⟩

theorem ralu_24 (a b : Int) (w : World) (a0 : 0 ≤ a) (a1 : a ≤ 18446744073709551615) (b0 : 0 ≤ b) (b1 : b ≤ 18446744073709551615) :
    Calls Tryz.prog 45 #[.int .i64 24, .int .u64 a, .int .u64 b] w fun e w' => e = .returned (.int .u64 (aluF 24 a b)) ∧ w' = w := by
  obtain ⟨t, ht⟩ : ∃ t : Bool, decide (a < b) = t := ⟨_, rfl⟩
  have HT := hide (one_any t w)
  have hv : (if t = true then (1 : Int) else 0) = aluF 24 a b := by
    simp only [aluF, ← ht, decide_eq_true_eq, wrap64_is]
  have HV := hide hv
  clear hv
  generalize (if t = true then (1 : Int) else 0) = v at *
  go_enter Tryz.func45, Tryz.ntmps45
  go_wp2_with fail
  refine HT.out.mono ?_
  rintro e w' ⟨rfl, rfl⟩
  go_wp2
  go_ret
  exact ⟨ret_int HV.out, rfl⟩

theorem ralu_35 (a b : Int) (w : World) (a0 : 0 ≤ a) (a1 : a ≤ 18446744073709551615) (b0 : 0 ≤ b) (b1 : b ≤ 18446744073709551615) :
    Calls Tryz.prog 45 #[.int .i64 35, .int .u64 a, .int .u64 b] w fun e w' => e = .returned (.int .u64 (aluF 35 a b)) ∧ w' = w := by
  obtain ⟨t, ht⟩ : ∃ t : Bool, decide (a < b) = t := ⟨_, rfl⟩
  have HT := hide (one_any t w)
  have hv : (if t = true then (1 : Int) else 0) = aluF 35 a b := by
    simp only [aluF, ← ht, decide_eq_true_eq, wrap64_is]
  have HV := hide hv
  clear hv
  generalize (if t = true then (1 : Int) else 0) = v at *
  go_enter Tryz.func45, Tryz.ntmps45
  go_wp2_with fail
  refine HT.out.mono ?_
  rintro e w' ⟨rfl, rfl⟩
  go_wp2
  go_ret
  exact ⟨ret_int HV.out, rfl⟩

theorem ralu_28 (a b : Int) (w : World) (a0 : 0 ≤ a) (a1 : a ≤ 18446744073709551615) (b0 : 0 ≤ b) (b1 : b ≤ 18446744073709551615) :
    Calls Tryz.prog 45 #[.int .i64 28, .int .u64 a, .int .u64 b] w fun e w' => e = .returned (.int .u64 (aluF 28 a b)) ∧ w' = w := by
  obtain ⟨k, hk, hk1, hk2⟩ := and63 b0 b1
  have HK := hide hk2
  clear hk2
  go_enter Tryz.func45, Tryz.ntmps45
  go_wp2
  go_ret
  refine ⟨ret_int ?_, rfl⟩
  first | rfl | (simp only [aluF, wrap_u64, wrap_u32, wrap_s64, wrap_s32, wrap64_is, wrap32_is, sx_def, HK.out]; done) | (simp only [aluF, wrap_u64, wrap_u32, wrap_s64, wrap_s32, wrap64_is, wrap32_is, sx_def, HK.out]; rfl) | (rw [HK.out]; rfl)

theorem ralu_33 (a b : Int) (w : World) (a0 : 0 ≤ a) (a1 : a ≤ 18446744073709551615) (b0 : 0 ≤ b) (b1 : b ≤ 18446744073709551615) :
    Calls Tryz.prog 45 #[.int .i64 33, .int .u64 a, .int .u64 b] w fun e w' => e = .returned (.int .u64 (aluF 33 a b)) ∧ w' = w := by
  obtain ⟨k, hk, hk1, hk2⟩ := and63 b0 b1
  have HK := hide hk2
  clear hk2
  go_enter Tryz.func45, Tryz.ntmps45
  go_wp2
  go_ret
  refine ⟨ret_int ?_, rfl⟩
  first | rfl | (simp only [aluF, wrap_u64, wrap_u32, wrap_s64, wrap_s32, wrap64_is, wrap32_is, sx_def, HK.out]; done) | (simp only [aluF, wrap_u64, wrap_u32, wrap_s64, wrap_s32, wrap64_is, wrap32_is, sx_def, HK.out]; rfl) | (rw [HK.out]; rfl)

theorem ralu_29 (a b : Int) (w : World) (a0 : 0 ≤ a) (a1 : a ≤ 18446744073709551615) (b0 : 0 ≤ b) (b1 : b ≤ 18446744073709551615) :
    Calls Tryz.prog 45 #[.int .i64 29, .int .u64 a, .int .u64 b] w fun e w' => e = .returned (.int .u64 (aluF 29 a b)) ∧ w' = w := by
  obtain ⟨k, hk, hk1, hk2⟩ := and63 b0 b1
  have HK := hide hk2
  clear hk2
  go_enter Tryz.func45, Tryz.ntmps45
  go_wp2
  go_ret
  refine ⟨ret_int ?_, rfl⟩
  first | rfl | (simp only [aluF, wrap_u64, wrap_u32, wrap_s64, wrap_s32, wrap64_is, wrap32_is, sx_def, HK.out]; done) | (simp only [aluF, wrap_u64, wrap_u32, wrap_s64, wrap_s32, wrap64_is, wrap32_is, sx_def, HK.out]; rfl) | (rw [HK.out]; rfl)

theorem ralu_37 (a b : Int) (w : World) (a0 : 0 ≤ a) (a1 : a ≤ 18446744073709551615) (b0 : 0 ≤ b) (b1 : b ≤ 18446744073709551615) :
    Calls Tryz.prog 45 #[.int .i64 37, .int .u64 a, .int .u64 b] w fun e w' => e = .returned (.int .u64 (aluF 37 a b)) ∧ w' = w := by
  obtain ⟨k, hk, hk1, hk2⟩ := and63 b0 b1
  have HK := hide hk2
  clear hk2
  go_enter Tryz.func45, Tryz.ntmps45
  go_wp2
  go_ret
  refine ⟨ret_int ?_, rfl⟩
  first | rfl | (simp only [aluF, wrap_u64, wrap_u32, wrap_s64, wrap_s32, wrap64_is, wrap32_is, sx_def, HK.out]; done) | (simp only [aluF, wrap_u64, wrap_u32, wrap_s64, wrap_s32, wrap64_is, wrap32_is, sx_def, HK.out]; rfl) | (rw [HK.out]; rfl)

theorem ralu_30 (a b : Int) (w : World) (a0 : 0 ≤ a) (a1 : a ≤ 18446744073709551615) (b0 : 0 ≤ b) (b1 : b ≤ 18446744073709551615) :
    Calls Tryz.prog 45 #[.int .i64 30, .int .u64 a, .int .u64 b] w fun e w' => e = .returned (.int .u64 (aluF 30 a b)) ∧ w' = w := by
  obtain ⟨k, hk, hk1, hk2⟩ := and63 b0 b1
  have HK := hide hk2
  clear hk2
  go_enter Tryz.func45, Tryz.ntmps45
  go_wp2
  go_ret
  refine ⟨ret_int ?_, rfl⟩
  first | rfl | (simp only [aluF, wrap_u64, wrap_u32, wrap_s64, wrap_s32, wrap64_is, wrap32_is, sx_def, HK.out]; done) | (simp only [aluF, wrap_u64, wrap_u32, wrap_s64, wrap_s32, wrap64_is, wrap32_is, sx_def, HK.out]; rfl) | (rw [HK.out]; rfl)

theorem ralu_38 (a b : Int) (w : World) (a0 : 0 ≤ a) (a1 : a ≤ 18446744073709551615) (b0 : 0 ≤ b) (b1 : b ≤ 18446744073709551615) :
    Calls Tryz.prog 45 #[.int .i64 38, .int .u64 a, .int .u64 b] w fun e w' => e = .returned (.int .u64 (aluF 38 a b)) ∧ w' = w := by
  obtain ⟨k, hk, hk1, hk2⟩ := and63 b0 b1
  have HK := hide hk2
  clear hk2
  go_enter Tryz.func45, Tryz.ntmps45
  go_wp2
  go_ret
  refine ⟨ret_int ?_, rfl⟩
  first | rfl | (simp only [aluF, wrap_u64, wrap_u32, wrap_s64, wrap_s32, wrap64_is, wrap32_is, sx_def, HK.out]; done) | (simp only [aluF, wrap_u64, wrap_u32, wrap_s64, wrap_s32, wrap64_is, wrap32_is, sx_def, HK.out]; rfl) | (rw [HK.out]; rfl)

theorem ralu_41 (a b : Int) (w : World) (a0 : 0 ≤ a) (a1 : a ≤ 18446744073709551615) (b0 : 0 ≤ b) (b1 : b ≤ 18446744073709551615) :
    Calls Tryz.prog 45 #[.int .i64 41, .int .u64 a, .int .u64 b] w fun e w' => e = .returned (.int .u64 (aluF 41 a b)) ∧ w' = w := by
  go_enter Tryz.func45, Tryz.ntmps45
  go_wp2_with fail
  refine (word_any' _ _).mono ?_
  rintro e w' ⟨rfl, rfl⟩
  go_wp2
  go_ret
  refine ⟨ret_int ?_, rfl⟩
  simp only [aluF, wrap_u64, wrap_u32, wrap_s64, wrap_s32, wrap64_is, wrap32_is, sx_def, sx_u64]

theorem ralu_45 (a b : Int) (w : World) (a0 : 0 ≤ a) (a1 : a ≤ 18446744073709551615) (b0 : 0 ≤ b) (b1 : b ≤ 18446744073709551615) :
    Calls Tryz.prog 45 #[.int .i64 45, .int .u64 a, .int .u64 b] w fun e w' => e = .returned (.int .u64 (aluF 45 a b)) ∧ w' = w := by
  go_enter Tryz.func45, Tryz.ntmps45
  go_wp2_with fail
  refine (word_any' _ _).mono ?_
  rintro e w' ⟨rfl, rfl⟩
  go_wp2
  go_ret
  refine ⟨ret_int ?_, rfl⟩
  simp only [aluF, wrap_u64, wrap_u32, wrap_s64, wrap_s32, wrap64_is, wrap32_is, sx_def, sx_u64]

theorem ralu_46 (a b : Int) (w : World) (a0 : 0 ≤ a) (a1 : a ≤ 18446744073709551615) (b0 : 0 ≤ b) (b1 : b ≤ 18446744073709551615) :
    Calls Tryz.prog 45 #[.int .i64 46, .int .u64 a, .int .u64 b] w fun e w' => e = .returned (.int .u64 (aluF 46 a b)) ∧ w' = w := by
  go_enter Tryz.func45, Tryz.ntmps45
  go_wp2_with fail
  refine (word_any' _ _).mono ?_
  rintro e w' ⟨rfl, rfl⟩
  go_wp2
  go_ret
  refine ⟨ret_int ?_, rfl⟩
  simp only [aluF, wrap_u64, wrap_u32, wrap_s64, wrap_s32, wrap64_is, wrap32_is, sx_def, sx_u64]

theorem ralu_58 (a b : Int) (w : World) (a0 : 0 ≤ a) (a1 : a ≤ 18446744073709551615) (b0 : 0 ≤ b) (b1 : b ≤ 18446744073709551615) :
    Calls Tryz.prog 45 #[.int .i64 58, .int .u64 a, .int .u64 b] w fun e w' => e = .returned (.int .u64 (aluF 58 a b)) ∧ w' = w := by
  go_enter Tryz.func45, Tryz.ntmps45
  go_wp2_with fail
  refine (word_any' _ _).mono ?_
  rintro e w' ⟨rfl, rfl⟩
  go_wp2
  go_ret
  refine ⟨ret_int ?_, rfl⟩
  simp only [aluF, wrap_u64, wrap_u32, wrap_s64, wrap_s32, wrap64_is, wrap32_is, sx_def, sx_u64]

theorem ralu_42 (a b : Int) (w : World) (a0 : 0 ≤ a) (a1 : a ≤ 18446744073709551615) (b0 : 0 ≤ b) (b1 : b ≤ 18446744073709551615) :
    Calls Tryz.prog 45 #[.int .i64 42, .int .u64 a, .int .u64 b] w fun e w' => e = .returned (.int .u64 (aluF 42 a b)) ∧ w' = w := by
  obtain ⟨k, hk, hk1, hk2⟩ := and31 b0 b1
  have HK := hide hk2
  clear hk2
  go_enter Tryz.func45, Tryz.ntmps45
  go_wp2_with fail
  refine (word_any' _ _).mono ?_
  rintro e w' ⟨rfl, rfl⟩
  go_wp2
  go_ret
  refine ⟨ret_int ?_, rfl⟩
  simp only [aluF, wrap_u64, wrap_u32, wrap_s64, wrap_s32, wrap64_is, wrap32_is, sx_def, sx_u64, HK.out]

theorem ralu_47 (a b : Int) (w : World) (a0 : 0 ≤ a) (a1 : a ≤ 18446744073709551615) (b0 : 0 ≤ b) (b1 : b ≤ 18446744073709551615) :
    Calls Tryz.prog 45 #[.int .i64 47, .int .u64 a, .int .u64 b] w fun e w' => e = .returned (.int .u64 (aluF 47 a b)) ∧ w' = w := by
  obtain ⟨k, hk, hk1, hk2⟩ := and31 b0 b1
  have HK := hide hk2
  clear hk2
  go_enter Tryz.func45, Tryz.ntmps45
  go_wp2_with fail
  refine (word_any' _ _).mono ?_
  rintro e w' ⟨rfl, rfl⟩
  go_wp2
  go_ret
  refine ⟨ret_int ?_, rfl⟩
  simp only [aluF, wrap_u64, wrap_u32, wrap_s64, wrap_s32, wrap64_is, wrap32_is, sx_def, sx_u64, HK.out]

theorem ralu_43 (a b : Int) (w : World) (a0 : 0 ≤ a) (a1 : a ≤ 18446744073709551615) (b0 : 0 ≤ b) (b1 : b ≤ 18446744073709551615) :
    Calls Tryz.prog 45 #[.int .i64 43, .int .u64 a, .int .u64 b] w fun e w' => e = .returned (.int .u64 (aluF 43 a b)) ∧ w' = w := by
  obtain ⟨k, hk, hk1, hk2⟩ := and31 b0 b1
  have HK := hide hk2
  clear hk2
  go_enter Tryz.func45, Tryz.ntmps45
  go_wp2_with fail
  refine (word_any' _ _).mono ?_
  rintro e w' ⟨rfl, rfl⟩
  go_wp2
  go_ret
  refine ⟨ret_int ?_, rfl⟩
  simp only [aluF, wrap_u64, wrap_u32, wrap_s64, wrap_s32, wrap64_is, wrap32_is, sx_def, HK.out, sx_u64]
  rfl

theorem ralu_48 (a b : Int) (w : World) (a0 : 0 ≤ a) (a1 : a ≤ 18446744073709551615) (b0 : 0 ≤ b) (b1 : b ≤ 18446744073709551615) :
    Calls Tryz.prog 45 #[.int .i64 48, .int .u64 a, .int .u64 b] w fun e w' => e = .returned (.int .u64 (aluF 48 a b)) ∧ w' = w := by
  obtain ⟨k, hk, hk1, hk2⟩ := and31 b0 b1
  have HK := hide hk2
  clear hk2
  go_enter Tryz.func45, Tryz.ntmps45
  go_wp2_with fail
  refine (word_any' _ _).mono ?_
  rintro e w' ⟨rfl, rfl⟩
  go_wp2
  go_ret
  refine ⟨ret_int ?_, rfl⟩
  simp only [aluF, wrap_u64, wrap_u32, wrap_s64, wrap_s32, wrap64_is, wrap32_is, sx_def, HK.out, sx_u64]
  rfl

theorem ralu_44 (a b : Int) (w : World) (a0 : 0 ≤ a) (a1 : a ≤ 18446744073709551615) (b0 : 0 ≤ b) (b1 : b ≤ 18446744073709551615) :
    Calls Tryz.prog 45 #[.int .i64 44, .int .u64 a, .int .u64 b] w fun e w' => e = .returned (.int .u64 (aluF 44 a b)) ∧ w' = w := by
  obtain ⟨k, hk, hk1, hk2⟩ := and31 b0 b1
  have HK := hide hk2
  clear hk2
  have sb := s32_bd a
  have dv := ediv_pow_bd (s32 a) k (-2147483648) 2147483647 sb.1 sb.2 (by decide) (by decide)
  have HS : Hid (s64 (s32 a / 2 ^ k) = s32 a / 2 ^ k) := s64_id (by omega) (by omega)
  clear sb dv
  go_enter Tryz.func45, Tryz.ntmps45
  go_wp2
  go_ret
  refine ⟨ret_int ?_, rfl⟩
  first | rfl | (simp only [aluF, wrap_u64, wrap_u32, wrap_s64, wrap_s32, wrap64_is, wrap32_is, sx_def, HK.out, HS.out]; done) | (simp only [aluF, wrap_u64, wrap_u32, wrap_s64, wrap_s32, wrap64_is, wrap32_is, sx_def, HK.out, HS.out]; rfl) | (rw [HK.out]; rfl)

theorem ralu_49 (a b : Int) (w : World) (a0 : 0 ≤ a) (a1 : a ≤ 18446744073709551615) (b0 : 0 ≤ b) (b1 : b ≤ 18446744073709551615) :
    Calls Tryz.prog 45 #[.int .i64 49, .int .u64 a, .int .u64 b] w fun e w' => e = .returned (.int .u64 (aluF 49 a b)) ∧ w' = w := by
  obtain ⟨k, hk, hk1, hk2⟩ := and31 b0 b1
  have HK := hide hk2
  clear hk2
  have sb := s32_bd a
  have dv := ediv_pow_bd (s32 a) k (-2147483648) 2147483647 sb.1 sb.2 (by decide) (by decide)
  have HS : Hid (s64 (s32 a / 2 ^ k) = s32 a / 2 ^ k) := s64_id (by omega) (by omega)
  clear sb dv
  go_enter Tryz.func45, Tryz.ntmps45
  go_wp2
  go_ret
  refine ⟨ret_int ?_, rfl⟩
  first | rfl | (simp only [aluF, wrap_u64, wrap_u32, wrap_s64, wrap_s32, wrap64_is, wrap32_is, sx_def, HK.out, HS.out]; done) | (simp only [aluF, wrap_u64, wrap_u32, wrap_s64, wrap_s32, wrap64_is, wrap32_is, sx_def, HK.out, HS.out]; rfl) | (rw [HK.out]; rfl)

theorem ralu_51 (a b : Int) (w : World) (a0 : 0 ≤ a) (a1 : a ≤ 18446744073709551615) (b0 : 0 ≤ b) (b1 : b ≤ 18446744073709551615) :
    Calls Tryz.prog 45 #[.int .i64 51, .int .u64 a, .int .u64 b] w fun e w' => e = .returned (.int .u64 (aluF 51 a b)) ∧ w' = w := by
  have HP := hide (rmulh_51 a b w a0 a1 b0 b1)
  generalize aluF 51 a b = v at *
  go_enter Tryz.func45, Tryz.ntmps45
  go_wp2_with fail
  refine HP.out.mono ?_
  rintro e w' ⟨rfl, rfl⟩
  go_wp2
  go_ret
  exact ⟨rfl, rfl⟩

theorem ralu_52 (a b : Int) (w : World) (a0 : 0 ≤ a) (a1 : a ≤ 18446744073709551615) (b0 : 0 ≤ b) (b1 : b ≤ 18446744073709551615) :
    Calls Tryz.prog 45 #[.int .i64 52, .int .u64 a, .int .u64 b] w fun e w' => e = .returned (.int .u64 (aluF 52 a b)) ∧ w' = w := by
  have HP := hide (rmulh_52 a b w a0 a1 b0 b1)
  generalize aluF 52 a b = v at *
  go_enter Tryz.func45, Tryz.ntmps45
  go_wp2_with fail
  refine HP.out.mono ?_
  rintro e w' ⟨rfl, rfl⟩
  go_wp2
  go_ret
  exact ⟨rfl, rfl⟩

theorem ralu_53 (a b : Int) (w : World) (a0 : 0 ≤ a) (a1 : a ≤ 18446744073709551615) (b0 : 0 ≤ b) (b1 : b ≤ 18446744073709551615) :
    Calls Tryz.prog 45 #[.int .i64 53, .int .u64 a, .int .u64 b] w fun e w' => e = .returned (.int .u64 (aluF 53 a b)) ∧ w' = w := by
  have HP := hide (rmulh_53 a b w a0 a1 b0 b1)
  generalize aluF 53 a b = v at *
  go_enter Tryz.func45, Tryz.ntmps45
  go_wp2_with fail
  refine HP.out.mono ?_
  rintro e w' ⟨rfl, rfl⟩
  go_wp2
  go_ret
  exact ⟨rfl, rfl⟩

theorem ralu_54 (a b : Int) (w : World) (a0 : 0 ≤ a) (a1 : a ≤ 18446744073709551615) (b0 : 0 ≤ b) (b1 : b ≤ 18446744073709551615) :
    Calls Tryz.prog 45 #[.int .i64 54, .int .u64 a, .int .u64 b] w fun e w' => e = .returned (.int .u64 (aluF 54 a b)) ∧ w' = w := by
  have sa := s64_bd a
  have sb := s64_bd b
  have HP := hide (rdiv_any' (s64 a) (s64 b) w sa.1 sa.2 sb.1 sb.2)
  have hv : IntKind.u64.wrap (if s64 b = 0 then -1 else s64 ((s64 a).tdiv (s64 b))) = aluF 54 a b := by
    simp only [wrap_u64, aluF, s64_zero b0 b1]
    split
    · decide
    · rw [u64_s64]
  have ea : wrap64 a = s64 a := wrap64_is a
  have eb : wrap64 b = s64 b := wrap64_is b
  have HV := hide hv
  clear hv
  generalize (if s64 b = 0 then -1 else s64 ((s64 a).tdiv (s64 b))) = v at *
  generalize s64 a = x at *
  generalize s64 b = y at *
  generalize aluF 54 a b = z at *
  go_enter Tryz.func45, Tryz.ntmps45
  go_wp2_with fail
  refine HP.out.mono ?_
  rintro e w' ⟨rfl, rfl⟩
  go_wp2
  go_ret
  exact ⟨ret_int HV.out, rfl⟩

theorem ralu_56 (a b : Int) (w : World) (a0 : 0 ≤ a) (a1 : a ≤ 18446744073709551615) (b0 : 0 ≤ b) (b1 : b ≤ 18446744073709551615) :
    Calls Tryz.prog 45 #[.int .i64 56, .int .u64 a, .int .u64 b] w fun e w' => e = .returned (.int .u64 (aluF 56 a b)) ∧ w' = w := by
  have sa := s64_bd a
  have sb := s64_bd b
  have HP := hide (rrem_any' (s64 a) (s64 b) w sa.1 sa.2 sb.1 sb.2)
  have hv : IntKind.u64.wrap (if s64 b = 0 then s64 a else (s64 a).tmod (s64 b)) = aluF 56 a b := by
    simp only [wrap_u64, aluF, s64_zero b0 b1]
    split
    · rw [u64_s64, u64_id a0 a1]
    · rfl
  have ea : wrap64 a = s64 a := wrap64_is a
  have eb : wrap64 b = s64 b := wrap64_is b
  have HV := hide hv
  clear hv
  generalize (if s64 b = 0 then s64 a else (s64 a).tmod (s64 b)) = v at *
  generalize s64 a = x at *
  generalize s64 b = y at *
  generalize aluF 56 a b = z at *
  go_enter Tryz.func45, Tryz.ntmps45
  go_wp2_with fail
  refine HP.out.mono ?_
  rintro e w' ⟨rfl, rfl⟩
  go_wp2
  go_ret
  exact ⟨ret_int HV.out, rfl⟩

theorem ralu_55 (a b : Int) (w : World) (a0 : 0 ≤ a) (a1 : a ≤ 18446744073709551615) (b0 : 0 ≤ b) (b1 : b ≤ 18446744073709551615) :
    Calls Tryz.prog 45 #[.int .i64 55, .int .u64 a, .int .u64 b] w fun e w' => e = .returned (.int .u64 (aluF 55 a b)) ∧ w' = w := by
  have HP := hide (rdivu_any' a b w a0 a1 b0 b1)
  have e : aluF 55 a b = (if b = 0 then 18446744073709551615 else a / b) := rfl
  rw [e]
  clear e
  generalize (if b = 0 then 18446744073709551615 else a / b) = v at *
  go_enter Tryz.func45, Tryz.ntmps45
  go_wp2_with fail
  refine HP.out.mono ?_
  rintro e w' ⟨rfl, rfl⟩
  go_wp2
  go_ret
  exact ⟨rfl, rfl⟩

theorem ralu_57 (a b : Int) (w : World) (a0 : 0 ≤ a) (a1 : a ≤ 18446744073709551615) (b0 : 0 ≤ b) (b1 : b ≤ 18446744073709551615) :
    Calls Tryz.prog 45 #[.int .i64 57, .int .u64 a, .int .u64 b] w fun e w' => e = .returned (.int .u64 (aluF 57 a b)) ∧ w' = w := by
  have HP := hide (rremu_any' a b w a0 a1 b0 b1)
  have e : aluF 57 a b = (if b = 0 then a else a % b) := rfl
  rw [e]
  clear e
  generalize (if b = 0 then a else a % b) = v at *
  go_enter Tryz.func45, Tryz.ntmps45
  go_wp2_with fail
  refine HP.out.mono ?_
  rintro e w' ⟨rfl, rfl⟩
  go_wp2
  go_ret
  exact ⟨rfl, rfl⟩

theorem ralu_59 (a b : Int) (w : World) (a0 : 0 ≤ a) (a1 : a ≤ 18446744073709551615) (b0 : 0 ≤ b) (b1 : b ≤ 18446744073709551615) :
    Calls Tryz.prog 45 #[.int .i64 59, .int .u64 a, .int .u64 b] w fun e w' => e = .returned (.int .u64 (aluF 59 a b)) ∧ w' = w := by
  have sa := s32_bd a
  have sb := s32_bd b
  have HP := hide (rdiv_any' (s32 a) (s32 b) w (by omega) (by omega) (by omega) (by omega))
  have hv : sx (IntKind.u64.wrap (if s32 b = 0 then -1 else s64 ((s32 a).tdiv (s32 b)))) = aluF 59 a b := by
    simp only [wrap_u64, aluF, s32_zero, sx_u64]
    split
    · decide
    · rw [sx_s64]
  have ea : wrap64 (wrap32 a) = s32 a := by rw [wrap64_is, wrap32_is, s64_s32]
  have eb : wrap64 (wrap32 b) = s32 b := by rw [wrap64_is, wrap32_is, s64_s32]
  have HV := hide hv
  clear hv
  generalize (if s32 b = 0 then -1 else s64 ((s32 a).tdiv (s32 b))) = v at *
  generalize s32 a = x at *
  generalize s32 b = y at *
  generalize aluF 59 a b = z at *
  go_enter Tryz.func45, Tryz.ntmps45
  go_wp2_with fail
  refine HP.out.mono ?_
  rintro e w' ⟨rfl, rfl⟩
  go_wp2_with fail
  refine (word_any' _ _).mono ?_
  rintro e w' ⟨rfl, rfl⟩
  go_wp2
  go_ret
  exact ⟨ret_int HV.out, rfl⟩

theorem ralu_61 (a b : Int) (w : World) (a0 : 0 ≤ a) (a1 : a ≤ 18446744073709551615) (b0 : 0 ≤ b) (b1 : b ≤ 18446744073709551615) :
    Calls Tryz.prog 45 #[.int .i64 61, .int .u64 a, .int .u64 b] w fun e w' => e = .returned (.int .u64 (aluF 61 a b)) ∧ w' = w := by
  have sa := s32_bd a
  have sb := s32_bd b
  have HP := hide (rrem_any' (s32 a) (s32 b) w (by omega) (by omega) (by omega) (by omega))
  have hv : sx (IntKind.u64.wrap (if s32 b = 0 then s32 a else (s32 a).tmod (s32 b))) = aluF 61 a b := by
    simp only [wrap_u64, aluF, s32_zero, sx_u64]
    split
    · rw [sx_s32]
    · rfl
  have ea : wrap64 (wrap32 a) = s32 a := by rw [wrap64_is, wrap32_is, s64_s32]
  have eb : wrap64 (wrap32 b) = s32 b := by rw [wrap64_is, wrap32_is, s64_s32]
  have HV := hide hv
  clear hv
  generalize (if s32 b = 0 then s32 a else (s32 a).tmod (s32 b)) = v at *
  generalize s32 a = x at *
  generalize s32 b = y at *
  generalize aluF 61 a b = z at *
  go_enter Tryz.func45, Tryz.ntmps45
  go_wp2_with fail
  refine HP.out.mono ?_
  rintro e w' ⟨rfl, rfl⟩
  go_wp2_with fail
  refine (word_any' _ _).mono ?_
  rintro e w' ⟨rfl, rfl⟩
  go_wp2
  go_ret
  exact ⟨ret_int HV.out, rfl⟩

theorem ralu_60 (a b : Int) (w : World) (a0 : 0 ≤ a) (a1 : a ≤ 18446744073709551615) (b0 : 0 ≤ b) (b1 : b ≤ 18446744073709551615) :
    Calls Tryz.prog 45 #[.int .i64 60, .int .u64 a, .int .u64 b] w fun e w' => e = .returned (.int .u64 (aluF 60 a b)) ∧ w' = w := by
  have sa := u32_bd a
  have sb := u32_bd b
  have HP := hide (rdivu_any' (u32 a) (u32 b) w (by omega) (by omega) (by omega) (by omega))
  have hv : sx (if u32 b = 0 then 18446744073709551615 else u32 a / u32 b) = aluF 60 a b := by
    simp only [aluF]
    split
    · decide
    · rfl
  have ea : IntKind.u32.wrap a = u32 a := wrap_u32 a
  have eb : IntKind.u32.wrap b = u32 b := wrap_u32 b
  have HV := hide hv
  clear hv
  generalize (if u32 b = 0 then 18446744073709551615 else u32 a / u32 b) = v at *
  generalize u32 a = x at *
  generalize u32 b = y at *
  generalize aluF 60 a b = z at *
  go_enter Tryz.func45, Tryz.ntmps45
  go_wp2_with fail
  refine HP.out.mono ?_
  rintro e w' ⟨rfl, rfl⟩
  go_wp2_with fail
  refine (word_any' _ _).mono ?_
  rintro e w' ⟨rfl, rfl⟩
  go_wp2
  go_ret
  exact ⟨ret_int HV.out, rfl⟩

theorem ralu_62 (a b : Int) (w : World) (a0 : 0 ≤ a) (a1 : a ≤ 18446744073709551615) (b0 : 0 ≤ b) (b1 : b ≤ 18446744073709551615) :
    Calls Tryz.prog 45 #[.int .i64 62, .int .u64 a, .int .u64 b] w fun e w' => e = .returned (.int .u64 (aluF 62 a b)) ∧ w' = w := by
  have sa := u32_bd a
  have sb := u32_bd b
  have HP := hide (rremu_any' (u32 a) (u32 b) w (by omega) (by omega) (by omega) (by omega))
  have hv : sx (if u32 b = 0 then u32 a else u32 a % u32 b) = aluF 62 a b := by
    simp only [aluF]
    split
    · rw [sx_u32]
    · rfl
  have ea : IntKind.u32.wrap a = u32 a := wrap_u32 a
  have eb : IntKind.u32.wrap b = u32 b := wrap_u32 b
  have HV := hide hv
  clear hv
  generalize (if u32 b = 0 then u32 a else u32 a % u32 b) = v at *
  generalize u32 a = x at *
  generalize u32 b = y at *
  generalize aluF 62 a b = z at *
  go_enter Tryz.func45, Tryz.ntmps45
  go_wp2_with fail
  refine HP.out.mono ?_
  rintro e w' ⟨rfl, rfl⟩
  go_wp2_with fail
  refine (word_any' _ _).mono ?_
  rintro e w' ⟨rfl, rfl⟩
  go_wp2
  go_ret
  exact ⟨ret_int HV.out, rfl⟩

theorem ralu_any (o : Nat) (a b : Int) (w : World) (h0 : 22 ≤ o) (h1 : o ≤ 62) (a0 : 0 ≤ a) (a1 : a ≤ 18446744073709551615) (b0 : 0 ≤ b) (b1 : b ≤ 18446744073709551615) :
    Calls Tryz.prog 45 #[.int .i64 (o : Int), .int .u64 a, .int .u64 b] w fun e w' => e = .returned (.int .u64 (aluF o a b)) ∧ w' = w := by
  rcases (show o = 22 ∨ o = 23 ∨ o = 24 ∨ o = 25 ∨ o = 26 ∨ o = 27 ∨ o = 28 ∨ o = 29 ∨ o = 30 ∨ o = 31 ∨ o = 32 ∨ o = 33 ∨ o = 34 ∨ o = 35 ∨ o = 36 ∨ o = 37 ∨ o = 38 ∨ o = 39 ∨ o = 40 ∨ o = 41 ∨ o = 42 ∨ o = 43 ∨ o = 44 ∨ o = 45 ∨ o = 46 ∨ o = 47 ∨ o = 48 ∨ o = 49 ∨ o = 50 ∨ o = 51 ∨ o = 52 ∨ o = 53 ∨ o = 54 ∨ o = 55 ∨ o = 56 ∨ o = 57 ∨ o = 58 ∨ o = 59 ∨ o = 60 ∨ o = 61 ∨ o = 62 by omega) with rfl | rfl | rfl | rfl | rfl | rfl | rfl | rfl | rfl | rfl | rfl | rfl | rfl | rfl | rfl | rfl | rfl | rfl | rfl | rfl | rfl | rfl | rfl | rfl | rfl | rfl | rfl | rfl | rfl | rfl | rfl | rfl | rfl | rfl | rfl | rfl | rfl | rfl | rfl | rfl | rfl
  · exact ralu_22 a b w a0 a1 b0 b1
  · exact ralu_23 a b w a0 a1 b0 b1
  · exact ralu_24 a b w a0 a1 b0 b1
  · exact ralu_25 a b w a0 a1 b0 b1
  · exact ralu_26 a b w a0 a1 b0 b1
  · exact ralu_27 a b w a0 a1 b0 b1
  · exact ralu_28 a b w a0 a1 b0 b1
  · exact ralu_29 a b w a0 a1 b0 b1
  · exact ralu_30 a b w a0 a1 b0 b1
  · exact ralu_31 a b w a0 a1 b0 b1
  · exact ralu_32 a b w a0 a1 b0 b1
  · exact ralu_33 a b w a0 a1 b0 b1
  · exact ralu_34 a b w a0 a1 b0 b1
  · exact ralu_35 a b w a0 a1 b0 b1
  · exact ralu_36 a b w a0 a1 b0 b1
  · exact ralu_37 a b w a0 a1 b0 b1
  · exact ralu_38 a b w a0 a1 b0 b1
  · exact ralu_39 a b w a0 a1 b0 b1
  · exact ralu_40 a b w a0 a1 b0 b1
  · exact ralu_41 a b w a0 a1 b0 b1
  · exact ralu_42 a b w a0 a1 b0 b1
  · exact ralu_43 a b w a0 a1 b0 b1
  · exact ralu_44 a b w a0 a1 b0 b1
  · exact ralu_45 a b w a0 a1 b0 b1
  · exact ralu_46 a b w a0 a1 b0 b1
  · exact ralu_47 a b w a0 a1 b0 b1
  · exact ralu_48 a b w a0 a1 b0 b1
  · exact ralu_49 a b w a0 a1 b0 b1
  · exact ralu_50 a b w a0 a1 b0 b1
  · exact ralu_51 a b w a0 a1 b0 b1
  · exact ralu_52 a b w a0 a1 b0 b1
  · exact ralu_53 a b w a0 a1 b0 b1
  · exact ralu_54 a b w a0 a1 b0 b1
  · exact ralu_55 a b w a0 a1 b0 b1
  · exact ralu_56 a b w a0 a1 b0 b1
  · exact ralu_57 a b w a0 a1 b0 b1
  · exact ralu_58 a b w a0 a1 b0 b1
  · exact ralu_59 a b w a0 a1 b0 b1
  · exact ralu_60 a b w a0 a1 b0 b1
  · exact ralu_61 a b w a0 a1 b0 b1
  · exact ralu_62 a b w a0 a1 b0 b1

end Go.Proofs.YtdhjjlnabbpinaaGreatDoor

/- The contract of package inst's Encode. -/
namespace Go.Proofs.YtdhjjlnabbpinaaGreatDoor
open Go.RowKit Go.Maps
set_option linter.unusedVariables false
set_option maxRecDepth 100000
set_option linter.unusedSimpArgs false

/-- Whether an immediate fits an operation's word, and the word with it. -/
def imOk (f x v : Int) : Bool := if shb x = 6 then decide (0 ≤ v) && decide (v < 64) else if shb x = 5 then decide (0 ≤ v) && decide (v < 32) else fitsOf f v
def imPut (f x v : Int) : Int := if shb x = 0 then putOf f x v else if imOk f x v = true then bits .or .u32 x (v * 1048576) else 0



/-- Whether the registers that a form has are such, and the word with them. -/
def rgOk (d a b : Bool) (r0 r1 r2 : Int) : Bool := (!d || isr r0) && (!a || isr r1) && (!b || isr r2)
def rgPut (d a b : Bool) (x r0 r1 r2 : Int) : Int :=
  let x1 := if d = true then bits .or .u32 x (r0 * 128) else x
  let x2 := if a = true then bits .or .u32 x1 (r1 * 32768) else x1
  if b = true then bits .or .u32 x2 (r2 * 1048576) else x2

end Go.Proofs.YtdhjjlnabbpinaaGreatDoor

/- The contract of package inst's putRegisters. -/
namespace Go.Proofs.YtdhjjlnabbpinaaGreatDoor
open Go.RowKit Go.Maps
set_option linter.unusedVariables false
set_option maxRecDepth 100000
set_option linter.unusedSimpArgs false

theorem isr_yes {r : Int} (h : isr r = true) : 0 ≤ r ∧ r < 32 := by simpa [isr] using h
theorem rg_ret {a b : Int} {w w' : World} (h : a = b) (hb : Below w.heap.size w w') : Ending.returned (Value.tuple #[.int .u32 a, .bool true]) = .returned (.tuple #[.int .u32 b, .bool true]) ∧ Below w.heap.size w w' := by
  subst h; exact ⟨rfl, hb⟩



























end Go.Proofs.YtdhjjlnabbpinaaGreatDoor

/- The contract of package inst's Encode. -/
namespace Go.Proofs.YtdhjjlnabbpinaaGreatDoor
open Go.RowKit Go.Maps
set_option linter.unusedVariables false
set_option maxRecDepth 100000
set_option linter.unusedSimpArgs false











end Go.Proofs.YtdhjjlnabbpinaaGreatDoor

/- The contract of package inst's Encode as one; the statements' example, known, is true. -/
namespace Go.Proofs.YtdhjjlnabbpinaaGreatDoor
open Go.RowKit Go.Maps
set_option linter.unusedVariables false
set_option maxRecDepth 100000
set_option linter.unusedSimpArgs false

/-- Whether an instruction has a word, and which. -/
def encOk (op r0 r1 r2 im : Int) : Bool := knw op && (decide (fmo op = 6) || (imOk (fmo op) (wd op.toNat) im && rgOk (hasD (fmo op)) (has1 (fmo op)) (has2 (fmo op)) r0 r1 r2))
def encW (op r0 r1 r2 im : Int) : Int :=
  if encOk op r0 r1 r2 im = true then (if fmo op = 6 then wd op.toNat else rgPut (hasD (fmo op)) (has1 (fmo op)) (has2 (fmo op)) (imPut (fmo op) (wd op.toNat) im) r0 r1 r2) else 0

theorem imPut_bd (f x v : Int) (h0 : 0 ≤ x) (h1 : x ≤ 4294967295) : 0 ≤ imPut f x v ∧ imPut f x v ≤ 4294967295 := by
  unfold imPut
  split
  · exact put_bd f x v h0 h1
  · split
    · exact bits_bd ..
    · decide



theorem none_0 : IsOp 0 0 := Or.inl ⟨rfl, fun j h1 h2 => by
  have : ∀ j, j < 66 → 1 ≤ j → ¬ Mt j 0 := by decide +kernel
  exact this j h2 h1⟩
theorem mulhsu_is : nm 52 = ⟨#[109, 117, 108, 104, 115, 117]⟩ := by decide +kernel
theorem nm_apart : ∀ j, j < 66 → ∀ k, k < 66 → nm j = nm k → j = k := by decide +kernel

theorem cell_below {w w' : World} (hB : Below w.heap.size w w') {p : Addr} {v : Value} (h : w.cell? p = some v) : w'.cell? p = some v := (hB.cell (World.block_lt_of_cell? _ _ h)).trans h
theorem Laid.then {w w' : World} (h : Laid w) (hB : Below w.heap.size w w') : Laid w' := h.below hB h.1
theorem Laid.alloc {w : World} (h : Laid w) (o : Obj) : Laid (w.alloc o) := h.below ((Below.refl _ _).alloc (Nat.le_refl _) _) h.1
theorem find_one {k : Nat} (hk : 1 ≤ k) (hk' : k < 66) {e : Ending} (h : FindIs (nm k) e) : e = .returned (.tuple #[.int .i64 k, .bool true]) := by
  rcases h with ⟨j, h1, h2, h3, h4⟩ | ⟨h1, h2⟩
  · rw [nm_apart j h2 k hk' h3] at h4
    exact h4
  · exact absurd rfl (h1 k hk hk')



end Go.Proofs.YtdhjjlnabbpinaaGreatDoor
