/- The contract of the document's Map: the pages laid. -/
import Derived.Test.YtgjfelkbblbjfaaGreatDoorJ18
import Derived.Deep.LoopGhost
namespace Go.Proofs.YtgjfelkbblbjfaaGreatDoor
open Go.RowKit Go.Maps
set_option linter.unusedVariables false
set_option maxRecDepth 100000

set_option maxRecDepth 20000 in
set_option maxHeartbeats 6400000 in
/-- The pages are laid, one by one. -/
theorem rmap_yes (m : Nat) (S : Mm) (F : Nat → Prop) (a0 size : Nat) (p : Int) (a : Option Addr) (len cap : Nat) (bs : List Int) (w : World) (h : RM w m S F)
    (r : Rd w a len cap bs) (hsep : 0 < len → ∀ x, a = some x → ¬ F x.block) (hok : MapOk S a0 size p len)
    (hbits : (bits .and .i64 p 2 == 0) = true ∨ ((bits .and .i64 p 2 == 0) = false ∧ (bits .and .i64 p 1 == 0) = true)) :
    Calls Tryz.prog 12 #[.pointer (some ⟨m, 0, none⟩), .int .u64 (a0 : Int), .int .u64 (size : Int), .int .i64 p, .slice a len cap] w fun e w' =>
      e = .returned (.int .i64 0) ∧ ∃ F', RM w' m ((S.mapped (a0 / 4096) ((size + 4095) / 4096) p).lay a0 bs) F' ∧ Went F w F' w' := by
  have hle0 := r.le
  have hmx := r.max
  have hbl := r.length
  obtain ⟨⟨h1, h2, h3⟩, hpo, hls, hsp⟩ := hok
  have hpb := hpo.bd
  have hp1 : ¬ p < 1 := by omega
  have hp7 : ¬ 7 < p := by omega
  have hf' : (a0 : Int) / 4096 = ((a0 / 4096 : Nat) : Int) := by omega
  have hm' : (a0 : Int) % 4096 = 0 := by omega
  have hn' : ((size : Int) + 4096 - 1) / 4096 = (((size + 4095) / 4096 : Nat) : Int) := by omega
  have hfn : a0 / 4096 + (size + 4095) / 4096 ≤ 34359738368 := by omega
  have hcov : len ≤ (size + 4095) / 4096 * 4096 := by omega
  have hn0 : 0 < (size + 4095) / 4096 := by omega
  have hfa : a0 / 4096 * 4096 = a0 := by omega
  have hcn := hsp.1
  have HSz := hide (rsize_any m S F w h)
  have hcg := h.good.count
  have HSp := hide hsp.2
  have HM := hide h
  have HRd := hide r
  have HSe := hide hsep
  have HPo := hide hpo
  have x3 : ¬ (140737488355328 : Int) < (a0 : Int) := by omega
  have x4 : ¬ (140737488355328 - (a0 : Int)) < (size : Int) := by omega
  have x5 : ¬ (size : Int) < (len : Int) := by omega
  have x2 : ((size : Int) == 0) = false := by simp; omega
  generalize a0 / 4096 = f at *
  generalize (size + 4095) / 4096 = n at *
  have x6 : decide ((268435456 : Int) < (n : Int) * 4096) = false := by simp; omega
  have x7 : decide ((268435456 : Int) < ((S.count * 4096 : Nat) : Int) + (n : Int) * 4096) = false := by simp; omega
  clear h r hsep hsp hpo
  rcases hbits with hb2 | ⟨hb2, hb1⟩
  · have hz2 : (bits .and .i64 p 2 != 0) = false := by unfold bne; rw [hb2]; rfl
    clear hb2
    go_enter Tryz.func12, Tryz.ntmps12
    go_wp2_with fail
    refine HSz.out.mono ?_
    rintro e w' ⟨rfl, rfl⟩
    clear HSz
    go_wp2
    obtain ⟨b0, pb0, db0, hX0⟩ := HM.out
    have hc0 := hX0.cell
    have HX0 := hide hX0
    clear hX0
    go_loop [12] (fun v => ∃ k : Nat, k ≤ n ∧ v = .int .u64 (k : Int)) (fun v => n - (intOf v).toNat)
    case atStart => exact ⟨0, by omega, rfl⟩
    case round =>
      obtain ⟨k, hk, rfl⟩ := hrel
      by_cases hlt : k < n
      · have hr := HX0.out.look0 (f + k) (by omega) (HSp.out (f + k) (by omega) (by omega))
        rw [show ((f + k : Nat) : Int) = (f : Int) + (k : Int) by omega] at hr
        go_wp2
        go_round
        case rel => exact ⟨k + 1, by omega, by go_num⟩
        case measure => simp [intOf]; omega
      · obtain rfl : k = n := by omega
        clear HX0 hc0 hlt hk
        go_wp2
        go_loopg [13] k (fun g v wr => ∃ (j : Nat) (F' : Nat → Prop), j ≤ k ∧ g = k - j ∧ v = .int .u64 (j : Int) ∧ Hid (RM wr m ((S.mapped f j p).lay a0 (bs.take (j * 4096))) F') ∧ Hid (Went F w' F' wr))
        case atStart => exact ⟨0, F, by omega, rfl, rfl, by rw [Mm.mapped_zero, Nat.zero_mul, List.take_zero, Mm.lay_nil]; exact HM.out, Went.refl _ _⟩
        case round =>
          obtain ⟨j, F', hj, rfl, rfl, HR, HW⟩ := hrel
          by_cases hlt : j < k
          · obtain ⟨Z, hmk, hZl, hZa⟩ := page_nought
            obtain ⟨b, pb, db, hX⟩ := HR.out
            have HX := hide hX
            have HZl := hide hZl
            have HZa := hide hZa
            have hc := hX.cell
            have hmb := hX.flt m hX.fm
            have h0 : ((S.mapped f j p).lay a0 (bs.take (j * 4096))).perm (f + j) = 0 := by
              simp only [Mm.mapped, Mm.lay]
              rw [if_neg (by omega)]
              exact HSp.out (f + j) (by omega) (by omega)
            have H0 := hide h0
            have hbb := hX.map.lt
            clear hX hZl hZa h0 HR
            by_cases hin : j * 4096 < len
            · have hin' : decide ((j : Int) * 4096 < (len : Int)) = true := by simp; omega
              go_upto_region 16 with fail
              obtain ⟨D, hD⟩ : ∃ D, D = wr.heap.size := ⟨_, rfl⟩
              obtain ⟨P, hP⟩ : ∃ P, P = wr.heap.size + 1 := ⟨_, rfl⟩
              rw [← hP, ← hD]
              obtain ⟨U, hU⟩ : ∃ U, U = (wr.alloc (.cells Z.toArray 5)).alloc (.cells #[.int .i64 p, .slice (some ⟨D, 0, none⟩) 4096 4096] 89) := ⟨_, rfl⟩
              rw [← hU]
              have hKU : Kept (fun _ => False) wr U := by rw [hU]; exact ((Kept.refl _ _).alloc _).alloc _
              have HXU : Hid (RMx U m b pb db ((S.mapped f j p).lay a0 (bs.take (j * 4096))) F') := HX.out.kept hKU (fun _ _ h => h)
              have HUD : Hid (U.heap[D]? = some (.cells Z.toArray 5 (0, 0))) := by
                rw [hU, hD, Below.heap_alloc _ _ _ (by simp)]
                exact heap_alloc_new wr _
              have HUP : Hid (U.heap[P]? = some (.cells #[.int .i64 p, .slice (some ⟨D, 0, none⟩) 4096 4096] 89 (0, 0))) := by
                rw [hU, hP]
                have h9 := heap_alloc_new (wr.alloc (.cells Z.toArray 5)) (.cells #[.int .i64 p, .slice (some ⟨D, 0, none⟩) 4096 4096] 89)
                rw [show (wr.alloc (.cells Z.toArray 5)).heap.size = wr.heap.size + 1 by simp] at h9
                exact h9
              have HFD : Hid (¬ F' D) := fun h => by have := HX.out.flt D h; omega
              have HFP : Hid (¬ F' P) := fun h => by have := HX.out.flt P h; omega
              have HPD : Hid (P ≠ D) := by show _ ≠ _; omega
              have HWU : Hid (Went F w' F' U) := HW.out.trans ⟨hKU.mono (fun _ h => h.elim), fun k hk => Or.inl hk⟩
              have HDw : Hid (w'.heap.size ≤ D ∧ w'.heap.size ≤ P) := by
                have := HW.out.1.size
                exact ⟨by omega, by omega⟩
              have hcU := HXU.out.cell
              clear hU hKU HX HW hmk hD hP hmb hc hbb
              obtain ⟨bb, oo, hae, hcc⟩ := HRd.out.addr (by omega)
              subst hae
              have HSe2 := HSe
              have hRU : Rd U (some ⟨bb, oo, none⟩) len cap bs := HWU.out.1.rd HRd.out HSe.out
              obtain ⟨z, hz⟩ : ∃ z, z = j * 4096 := ⟨_, rfl⟩
              have hz' : (j : Int) * 4096 = (z : Int) := by omega
              have hzl : z < len := by omega
              have hzl' : (z : Int) ≤ (len : Int) := by omega
              have hzl2 : z ≤ len := by omega
              have hzc : ¬ cap = z := by omega
              have hwz : IntKind.u64.wrap (z : Int) = (z : Int) := by rw [IntKind.wrap_u64]; omega
              obtain ⟨X, hX⟩ : ∃ X, X = ((bs.drop z).take 4096).map (Value.int .u8) := ⟨_, rfl⟩
              obtain ⟨q, hq⟩ : ∃ q, q = Nat.min (len - z) 4096 := ⟨_, rfl⟩
              have hql : q = min (len - z) 4096 := hq
              have HXl : Hid (X.length = q) := by
                show _ = _
                rw [hX, hql]; simp; omega
              have HQ := hide hq
              have HSrc : Hid (∀ i v, X[i]? = some v → U.cell? ((⟨bb, oo + z, none⟩ : Addr).add i) = some v) := by
                have h9 := hRU.part z (len - z) (by omega)
                rw [addr_add] at h9
                obtain ⟨ad, e9, h8⟩ := h9.firsts q (by omega) (by omega)
                cases e9
                have e7 : ((bs.drop z).take (len - z)).take q = (bs.drop z).take 4096 := by
                  rw [List.take_take, show min q (len - z) = q by omega]
                  apply List.ext_getElem?
                  intro i
                  rw [List.getElem?_take, List.getElem?_take]
                  by_cases hi : i < q
                  · rw [if_pos hi, if_pos (by omega)]
                  · rw [if_neg hi]
                    by_cases hi2 : i < 4096
                    · rw [if_pos hi2, List.getElem?_eq_none (by simp; omega)]
                    · rw [if_neg hi2]
                rw [e7, ← hX] at h8
                exact h8
              have HOne : Hid (∀ v ∈ X, v.oneCell' = true) := by rw [hX]; exact ints_oneCell _ _
              have HX1 := hide hX
              have HZh := hide hz
              have HFit : Hid (0 + X.length ≤ Z.length) := by rw [HXl.out, HZl.out]; show 0 + q ≤ _; omega
              have hcP : U.cell? ⟨P, 1, none⟩ = some (.slice (some ⟨D, 0, none⟩) 4096 4096) := by rw [cell_of_row _ _ 1 _ _ _ HUP.out]; rfl
              have Hby := hide (((HRd.out.bytes.drop z).take 4096))
              clear hX hq hRU hcc hz hql
              go_region_law (refine step_copy_kept rfl (.tmp 105) (.tmp 109) 24 24 rfl 5 Tryz.underlying24 Tryz.size8 (some ⟨D, 0, none⟩) (some ⟨bb, oo + z, none⟩) 4096 4096 (len - z) (cap - z) (by simp [Act.eval]) (by simp [Act.eval]) D 0 Z 5 HUD.out X q HXl.out HQ.out (fun _ => ⟨rfl, _, rfl, HSrc.out⟩) HFit.out HOne.out ?_; intro w6 HG6 HK6)
              have HXW : Hid (RMx w6 m b pb db ((S.mapped f j p).lay a0 (bs.take (j * 4096))) F') := HXU.out.kept (w' := w6) (G := fun k => k = D) ((Kept.refl _ U).drew.trans HK6.out (fun k hk => Or.inl hk)) (fun k hk e => HFD.out (by subst e; exact hk))
              have HKW : Hid (Kept (fun k => k = D) U w6) := (Kept.refl _ U).drew.trans HK6.out (fun k hk => Or.inl hk)
              have hcU6 := HXW.out.cell
              have HWP : Hid (w6.heap[P]? = some (.cells #[.int .i64 p, .slice (some ⟨D, 0, none⟩) 4096 4096] 89 (0, 0))) := by
                rw [HKW.out.block P (Array.getElem?_eq_some_iff.1 HUP.out).1 HPD.out]; exact HUP.out
              obtain ⟨V, hrun, hRM, hKV⟩ := HXW.out.step (i := f + j) (P := P) (D := D) (p := p) (cs := (bs.drop (j * 4096)).take 4096) H0.out HPo.out.bd (by omega) (by have := hcn; simp only [Mm.mapped, Mm.lay]; omega) HFP.out HFD.out HPD.out (by simp; omega) (by rw [← HZh.out]; exact Hby.out) HWP.out (L := splice Z 0 X) HG6.out (by rw [length_splice _ _ _ HFit.out]; exact HZl.out) (fun i hi => by
                rw [splice_get _ _ _ HFit.out, HX1.out, ← HZh.out, List.length_map]
                by_cases hic : i < ((bs.drop z).take 4096).length
                · rw [if_pos (by omega), Nat.sub_zero, List.getElem?_map]
                  simp only [List.getD_eq_getElem?_getD]
                  rw [List.getElem?_eq_getElem hic]
                  rfl
                · rw [if_neg (by omega), HZa.out i hi, List.getD_eq_getElem?_getD, List.getElem?_eq_none (by omega)]; rfl)
              clear HUP HUD HG6 HK6 HSrc HXl HOne HFit HX1 Hby HWP hcP
              have hrun' := hrun
              rw [show ((f + j : Nat) : Int) = (f : Int) + (j : Int) by omega] at hrun'
              have HRV : Hid (RM V m ((S.mapped f (j + 1) p).lay a0 (bs.take ((j + 1) * 4096))) (fun k => F' k ∨ k = P ∨ k = D)) := by
                have h9 := hRM
                have e9 := Mm.mapped_more S f j p bs
                rw [hfa] at e9
                rwa [e9] at h9
              have HWV : Hid (Went F w' (fun k => F' k ∨ k = P ∨ k = D) V) := ⟨(HWU.out.1.trans HKW.out (fun k hk => by subst hk; exact Or.inr HDw.out.1)).trans hKV (fun k hk => HWU.out.2 k (by subst hk; exact HXW.out.fb)), fun k hk => by
                rcases hk with hk | hk | hk
                · exact HWU.out.2 k hk
                · subst hk; exact Or.inr HDw.out.2
                · subst hk; exact Or.inr HDw.out.1⟩
              clear hrun hRM hKV HXU HWU
              go_wp2
              go_roundg (k - (j + 1))
              case measure => omega
              case rel => exact ⟨j + 1, _, by omega, rfl, by go_num, HRV.out, HWV.out⟩
            · have hin' : decide ((j : Int) * 4096 < (len : Int)) = false := by simp; omega
              go_upto_region 17 with fail
              obtain ⟨D, hD⟩ : ∃ D, D = wr.heap.size := ⟨_, rfl⟩
              obtain ⟨P, hP⟩ : ∃ P, P = wr.heap.size + 1 := ⟨_, rfl⟩
              rw [← hP, ← hD]
              obtain ⟨U, hU⟩ : ∃ U, U = (wr.alloc (.cells Z.toArray 5)).alloc (.cells #[.int .i64 p, .slice (some ⟨D, 0, none⟩) 4096 4096] 89) := ⟨_, rfl⟩
              rw [← hU]
              have hKU : Kept (fun _ => False) wr U := by rw [hU]; exact ((Kept.refl _ _).alloc _).alloc _
              have HXU : Hid (RMx U m b pb db ((S.mapped f j p).lay a0 (bs.take (j * 4096))) F') := HX.out.kept hKU (fun _ _ h => h)
              have HUD : Hid (U.heap[D]? = some (.cells Z.toArray 5 (0, 0))) := by
                rw [hU, hD, Below.heap_alloc _ _ _ (by simp)]
                exact heap_alloc_new wr _
              have HUP : Hid (U.heap[P]? = some (.cells #[.int .i64 p, .slice (some ⟨D, 0, none⟩) 4096 4096] 89 (0, 0))) := by
                rw [hU, hP]
                have h9 := heap_alloc_new (wr.alloc (.cells Z.toArray 5)) (.cells #[.int .i64 p, .slice (some ⟨D, 0, none⟩) 4096 4096] 89)
                rw [show (wr.alloc (.cells Z.toArray 5)).heap.size = wr.heap.size + 1 by simp] at h9
                exact h9
              have HFD : Hid (¬ F' D) := fun h => by have := HX.out.flt D h; omega
              have HFP : Hid (¬ F' P) := fun h => by have := HX.out.flt P h; omega
              have HPD : Hid (P ≠ D) := by show _ ≠ _; omega
              have HWU : Hid (Went F w' F' U) := HW.out.trans ⟨hKU.mono (fun _ h => h.elim), fun k hk => Or.inl hk⟩
              have HDw : Hid (w'.heap.size ≤ D ∧ w'.heap.size ≤ P) := by
                have := HW.out.1.size
                exact ⟨by omega, by omega⟩
              have hcU := HXU.out.cell
              clear hU hKU HX HW hmk hD hP hmb hc hbb
              have hcs0 : (bs.drop (j * 4096)).take 4096 = [] := by rw [List.drop_eq_nil_of_le (by omega)]; rfl
              obtain ⟨V, hrun, hRM, hKV⟩ := HXU.out.step (i := f + j) (P := P) (D := D) (p := p) (cs := (bs.drop (j * 4096)).take 4096) H0.out HPo.out.bd (by omega) (by have := hcn; simp only [Mm.mapped, Mm.lay]; omega) HFP.out HFD.out HPD.out (by rw [hcs0]; simp) (by rw [hcs0]; exact Bytes.nil) HUP.out (L := Z) HUD.out HZl.out (fun i hi => by rw [hcs0, HZa.out i hi]; rfl)
              clear hcs0 HUP HUD
              have hrun' := hrun
              rw [show ((f + j : Nat) : Int) = (f : Int) + (j : Int) by omega] at hrun'
              have HRV : Hid (RM V m ((S.mapped f (j + 1) p).lay a0 (bs.take ((j + 1) * 4096))) (fun k => F' k ∨ k = P ∨ k = D)) := by
                have h9 := hRM
                have e9 := Mm.mapped_more S f j p bs
                rw [hfa] at e9
                rwa [e9] at h9
              have HWV : Hid (Went F w' (fun k => F' k ∨ k = P ∨ k = D) V) := ⟨HWU.out.1.trans hKV (fun k hk => HWU.out.2 k (by subst hk; exact HXU.out.fb)), fun k hk => by
                rcases hk with hk | hk | hk
                · exact HWU.out.2 k hk
                · subst hk; exact Or.inr HDw.out.2
                · subst hk; exact Or.inr HDw.out.1⟩
              clear hrun hRM hKV HXU HWU
              go_wp2
              go_roundg (k - (j + 1))
              case measure => omega
              case rel => exact ⟨j + 1, _, by omega, rfl, by go_num, HRV.out, HWV.out⟩
          · obtain rfl : j = k := by omega
            have HR2 : Hid (RM wr m ((S.mapped f j p).lay a0 bs) F') := by
              have h9 := HR.out
              rwa [List.take_of_length_le (by omega)] at h9
            go_wp2
            go_ret
            exact ⟨rfl, F', HR2.out, HW.out⟩
  · have hz2 : (bits .and .i64 p 2 != 0) = true := by unfold bne; rw [hb2]; rfl
    have hz1 : (bits .and .i64 p 1 != 0) = false := by unfold bne; rw [hb1]; rfl
    clear hb2 hb1
    go_enter Tryz.func12, Tryz.ntmps12
    go_wp2_with fail
    refine HSz.out.mono ?_
    rintro e w' ⟨rfl, rfl⟩
    clear HSz
    go_wp2
    obtain ⟨b0, pb0, db0, hX0⟩ := HM.out
    have hc0 := hX0.cell
    have HX0 := hide hX0
    clear hX0
    go_loop [12] (fun v => ∃ k : Nat, k ≤ n ∧ v = .int .u64 (k : Int)) (fun v => n - (intOf v).toNat)
    case atStart => exact ⟨0, by omega, rfl⟩
    case round =>
      obtain ⟨k, hk, rfl⟩ := hrel
      by_cases hlt : k < n
      · have hr := HX0.out.look0 (f + k) (by omega) (HSp.out (f + k) (by omega) (by omega))
        rw [show ((f + k : Nat) : Int) = (f : Int) + (k : Int) by omega] at hr
        go_wp2
        go_round
        case rel => exact ⟨k + 1, by omega, by go_num⟩
        case measure => simp [intOf]; omega
      · obtain rfl : k = n := by omega
        clear HX0 hc0 hlt hk
        go_wp2
        go_loopg [13] k (fun g v wr => ∃ (j : Nat) (F' : Nat → Prop), j ≤ k ∧ g = k - j ∧ v = .int .u64 (j : Int) ∧ Hid (RM wr m ((S.mapped f j p).lay a0 (bs.take (j * 4096))) F') ∧ Hid (Went F w' F' wr))
        case atStart => exact ⟨0, F, by omega, rfl, rfl, by rw [Mm.mapped_zero, Nat.zero_mul, List.take_zero, Mm.lay_nil]; exact HM.out, Went.refl _ _⟩
        case round =>
          obtain ⟨j, F', hj, rfl, rfl, HR, HW⟩ := hrel
          by_cases hlt : j < k
          · obtain ⟨Z, hmk, hZl, hZa⟩ := page_nought
            obtain ⟨b, pb, db, hX⟩ := HR.out
            have HX := hide hX
            have HZl := hide hZl
            have HZa := hide hZa
            have hc := hX.cell
            have hmb := hX.flt m hX.fm
            have h0 : ((S.mapped f j p).lay a0 (bs.take (j * 4096))).perm (f + j) = 0 := by
              simp only [Mm.mapped, Mm.lay]
              rw [if_neg (by omega)]
              exact HSp.out (f + j) (by omega) (by omega)
            have H0 := hide h0
            have hbb := hX.map.lt
            clear hX hZl hZa h0 HR
            by_cases hin : j * 4096 < len
            · have hin' : decide ((j : Int) * 4096 < (len : Int)) = true := by simp; omega
              go_upto_region 16 with fail
              obtain ⟨D, hD⟩ : ∃ D, D = wr.heap.size := ⟨_, rfl⟩
              obtain ⟨P, hP⟩ : ∃ P, P = wr.heap.size + 1 := ⟨_, rfl⟩
              rw [← hP, ← hD]
              obtain ⟨U, hU⟩ : ∃ U, U = (wr.alloc (.cells Z.toArray 5)).alloc (.cells #[.int .i64 p, .slice (some ⟨D, 0, none⟩) 4096 4096] 89) := ⟨_, rfl⟩
              rw [← hU]
              have hKU : Kept (fun _ => False) wr U := by rw [hU]; exact ((Kept.refl _ _).alloc _).alloc _
              have HXU : Hid (RMx U m b pb db ((S.mapped f j p).lay a0 (bs.take (j * 4096))) F') := HX.out.kept hKU (fun _ _ h => h)
              have HUD : Hid (U.heap[D]? = some (.cells Z.toArray 5 (0, 0))) := by
                rw [hU, hD, Below.heap_alloc _ _ _ (by simp)]
                exact heap_alloc_new wr _
              have HUP : Hid (U.heap[P]? = some (.cells #[.int .i64 p, .slice (some ⟨D, 0, none⟩) 4096 4096] 89 (0, 0))) := by
                rw [hU, hP]
                have h9 := heap_alloc_new (wr.alloc (.cells Z.toArray 5)) (.cells #[.int .i64 p, .slice (some ⟨D, 0, none⟩) 4096 4096] 89)
                rw [show (wr.alloc (.cells Z.toArray 5)).heap.size = wr.heap.size + 1 by simp] at h9
                exact h9
              have HFD : Hid (¬ F' D) := fun h => by have := HX.out.flt D h; omega
              have HFP : Hid (¬ F' P) := fun h => by have := HX.out.flt P h; omega
              have HPD : Hid (P ≠ D) := by show _ ≠ _; omega
              have HWU : Hid (Went F w' F' U) := HW.out.trans ⟨hKU.mono (fun _ h => h.elim), fun k hk => Or.inl hk⟩
              have HDw : Hid (w'.heap.size ≤ D ∧ w'.heap.size ≤ P) := by
                have := HW.out.1.size
                exact ⟨by omega, by omega⟩
              have hcU := HXU.out.cell
              clear hU hKU HX HW hmk hD hP hmb hc hbb
              obtain ⟨bb, oo, hae, hcc⟩ := HRd.out.addr (by omega)
              subst hae
              have HSe2 := HSe
              have hRU : Rd U (some ⟨bb, oo, none⟩) len cap bs := HWU.out.1.rd HRd.out HSe.out
              obtain ⟨z, hz⟩ : ∃ z, z = j * 4096 := ⟨_, rfl⟩
              have hz' : (j : Int) * 4096 = (z : Int) := by omega
              have hzl : z < len := by omega
              have hzl' : (z : Int) ≤ (len : Int) := by omega
              have hzl2 : z ≤ len := by omega
              have hzc : ¬ cap = z := by omega
              have hwz : IntKind.u64.wrap (z : Int) = (z : Int) := by rw [IntKind.wrap_u64]; omega
              obtain ⟨X, hX⟩ : ∃ X, X = ((bs.drop z).take 4096).map (Value.int .u8) := ⟨_, rfl⟩
              obtain ⟨q, hq⟩ : ∃ q, q = Nat.min (len - z) 4096 := ⟨_, rfl⟩
              have hql : q = min (len - z) 4096 := hq
              have HXl : Hid (X.length = q) := by
                show _ = _
                rw [hX, hql]; simp; omega
              have HQ := hide hq
              have HSrc : Hid (∀ i v, X[i]? = some v → U.cell? ((⟨bb, oo + z, none⟩ : Addr).add i) = some v) := by
                have h9 := hRU.part z (len - z) (by omega)
                rw [addr_add] at h9
                obtain ⟨ad, e9, h8⟩ := h9.firsts q (by omega) (by omega)
                cases e9
                have e7 : ((bs.drop z).take (len - z)).take q = (bs.drop z).take 4096 := by
                  rw [List.take_take, show min q (len - z) = q by omega]
                  apply List.ext_getElem?
                  intro i
                  rw [List.getElem?_take, List.getElem?_take]
                  by_cases hi : i < q
                  · rw [if_pos hi, if_pos (by omega)]
                  · rw [if_neg hi]
                    by_cases hi2 : i < 4096
                    · rw [if_pos hi2, List.getElem?_eq_none (by simp; omega)]
                    · rw [if_neg hi2]
                rw [e7, ← hX] at h8
                exact h8
              have HOne : Hid (∀ v ∈ X, v.oneCell' = true) := by rw [hX]; exact ints_oneCell _ _
              have HX1 := hide hX
              have HZh := hide hz
              have HFit : Hid (0 + X.length ≤ Z.length) := by rw [HXl.out, HZl.out]; show 0 + q ≤ _; omega
              have hcP : U.cell? ⟨P, 1, none⟩ = some (.slice (some ⟨D, 0, none⟩) 4096 4096) := by rw [cell_of_row _ _ 1 _ _ _ HUP.out]; rfl
              have Hby := hide (((HRd.out.bytes.drop z).take 4096))
              clear hX hq hRU hcc hz hql
              go_region_law (refine step_copy_kept rfl (.tmp 105) (.tmp 109) 24 24 rfl 5 Tryz.underlying24 Tryz.size8 (some ⟨D, 0, none⟩) (some ⟨bb, oo + z, none⟩) 4096 4096 (len - z) (cap - z) (by simp [Act.eval]) (by simp [Act.eval]) D 0 Z 5 HUD.out X q HXl.out HQ.out (fun _ => ⟨rfl, _, rfl, HSrc.out⟩) HFit.out HOne.out ?_; intro w6 HG6 HK6)
              have HXW : Hid (RMx w6 m b pb db ((S.mapped f j p).lay a0 (bs.take (j * 4096))) F') := HXU.out.kept (w' := w6) (G := fun k => k = D) ((Kept.refl _ U).drew.trans HK6.out (fun k hk => Or.inl hk)) (fun k hk e => HFD.out (by subst e; exact hk))
              have HKW : Hid (Kept (fun k => k = D) U w6) := (Kept.refl _ U).drew.trans HK6.out (fun k hk => Or.inl hk)
              have hcU6 := HXW.out.cell
              have HWP : Hid (w6.heap[P]? = some (.cells #[.int .i64 p, .slice (some ⟨D, 0, none⟩) 4096 4096] 89 (0, 0))) := by
                rw [HKW.out.block P (Array.getElem?_eq_some_iff.1 HUP.out).1 HPD.out]; exact HUP.out
              obtain ⟨V, hrun, hRM, hKV⟩ := HXW.out.step (i := f + j) (P := P) (D := D) (p := p) (cs := (bs.drop (j * 4096)).take 4096) H0.out HPo.out.bd (by omega) (by have := hcn; simp only [Mm.mapped, Mm.lay]; omega) HFP.out HFD.out HPD.out (by simp; omega) (by rw [← HZh.out]; exact Hby.out) HWP.out (L := splice Z 0 X) HG6.out (by rw [length_splice _ _ _ HFit.out]; exact HZl.out) (fun i hi => by
                rw [splice_get _ _ _ HFit.out, HX1.out, ← HZh.out, List.length_map]
                by_cases hic : i < ((bs.drop z).take 4096).length
                · rw [if_pos (by omega), Nat.sub_zero, List.getElem?_map]
                  simp only [List.getD_eq_getElem?_getD]
                  rw [List.getElem?_eq_getElem hic]
                  rfl
                · rw [if_neg (by omega), HZa.out i hi, List.getD_eq_getElem?_getD, List.getElem?_eq_none (by omega)]; rfl)
              clear HUP HUD HG6 HK6 HSrc HXl HOne HFit HX1 Hby HWP hcP
              have hrun' := hrun
              rw [show ((f + j : Nat) : Int) = (f : Int) + (j : Int) by omega] at hrun'
              have HRV : Hid (RM V m ((S.mapped f (j + 1) p).lay a0 (bs.take ((j + 1) * 4096))) (fun k => F' k ∨ k = P ∨ k = D)) := by
                have h9 := hRM
                have e9 := Mm.mapped_more S f j p bs
                rw [hfa] at e9
                rwa [e9] at h9
              have HWV : Hid (Went F w' (fun k => F' k ∨ k = P ∨ k = D) V) := ⟨(HWU.out.1.trans HKW.out (fun k hk => by subst hk; exact Or.inr HDw.out.1)).trans hKV (fun k hk => HWU.out.2 k (by subst hk; exact HXW.out.fb)), fun k hk => by
                rcases hk with hk | hk | hk
                · exact HWU.out.2 k hk
                · subst hk; exact Or.inr HDw.out.2
                · subst hk; exact Or.inr HDw.out.1⟩
              clear hrun hRM hKV HXU HWU
              go_wp2
              go_roundg (k - (j + 1))
              case measure => omega
              case rel => exact ⟨j + 1, _, by omega, rfl, by go_num, HRV.out, HWV.out⟩
            · have hin' : decide ((j : Int) * 4096 < (len : Int)) = false := by simp; omega
              go_upto_region 17 with fail
              obtain ⟨D, hD⟩ : ∃ D, D = wr.heap.size := ⟨_, rfl⟩
              obtain ⟨P, hP⟩ : ∃ P, P = wr.heap.size + 1 := ⟨_, rfl⟩
              rw [← hP, ← hD]
              obtain ⟨U, hU⟩ : ∃ U, U = (wr.alloc (.cells Z.toArray 5)).alloc (.cells #[.int .i64 p, .slice (some ⟨D, 0, none⟩) 4096 4096] 89) := ⟨_, rfl⟩
              rw [← hU]
              have hKU : Kept (fun _ => False) wr U := by rw [hU]; exact ((Kept.refl _ _).alloc _).alloc _
              have HXU : Hid (RMx U m b pb db ((S.mapped f j p).lay a0 (bs.take (j * 4096))) F') := HX.out.kept hKU (fun _ _ h => h)
              have HUD : Hid (U.heap[D]? = some (.cells Z.toArray 5 (0, 0))) := by
                rw [hU, hD, Below.heap_alloc _ _ _ (by simp)]
                exact heap_alloc_new wr _
              have HUP : Hid (U.heap[P]? = some (.cells #[.int .i64 p, .slice (some ⟨D, 0, none⟩) 4096 4096] 89 (0, 0))) := by
                rw [hU, hP]
                have h9 := heap_alloc_new (wr.alloc (.cells Z.toArray 5)) (.cells #[.int .i64 p, .slice (some ⟨D, 0, none⟩) 4096 4096] 89)
                rw [show (wr.alloc (.cells Z.toArray 5)).heap.size = wr.heap.size + 1 by simp] at h9
                exact h9
              have HFD : Hid (¬ F' D) := fun h => by have := HX.out.flt D h; omega
              have HFP : Hid (¬ F' P) := fun h => by have := HX.out.flt P h; omega
              have HPD : Hid (P ≠ D) := by show _ ≠ _; omega
              have HWU : Hid (Went F w' F' U) := HW.out.trans ⟨hKU.mono (fun _ h => h.elim), fun k hk => Or.inl hk⟩
              have HDw : Hid (w'.heap.size ≤ D ∧ w'.heap.size ≤ P) := by
                have := HW.out.1.size
                exact ⟨by omega, by omega⟩
              have hcU := HXU.out.cell
              clear hU hKU HX HW hmk hD hP hmb hc hbb
              have hcs0 : (bs.drop (j * 4096)).take 4096 = [] := by rw [List.drop_eq_nil_of_le (by omega)]; rfl
              obtain ⟨V, hrun, hRM, hKV⟩ := HXU.out.step (i := f + j) (P := P) (D := D) (p := p) (cs := (bs.drop (j * 4096)).take 4096) H0.out HPo.out.bd (by omega) (by have := hcn; simp only [Mm.mapped, Mm.lay]; omega) HFP.out HFD.out HPD.out (by rw [hcs0]; simp) (by rw [hcs0]; exact Bytes.nil) HUP.out (L := Z) HUD.out HZl.out (fun i hi => by rw [hcs0, HZa.out i hi]; rfl)
              clear hcs0 HUP HUD
              have hrun' := hrun
              rw [show ((f + j : Nat) : Int) = (f : Int) + (j : Int) by omega] at hrun'
              have HRV : Hid (RM V m ((S.mapped f (j + 1) p).lay a0 (bs.take ((j + 1) * 4096))) (fun k => F' k ∨ k = P ∨ k = D)) := by
                have h9 := hRM
                have e9 := Mm.mapped_more S f j p bs
                rw [hfa] at e9
                rwa [e9] at h9
              have HWV : Hid (Went F w' (fun k => F' k ∨ k = P ∨ k = D) V) := ⟨HWU.out.1.trans hKV (fun k hk => HWU.out.2 k (by subst hk; exact HXU.out.fb)), fun k hk => by
                rcases hk with hk | hk | hk
                · exact HWU.out.2 k hk
                · subst hk; exact Or.inr HDw.out.2
                · subst hk; exact Or.inr HDw.out.1⟩
              clear hrun hRM hKV HXU HWU
              go_wp2
              go_roundg (k - (j + 1))
              case measure => omega
              case rel => exact ⟨j + 1, _, by omega, rfl, by go_num, HRV.out, HWV.out⟩
          · obtain rfl : j = k := by omega
            have HR2 : Hid (RM wr m ((S.mapped f j p).lay a0 bs) F') := by
              have h9 := HR.out
              rwa [List.take_of_length_le (by omega)] at h9
            go_wp2
            go_ret
            exact ⟨rfl, F', HR2.out, HW.out⟩

end Go.Proofs.YtgjfelkbblbjfaaGreatDoor
