/- The contract of package mem's put. -/
import Derived.Test.YtggmeopohpbmlaaMemCopy
namespace Go.Proofs.Ytggmeopohpbmlaa
open Go.RowKit Go.Maps
set_option linter.unusedVariables false

set_option maxHeartbeats 3200000 in
theorem put_any (m : Nat) (S : Mm) (F : Nat → Prop) (a0 : Nat) (a : Option Addr) (len cap : Nat) (bs : List Int) (w : World) (h : PM w m S F) (ha : a0 ≤ 18446744073709551615) (r : Rd w a len cap bs)
    (hsep : 0 < len → ∀ x, a = some x → ¬ F x.block) (hpg : ∀ i, a0 / 4096 ≤ i → i * 4096 < a0 + len → 0 < len → S.perm i ≠ 0) :
    Calls Try.prog 31 #[.pointer (some ⟨m, 0, none⟩), .int .u64 (a0 : Int), .slice a len cap] w fun e w' =>
      e = .returned (.tuple #[]) ∧ ∃ F', PM w' m (S.lay a0 bs) F' ∧ Went F w F' w' := by
  have HM := hide h
  have HR := hide r
  have HS := hide hsep
  have HG := hide hpg
  have hlen := r.length
  have hle := r.le
  have hmx := r.max
  clear h r hsep hpg
  go_enter Try.func31, Try.ntmps31
  go_wp2
  go_loopw [1, 2] (fun va vb wr => ∃ (k L A c' : Nat) (a' : Option Addr) (F' : Nat → Prop), k + L = len ∧ A = a0 + k ∧ va = .int .u64 (A : Int) ∧ vb = .slice a' L c' ∧ Rd w a' L c' (bs.drop k) ∧ (0 < L → ∀ x, a' = some x → ¬ F x.block) ∧
      PM wr m (S.lay a0 (bs.take k)) F' ∧ Went F w F' wr) (fun _ vb _ => slen vb)
  case atStart => exact ⟨0, len, a0, cap, a, F, by omega, by omega, rfl, rfl, HR.out, HS.out, by rw [List.take_zero, Mm.lay_nil]; exact HM.out, Went.refl _ _⟩
  case round =>
    obtain ⟨k, L, A, c', a', F', hkL, hA, rfl, rfl, r, hs, hP, hW⟩ := hrel
    by_cases hL : L = 0
    · subst hL
      have HP := hide hP
      have HW := hide hW
      clear hP hW
      go_wp2
      go_end0
      obtain rfl : k = len := by omega
      refine ⟨rfl, F', ?_, HW.out⟩
      have := HP.out
      rwa [List.take_of_length_le (by omega)] at this
    · have hperm : S.perm (A / 4096) ≠ 0 := HG.out _ (by omega) (by omega) (by omega)
      obtain ⟨b, dt, hX⟩ := hP
      obtain ⟨i, hi⟩ : ∃ i, i = A / 4096 := ⟨_, rfl⟩
      obtain ⟨off, hoff⟩ : ∃ off, off = A % 4096 := ⟨_, rfl⟩
      have hi' : (A : Int) / 4096 = (i : Int) := by omega
      have ho' : (A : Int) % 4096 = (off : Int) := by omega
      have ho4 : off < 4096 := by omega
      have hA2 : A = i * 4096 + off := by omega
      have hiL : i < 34359738368 := by
        have h1 := hX.good.top i
        have h2 : S.perm i ≠ 0 := by rw [hi]; exact hperm
        apply Nat.lt_of_not_le; intro h3
        exact h2 (h1 h3)
      have hc := hX.cell
      have hlk := hX.look i (by omega)
      rw [← hi] at hperm
      simp only [pv, Mm.lay] at hlk
      obtain ⟨q, hq⟩ : ∃ q, q = S.perm i := ⟨_, rfl⟩
      rw [← hq] at hlk
      have HQ := hide hq
      have HX := hide hX
      have HW := hide hW
      have HI := hide hi
      have HO := hide hoff
      have HA := hide hA
      have HA2 := hide hA2
      have HR2 := hide r
      have HS2 := hide hs
      have HPe := hide hperm
      have hAb : A < 140737488355328 := by omega
      have hmb : m < wr.heap.size := hX.flt m hX.fm
      clear hX hW hi hoff hA hA2 r hs hperm hq
      have he0 := eqNil0
      have he1 := eqNil1
      cases hd : dt i with
      | none =>
        have HD := hide hd
        rw [hd] at hlk
        simp only [dsl] at hlk
        clear hd
        obtain ⟨Z, hmk, hZl, hZa⟩ := page_nought
        have HZl := hide hZl
        have HZa := hide hZa
        clear hZl hZa
        go_upto_region 5 with fail
        obtain ⟨P, hP⟩ : ∃ P, P = wr.heap.size := ⟨_, rfl⟩
        obtain ⟨g, hg⟩ : ∃ g, g = wr.heap.size + 1 := ⟨_, rfl⟩
        rw [← hg, ← hP]
        obtain ⟨U, hU⟩ : ∃ U, U = (wr.alloc (.cells #[.int .i64 q, .slice (some ⟨g, 0, none⟩) 4096 4096] 63)).alloc (.cells Z.toArray 5) := ⟨_, rfl⟩
        rw [← hU]
        have hcP0 : U.cell? ⟨P, 0, none⟩ = some (.int .i64 q) := by rw [hU, hP]; go_simp
        have hcP1 : U.cell? ⟨P, 1, none⟩ = some (.slice (some ⟨g, 0, none⟩) 4096 4096) := by rw [hU, hP]; go_simp
        have hKU : Kept (fun _ => False) wr U := by rw [hU]; exact ((Kept.refl _ _).alloc _).alloc _
        have HXU : Hid (PMx U m b dt (S.lay a0 (bs.take k)) F') := HX.out.kept hKU (fun _ _ h => h)
        have HgU : Hid (U.heap[g]? = some (.cells Z.toArray 5 (0, 0))) := by
          rw [hU, hg]
          have := heap_alloc_new (wr.alloc (.cells #[.int .i64 q, .slice (some ⟨wr.heap.size + 1, 0, none⟩) 4096 4096] 63)) (.cells Z.toArray 5)
          rw [show (wr.alloc (.cells #[.int .i64 q, .slice (some ⟨wr.heap.size + 1, 0, none⟩) 4096 4096] 63)).heap.size = wr.heap.size + 1 by simp] at this
          exact this
        have hgF : ¬ F' g := fun h => by have := HX.out.flt g h; omega
        have hcU := HXU.out.cell
        have HWU : Hid (Went F w F' U) := HW.out.trans ⟨hKU.mono (fun _ h => h.elim), fun k hk => Or.inl hk⟩
        have hgw : w.heap.size ≤ g := by have := HW.out.1.size; omega
        have HGF := hide hgF
        have hPb : P ≠ b := by have := HX.out.map.lt; omega
        have hmap : MapAt U.drew b (S.lay a0 (bs.take k)).count (fun j => if (S.lay a0 (bs.take k)).perm j = 0 then none else some (pv ((S.lay a0 (bs.take k)).perm j) (dt j))) := HXU.out.map.kept rfl
        obtain ⟨V, hrun, hm2, hgr, hsz⟩ := hmap.store (t := 53) Try.underlying53 (by have := HX.out.good.count; unfold maxLen; omega) i (by omega) (.agg #[.int .i64 q, .slice (some ⟨g, 0, none⟩) 4096 4096])
        have HM2 := hide hm2
        have HGr := hide hgr
        clear hmap hm2 hgr hKU hgF hU hP hmk hsz hmb hg
        go_region
        have hgb : g ≠ b := fun e => by subst e; exact HXU.out.map.noCells HgU.out
        have HKV : Hid (Kept (fun k => k = b) U V) := ⟨HGr.out.os, HGr.out.tape, HGr.out.output, HGr.out.size, fun k hk hn => HGr.out.block k hk (fun e => hn (Option.some.inj e))⟩
        have hcP : V.cell? ⟨P, 1, none⟩ = some (.slice (some ⟨g, 0, none⟩) 4096 4096) := HKV.out.cell hcP1 hPb
        obtain ⟨dtV, hdV⟩ : ∃ dtV : Nat → Option Nat, dtV = fun j => if j = i then some g else dt j := ⟨_, rfl⟩
        obtain ⟨FV, hFV⟩ : ∃ FV : Nat → Prop, FV = fun k => F' k ∨ k = g := ⟨_, rfl⟩
        have HDV : Hid (dtV i = some g) := by rw [hdV]; simp [Hid]
        have HXV : Hid (PMx V m b dtV (S.lay a0 (bs.take k)) FV) := by
          rw [hdV, hFV]
          have hpp : (S.lay a0 (bs.take k)).perm i ≠ 0 := HPe.out
          refine HXU.out.gave (cs := Z) hpp HD.out HGF.out ?_ ?_ HZl.out HZa.out HKV.out
          · have h9 := HM2.out
            rw [if_neg hpp] at h9
            simp only [Option.isSome_some, if_true] at h9
            have e9 : pv ((S.lay a0 (bs.take k)).perm i) (some g) = .agg #[.int .i64 q, .slice (some ⟨g, 0, none⟩) 4096 4096] := by rw [HQ.out]; rfl
            rw [e9]; exact h9
          · rw [HKV.out.block g (Array.getElem?_eq_some_iff.1 HgU.out).1 hgb]
            exact HgU.out
        have HWV : Hid (Went F w FV V) := ⟨HWU.out.1.trans HKV.out (fun k hk => HWU.out.2 k (by subst hk; exact HXU.out.fb)), fun k hk => by
          rw [hFV] at hk
          rcases hk with hk | hk
          · exact HWU.out.2 k hk
          · subst hk; exact Or.inr hgw⟩
        clear hdV hFV HM2 HGr HKV HXU HWU HgU hcP0 hcP1 hcU hrun hc HGF

        obtain ⟨Lr, hLr, hLl, hLb⟩ := (HXV.out.page i g HDV.out)
        have HL := hide hLr
        have hLl' := hLl
        clear hLr hLb
        obtain ⟨bb, oo, ha', hcc⟩ := HR2.out.addr (by omega)
        subst ha'
        have HRV : Hid (Rd V (some ⟨bb, oo, none⟩) L c' (bs.drop k)) := HWV.out.1.rd HR2.out HS2.out
        clear hcc
        obtain ⟨n, hn⟩ : ∃ n, n = Nat.min L (4096 - off) := ⟨_, rfl⟩
        have hnL : n ≤ L := by rw [hn]; exact Nat.min_le_left _ _
        have hn4 : off + n ≤ 4096 := by have : n ≤ 4096 - off := by rw [hn]; exact Nat.min_le_right _ _
                                        omega
        have hn0 : 0 < n := by rw [hn]; exact Nat.lt_min.2 ⟨by omega, by omega⟩
        have hLc := HR2.out.le
        have hcm := HR2.out.max
        obtain ⟨X, hX⟩ : ∃ X, X = ((bs.drop k).take n).map (Value.int .u8) := ⟨_, rfl⟩
        have hXl : X.length = n := by rw [hX]; simp; omega
        have HX1 := hide hX
        have HN := hide hn
        have HXl := hide hXl
        have HPos : Hid (∃ ad, some (⟨bb, oo, none⟩ : Addr) = some ad ∧ ∀ j v, X[j]? = some v → V.cell? (ad.add j) = some v) := by rw [hX]; exact HRV.out.firsts n hnL hn0
        have HOne : Hid (∀ v ∈ X, v.oneCell' = true) := by rw [hX]; exact ints_oneCell _ _
        have hnd : n = Nat.min L (4096 - off) := hn
        clear hX hn hXl
        have HND := hide hnd
        clear hnd
        have hsz : V.heap.size = V.heap.size := rfl
        clear HX HW HM HS HR hlk hsz
        obtain ⟨ad, hade, hadc⟩ := HPos.out
        cases hade
        obtain ⟨w6, hcp6, HG6, HK6⟩ := run_copy_kept V 3 g off (4096 - off) (4096 - off) ⟨bb, oo, none⟩ L c' Lr 5 HL.out X n HXl.out HND.out hadc (by rw [HXl.out, hLl']; exact hn4) HOne.out
        clear hadc HPos
        have HX6 : Hid (PMx w6 m b dtV (S.lay a0 (bs.take (k + n))) FV) := by
          have h9 := HXV.out.laid (cs := (bs.drop k).take n) (off := off) HDV.out (by simp; omega) (HR2.out.bytes.take n) HL.out (by rw [← HX1.out]; exact HG6.out) HK6.out
          rw [← HA2.out, HA.out] at h9
          have e1 : (bs.take k).length = k := by simp; omega
          have e2 := Mm.lay_more S a0 (bs.take k) ((bs.drop k).take n)
          rw [e1] at e2
          rw [e2] at h9
          have e3 : bs.take k ++ (bs.drop k).take n = bs.take (k + n) := by rw [List.take_add]
          rwa [e3] at h9
        have HW6 : Hid (Went F w FV w6) := HWV.out.trans ⟨HK6.out.mono (fun k hk => by subst hk; exact HXV.out.fg i _ HDV.out), fun k hk => Or.inl hk⟩
        clear HG6 HK6 HXV HWV HL HXl HOne HX1 hLl' hLl
        by_cases hcn : c' = n
        · subst hcn
          go_wp2
          go_roundw
          case rel => exact ⟨k + c', L - c', A + c', 0, _, FV, by omega, by rw [HA.out]; omega, by go_num, by go_num, by
            obtain rfl : L = c' := by omega
            have h9 := HR2.out.part_end L (L - L) (by omega) rfl
            rw [List.drop_drop] at h9
            exact ⟨by simp; omega, by omega, by omega, by rw [List.drop_eq_nil_of_le (by omega)]; exact Bytes.nil, fun _ => rfl, fun x hx i hi => by omega⟩, fun _ => HS2.out (by omega), ⟨b, dtV, HX6.out⟩, HW6.out⟩
          case measure => simp [slen]; omega
        · go_wp2
          go_roundw
          case rel =>
            refine ⟨k + n, L - n, A + n, c' - n, some ⟨bb, oo + n, none⟩, FV, by omega, by rw [HA.out]; omega, by go_num, by go_num, ?_, ?_, ⟨b, dtV, HX6.out⟩, HW6.out⟩
            · have h9 := HR2.out.part n (L - n) (by omega)
              have e4 : ((bs.drop k).drop n).take (L - n) = bs.drop (k + n) := by rw [List.drop_drop, List.take_of_length_le (by simp; omega)]
              rw [e4, show (⟨bb, oo, none⟩ : Addr).add n = ⟨bb, oo + n, none⟩ by unfold Addr.add; split <;> simp_all] at h9
              exact h9
            · intro _ x hx
              cases hx
              exact HS2.out (by omega) ⟨bb, oo, none⟩ rfl
          case measure => simp [slen]; omega

      | some g =>
        have HD := hide hd
        rw [hd] at hlk
        simp only [dsl] at hlk
        clear hd
        go_upto_region 6 with fail
        obtain ⟨P, hP⟩ : ∃ P, P = wr.heap.size := ⟨_, rfl⟩
        rw [← hP]
        obtain ⟨V, hV⟩ : ∃ V, V = wr.alloc (.cells #[.int .i64 q, .slice (some ⟨g, 0, none⟩) 4096 4096] 63) := ⟨_, rfl⟩
        rw [← hV]
        have hcP : V.cell? ⟨P, 1, none⟩ = some (.slice (some ⟨g, 0, none⟩) 4096 4096) := by rw [hV, hP]; go_simp
        have hKV : Kept (fun _ => False) wr V := by rw [hV]; exact (Kept.refl _ _).alloc _
        obtain ⟨dtV, hdV⟩ : ∃ dtV : Nat → Option Nat, dtV = dt := ⟨_, rfl⟩
        obtain ⟨FV, hFV⟩ : ∃ FV : Nat → Prop, FV = F' := ⟨_, rfl⟩
        have HDV : Hid (dtV i = some g) := by rw [hdV]; exact HD.out
        have HXV : Hid (PMx V m b dtV (S.lay a0 (bs.take k)) FV) := by rw [hdV, hFV]; exact HX.out.kept hKV (fun _ _ h => h)
        have HWV : Hid (Went F w FV V) := by rw [hFV]; exact HW.out.trans ⟨hKV.mono (fun _ h => h.elim), fun k hk => Or.inl hk⟩
        clear hdV hFV hKV hV hP hc HD hmb

        obtain ⟨Lr, hLr, hLl, hLb⟩ := (HXV.out.page i g HDV.out)
        have HL := hide hLr
        have hLl' := hLl
        clear hLr hLb
        obtain ⟨bb, oo, ha', hcc⟩ := HR2.out.addr (by omega)
        subst ha'
        have HRV : Hid (Rd V (some ⟨bb, oo, none⟩) L c' (bs.drop k)) := HWV.out.1.rd HR2.out HS2.out
        clear hcc
        obtain ⟨n, hn⟩ : ∃ n, n = Nat.min L (4096 - off) := ⟨_, rfl⟩
        have hnL : n ≤ L := by rw [hn]; exact Nat.min_le_left _ _
        have hn4 : off + n ≤ 4096 := by have : n ≤ 4096 - off := by rw [hn]; exact Nat.min_le_right _ _
                                        omega
        have hn0 : 0 < n := by rw [hn]; exact Nat.lt_min.2 ⟨by omega, by omega⟩
        have hLc := HR2.out.le
        have hcm := HR2.out.max
        obtain ⟨X, hX⟩ : ∃ X, X = ((bs.drop k).take n).map (Value.int .u8) := ⟨_, rfl⟩
        have hXl : X.length = n := by rw [hX]; simp; omega
        have HX1 := hide hX
        have HN := hide hn
        have HXl := hide hXl
        have HPos : Hid (∃ ad, some (⟨bb, oo, none⟩ : Addr) = some ad ∧ ∀ j v, X[j]? = some v → V.cell? (ad.add j) = some v) := by rw [hX]; exact HRV.out.firsts n hnL hn0
        have HOne : Hid (∀ v ∈ X, v.oneCell' = true) := by rw [hX]; exact ints_oneCell _ _
        have hnd : n = Nat.min L (4096 - off) := hn
        clear hX hn hXl
        have HND := hide hnd
        clear hnd
        have hsz : V.heap.size = V.heap.size := rfl
        clear HX HW HM HS HR hlk hsz
        obtain ⟨ad, hade, hadc⟩ := HPos.out
        cases hade
        obtain ⟨w6, hcp6, HG6, HK6⟩ := run_copy_kept V 3 g off (4096 - off) (4096 - off) ⟨bb, oo, none⟩ L c' Lr 5 HL.out X n HXl.out HND.out hadc (by rw [HXl.out, hLl']; exact hn4) HOne.out
        clear hadc HPos
        have HX6 : Hid (PMx w6 m b dtV (S.lay a0 (bs.take (k + n))) FV) := by
          have h9 := HXV.out.laid (cs := (bs.drop k).take n) (off := off) HDV.out (by simp; omega) (HR2.out.bytes.take n) HL.out (by rw [← HX1.out]; exact HG6.out) HK6.out
          rw [← HA2.out, HA.out] at h9
          have e1 : (bs.take k).length = k := by simp; omega
          have e2 := Mm.lay_more S a0 (bs.take k) ((bs.drop k).take n)
          rw [e1] at e2
          rw [e2] at h9
          have e3 : bs.take k ++ (bs.drop k).take n = bs.take (k + n) := by rw [List.take_add]
          rwa [e3] at h9
        have HW6 : Hid (Went F w FV w6) := HWV.out.trans ⟨HK6.out.mono (fun k hk => by subst hk; exact HXV.out.fg i _ HDV.out), fun k hk => Or.inl hk⟩
        clear HG6 HK6 HXV HWV HL HXl HOne HX1 hLl' hLl
        by_cases hcn : c' = n
        · subst hcn
          go_wp2
          go_roundw
          case rel => exact ⟨k + c', L - c', A + c', 0, _, FV, by omega, by rw [HA.out]; omega, by go_num, by go_num, by
            obtain rfl : L = c' := by omega
            have h9 := HR2.out.part_end L (L - L) (by omega) rfl
            rw [List.drop_drop] at h9
            exact ⟨by simp; omega, by omega, by omega, by rw [List.drop_eq_nil_of_le (by omega)]; exact Bytes.nil, fun _ => rfl, fun x hx i hi => by omega⟩, fun _ => HS2.out (by omega), ⟨b, dtV, HX6.out⟩, HW6.out⟩
          case measure => simp [slen]; omega
        · go_wp2
          go_roundw
          case rel =>
            refine ⟨k + n, L - n, A + n, c' - n, some ⟨bb, oo + n, none⟩, FV, by omega, by rw [HA.out]; omega, by go_num, by go_num, ?_, ?_, ⟨b, dtV, HX6.out⟩, HW6.out⟩
            · have h9 := HR2.out.part n (L - n) (by omega)
              have e4 : ((bs.drop k).drop n).take (L - n) = bs.drop (k + n) := by rw [List.drop_drop, List.take_of_length_le (by simp; omega)]
              rw [e4, show (⟨bb, oo, none⟩ : Addr).add n = ⟨bb, oo + n, none⟩ by unfold Addr.add; split <;> simp_all] at h9
              exact h9
            · intro _ x hx
              cases hx
              exact HS2.out (by omega) ⟨bb, oo, none⟩ rfl
          case measure => simp [slen]; omega


end Go.Proofs.Ytggmeopohpbmlaa
