/- The walk of GroupApart. -/
import Derived.Test.YtkllbcjbbfpccaaGroupApartP
import Derived.Deep.RegionLaw
namespace Go.Proofs.Ytkllbcjbbfpccaa
open Go.RowKit
set_option linter.unusedVariables false
set_option linter.unusedSimpArgs false

set_option maxHeartbeats 6400000 in
set_option maxRecDepth 20000 in
theorem groupapart_walk (a : Option Addr) (n cap : Nat) (gs : List Int) (turn : Nat) (again : Bool) (w : World) (r : Rd w a n cap gs) (ht : turn ≤ 255) :
    Calls Try.prog 6 #[.slice a n cap, .int .u8 (turn : Int), .bool again] w fun e w' => e = .returned (.bool true) ∧ Below w.heap.size w w' := by
  obtain ⟨iY, hiY, hzY0, hzY1, hzY2⟩ := info_parts Try.infoInt
  obtain ⟨iS, hiS, hzS0, hzS1, hzS2⟩ := info_parts Try.infoInts
  have hmx := r.max
  have hle := r.le
  have hl := r.length
  have HR := hide r
  have HBY := hide r.bytes
  have KN := hide (known_14 w)
  clear r
  by_cases h2 : n < 2
  · have h2' : (n : Int) < 2 := by omega
    go_enter Try.func6, Try.ntmps6
    go_wp2_with fail
    refine KN.out.mono ?_
    rintro e W1 ⟨rfl, b1⟩
    have B1 := hide b1
    clear b1
    go_wp2
    go_ret
    exact ⟨rfl, B1.out⟩
  have h2' : ¬ ((n : Int) < 2) := by omega
  by_cases h : 8 < n
  · have h' : (8 : Int) < (n : Int) := by omega
    go_enter Try.func6, Try.ntmps6
    go_wp2_with fail
    refine KN.out.mono ?_
    rintro e W1 ⟨rfl, b1⟩
    have B1 := hide b1
    clear b1
    go_wp2
    go_ret
    exact ⟨rfl, B1.out⟩
  have h' : ¬ ((8 : Int) < (n : Int)) := by omega
  have tw : IntKind.i64.wrap (turn : Int) = (turn : Int) := by rw [IntKind.wrap_i64]; omega
  go_enter Try.func6, Try.ntmps6
  go_wp2_with fail
  refine KN.out.mono ?_
  rintro e W1 ⟨rfl, b1⟩
  have S0 : Hid (∃ vs, Grs w w.heap.size W1 (.slice none 0 0) 0 vs (apS gs 0)) := ⟨[], Grs.nil w W1 _ b1 (Nat.le_refl _)⟩
  clear b1 KN
  go_upto_region 8 with fail
  go_loopg [7, 8, 9] n (fun gg v av iv wr => ∃ i : Nat, i ≤ n ∧ gg = n - i ∧ iv = .int .i64 (i : Int) ∧ av = .int .i64 (1 + riA gs i) ∧ Hid (∃ vs, Grs w w.heap.size wr v i vs (apS gs i)))
  case atStart => exact ⟨0, by omega, rfl, rfl, rfl, S0⟩
  case round =>
    obtain ⟨i, hi, rfl, rfl, rfl, S⟩ := hrel
    clear S0
    have bA := riA_bd gs i
    by_cases hlt : i < n
    · have hlt' : (i : Int) < (n : Int) := by omega
      obtain ⟨vs, hg⟩ := S.out
      have G := hide hg
      obtain ⟨b2, o2, rfl, hc⟩ := (HR.out.below hg.bel).addr (by omega)
      obtain ⟨x, hx⟩ : ∃ x, gs.getD i 0 = x := ⟨_, rfl⟩
      have hxb : 0 ≤ x ∧ x ≤ 255 := by
        have := HBY.out x (by rw [← hx, List.getD_eq_getElem?_getD, List.getElem?_eq_getElem (by omega)]; exact List.getElem_mem _)
        omega
      obtain ⟨p, hp⟩ : ∃ p : Nat, x % 4 = (p : Int) := ⟨(x % 4).toNat, by omega⟩
      have hpb : p ≤ 3 := by omega
      have t0 : x.tmod 4 = (p : Int) := by rw [Int.tmod_eq_emod_of_nonneg hxb.1]; exact hp
      have pw : IntKind.i64.wrap (p : Int) = (p : Int) := by rw [IntKind.wrap_i64]; omega
      have HC : Hid (∀ W, Below wr.heap.size wr W → W.cell? ⟨b2, o2 + i, none⟩ = some (.int .u8 x)) := fun W hW => by
        obtain ⟨b', o', e, hc'⟩ := ((HR.out.below hg.bel).below hW).addr (by omega)
        cases e
        have := hc' i hlt
        rw [hx] at this
        exact this
      have HA : Hid (riA gs (i + 1) = riA gs i + (p : Int)) := by show riA gs (i + 1) = _; simp only [riA, hx, hp]
      obtain ⟨M, hM⟩ : ∃ M, apL gs i = M := ⟨_, rfl⟩
      have hMl : M.length = p := by rw [← hM, apL_len, hx, hp]; rfl
      have HMa : Hid (∀ j, j < p → M[j]? = some (1 + riA gs i + (j : Int))) := fun j hj => by rw [← hM]; exact apL_at gs i j (by rw [hx, hp]; simpa using hj)
      have HMf : Hid (∀ x ∈ M, -9223372036854775808 ≤ x ∧ x ≤ 9223372036854775807) := by rw [← hM]; exact apL_fit gs i (by omega)
      have HS : Hid (apS gs (i + 1) = apS gs i ++ [M]) := by show apS gs (i + 1) = _; rw [apS_succ, hM]
      obtain ⟨s, hs⟩ : ∃ s, 1 + riA gs i = s := ⟨_, rfl⟩
      have HSS := hide hs
      rw [hs] at HMa ⊢
      have hsb : 1 ≤ s ∧ s ≤ 100 := by omega
      clear hc hx hp hM hs S hg bA
      obtain ⟨Wo, rfl⟩ : ∃ W, W = wr := ⟨_, rfl⟩
      go_upto_region 12 with fail
      have T0 : Hid (GrF Wo Wo (.slice none 0 0) M 0) := ⟨World.ownsRow_nil _ _ _ _, Below.refl _ _⟩
      go_loopg [8, 10, 11] p (fun gg av v jv wi => ∃ j : Nat, j ≤ p ∧ gg = p - j ∧ jv = .int .i64 (j : Int) ∧ av = .int .i64 (s + (j : Int)) ∧ Hid (GrF Wo wi v M j) ∧ Hid (j = 0 → v = .slice none 0 0))
      case atStart => exact ⟨0, by omega, rfl, rfl, by simp, T0, fun _ => rfl⟩
      case round =>
        obtain ⟨j, hj, rfl, rfl, rfl, T, HZ⟩ := hrel
        clear T0
        have c2 := HC.out _ T.out.bel
        have zi := T.out.bel.size
        by_cases hlj : j < p
        · have hlj' : (j : Int) < (p : Int) := by omega
          obtain ⟨q, hq⟩ : ∃ q, s + (j : Int) = q := ⟨_, rfl⟩
          have hqb : 0 ≤ q ∧ q ≤ 1000 := by omega
          have HX := hide (HMa.out j hlj)
          rw [hq] at HX ⊢
          have HQ := hide hq
          obtain ⟨xs, hxs⟩ : ∃ xs, (M.take j).map (Value.int .i64) = xs := ⟨_, rfl⟩
          have ow := T.out.row
          rw [hxs] at ow
          have OW := hide ow
          have HXS := hide hxs
          clear ow hxs hq HZ
          go_upto_region 15 with (at_builtin; refine wpList_append_own _ rfl _ _ 23 rfl Wo.heap.size 3 iY (.int .i64 0) 1 8 Try.underlying23 hiY hzY0 hzY1 hzY2 rfl (by decide) _ _ _ rfl (OW.out.alloc _) ⟨wr.heap.size, 0, none⟩ 1 1 [.int .i64 q] rfl rfl (World.news_of_block (cs := #[.int .i64 q]) (t := 3) (fr := (0, 0)) (heap_alloc_new wr _)) (by simp [Value.oneCell']) (by unfold maxLen; omega) (by omega) (by simp; omega) ?_)
          intro v9 W9 hown9 hgrow9 _
          rw [← HXS.out] at hown9
          have T9 := hide (T.out.push HX.out hown9 hgrow9)
          clear hown9 hgrow9 T HXS OW HX c2
          go_wp2
          go_roundg (p - (j + 1))
          case measure => omega
          case rel => exact ⟨j + 1, by omega, rfl, by go_num, by rw [← HQ.out]; congr 1; omega, T9, fun h => by omega⟩
        · obtain rfl : j = p := by omega
          have t1 := T.out.row
          rw [List.take_of_length_le (by omega), ← hMl] at t1
          have G2 := hide (G.out.below T.out.bel)
          have M2 := hide (row_lower t1 G.out.bel.size)
          have z2 := G2.out.bel.size
          obtain ⟨a9, c9, h9, _⟩ := Ri.own t1 HMf.out
          subst h9
          have HN : Hid (M = [] → Value.slice a9 M.length c9 = .slice none 0 0) := fun h => HZ.out (by rw [h] at hMl; exact hMl.symm)
          rw [hMl] at M2 HN ⊢
          have ow := G2.out.row
          have OW := hide ow
          clear t1 T G HZ ow
          go_upto_region 9 with (at_builtin; refine wpList_append_own _ rfl _ _ 35 rfl w.heap.size 23 iS (.slice none 0 0) 1 24 Try.underlying35 hiS hzS0 hzS1 hzS2 rfl (by decide) _ _ _ rfl (OW.out.alloc _) ⟨wr.heap.size, 0, none⟩ 1 1 [.slice a9 j c9] rfl rfl (World.news_of_block (cs := #[.slice a9 j c9]) (t := 23) (fr := (0, 0)) (heap_alloc_new wr _)) (by simp [Value.oneCell']) (by unfold maxLen; omega) (by omega) (by simp; omega) ?_)
          intro v8 W8 hown8 hgrow8 _
          have S8 : Hid (∃ vs, Grs w w.heap.size W8 v8 (i + 1) vs (apS gs (i + 1))) := by
            refine ⟨vs ++ [.slice a9 j c9], ?_⟩
            rw [HS.out]
            refine G2.out.push ?_ HN.out HMf.out hown8 hgrow8
            rw [hMl]
            exact M2.out
          clear hown8 hgrow8 OW G2 M2 HN c2
          go_wp2
          go_roundg (n - (i + 1))
          case measure => omega
          case rel => exact ⟨i + 1, by omega, rfl, by go_num, by rw [HA.out, ← HSS.out]; congr 1; omega, S8⟩
    · obtain rfl : i = n := by omega
      obtain ⟨Wl, rfl⟩ : ∃ W, W = wr := ⟨_, rfl⟩
      obtain ⟨vs, hg⟩ := S.out
      obtain ⟨al, cl, hv, rl⟩ := Rv.own hg.row
      subst hv
      obtain ⟨bl, ol, rfl, _⟩ := rl.addr (by omega)
      have hle2 := rl.le
      have hmx2 := rl.max
      have G := hide hg
      have RL := hide rl
      have zl := hg.bel.size
      obtain ⟨s, hs⟩ : ∃ s, riA gs i = s := ⟨_, rfl⟩
      rw [hs] at bA ⊢
      have HSS := hide hs
      obtain ⟨T, hT⟩ : ∃ T, apT gs i turn = T := ⟨_, rfl⟩
      have HTE := hide hT
      have hTl : T.length = i := by rw [← hT, apT_len]
      obtain ⟨vts, hvts⟩ : ∃ vts, (List.range i).map (fun j => vs.getD ((j + turn) % i) (.slice none 0 0)) = vts := ⟨_, rfl⟩
      have hvl : vts.length = i := by rw [← hvts]; simp
      have HE : Hid (∀ k, k < i → ∃ a' c' m z, z < i ∧ ((k : Int) + (turn : Int)).tmod (i : Int) = (z : Int) ∧ vs[z]? = some (.slice a' m.length c') ∧ vts[k]? = some (.slice a' m.length c') ∧ T[k]? = some m ∧ m.length ≤ 3 ∧ (∀ x ∈ m, -9223372036854775808 ≤ x ∧ x ≤ 9223372036854775807) ∧ Wl.ownsRow w.heap.size 3 1 (.slice a' m.length c') m.length (m.map (Value.int .i64)) ∧ (m = [] → Value.slice a' m.length c' = .slice none 0 0)) := fun k hk => by
        have hz : (k + turn) % i < i := Nat.mod_lt _ (by omega)
        have hm := apS_at gs i _ hz
        obtain ⟨v', h1, h2, h3⟩ := hg.el _ _ hm
        have hf := apL_fit gs ((k + turn) % i) (by omega)
        obtain ⟨a', c', h4, _⟩ := Ri.own h2 hf
        subst h4
        refine ⟨a', c', apL gs ((k + turn) % i), (k + turn) % i, hz, ?_, h1, ?_, ?_, apL_le _ _, hf, h2, h3⟩
        · rw [Int.tmod_eq_emod_of_nonneg (by omega)]
          push_cast
          rfl
        · rw [← hvts, List.getElem?_map, List.getElem?_range hk]
          simp [h1]
        · rw [← hT, apT_at gs i turn k hk]
      have S3 : Hid (Grs w Wl.heap.size Wl (.slice none 0 0) 0 (vts.take 0) (T.take 0) ∧ Below Wl.heap.size Wl Wl) := ⟨Grs.nil w Wl _ hg.bel zl, Below.refl _ _⟩
      clear hg rl S hs hT hvts
      go_upto_region 19 with fail
      go_loopg [12, 13] i (fun gg v iv wr => ∃ k : Nat, k ≤ i ∧ gg = i - k ∧ iv = .int .i64 (k : Int) ∧ Hid (Grs w Wl.heap.size wr v k (vts.take k) (T.take k) ∧ Below Wl.heap.size Wl wr))
      case atStart => exact ⟨0, by omega, rfl, rfl, S3⟩
      case round =>
        obtain ⟨k, hk, rfl, rfl, S⟩ := hrel
        clear S3
        have zr := S.out.2.size
        by_cases hlk : k < i
        · have hlk' : (k : Int) < (i : Int) := by omega
          obtain ⟨a', c', m, z, hz, hzt, hv1, hv2, hTk, hm3, hmf, hmo, hmn⟩ := HE.out k hlk
          have hz' : (z : Int) < (i : Int) := by omega
          obtain ⟨bl', ol', e, hcl⟩ := (RL.out.below S.out.2).addr (by omega)
          cases e
          have c1 := hcl z _ hv1
          obtain ⟨p, hp⟩ : ∃ p, m.length = p := ⟨_, rfl⟩
          have HO := hide (ownsRow_kept0 hmo S.out.2)
          have HV2 := hide hv2
          have HTK := hide hTk
          have HMF := hide hmf
          have HMN := hide hmn
          have HP := hide hp
          rw [hp] at c1 HV2
          have OW := hide S.out.1.row
          have hi0 : ¬ ((i : Int) = 0) := by omega
          clear hcl hmo hv1 hv2 hTk hmf hmn hm3 hp
          go_upto_region 20 with (at_builtin; refine wpList_append_own _ rfl _ _ 35 rfl Wl.heap.size 23 iS (.slice none 0 0) 1 24 Try.underlying35 hiS hzS0 hzS1 hzS2 rfl (by decide) _ _ _ rfl (OW.out.alloc _) ⟨wr.heap.size, 0, none⟩ 1 1 [.slice a' p c'] rfl rfl (World.news_of_block (cs := #[.slice a' p c']) (t := 23) (fr := (0, 0)) (heap_alloc_new wr _)) (by simp [Value.oneCell']) (by unfold maxLen; omega) (by omega) (by simp; omega) ?_)
          intro v8 W8 hown8 hgrow8 _
          have S8 : Hid (Grs w Wl.heap.size W8 v8 (k + 1) (vts.take (k + 1)) (T.take (k + 1)) ∧ Below Wl.heap.size Wl W8) := by
            have b8 := (S.out.2.alloc S.out.2.size (.cells #[.slice a' p c'] 23)).grown hgrow8 (by simp; omega) (fun j hj => (OW.out.lt j hj).1)
            have e1 : vts.take (k + 1) = vts.take k ++ [.slice a' p c'] := by rw [List.take_add_one, HV2.out]; rfl
            have e2 : T.take (k + 1) = T.take k ++ [m] := by rw [List.take_add_one, HTK.out]; rfl
            rw [e1, e2]
            refine ⟨S.out.1.push (by have := HO.out; rwa [HP.out] at this ⊢) (by have := HMN.out; rwa [HP.out] at this) HMF.out hown8 hgrow8, b8⟩
          clear hown8 hgrow8 OW HO HV2 HTK HMF HMN S c1
          go_wp2
          go_roundg (i - (k + 1))
          case measure => omega
          case rel => exact ⟨k + 1, by omega, rfl, by go_num, S8⟩
        · obtain rfl : k = i := by omega
          have hgt := S.out.1
          rw [List.take_of_length_le (by omega), List.take_of_length_le (by omega)] at hgt
          obtain ⟨at', ct, hv, rt⟩ := hgt.rii
          subst hv
          obtain ⟨bt, ot, rfl, _⟩ := rt.addr (by omega)
          have hlet := rt.le
          have hmxt := rt.max
          have hT3 : ∀ m ∈ T, m.length ≤ 1000 := fun m hm => by
            obtain ⟨j, hj⟩ := List.getElem?_of_mem hm
            obtain ⟨_, _, m', _, _, _, _, _, h5, h6, _⟩ := HE.out j (by have := (List.getElem?_eq_some_iff.1 hj).1; omega)
            rw [hj] at h5
            cases h5
            omega
          have HAP : Hid (¬ grTwo T) := by rw [← HTE.out]; exact apT_apart gs k turn
          have CA := hide (grcheck_any _ k ct T wr rt (by omega) hT3)
          have RT := hide rt
          have GT := hide hgt
          have z5 := hgt.bel.size
          have HT3 := hide hT3
          clear S hgt rt hT3
          go_wp2_with fail
          refine CA.out.mono ?_
          rintro e W5 ⟨hc, b5⟩
          obtain rfl := chk_no HAP.out hc
          have GT5 := hide (GT.out.below b5)
          have CB := hide (rgrcheck_any _ k ct T W5 (RT.out.below b5))
          have z6 := GT5.out.bel.size
          clear hc b5 CA GT RT
          go_wp2_with fail
          refine CB.out.mono ?_
          rintro e W6 ⟨hc, b6⟩
          obtain rfl := chk_no HAP.out hc
          have GT6 := hide (GT5.out.below b6)
          have z7 := GT6.out.bel.size
          obtain ⟨u, ⟨hu0, hu1⟩, hpl⟩ := place11_any (turn : Int) (k : Int) ⟨by omega, by omega⟩ ⟨by omega, by omega⟩
          obtain ⟨kk, rfl⟩ := Int.eq_ofNat_of_zero_le hu0
          have PL := hide (hpl W6)
          clear hc b6 CB GT5 hpl HAP
          go_wp2_with fail
          refine PL.out.mono ?_
          rintro e w' ⟨rfl, hw'⟩
          obtain rfl := hw'.symm
          clear PL
          rcases again with _ | _
          · have BF := hide GT6.out.bel
            clear GT6
            go_wp2
            go_ret
            exact ⟨rfl, BF.out⟩
          by_cases hs0 : s = 0
          · subst hs0
            have BF := hide GT6.out.bel
            clear GT6
            go_wp2
            go_ret
            exact ⟨rfl, BF.out⟩
          have hs1 : (1 + s == 1) = false := by simp; omega
          have hkk : kk < k := by omega
          obtain ⟨a', c', m, _, _, _, _, hv2, hTk, hm3, hmf, _, _⟩ := HE.out kk hkk
          obtain ⟨v', hv3, hmo, hmn⟩ := GT6.out.el kk m hTk
          rw [hv2] at hv3
          cases hv3
          obtain rfl := row_at GT6.out.row
          have ck := GT6.out.row.cellAt kk (by omega)
          rw [hv2] at ck
          have fk := GT6.out.row.frozenAt kk
          obtain ⟨y, hy⟩ : ∃ y, (turn : Int).tmod s = y := ⟨_, rfl⟩
          have hyb : 0 ≤ y ∧ y < s := by
            rw [← hy]
            exact ⟨Int.tmod_nonneg _ (by omega), Int.tmod_lt_of_pos _ (by omega)⟩
          obtain ⟨q, hq⟩ : ∃ q, 1 + y = q := ⟨_, rfl⟩
          have hqb : 1 ≤ q ∧ q ≤ s := by omega
          have HMO := hide hmo
          have HMN := hide hmn
          have HTK := hide hTk
          have HV2 := hide hv2
          have HMF := hide hmf
          clear hmo hmn hTk hv2 hmf
          obtain ⟨p, hp⟩ : ∃ p, m.length = p := ⟨_, rfl⟩
          rw [hp] at ck hm3 HMO HMN
          have HP := hide hp
          clear hp
          have w1 : IntKind.i64.wrap (1 + s - 1) = s := by rw [IntKind.wrap_i64]; omega
          have w2 : IntKind.i64.wrap (1 + y) = q := by rw [IntKind.wrap_i64]; omega
          have HQ := hide hq
          clear hq
          go_upto_region 27 with fail
          go_cut [14] (fun u wx => u = .int .i64 (kk : Int) ∧ Hid (∃ g cc, Grs w Wl.heap.size wx (.slice (some ⟨bt, 0, none⟩) k ct) k (vts.set kk (.slice (some ⟨g, 0, none⟩) (p + 1) cc)) (T.set kk (m ++ [q]))))
          case first =>
            have hbt : bt < W6.heap.size := (GT6.out.row.lt bt rfl).2
            have HFAR : Hid (∀ (o : Obj) (X : World), (W6.drew.alloc o).grownBy X none → X.cell? ⟨bt, kk, none⟩ = some (.slice a' p c') ∧ X.frozen? ⟨bt, kk, none⟩ = false) := fun o X hg => by
              have h1 : bt < (W6.drew.alloc o).heap.size := by simp; omega
              have h3 : Below W6.heap.size W6 (W6.drew.alloc o) := ((Below.refl _ _).drew).alloc (by simp) o
              exact ⟨(hg.cell_far ⟨bt, kk, none⟩ h1 (by simp)).trans ((h3.cell hbt).trans ck), (hg.frozen_far ⟨bt, kk, none⟩ h1 (by simp)).trans ((h3.frozen hbt).trans fk)⟩
            by_cases hp0 : p = 0
            · subst hp0
              obtain rfl : m = [] := List.eq_nil_of_length_eq_zero HP.out
              have e0 := HMN.out rfl
              simp only [Value.slice.injEq] at e0
              obtain ⟨rfl, _, rfl⟩ := e0
              have hap : ∀ W : World, (Builtin.append_ #[23, 23] 23 #[.slice none 0 0, .slice none 0 0]).run Try.prog W = .ok (.slice none 0 0) W := fun W => run_append_owned_none W W.heap.size 23 23 3 iY 1 Try.underlying23 hiY (.slice none 0 0) 0 [] (World.ownsRow_nil _ _ _ _)
              go_region_law (first | (refine step_append_lies _ (by rfl) _ _ _ (by rfl) W6.heap.size 3 iY _ 1 8 Try.underlying23 hiY hzY0 hzY1 hzY2 rfl (by omega) (.slice none 0 0) 0 [] (by rfl) (World.ownsRow_nil _ _ _ _) ⟨W6.heap.size, 0, none⟩ 1 1 [.int .i64 q] (by rfl) (by rfl) (World.news_of_block (cs := #[.int .i64 q]) (t := 3) (fr := (0, 0)) (heap_alloc_new W6.drew _)) (by simp [Value.oneCell']) (by omega) (by unfold maxLen; omega) (by omega) (by simp) (W6.heap.size + 1) (by simp) ?_; intro gg cap2 W8 hown8 hgrow8 hat8 hlt8; have HO8 := hide hown8; have HG8 := hide hgrow8; have fk8 := HFAR.out _ _ hgrow8; clear hown8 hgrow8 hat8 hlt8) | fail)
              all_goals
                have GF := hide (GT6.out.store (k := kk) (X := W8) (v' := .slice (some ⟨gg, 0, none⟩) (0 + 1) cap2) (m := [q]) ((((Below.refl W6.heap.size W6).drew).alloc (by simp) _).grown HG8.out (by simp) (fun j hj => by cases hj)) hkk HO8.out (by simp) (fun x hx => by rw [List.mem_singleton.1 hx]; omega))
                clear HO8 HG8 fk8 HFAR HMO
                go_wp2
                go_meet
                case rel => exact ⟨rfl, gg, cap2, GF.out⟩
            · obtain ⟨g9, c9, h9, _, _⟩ := HMO.out.form (by omega)
              simp only [Value.slice.injEq] at h9
              obtain ⟨rfl, _, rfl⟩ := h9
              clear HFAR
              obtain ⟨xs, hxs⟩ : ∃ xs, m.map (Value.int .i64) = xs := ⟨_, rfl⟩
              have hmo := HMO.out
              rw [hxs] at hmo
              have HXL : Hid (xs.length = p * 1) := by show xs.length = p * 1; rw [← hxs, List.length_map, HP.out, Nat.mul_one]
              have HONE : Hid (∀ u ∈ xs, u.oneCell' = true) := fun u hu => by
                rw [← hxs] at hu
                obtain ⟨_, _, rfl⟩ := List.mem_map.1 hu
                rfl
              have HNEWS : Hid (∀ W, Below W6.heap.size W6 W → ∀ j u, xs[j]? = some u → W.cell? ((⟨g9, 0, none⟩ : Addr).add j) = some u) := fun W hW j u hu => by
                have h1 := hmo.cells (g := g9) rfl j u hu
                rw [hW.cell (World.block_lt_of_cell? W6 _ h1)]
                exact h1
              have BD := hide ((Below.refl W6.heap.size W6).drew)
              have BE : Hid (∀ o : Obj, Below W6.heap.size W6 ((W6.alloc o).drew)) := fun o => ((Below.refl W6.heap.size W6).alloc (Nat.le_refl _) o).drew
              have HFQ : Hid (∀ X, ((W6.alloc (.cells #[.int .i64 q] 3)).drew).grownBy X none → ∀ (j : Nat) (u : Value), [Value.int .i64 q][j]? = some u → X.cell? ((⟨W6.heap.size, 0, none⟩ : Addr).add j) = some u) := fun X hg j u hu => by
                have h1 : W6.heap.size < ((W6.alloc (.cells #[.int .i64 q] 3)).drew).heap.size := by simp
                have hb : X.heap[W6.heap.size]? = some (.cells #[.int .i64 q] 3 (0, 0)) := (hg.block _ h1 (by simp)).trans (heap_alloc_new W6 _)
                exact World.news_of_block (cs := #[.int .i64 q]) (t := 3) (fr := (0, 0)) hb j u hu
              have HXS := hide hxs
              clear hmo hxs
              go_region_law (first
                | (refine step_append_lies _ (by rfl) _ _ _ (by rfl) W6.heap.size 3 iY _ 1 8 Try.underlying23 hiY hzY0 hzY1 hzY2 rfl (by omega) (.slice none 0 0) 0 [] (by rfl) (World.ownsRow_nil _ _ _ _) ⟨g9, 0, none⟩ p c' xs (by rfl) HXL.out (HNEWS.out _ BD.out) HONE.out (by omega) (by unfold maxLen; omega) (by omega) (by simp) W6.heap.size (by simp) ?_; intro gg1 cap1 W7 hown7 hgrow7 hat7 hlt7; rw [Nat.zero_add] at hown7 ⊢; have HO7 := hide hown7; have B7 := hide (BD.out.grown hgrow7 (by simp) (fun j hj => by cases hj)); have z7' := B7.out.size; clear hown7 hgrow7 hat7 hlt7)
                | (refine step_append_lies _ (by rfl) _ _ _ (by rfl) W6.heap.size 3 iY _ 1 8 Try.underlying23 hiY hzY0 hzY1 hzY2 rfl (by omega) (.slice none 0 0) 0 [] (by rfl) (World.ownsRow_nil _ _ _ _) ⟨g9, 0, none⟩ p c' xs (by rfl) HXL.out (HNEWS.out _ (BE.out _)) HONE.out (by omega) (by unfold maxLen; omega) (by omega) (by simp) (W6.heap.size + 1) (by simp) ?_; intro gg1 cap1 W7 hown7 hgrow7 hat7 hlt7; rw [Nat.zero_add] at hown7 ⊢; have HO7 := hide hown7; have B7 := hide ((BE.out _).grown hgrow7 (by simp) (fun j hj => by cases hj)); have z7' := B7.out.size; have Q7 := hide (fun j u h => (HFQ.out _ hgrow7) j u h); clear hown7 hgrow7 hat7 hlt7)
                | (refine step_append_lies _ (by rfl) _ _ _ (by rfl) W6.heap.size 3 iY _ 1 8 Try.underlying23 hiY hzY0 hzY1 hzY2 rfl (by omega) (.slice (some ⟨gg1, 0, none⟩) p cap1) p xs (by rfl) (HO7.out.alloc _) ⟨W7.heap.size, 0, none⟩ 1 1 [.int .i64 q] (by rfl) (by rfl) (World.news_of_block (cs := #[.int .i64 q]) (t := 3) (fr := (0, 0)) (heap_alloc_new W7 _)) (by simp [Value.oneCell']) (by omega) (by unfold maxLen; omega) (by omega) (by simp; omega) (W7.heap.size + 1) (by simp) ?_; intro gg cap2 W8 hown8 hgrow8 hat8 hlt8; have B8 := hide ((B7.out.alloc z7' _).grown hgrow8 (by simp; omega) (fun j hj => (HO7.out.lt j hj).1)); have fk8 := And.intro ((B8.out.cell hbt).trans ck) ((B8.out.frozen hbt).trans fk); have HO8 := hide hown8; clear hown8 hgrow8 hat8 hlt8)
                | (refine step_append_lies _ (by rfl) _ _ _ (by rfl) W6.heap.size 3 iY _ 1 8 Try.underlying23 hiY hzY0 hzY1 hzY2 rfl (by omega) (.slice (some ⟨gg1, 0, none⟩) p cap1) p xs (by rfl) HO7.out ⟨W6.heap.size, 0, none⟩ 1 1 [.int .i64 q] (by rfl) (by rfl) Q7.out (by simp [Value.oneCell']) (by omega) (by unfold maxLen; omega) (by omega) z7' W7.heap.size rfl ?_; intro gg cap2 W8 hown8 hgrow8 hat8 hlt8; have B8 := hide (B7.out.grown hgrow8 z7' (fun j hj => (HO7.out.lt j hj).1)); have fk8 := And.intro ((B8.out.cell hbt).trans ck) ((B8.out.frozen hbt).trans fk); have HO8 := hide hown8; clear hown8 hgrow8 hat8 hlt8)
                | fail)
              all_goals
                have GF : Hid (Grs w Wl.heap.size (W8.setCell ⟨bt, kk, none⟩ (.slice (some ⟨gg, 0, none⟩) (p + 1) cap2)) (.slice (some ⟨bt, 0, none⟩) k ct) k (vts.set kk (.slice (some ⟨gg, 0, none⟩) (p + 1) cap2)) (T.set kk (m ++ [q]))) := by
                  refine GT6.out.store B8.out hkk ?_ (by simp) (fun x hx => ?_)
                  · have := HO8.out
                    rw [List.length_append, HP.out, List.map_append, HXS.out]
                    exact this
                  · rcases List.mem_append.1 hx with h5 | h5
                    · exact HMF.out x h5
                    · rw [List.mem_singleton.1 h5]; omega
                clear HO8 B8 fk8 HMO B7 HO7 z7' HNEWS HFQ BE BD HONE
                go_wp2
                go_meet
                case rel => exact ⟨rfl, gg, cap2, GF.out⟩
          case rest =>
            obtain ⟨rfl, g, cc, hgr⟩ := hcut
            have hTn : (T.set kk (m ++ [q]))[kk]? = some (m ++ [q]) := List.getElem?_set_self (by omega)
            obtain ⟨v5, hv5, ho5, _⟩ := hgr.el kk _ hTn
            have hvn : (vts.set kk (.slice (some ⟨g, 0, none⟩) (p + 1) cc))[kk]? = some (.slice (some ⟨g, 0, none⟩) (p + 1) cc) := List.getElem?_set_self (by omega)
            rw [hvn] at hv5
            cases hv5
            have hml : (m ++ [q]).length = p + 1 := by rw [List.length_append, HP.out]; rfl
            rw [hml] at ho5
            have cK := hgr.row.cellAt kk (by omega)
            rw [hvn] at cK
            have lK : bt < wc.heap.size := (hgr.row.lt bt rfl).2
            obtain ⟨ar, cr, her, rr⟩ := Ri.own ho5 (hgr.fit _ (List.mem_of_getElem? hTn))
            cases her
            have hcc := rr.row.le
            have hccm := rr.row.max
            have HCK : Hid (∀ W, Below wc.heap.size wc W → W.cell? ⟨bt, kk, none⟩ = some (.slice (some ⟨g, 0, none⟩) (p + 1) cc)) := fun W hW => (hW.cell lK).trans cK
            have HEL : Hid (∀ W, Below wc.heap.size wc W → ∀ j x, (m ++ [q])[j]? = some x → W.cell? ⟨g, j, none⟩ = some (.int .i64 x)) := fun W hW j x hx => by
              obtain ⟨b', o', e, hc⟩ := (rr.below hW).addr (by omega)
              cases e
              have := hc j x hx
              rwa [Nat.zero_add] at this
            have HGR := hide hgr
            have hT3 : ∀ l ∈ T.set kk (m ++ [q]), l.length ≤ 1000 := fun l hl => by
              rcases List.mem_or_eq_of_mem_set hl with h5 | h5
              · exact HT3.out l h5
              · rw [h5, hml]; omega
            have HT4 := hide hT3
            have HTWO : Hid (q ∉ m → grTwo (T.set kk (m ++ [q]))) := fun hq => by
              have hk' := HTK.out
              rw [← HTE.out] at hk' ⊢
              exact ap_again gs k turn kk hkk q hqb.1 (by rw [HSS.out]; exact hqb.2) m hk' hq
            have HQL : Hid ((m ++ [q])[p]? = some q) := by
              show (m ++ [q])[p]? = some q
              rw [List.getElem?_append_right (by rw [HP.out]; exact Nat.le_refl _), HP.out, Nat.sub_self]
              rfl
            have zc := hgr.bel.size
            clear hgr hTn hvn ho5 rr hT3 cK lK hml GT6 HMO HMN ck fk HE w1 w2
            go_upto_region 29 with fail
            go_loopg [15] p (fun gg iv wr => ∃ j : Nat, j ≤ p ∧ gg = p - j ∧ iv = .int .i64 (j : Int) ∧ Hid (Below wc.heap.size wc wr) ∧ Hid (q ∉ m.take j))
            case atStart => exact ⟨0, by omega, rfl, rfl, Below.refl _ _, by show q ∉ m.take 0; simp⟩
            case round =>
              obtain ⟨j, hj, rfl, rfl, BK, HN⟩ := hrel
              have d1 := HCK.out _ BK.out
              have zk := BK.out.size
              by_cases hlj : j < p
              · have hlj' : (j : Int) < (p : Int) := by omega
                have hlj2 : (j : Int) < (p : Int) + 1 := by omega
                obtain ⟨x, hx⟩ : ∃ x, m[j]? = some x := ⟨_, List.getElem?_eq_getElem (by have := HP.out; omega)⟩
                have d2 := HEL.out _ BK.out j x (by rw [List.getElem?_append_left (by have := HP.out; omega)]; exact hx)
                have d3 := HEL.out _ BK.out p q HQL.out
                have HX := hide hx
                have HB5 := hide (fun n => BK.out.trans ((bel_drewS wr n).mono zk))
                clear hx
                go_upto_region 31 with fail
                by_cases hxq : x = q
                · subst hxq
                  have ex : (x == x) = true := by simp
                  have BF := hide (fun n => HGR.out.bel.trans ((HB5.out n).mono zc))
                  clear HN
                  go_quiet (fail)
                  clear d1 d2 d3
                  go_wp2
                  go_ret
                  exact ⟨rfl, BF.out _⟩
                · have ex : (x == q) = false := by simp [hxq]
                  have HN2 : Hid (q ∉ m.take (j + 1)) := by
                    show q ∉ m.take (j + 1)
                    rw [List.take_add_one, HX.out]
                    have := HN.out
                    simp [this, Ne.symm hxq]
                  clear HN
                  go_quiet (fail)
                  clear d1 d2 d3
                  go_wp2
                  go_roundg (p - (j + 1))
                  case measure => omega
                  case rel => exact ⟨j + 1, by omega, rfl, by go_num, HB5.out _, HN2⟩
              · obtain rfl : j = p := by omega
                have hn := HN.out
                rw [List.take_of_length_le (by have := HP.out; omega)] at hn
                have G9 := HGR.out.below BK.out
                obtain ⟨a9, c9, h9, r9⟩ := G9.rii
                cases h9
                have CC := hide (grcheck_any _ k ct _ wr r9 (by omega) HT4.out)
                have HT2 := hide (HTWO.out hn)
                have B9 := hide G9.bel
                have z9 := G9.bel.size
                clear hn G9 r9 HN BK
                go_wp2_with fail
                refine CC.out.mono ?_
                rintro e W9 ⟨hc, b9⟩
                obtain rfl := chk_yes HT2.out hc
                have BF := hide (B9.out.trans (b9.mono z9))
                clear hc b9 CC
                go_wp2
                go_ret
                exact ⟨rfl, BF.out⟩

end Go.Proofs.Ytkllbcjbbfpccaa
