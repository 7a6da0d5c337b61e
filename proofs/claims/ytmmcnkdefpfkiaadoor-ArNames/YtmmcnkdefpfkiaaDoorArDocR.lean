/- The document's Read of archives: its contract. -/
import Derived.Test.YtmmcnkdefpfkiaaDoorArDocP
namespace Go.Proofs.YtmmcnkdefpfkiaaDoor
open Go.RowKit Go.Maps
set_option linter.unusedVariables false
set_option maxRecDepth 100000
set_option maxRecDepth 20000
set_option linter.unusedSimpArgs false

set_option maxHeartbeats 8000000 in
theorem rarread_any (a : Option Addr) (cap : Nat) (l : T8) (w : World) (r : Rt w a cap l) :
    Calls Tryd.prog 9 #[.slice a l.length cap] w fun e w' => Below w.heap.size w w' ∧ ArT w w' (arR 10 l) e := by
  obtain ⟨i8, hi8, hz80, hz81, hz82⟩ := info_parts Tryd.info8
  obtain ⟨iM, hiM, hzM0, hzM1, hzM2⟩ := info_parts Tryd.infoMb
  have hle := r.le
  have hmx := r.max
  have HR := hide r
  by_cases hbig : 1048576 < l.length
  · as_aux_lemma =>
      have d1 : decide ((1048576 : Int) < (l.length : Int)) = true := decide_eq_true (by omega)
      have HN : Hid (arR 10 l = none) := by show _ = _; rw [arR_eq, if_neg (by omega)]
      clear r
      go_enter Tryd.func9, Tryd.ntmps9
      go_wp2_with fail
      go_ret3
      exact ⟨Below.refl _ _, by rw [HN.out]; rfl⟩
  have d1 : decide ((1048576 : Int) < (l.length : Int)) = false := decide_eq_false (by omega)
  by_cases h8 : l.length < 8
  · as_aux_lemma =>
      have d2 : decide ((l.length : Int) < 8) = true := decide_eq_true (by omega)
      have HN : Hid (arR 10 l = none) := by
        show _ = _
        rw [arR_eq, if_neg (fun h => by have := congrArg List.length h.2; rw [List.length_take] at this; simp [magc] at this; omega)]
      clear r
      go_enter Tryd.func9, Tryd.ntmps9
      go_wp2_with fail
      go_ret3
      exact ⟨Below.refl _ _, by rw [HN.out]; rfl⟩
  have d2 : decide ((l.length : Int) < 8) = false := decide_eq_false (by omega)
  have hcv := Rt.txt (Rt.front r 8 (by omega)) 8 (by simp; omega)
  have q8 := strq (l.take 8) magc
  by_cases hm : l.take 8 = magc
  rotate_left
  · as_aux_lemma =>
      have HN : Hid (arR 10 l = none) := by show _ = _; rw [arR_eq, if_neg (fun h => hm h.2)]
      rw [decide_eq_false hm] at q8
      have q8' : ((str (l.take 8)).toList == [33, 60, 97, 114, 99, 104, 62, 10]) = false := q8
      generalize str (l.take 8) = S8 at *
      clear r q8 hm
      go_enter Tryd.func9, Tryd.ntmps9
      go_wp2_with fail
      go_ret3
      exact ⟨Below.refl _ _, by rw [HN.out]; rfl⟩
  rw [decide_eq_true hm] at q8
  have HA : Hid (arR 10 l = arF 10 s0 (l.drop 8)) := by show _ = _; rw [arR_eq, if_pos ⟨by omega, hm⟩]
  have q8' : ((str (l.take 8)).toList == [33, 60, 97, 114, 99, 104, 62, 10]) = true := q8
  generalize str (l.take 8) = S8 at *
  obtain ⟨xb, xo, rfl, hjunk⟩ := Rd.addr r (by omega)
  clear hjunk
  clear r q8 hm
  go_enter Tryd.func9, Tryd.ntmps9
  go_wp2_with fail
  clear hcv q8' d1 d2
  go_loopg [5, 6, 7, 8, 9, 10] (l.length - 8) (fun g vl vi vg vh va vn wr => ∃ (s : ArS) (at' n : Nat), 8 ≤ at' ∧ at' ≤ l.length ∧ g = l.length - at' ∧ vh = .bool s.hl ∧ va = .int .i64 (at' : Int) ∧ vn = .int .i64 (n : Int) ∧ n ≤ at' ∧ Hid (s.lg.length ≤ 1048576) ∧ Hid (s.bg = decide (0 < n)) ∧ Hid (arR 10 l = arF 10 s (l.drop at')) ∧ Hid (DR w wr s vl vi vg))
  case atStart => exact ⟨s0, 8, 0, by omega, by omega, by omega, rfl, rfl, rfl, by omega, (by show 0 ≤ _; omega), rfl, HA.out, ⟨OM.nil _ _, World.ownsRow_nil _ _ _ _, World.ownsRow_nil _ _ _ _, Below.refl _ _⟩⟩
  case round =>
    obtain ⟨s, at', n, h8at, hat, rfl, rfl, rfl, rfl, hnat, HLG, HBG, HAF, HD⟩ := hrel
    by_cases hlt : at' < l.length
    rotate_left
    · as_aux_lemma =>
        obtain rfl : at' = l.length := by omega
        have hd : decide ((l.length : Int) < (l.length : Int)) = false := decide_eq_false (by omega)
        have hdn : ¬ (l.length : Int) < (l.length : Int) := by omega
        obtain ⟨am, cm, rfl, _⟩ := HD.out.ms.rm
        obtain ⟨ai, ci, rfl, _⟩ := Rd.own HD.out.ix (nI_bytes _)
        have HF : Hid (arR 10 l = some s) := by show _ = _; rw [HAF.out, List.drop_of_length_le (Nat.le_refl _), arF_nil]
        clear HA
        go_wp2_with fail
        go_ret3
        exact ⟨HD.out.bel, by rw [HF.out]; exact ⟨am, cm, ai, ci, rfl, HD.out.ms, HD.out.ix⟩⟩
    have hlt' : (at' : Int) < (l.length : Int) := by omega
    have hlt2 : decide ((at' : Int) < (l.length : Int)) = true := decide_eq_true hlt'
    clear HA
    have hrne : l.drop at' ≠ [] := fun e => by have := congrArg List.length e; simp at this; omega
    have NO : ptG (l.drop at') = none → Hid (arR 10 l = none) := fun h => by show _ = _; rw [HAF.out, arF_pt hrne h]
    have hRw := HR.out.below HD.out.bel
    by_cases h60 : l.length - at' < 60
    · as_aux_lemma =>
        have d60 : decide ((l.length : Int) - (at' : Int) < 60) = true := decide_eq_true (by omega)
        have hn60 : (l.length : Int) - (at' : Int) < 60 := by omega
        have HN := NO (ptG_no1 (fun h => by have := h.1; rw [List.length_drop] at this; omega))
        clear NO hrne hRw
        go_wp2_with fail
        go_ret3
        exact ⟨HD.out.bel, by rw [HN.out]; rfl⟩
    have d60 : decide ((l.length : Int) - (at' : Int) < 60) = false := decide_eq_false (by omega)
    have hn60 : ¬ (l.length : Int) - (at' : Int) < 60 := by omega
    obtain ⟨c58, hc58⟩ : ∃ c, l[at' + 58]? = some c := ⟨_, List.getElem?_eq_getElem (by omega)⟩
    obtain ⟨c59, hc59⟩ : ∃ c, l[at' + 59]? = some c := ⟨_, List.getElem?_eq_getElem (by omega)⟩
    have two := two_at (l := l) (m := at' + 58) hc58 hc59
    have l58 := Rd.cell hRw _ rfl (at' + 58) (by omega)
    rw [addN, nI_at l _ c58 hc58] at l58
    have l59 := Rd.cell hRw _ rfl (at' + 59) (by omega)
    rw [addN, nI_at l _ c59 hc59] at l59
    have e58 : ((c58.toNat : Int) == 96) = decide (c58 = 96) := byte_sameD c58 96
    have e59 : ((c59.toNat : Int) == 10) = decide (c59 = 10) := byte_sameD c59 10
    have q58 : ((c58.toNat : Int) != 96) = !decide (c58 = 96) := by show (!((c58.toNat : Int) == 96)) = _; rw [e58]
    have q59 : ((c59.toNat : Int) != 10) = !decide (c59 = 10) := by show (!((c59.toNat : Int) == 10)) = _; rw [e59]
    clear e58 e59 hc58 hc59
    by_cases hend : (l.drop (at' + 58)).take 2 = [96, 10]
    rotate_left
    · as_aux_lemma =>
        have HN := NO (ptG_no1 (fun h => hend (by have := h.2; rwa [List.drop_drop] at this)))
        clear NO hrne hRw
        by_cases c0 : c58 = 96
        · have c1 : ¬ c59 = 10 := fun h => hend (by rw [two, c0, h])
          rw [decide_eq_true c0] at q58
          rw [decide_eq_false c1] at q59
          clear two hend c0 c1
          go_wp2_with fail
          go_ret3
          exact ⟨HD.out.bel, by rw [HN.out]; rfl⟩
        · rw [decide_eq_false c0] at q58
          clear two hend c0
          go_wp2_with fail
          go_ret3
          exact ⟨HD.out.bel, by rw [HN.out]; rfl⟩
    rw [two] at hend
    have c0 : c58 = 96 := by simp at hend; exact hend.1
    have c1 : c59 = 10 := by simp at hend; exact hend.2
    subst c0 c1
    have HEND : Hid (((l.drop at').drop 58).take 2 = [96, 10]) := by show _ = _; rw [List.drop_drop]; exact two
    clear two hend
    have hcn := Rt.txt (Rt.mid hRw at' 16 (by omega)) 16 (by simp; omega)
    have hcs := Rt.txt (Rt.mid hRw (at' + 48) 10 (by omega)) 10 (by simp; omega)
    have hF16 : ((l.drop at').take 16).length = 16 := by simp; omega
    have HS0 : (l.drop (at' + 48)).take 10 = ((l.drop at').drop 48).take 10 := by rw [List.drop_drop]
    rw [HS0] at hcs
    have hS10 : (((l.drop at').drop 48).take 10).length ≤ 16 := by simp; omega
    obtain ⟨SZ, hSZ⟩ : ∃ SZ, ((l.drop at').drop 48).take 10 = SZ := ⟨_, rfl⟩
    rw [hSZ] at hcs hS10
    have HDG := hide (dig_any SZ hS10 wr)
    have HSZ := hide hSZ
    have hSs : (str ((l.drop at').take 16)).size = 16 := by rw [str_size, hF16]
    have hrl : (l.drop at').length = l.length - at' := List.length_drop
    obtain ⟨F, hF⟩ : ∃ F, (l.drop at').take 16 = F := ⟨_, rfl⟩
    rw [hF] at hcn hF16 hSs
    have HFF := hide hF
    clear hF HS0 hSZ hS10
    generalize str SZ = SS at *
    go_upto_region 12 with fail
    go_upto_region 13 with fail
    refine HDG.out.mono ?_
    rintro e w' ⟨hw, n0, b0, rfl, hdg, hnb⟩
    rw [← HSZ.out] at hdg
    obtain rfl := hw.symm
    clear hw HDG hcn hcs
    cases b0
    · as_aux_lemma =>
        have HN := NO (ptG_no2 (by rw [hdg]; rfl))
        clear NO hrne hRw hdg
        go_wp2_with fail
        go_ret3
        exact ⟨HD.out.bel, by rw [HN.out]; rfl⟩
    rw [if_pos rfl] at hdg
    by_cases hnl : n0 ≤ l.length - (at' + 60)
    rotate_left
    · as_aux_lemma =>
        have HN := NO (ptG_no3 hdg (by rw [hrl]; omega))
        have hnl' : (l.length : Int) - ((at' : Int) + 60) < (n0 : Int) := by omega
        have hnd : decide ((l.length : Int) - ((at' : Int) + 60) < (n0 : Int)) = true := decide_eq_true hnl'
        clear NO hrne hRw hdg
        go_wp2_with fail
        go_ret3
        exact ⟨HD.out.bel, by rw [HN.out]; rfl⟩
    have hnl' : ¬ (l.length : Int) - ((at' : Int) + 60) < (n0 : Int) := by omega
    have hnd : decide ((l.length : Int) - ((at' : Int) + 60) < (n0 : Int)) = false := decide_eq_false hnl'
    have HDGO := hide hdg
    clear hdg
    go_upto_region 16 with fail
    obtain ⟨D, hD⟩ : ∃ D, ((l.drop at').drop 60).take n0 = D := ⟨_, rfl⟩
    have hDl : D.length = n0 := by rw [← hD]; simp; omega
    have hDD : (l.drop (at' + 60)).take n0 = D := by rw [← hD, List.drop_drop]
    have HDD := hide hD
    obtain ⟨p, hp⟩ : ∃ p, at' + 60 = p := ⟨_, rfl⟩
    obtain ⟨q, hq⟩ : ∃ q, p + n0 = q := ⟨_, rfl⟩
    have hs60 : (at' : Int) + 60 = (p : Int) := by omega
    have hsum : (p : Int) + (n0 : Int) = (q : Int) := by omega
    have hpq : p ≤ q := by omega
    have hql : q ≤ l.length := by omega
    rw [hs60]
    rw [hp] at hDD
    clear hD hs60 hnl hnl' hnd
    go_cut [14] from 33 to 234 (fun u wx => Hid (wx.ownsRow wr.heap.size 5 1 u n0 (cs8 D)) ∧ Hid (Below wr.heap.size wr wx))
    case first =>
      as_aux_lemma =>
        have hcs : (cs8 D).length = n0 := by rw [List.length_map, nI_len, hDl]
        have hb8 : ∀ (v' : Value) (w1 : World) (m : Nat), w1.ownsRow wr.heap.size 5 1 v' m (cs8 D) → wr.grownBy w1 (Value.slice none 0 0).ownBlock → w1.ownsRow wr.heap.size 5 1 v' n0 (cs8 D) ∧ Below wr.heap.size wr w1 := fun v' w1 m hown hgrow => by
          have h1 := hown.1
          have h2 : m = n0 := by omega
          subst h2
          exact ⟨hown, (Below.refl _ _).grown hgrow (Nat.le_refl _) (by intro k hk; cases hk)⟩
        have HB8 := hide hb8
        by_cases hcf : cap = p
        · subst hcf
          have hr0 := Rd.part_end (a := some ⟨xb, xo, none⟩) hRw cap n0 (by omega) rfl
          rw [nI_drop, nI_take, hDD] at hr0
          have HC := hide (hr0.cells _ rfl)
          clear hr0 NO hb8 hDD
          go_wp2_with (at_builtin; refine wpList_append_own _ rfl _ _ 24 rfl wr.heap.size 5 i8 (.int .u8 0) 1 1 Tryd.underlying24 hi8 hz80 hz81 hz82 rfl (by decide) _ _ _ rfl (World.ownsRow_nil _ _ _ _) _ _ _ (cs8 D) rfl (by first | exact hcs | rw [hcs]; omega | simpa using hcs) (HC.out) (ints_oneCell _ _) (by unfold maxLen; omega) (by omega) (Nat.le_refl _) ?_)
          intro v' w1 hown hgrow _
          obtain ⟨hx1, hx2⟩ := HB8.out v' w1 _ (by simpa using hown) hgrow
          have HX1 := hide hx1
          have HX2 := hide hx2
          clear hown hgrow hx1 hx2 HB8 HC
          go_wp2_with fail
          go_meet
          case rel => exact ⟨HX1.out, HX2.out⟩
        · have hr0 := Rd.part (x := ⟨xb, xo, none⟩) hRw p n0 (by omega)
          rw [nI_drop, nI_take, hDD, addN] at hr0
          have HC := hide (hr0.cells _ rfl)
          have hcf' : ¬ cap = p := hcf
          clear hr0 NO hb8 hDD
          go_wp2_with (at_builtin; refine wpList_append_own _ rfl _ _ 24 rfl wr.heap.size 5 i8 (.int .u8 0) 1 1 Tryd.underlying24 hi8 hz80 hz81 hz82 rfl (by decide) _ _ _ rfl (World.ownsRow_nil _ _ _ _) _ _ _ (cs8 D) rfl (by first | exact hcs | rw [hcs]; omega | simpa using hcs) (HC.out) (ints_oneCell _ _) (by unfold maxLen; omega) (by omega) (Nat.le_refl _) ?_)
          intro v' w1 hown hgrow _
          obtain ⟨hx1, hx2⟩ := HB8.out v' w1 _ (by simpa using hown) hgrow
          have HX1 := hide hx1
          have HX2 := hide hx2
          clear hown hgrow hx1 hx2 HB8 HC
          go_wp2_with fail
          go_meet
          case rel => exact ⟨HX1.out, HX2.out⟩
    case rest =>
      obtain ⟨HX, HB⟩ := hcut
      obtain ⟨a4, c4, rfl, hr4⟩ := Rd.own HX.out (nI_bytes _)
      have hc4 := hr4.le
      have hc4m := hr4.max
      have HD4 := hide (HD.out.on HB.out)
      have HXX := hide (row_low HX.out HD.out.bel.size)
      have hRc := hide (HR.out.below HD4.out.bel)
      have HNO4 : Hid (bhO n0 (l.drop q) = none → arR 10 l = none) := fun h => (NO (ptG_no4 HDGO.out (by rw [List.drop_drop, show at' + (60 + n0) = q by omega]; exact h))).out
      clear hr4 NO hRw HD
      go_upto_region 18 with fail
      clear hsum
      obtain ⟨bb, hbb⟩ : ∃ bb, decide (n0 % 2 = 1 ∧ q < l.length) = bb := ⟨_, rfl⟩
      have HBB := hide hbb
      go_cut [107] from 33 to 234 (fun u wx => wx = wc ∧ u = .bool bb)
      case first =>
        as_aux_lemma =>
          rcases Nat.mod_two_eq_zero_or_one n0 with h2 | h2
          · have h20 : (n0 : Int) % 2 = 0 := by omega
            have h21 : (n0 : Int).tmod 2 = 0 := by rw [Int.tmod_eq_emod_of_nonneg (by omega)]; exact h20
            have HF : Hid (false = bb) := by show _ = _; rw [← hbb]; exact (decide_eq_false (fun h => by omega)).symm
            clear hbb HNO4 h2
            go_wp2_with fail
            go_meet
            case rel => exact ⟨rfl, by rw [HF.out]⟩
          · have h20 : (n0 : Int) % 2 = 1 := by omega
            have h21 : (n0 : Int).tmod 2 = 1 := by rw [Int.tmod_eq_emod_of_nonneg (by omega)]; exact h20
            have HF : Hid (decide (q < l.length) = bb) := by show _ = _; rw [← hbb]; exact decide_eq_decide.2 ⟨fun h => ⟨h2, by omega⟩, fun h => by omega⟩
            clear hbb HNO4 h2
            go_wp2_with fail
            go_meet
            case rel => exact ⟨rfl, by rw [HF.out]⟩
      case rest =>
        obtain ⟨rfl, rfl⟩ := hcut
        go_upto_if 107 with fail
        go_cut [9] from 33 to 234 (fun u wx => wx = wc ∧ ∃ z : Nat, u = .int .i64 (z : Int) ∧ q ≤ z ∧ z ≤ l.length ∧ Hid (bhO n0 (l.drop q) = some (l.drop z)))
        case first =>
          as_aux_lemma =>
            cases bb
            · have HZ : Hid (bhO n0 (l.drop q) = some (l.drop q)) := by
                show _ = _
                unfold bhO
                rw [if_neg (fun h => of_decide_eq_false HBB.out ⟨h.1, ?_⟩)]
                rcases Nat.lt_or_ge q l.length with h1 | h1
                · exact h1
                · exact absurd (List.drop_of_length_le h1) h.2
              clear HNO4 hbb
              go_wp2_with fail
              go_meet
              case rel => exact ⟨rfl, q, rfl, Nat.le_refl _, hql, HZ.out⟩
            · obtain ⟨h2, hqlt⟩ := of_decide_eq_true HBB.out
              have hqne : l.drop q ≠ [] := fun e => by have := congrArg List.length e; simp at this; omega
              obtain ⟨c, hc⟩ : ∃ c, l[q]? = some c := ⟨_, List.getElem?_eq_getElem hqlt⟩
              have hhead : (l.drop q).head? = some c := by rw [List.head?_drop, hc]
              have lq := Rd.cell hRc.out _ rfl q hqlt
              rw [addN, nI_at l _ c hc] at lq
              have eq0 : ((c.toNat : Int) == 10) = decide (c = 10) := byte_sameD c 10
              have eq1 : ((c.toNat : Int) != 10) = !decide (c = 10) := by show (!((c.toNat : Int) == 10)) = _; rw [eq0]
              clear eq0 hbb
              by_cases hc10 : c = 10
              · rw [decide_eq_true hc10] at eq1
                have HZ : Hid (bhO n0 (l.drop q) = some (l.drop (q + 1))) := by
                  show _ = _
                  unfold bhO
                  rw [if_pos ⟨h2, hqne⟩, if_pos (by rw [hhead, hc10]), List.drop_drop]
                clear HNO4 hqne hhead hc10 hc h2
                go_wp2_with fail
                go_meet
                case rel => exact ⟨rfl, q + 1, by go_num, by omega, by omega, HZ.out⟩
              · rw [decide_eq_false hc10] at eq1
                have HN : Hid (arR 10 l = none) := HNO4.out (by
                  unfold bhO
                  rw [if_pos ⟨h2, hqne⟩, if_neg (by rw [hhead]; simpa using hc10)])
                clear HNO4 hqne hhead hc10 hc h2
                go_wp2_with fail
                go_ret3
                exact ⟨HD4.out.bel, by rw [HN.out]; rfl⟩
        case rest =>
          obtain ⟨rfl, z, rfl, hqz, hzl, HZ⟩ := hcut
          have HPT : Hid (ptG (l.drop at') = some (F, D, l.drop z)) := by
            have := ptG_yes (r := l.drop at') (q := l.drop z) (n := n0) (by rw [List.length_drop]; omega) HEND.out HDGO.out (by rw [List.length_drop]; omega) (by rw [List.drop_drop, show at' + (60 + n0) = q by omega]; exact HZ.out)
            rw [HFF.out, HDD.out] at this
            exact this
          have HSTEP : Hid (∀ t, putG 10 s F D = some t → arR 10 l = arF 10 t (l.drop z)) := fun t ht => by rw [HAF.out]; exact arF_go hrne HPT.out ht
          have HNOP : Hid (putG 10 s F D = none → arR 10 l = none) := fun ht => by rw [HAF.out]; exact arF_put hrne HPT.out ht
          have hF16 : F.length = 16 := by have := congrArg List.length HFF.out; rw [List.length_take, List.length_drop] at this; omega
          have hzat : at' + 60 ≤ z := by omega
          obtain ⟨am, cm, rfl, hcm, hcmx⟩ := HD4.out.ms.len
          obtain ⟨ag, cg, rfl, hrg⟩ := Rd.own HD4.out.lg (nI_bytes _)
          have HRG := hide hrg
          have hcg := hrg.le
          have hcgx := hrg.max
          have hgl : s.lg.length ≤ 1048576 := by have := HLG.out; omega
          clear HZ HPT HNO4 HEND HDGO hrne HBB hbb HB HDD HFF HAF hrg
          go_wp2_with fail
          go_loopg [15] 16 (fun g v wx => ∃ k : Nat, k ≤ 16 ∧ g = 16 - k ∧ v = .int .i64 (k : Int) ∧ wc = wx ∧ Hid ((47 : UInt8) ∉ F.take k))
          case atStart => exact ⟨0, by omega, rfl, rfl, rfl, by show _ ∉ _; simp⟩
          case round =>
            obtain ⟨k, hk, rfl, rfl, rfl, HK⟩ := hrel
            rcases Nat.lt_or_ge k 16 with hk16 | hk16
            rotate_left
            · obtain rfl : k = 16 := by omega
              have HN : Hid (arR 10 l = none) := HNOP.out (put_none16 hF16 (by have := HK.out; rwa [List.take_of_length_le (by omega)] at this))
              clear HNOP HSTEP
              go_wp2_with fail
              go_ret3
              exact ⟨HD4.out.bel, by rw [HN.out]; rfl⟩
            have hkd : decide ((k : Int) < 16) = true := decide_eq_true (by omega)
            have hjs : k < (str F).size := by omega
            have hat2 := strAtD F k hjs (by omega)
            have hck : F[k]? = some F[k] := List.getElem?_eq_getElem (by omega)
            generalize F[k] = c at *
            have eq0 : ((c.toNat : Int) == 47) = decide (c = 47) := byte_sameD c 47
            have eq1 : ((c.toNat : Int) != 47) = !decide (c = 47) := by show (!((c.toNat : Int) == 47)) = _; rw [eq0]
            clear eq0
            by_cases hc : c = 47
            rotate_left
            · rw [decide_eq_false hc] at eq1
              have HK2 : Hid ((47 : UInt8) ∉ F.take (k + 1)) := by
                show _ ∉ _
                rw [List.take_add_one, hck]
                intro h
                rcases List.mem_append.1 h with h | h
                · exact HK.out h
                · simp at h; exact hc h.symm
              clear hc hck HK HSTEP HNOP
              go_wp2_with fail
              go_roundg (16 - (k + 1))
              case measure => omega
              case rel => exact ⟨k + 1, by omega, rfl, by go_num, rfl, HK2.out⟩
            subst hc
            have HCK := hide hck
            have eq1' : ((((47 : UInt8).toNat : Int)) != 47) = false := by decide
            clear eq1 hck
            by_cases hk0 : k = 0
            · as_aux_lemma =>
                obtain rfl : k = 0 := hk0
                have hF1 : (1 : Nat) < (str F).size := by omega
                obtain ⟨c1, hc1⟩ : ∃ c, F[1]? = some c := ⟨_, List.getElem?_eq_getElem (by omega)⟩
                have hat1 := strAtD F 1 hF1 (by omega)
                have hc1' : F[1]? = some F[1] := List.getElem?_eq_getElem (by omega)
                rw [hc1] at hc1'
                have hat1' : (str F)[1] = c1 := by rw [hat1]; exact (Option.some.inj hc1').symm
                have HI := hide (id_at HCK.out)
                have HG := hide (lg_at HCK.out hc1)
                have ex1 := ext_drop F 1
                have ex3 := ext_drop F 2
                have HSP1 := hide (spaces_any (F.drop 1) (by rw [List.length_drop]; omega) wc)
                have HSP2 := hide (spaces_any (F.drop 2) (by rw [List.length_drop]; omega) wc)
                have HDG := hide (dig_any (F.drop 1) (by rw [List.length_drop]; omega) wc)
                obtain ⟨s1, hs1⟩ : ∃ s1, str (F.drop 1) = s1 := ⟨_, rfl⟩
                obtain ⟨s2, hs2⟩ : ∃ s2, str (F.drop 2) = s2 := ⟨_, rfl⟩
                rw [hs1] at ex1 HSP1 HDG
                rw [hs2] at ex3 HSP2
                have ex2 := ex1
                have ex4 := ex3
                rw [hSs] at ex2 ex4
                rw [← HI.out] at HSP1
                clear hs1 hs2 hat1 hc1' hc1 HK
                cases hidF : idF F
                rotate_left
                · rw [hidF] at HSP1
                  have HP := hide (put_id (s := s) (D := D) hidF)
                  clear hidF HI HG HSP2 HDG ex3 ex4
                  go_wp2_with fail
                  refine HSP1.out.mono ?_
                  rintro e w2 ⟨rfl, hw⟩
                  obtain rfl := hw.symm
                  clear hw HSP1
                  rcases Nat.eq_zero_or_pos n with hn0 | hn0
                  · have hbg : s.bg = false := by rw [HBG.out]; exact decide_eq_false (by omega)
                    have HAN := hide (HSTEP.out { s with ix := D, bg := true } (by rw [HP.out, if_neg (by rw [hbg]; simp)]))
                    have hnd : decide ((0 : Int) < (n : Int)) = false := decide_eq_false (by omega)
                    have hnd' : ¬ (0 : Int) < (n : Int) := by omega
                    have hnd2 : ¬ 0 < n := by omega
                    have HDN : Hid (DR w wc { s with ix := D, bg := true } (.slice am s.ms.length cm) (.slice a4 n0 c4) (.slice ag s.lg.length cg)) := ⟨HD4.out.ms, by rw [show ({ s with ix := D, bg := true } : ArS).ix.length = n0 from hDl]; exact HXX.out, HD4.out.lg, HD4.out.bel⟩
                    clear hbg hn0 HNOP HSTEP HP
                    go_wp2_with fail
                    go_roundg (l.length - z)
                    case measure => omega
                    case rel => exact ⟨{ s with ix := D, bg := true }, z, n + 1, by omega, hzl, rfl, rfl, rfl, by go_num, by omega, HLG.out, (by show true = _; simp), HAN.out, HDN.out⟩
                  · have hbg : s.bg = true := by rw [HBG.out]; exact decide_eq_true hn0
                    have HNO : Hid (arR 10 l = none) := HNOP.out (by rw [HP.out, if_pos hbg])
                    have hnd : decide ((0 : Int) < (n : Int)) = true := decide_eq_true (by omega)
                    have hnd' : (0 : Int) < (n : Int) := by omega
                    clear hbg HNOP HSTEP HP
                    go_wp2_with fail
                    go_ret3
                    exact ⟨HD4.out.bel, by rw [HNO.out]; rfl⟩
                rw [hidF] at HSP1
                have HIF := hide hidF
                clear hidF HI
                have eq10 : ((c1.toNat : Int) == 47) = decide (c1 = 47) := byte_sameD c1 47
                cases hlgF : lgF F
                rotate_left
                · have hgg := HG.out
                  rw [hlgF] at hgg
                  have hgg' : decide (c1 = 47) = true ∧ spc (F.drop 2) = true := by simpa using hgg.symm
                  rw [hgg'.1] at eq10
                  rw [hgg'.2] at HSP2
                  have HP := hide (put_lg (s := s) (D := D) HIF.out hlgF)
                  clear hlgF HG HDG hgg hgg'
                  go_wp2_with fail
                  refine HSP1.out.mono ?_
                  rintro e w2 ⟨rfl, hw⟩
                  obtain rfl := hw.symm
                  clear hw HSP1
                  go_wp2_with fail
                  refine HSP2.out.mono ?_
                  rintro e w2 ⟨rfl, hw⟩
                  obtain rfl := hw.symm
                  clear hw HSP2
                  cases hhl : s.hl
                  rotate_left
                  · have HNO : Hid (arR 10 l = none) := HNOP.out (by rw [HP.out, if_pos (.inl hhl)])
                    clear HNOP HSTEP HP hhl
                    go_wp2_with fail
                    go_ret3
                    exact ⟨HD4.out.bel, by rw [HNO.out]; rfl⟩
                  rcases Nat.eq_zero_or_pos s.ms.length with hm0 | hm0
                  · have HAN := hide (HSTEP.out { s with lg := D, hl := true, bg := true } (by rw [HP.out, if_neg (fun h => by rw [hhl] at h; rcases h with h | h <;> first | cases h | omega)]))
                    have hnd : decide ((0 : Int) < (s.ms.length : Int)) = false := decide_eq_false (by omega)
                    have hnd' : ¬ (0 : Int) < (s.ms.length : Int) := by omega
                    have hnd2 : ¬ 0 < s.ms.length := by omega
                    have HDN : Hid (DR w wc { s with lg := D, hl := true, bg := true } (.slice am s.ms.length cm) u6 (.slice a4 n0 c4)) := ⟨HD4.out.ms, HD4.out.ix, by rw [show ({ s with lg := D, hl := true, bg := true } : ArS).lg.length = n0 from hDl]; exact HXX.out, HD4.out.bel⟩
                    clear hm0 HNOP HSTEP HP hhl
                    go_wp2_with fail
                    go_roundg (l.length - z)
                    case measure => omega
                    case rel => exact ⟨{ s with lg := D, hl := true, bg := true }, z, n + 1, by omega, hzl, rfl, rfl, rfl, by go_num, by omega, (by show D.length ≤ _; omega), (by show true = _; simp), HAN.out, HDN.out⟩
                  · have HNO : Hid (arR 10 l = none) := HNOP.out (by rw [HP.out, if_pos (.inr hm0)])
                    have hnd : decide ((0 : Int) < (s.ms.length : Int)) = true := decide_eq_true (by omega)
                    have hnd' : (0 : Int) < (s.ms.length : Int) := by omega
                    clear HNOP HSTEP HP hhl
                    go_wp2_with fail
                    go_ret3
                    exact ⟨HD4.out.bel, by rw [HNO.out]; rfl⟩
                have HP := hide (put_long (s := s) (D := D) HCK.out HIF.out hlgF)
                have hgg := HG.out
                rw [hlgF] at hgg
                have HGG := hide hgg
                clear hlgF HG hgg
                go_upto_region 30 with fail
                refine HSP1.out.mono ?_
                rintro e w2 ⟨rfl, hw⟩
                obtain rfl := hw.symm
                clear hw HSP1
                go_upto_region 30 with fail
                go_cut [139] from 33 to 234 (fun u wx => wc = wx ∧ u = .bool false)
                case first =>
                  as_aux_lemma =>
                    by_cases hc47 : c1 = 47
                    · rw [decide_eq_true hc47] at eq10
                      have hg2 := HGG.out
                      rw [decide_eq_true hc47, Bool.true_and] at hg2
                      rw [← hg2] at HSP2
                      clear hg2 hc47 HDG HP HNOP HSTEP
                      go_wp2_with fail
                      refine HSP2.out.mono ?_
                      rintro e w2 ⟨rfl, hw⟩
                      obtain rfl := hw.symm
                      clear hw HSP2
                      go_wp2_with fail
                      go_meet
                      case rel => exact ⟨rfl, rfl⟩
                    · rw [decide_eq_false hc47] at eq10
                      clear hc47 HSP2 HDG HP HNOP HSTEP
                      go_wp2_with fail
                      go_meet
                      case rel => exact ⟨rfl, rfl⟩
                case rest =>
                  obtain ⟨rfl, rfl⟩ := hcut
                  clear HSP2 eq10 ex3 ex4 HGG
                  go_upto_region 36 with fail
                  refine HDG.out.mono ?_
                  rintro e w2 ⟨hw, o, ob, rfl, hdo, hob⟩
                  obtain rfl := hw.symm
                  clear hw HDG
                  cases ob
                  · have HNO : Hid (arR 10 l = none) := HNOP.out (by rw [HP.out, hdo]; rfl)
                    clear HNOP HSTEP HP hdo
                    go_wp2_with fail
                    go_ret3
                    exact ⟨HD4.out.bel, by rw [HNO.out]; rfl⟩
                  rw [if_pos rfl] at hdo
                  have HP2 : Hid (putG 10 s F D = (lkO s.lg o).bind (putN s D)) := by show _ = _; rw [HP.out, hdo]; rfl
                  clear hdo HP
                  rcases Nat.lt_or_ge o s.lg.length with hol | hol
                  rotate_left
                  · have HNO : Hid (arR 10 l = none) := HNOP.out (by rw [HP2.out]; unfold lkO; rw [if_neg (by omega)]; rfl)
                    have hod : decide ((s.lg.length : Int) ≤ (o : Int)) = true := decide_eq_true (by omega)
                    have hod' : (s.lg.length : Int) ≤ (o : Int) := by omega
                    clear HNOP HSTEP HP2
                    go_wp2_with fail
                    go_ret3
                    exact ⟨HD4.out.bel, by rw [HNO.out]; rfl⟩
                  have hod : decide ((s.lg.length : Int) ≤ (o : Int)) = false := decide_eq_false (by omega)
                  have hod' : ¬ (s.lg.length : Int) ≤ (o : Int) := by omega
                  have hod2 : decide (s.lg.length ≤ o) = false := decide_eq_false (by omega)
                  obtain ⟨gb, gf, rfl, hjunk⟩ := Rd.addr HRG.out (by omega)
                  clear hjunk
                  go_wp2_with fail
                  go_loopg [18] (s.lg.length - o) (fun g v wx => ∃ j : Nat, o ≤ j ∧ j < s.lg.length ∧ g = s.lg.length - j ∧ v = .int .i64 (j : Int) ∧ wc = wx ∧ Hid (UpI s.lg o j))
                  case atStart => exact ⟨o, Nat.le_refl _, hol, rfl, rfl, rfl, UpI.zero _ _⟩
                  case round =>
                    obtain ⟨j, hoj, hjl, rfl, rfl, rfl, HU⟩ := hrel
                    rcases Nat.lt_or_ge (j + 1) s.lg.length with hj1 | hj1
                    rotate_left
                    · have HNO : Hid (arR 10 l = none) := HNOP.out (by rw [HP2.out, HU.out.no hj1]; rfl)
                      have hjd : decide ((j : Int) + 1 < (s.lg.length : Int)) = false := decide_eq_false (by omega)
                      have hjd' : ¬ (j : Int) + 1 < (s.lg.length : Int) := by omega
                      have hjd2 : decide ((s.lg.length : Int) ≤ (j : Int) + 1) = true := decide_eq_true (by omega)
                      have hjd3 : (s.lg.length : Int) ≤ (j : Int) + 1 := by omega
                      clear HNOP HSTEP HP2
                      go_wp2_with fail
                      go_ret3
                      exact ⟨HD4.out.bel, by rw [HNO.out]; rfl⟩
                    have hjd : decide ((j : Int) + 1 < (s.lg.length : Int)) = true := decide_eq_true (by omega)
                    have hjd' : (j : Int) + 1 < (s.lg.length : Int) := by omega
                    have hjd2 : decide ((s.lg.length : Int) ≤ (j : Int) + 1) = false := decide_eq_false (by omega)
                    have hjd3 : ¬ (s.lg.length : Int) ≤ (j : Int) + 1 := by omega
                    obtain ⟨ca, hca⟩ : ∃ c, s.lg[j]? = some c := ⟨_, List.getElem?_eq_getElem (by omega)⟩
                    obtain ⟨cb, hcb⟩ : ∃ c, s.lg[j + 1]? = some c := ⟨_, List.getElem?_eq_getElem (by omega)⟩
                    have la := Rd.cell HRG.out _ rfl j (by omega)
                    rw [addN, nI_at _ _ ca hca] at la
                    have lb := Rd.cell HRG.out _ rfl (j + 1) (by omega)
                    rw [addN, nI_at _ _ cb hcb] at lb
                    have ea : ((ca.toNat : Int) == 47) = decide (ca = 47) := byte_sameD ca 47
                    have eb : ((cb.toNat : Int) == 10) = decide (cb = 10) := byte_sameD cb 10
                    by_cases hab : ca = 47 ∧ cb = 10
                    rotate_left
                    · as_aux_lemma =>
                        have HU2 := hide (HU.out.next hoj hca hcb hab)
                        by_cases ha : ca = 47
                        · have hb : ¬ cb = 10 := fun h => hab ⟨ha, h⟩
                          rw [decide_eq_true ha] at ea
                          rw [decide_eq_false hb] at eb
                          clear ha hb hab hca hcb HU HNOP HSTEP HP2
                          go_wp2_with fail
                          go_roundg (s.lg.length - (j + 1))
                          case measure => omega
                          case rel => exact ⟨j + 1, by omega, hj1, rfl, by go_num, rfl, HU2.out⟩
                        · rw [decide_eq_false ha] at ea
                          clear ha hab hca hcb HU HNOP HSTEP HP2 eb
                          go_wp2_with fail
                          go_roundg (s.lg.length - (j + 1))
                          case measure => omega
                          case rel => exact ⟨j + 1, by omega, hj1, rfl, by go_num, rfl, HU2.out⟩
                    obtain ⟨rfl, rfl⟩ := hab
                    have ea' : ((((47 : UInt8).toNat : Int)) == 47) = true := by decide
                    have eb' : ((((10 : UInt8).toNat : Int)) == 10) = true := by decide
                    have hlk := HU.out.yes hol hca hcb
                    have hcgo : ¬ cg = o := by omega
                    have hcv := Rt.txt (Rt.mid HRG.out o (j - o) (by omega)) (j - o) (by simp; omega)
                    obtain ⟨N, hN⟩ : ∃ N, (s.lg.drop o).take (j - o) = N := ⟨_, rfl⟩
                    rw [hN] at hlk hcv
                    have hNl : N.length = j - o := by rw [← hN, List.length_take, List.length_drop]; omega
                    have HGD := hide (good_any N (by omega) wc)
                    obtain ⟨sn, hsn⟩ : ∃ sn, str N = sn := ⟨_, rfl⟩
                    have hsnl : sn.size = j - o := by rw [← hsn, str_size, hNl]
                    rw [hsn] at hcv HGD
                    have HSN := hide hsn
                    have HP3 : Hid (putG 10 s F D = putN s D N) := by show _ = _; rw [HP2.out, hlk]; rfl
                    clear hlk hN hsn HP2 hca hcb ea eb HU
                    have HP2 := HP3
                    clear HP3
                    go_wp2_with fail
                    refine HGD.out.mono ?_
                    rintro e w3 ⟨rfl, hw⟩
                    obtain rfl := hw.symm
                    clear hw HGD
                    cases hok : okN N
                    · have HNO : Hid (arR 10 l = none) := HNOP.out (by rw [HP2.out]; unfold putN; rw [if_neg (fun h => by rw [hok] at h; exact absurd h.1 (by decide))])
                      clear HNOP HSTEP HP2 hok
                      go_wp2_with fail
                      go_ret3
                      exact ⟨HD4.out.bel, by rw [HNO.out]; rfl⟩
                    rcases Nat.lt_or_ge s.ms.length 100 with h100 | h100
                    rotate_left
                    · have HNO : Hid (arR 10 l = none) := HNOP.out (by rw [HP2.out]; unfold putN; rw [if_neg (fun h => by omega)])
                      have d100 : decide ((100 : Int) ≤ (s.ms.length : Int)) = true := decide_eq_true (by omega)
                      clear HNOP HSTEP HP2 hok
                      go_wp2_with fail
                      go_ret3
                      exact ⟨HD4.out.bel, by rw [HNO.out]; rfl⟩
                    have d100 : decide ((100 : Int) ≤ (s.ms.length : Int)) = false := decide_eq_false (by omega)
                    have HPP : Hid (putG 10 s F D = some { s with ms := s.ms ++ [⟨N, D⟩], bg := true }) := by show _ = _; rw [HP2.out]; unfold putN; rw [if_pos ⟨hok, h100⟩]
                    have HAN := hide (HSTEP.out _ HPP.out)
                    obtain ⟨vs, hrow, hvl, hvi⟩ := HD4.out.ms.ex
                    obtain ⟨xs, hxs⟩ : ∃ xs, mbC.all vs = xs := ⟨_, rfl⟩
                    rw [hxs] at hrow
                    have HXS := hide hxs
                    have HROW := hide hrow
                    have HVI := hide hvi
                    have hsz4 := HD4.out.bel.size
                    clear hrow hxs hvi HNOP HSTEP HP2 hok HPP
                    go_upto_region 8 with (first | (refine wpList_buildOne rfl _ 26 1 _ rfl [(0, .agg #[.string sn, .slice a4 n0 c4])] #[.string sn, .slice a4 n0 c4] (by kernel_rfl) Tryd.underlying23 (by kernel_rfl) ?_) | (at_builtin; refine wpList_append_own _ rfl _ _ 23 rfl w.heap.size 26 iM (.agg #[.string ⟨#[]⟩, .slice none 0 0]) 2 40 Tryd.underlying23 hiM hzM0 hzM1 hzM2 rfl (by decide) _ _ _ rfl (HROW.out.alloc _) ⟨wc.heap.size, 0, none⟩ 1 1 [.string sn, .slice a4 n0 c4] rfl rfl (World.news_of_block (cs := #[.string sn, .slice a4 n0 c4]) (t := 26) (fr := (0, 0)) (heap_alloc_new wc _)) (by simp [Value.oneCell']) (by unfold maxLen; omega) (by omega) (by simp; omega) ?_))
                    intro v2 w2 hown hgrow _
                    have oG : OthT 26 (wc.alloc (.cells #[.string sn, .slice a4 n0 c4] 26)) w2 := OthT.grown (HROW.out.alloc _) hgrow
                    have bA : Below wc.heap.size wc (wc.alloc (.cells #[.string sn, .slice a4 n0 c4] 26)) := (Below.refl _ _).alloc (Nat.le_refl _) _
                    have HDN : Hid (DR w w2 { s with ms := s.ms ++ [⟨N, D⟩], bg := true } v2 u6 (.slice (some ⟨gb, gf, none⟩) s.lg.length cg)) := by
                      have hnn := HSN.out
                      subst hnn
                      have P := OM.push (w := wc.alloc (.cells #[.string (str N), .slice a4 n0 c4] 26)) (W := w2) (B := w.heap.size) (l := s.ms) (vs := vs) (u := ⟨N, a4, n0, c4⟩) (s := ⟨N, D⟩) (v' := v2) hvl (fun j m hm => by
                        obtain ⟨u, hu, ho⟩ := HVI.out j m hm
                        exact ⟨u, hu, ho.below bA⟩) oG ⟨rfl, rowKept (B0 := 0) HXX.out bA⟩ (by rw [HXS.out]; exact hown)
                      refine ⟨P, oG.row (by decide) (rowKept (B0 := 0) HD4.out.ix bA), oG.row (by decide) (rowKept (B0 := 0) HD4.out.lg bA), (HD4.out.bel.alloc hsz4 _).grown hgrow (by simp; omega) (fun q hq => ?_)⟩
                      have := row_ge HROW.out hq
                      omega
                    clear hown hgrow oG bA HROW HVI HXS hvl HXX HSN HD4
                    go_wp2_with fail
                    go_roundg (l.length - z)
                    case measure => omega
                    case rel => exact ⟨{ s with ms := s.ms ++ [⟨N, D⟩], bg := true }, z, n + 1, by omega, hzl, rfl, rfl, rfl, by go_num, by omega, HLG.out, (by show true = _; simp), HAN.out, HDN.out⟩
            · as_aux_lemma =>
                have hkb : ((k : Int) == 0) = false := by rw [beq_eq_false_iff_ne]; omega
                have hk16b : ((k : Int) == 16) = false := by rw [beq_eq_false_iff_ne]; omega
                have hkne : ¬ k = 16 := by omega
                have hkn0 : ¬ k = 0 := hk0
                have HP := hide (put_short (s := s) (D := D) HK.out HCK.out (by omega))
                have ex1 := ext_drop F (k + 1)
                have ex3 := ext_take F k
                have HSPC := hide (spaces_any (F.drop (k + 1)) (by rw [List.length_drop]; omega) wc)
                obtain ⟨sr, hsr⟩ : ∃ sr, str (F.drop (k + 1)) = sr := ⟨_, rfl⟩
                rw [hsr] at ex1 HSPC
                have ex2 := ex1
                rw [hSs] at ex2
                obtain ⟨N, hN⟩ : ∃ N, F.take k = N := ⟨_, rfl⟩
                have hNl : N.length = k := by rw [← hN, List.length_take]; omega
                rw [hN] at ex3
                have HGD := hide (good_any N (by omega) wc)
                obtain ⟨sn, hsn⟩ : ∃ sn, str N = sn := ⟨_, rfl⟩
                have hsnl : sn.size = k := by rw [← hsn, str_size, hNl]
                rw [hsn] at ex3 HGD
                have HSN := hide hsn
                have HNN := hide hN
                clear hsr hsn hN HCK HK
                cases hsp : spc (F.drop (k + 1))
                · rw [hsp] at HSPC
                  have HNO : Hid (arR 10 l = none) := HNOP.out (by rw [HP.out, if_neg (by rw [hsp]; simp)])
                  clear HNOP HSTEP HP HGD ex3
                  go_wp2_with fail
                  refine HSPC.out.mono ?_
                  rintro e w2 ⟨rfl, hw⟩
                  obtain rfl := hw.symm
                  clear hw
                  go_wp2_with fail
                  go_ret3
                  exact ⟨HD4.out.bel, by rw [HNO.out]; rfl⟩
                rw [hsp] at HSPC
                have HP2 : Hid (putG 10 s F D = putN s D N) := by show _ = _; rw [HP.out, if_pos hsp, HNN.out]
                clear hsp HP
                go_wp2_with fail
                refine HSPC.out.mono ?_
                rintro e w2 ⟨rfl, hw⟩
                obtain rfl := hw.symm
                clear hw HSPC ex1 ex2
                go_wp2_with fail
                refine HGD.out.mono ?_
                rintro e w3 ⟨rfl, hw⟩
                obtain rfl := hw.symm
                clear hw HGD
                cases hok : okN N
                · have HNO : Hid (arR 10 l = none) := HNOP.out (by rw [HP2.out]; unfold putN; rw [if_neg (fun h => by rw [hok] at h; exact absurd h.1 (by decide))])
                  clear HNOP HSTEP HP2 hok
                  go_wp2_with fail
                  go_ret3
                  exact ⟨HD4.out.bel, by rw [HNO.out]; rfl⟩
                rcases Nat.lt_or_ge s.ms.length 100 with h100 | h100
                rotate_left
                · have HNO : Hid (arR 10 l = none) := HNOP.out (by rw [HP2.out]; unfold putN; rw [if_neg (fun h => by omega)])
                  have d100 : decide ((100 : Int) ≤ (s.ms.length : Int)) = true := decide_eq_true (by omega)
                  clear HNOP HSTEP HP2 hok
                  go_wp2_with fail
                  go_ret3
                  exact ⟨HD4.out.bel, by rw [HNO.out]; rfl⟩
                have d100 : decide ((100 : Int) ≤ (s.ms.length : Int)) = false := decide_eq_false (by omega)
                have HPP : Hid (putG 10 s F D = some { s with ms := s.ms ++ [⟨N, D⟩], bg := true }) := by show _ = _; rw [HP2.out]; unfold putN; rw [if_pos ⟨hok, h100⟩]
                have HAN := hide (HSTEP.out _ HPP.out)
                obtain ⟨vs, hrow, hvl, hvi⟩ := HD4.out.ms.ex
                obtain ⟨xs, hxs⟩ : ∃ xs, mbC.all vs = xs := ⟨_, rfl⟩
                rw [hxs] at hrow
                have HXS := hide hxs
                have HROW := hide hrow
                have HVI := hide hvi
                have hsz4 := HD4.out.bel.size
                clear hrow hxs hvi HNOP HSTEP HP2 hok HPP
                go_upto_region 8 with (first | (refine wpList_buildOne rfl _ 26 1 _ rfl [(0, .agg #[.string sn, .slice a4 n0 c4])] #[.string sn, .slice a4 n0 c4] (by kernel_rfl) Tryd.underlying23 (by kernel_rfl) ?_) | (at_builtin; refine wpList_append_own _ rfl _ _ 23 rfl w.heap.size 26 iM (.agg #[.string ⟨#[]⟩, .slice none 0 0]) 2 40 Tryd.underlying23 hiM hzM0 hzM1 hzM2 rfl (by decide) _ _ _ rfl (HROW.out.alloc _) ⟨wc.heap.size, 0, none⟩ 1 1 [.string sn, .slice a4 n0 c4] rfl rfl (World.news_of_block (cs := #[.string sn, .slice a4 n0 c4]) (t := 26) (fr := (0, 0)) (heap_alloc_new wc _)) (by simp [Value.oneCell']) (by unfold maxLen; omega) (by omega) (by simp; omega) ?_))
                intro v2 w2 hown hgrow _
                have oG : OthT 26 (wc.alloc (.cells #[.string sn, .slice a4 n0 c4] 26)) w2 := OthT.grown (HROW.out.alloc _) hgrow
                have bA : Below wc.heap.size wc (wc.alloc (.cells #[.string sn, .slice a4 n0 c4] 26)) := (Below.refl _ _).alloc (Nat.le_refl _) _
                have HDN : Hid (DR w w2 { s with ms := s.ms ++ [⟨N, D⟩], bg := true } v2 u6 (.slice ag s.lg.length cg)) := by
                  have hnn := HSN.out
                  subst hnn
                  have P := OM.push (w := wc.alloc (.cells #[.string (str N), .slice a4 n0 c4] 26)) (W := w2) (B := w.heap.size) (l := s.ms) (vs := vs) (u := ⟨N, a4, n0, c4⟩) (s := ⟨N, D⟩) (v' := v2) hvl (fun j m hm => by
                    obtain ⟨u, hu, ho⟩ := HVI.out j m hm
                    exact ⟨u, hu, ho.below bA⟩) oG ⟨rfl, rowKept (B0 := 0) HXX.out bA⟩ (by rw [HXS.out]; exact hown)
                  refine ⟨P, oG.row (by decide) (rowKept (B0 := 0) HD4.out.ix bA), oG.row (by decide) (rowKept (B0 := 0) HD4.out.lg bA), (HD4.out.bel.alloc hsz4 _).grown hgrow (by simp; omega) (fun q hq => ?_)⟩
                  have := row_ge HROW.out hq
                  omega
                clear hown hgrow oG bA HROW HVI HXS hvl HXX HSN HD4
                go_wp2_with fail
                go_roundg (l.length - z)
                case measure => omega
                case rel => exact ⟨{ s with ms := s.ms ++ [⟨N, D⟩], bg := true }, z, n + 1, by omega, hzl, rfl, rfl, rfl, by go_num, by omega, HLG.out, (by show true = _; simp), HAN.out, HDN.out⟩

end Go.Proofs.YtmmcnkdefpfkiaaDoor
