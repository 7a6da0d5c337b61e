/- The contract of the document's GroupOf: the members just where the rules hold. -/
import Derived.Test.YtkllbcjbbfpccaaGroupParse
import Derived.Test.YtkllbcjbbfpccaaNum9
namespace Go.Proofs.Ytkllbcjbbfpccaa
open Go.RowKit
set_option linter.unusedVariables false
set_option linter.unusedSimpArgs false

set_option maxHeartbeats 6400000 in
set_option maxRecDepth 20000 in
theorem rgrof_any (a : Option Addr) (len cap : Nat) (bs : List Int) (sects : Int) (w : World) (r : Rd w a len cap bs) (y0 : -9223372036854775808 ≤ sects) (y1 : sects ≤ 9223372036854775807) (hl8 : len ≤ 1000000) :
    Calls Try.prog 11 #[.slice a len cap, .int .i64 sects] w fun e w' => GrR bs sects e w' ∧ Below w.heap.size w w' := by
  have hl := r.length
  have hle := r.le
  have hmx := r.max
  obtain ⟨iY, hiY, hzY0, hzY1, hzY2⟩ := info_parts Try.infoInt
  have d2 : (len : Int).tmod 4 = (len : Int) % 4 := Int.tmod_eq_emod_of_nonneg (by omega)
  have hU := num9_any a len cap bs 0 4 w r (by omega) (by omega) (by omega) (by omega)
  have hg0 := grAt_bd r.bytes 0
  have eg : got bs 0 4 = grAt bs 0 := rfl
  rw [eg] at hU
  obtain ⟨g, hg⟩ : ∃ g, grAt bs 0 = g := ⟨_, rfl⟩
  rw [hg] at hU hg0
  have HU := hide hU
  clear hU eg
  by_cases hm : len % 4 = 0
  · have m0 : ((len : Int) % 4 != 0) = false := by simp; omega
    by_cases h44 : 4 ≤ len
    · have h44' : ¬ ((len : Int) < 4) := by omega
      by_cases h1 : g = 1
      · subst h1
        obtain ⟨n, hn⟩ : ∃ n, len / 4 - 1 = n := ⟨_, rfl⟩
        have hn2 : bs.length / 4 - 1 = n := by rw [hl]; exact hn
        obtain ⟨M, hM⟩ : ∃ M, grM bs = M := ⟨_, rfl⟩
        have hMl : M.length = n := by rw [← hM, grM_len]; exact hn2
        have hMa : ∀ i, i < n → M[i]? = some (grAt bs (i + 1)) := fun i hi => by rw [← hM]; exact grM_at _ _ (by omega)
        have hMf : ∀ x ∈ M, -9223372036854775808 ≤ x ∧ x ≤ 9223372036854775807 := by rw [← hM]; exact grM_fit r.bytes
        have PR : Hid (grOk bs sects ↔ ∀ i, i < n → grB bs sects i = true) := by
          show grOk bs sects ↔ _
          unfold grOk
          rw [hn2, hl]
          exact ⟨fun h => h.2.2.2, fun h => ⟨hm, h44, hg, h⟩⟩
        have HBY := hide r.bytes
        have HM := hide hM
        have HMa := hide hMa
        have HMf := hide hMf
        have HN2 := hide hn2
        have R0 := hide r
        have hl4 : 4 * (n + 1) = len := by omega
        have S0 : Hid (GrF w w (.slice none 0 0) M 0) := ⟨World.ownsRow_nil _ _ _ _, Below.refl _ _⟩
        clear hM hMa hMf hn2 r hn hm hg
        go_enter Try.func11, Try.ntmps11
        go_upto_region 3 with (go_at_call 20; refine HU.out.mono ?_; rintro e w' ⟨rfl, hw'⟩; obtain rfl := hw'.symm)
        clear HU d2 m0 h44'
        go_wp2
        go_loopg [6, 7] n (fun gg v i wr => ∃ k : Nat, k ≤ n ∧ gg = n - k ∧ i = .int .i64 (4 * (k : Int) + 4) ∧ Hid (GrF w wr v M k) ∧ Hid (∀ i, i < k → grB bs sects i = true))
        case atStart => exact ⟨0, by omega, rfl, rfl, S0, fun i hi => by omega⟩
        case round =>
          obtain ⟨k, hk, rfl, rfl, S, HP⟩ := hrel
          clear S0
          have hbW := S.out.bel
          have zr := hbW.size
          have HG := hide (grA_iff k HP.out)
          obtain ⟨x, hx⟩ : ∃ x, grAt bs (k + 1) = x := ⟨_, rfl⟩
          have bx := grAt_bd HBY.out (k + 1)
          rw [hx] at bx HG
          by_cases hlt : k < n
          · have hlt' : 4 * (k : Int) + 4 < (len : Int) := by omega
            have HX := hide (HMa.out k hlt)
            rw [hx] at HX
            have NU := hide (num9_any a len cap bs (4 * (k : Int) + 4) 4 wr (R0.out.below hbW) (by omega) (by omega) (by omega) (by omega))
            have e0 : got bs (4 * (k : Int) + 4) 4 = x := by
              rw [← hx]
              unfold grAt
              congr 1
            rw [e0] at NU
            have xw : IntKind.i64.wrap x = x := by rw [IntKind.wrap_i64]; omega
            have kw : IntKind.u64.wrap (4 * (k : Int) + 4) = 4 * (k : Int) + 4 := u64_wrap_id _ (by omega) (by omega)
            clear hx hbW e0
            go_upto_region 8 with (go_at_call 20; refine NU.out.mono ?_; rintro e w' ⟨rfl, hw'⟩; obtain rfl := hw'.symm)
            clear NU
            rcases k with _ | j
            · have z0 : grA bs 0 = 0 := rfl
              rw [z0] at HG
              by_cases h1 : x < 1
              · have HNO : Hid (¬ grOk bs sects) := fun h => by
                  have h1 := HG.out.1 (PR.out.1 h (0) hlt)
                  omega
                have BF := hide S.out.bel
                clear S HP HG
                go_wp2
                go_ret2
                exact ⟨.inr ⟨HNO.out, rfl⟩, BF.out⟩
              · by_cases h2 : sects ≤ x
                · have h1' : ¬ x < 1 := h1
                  have HNO : Hid (¬ grOk bs sects) := fun h => by
                    have h1 := HG.out.1 (PR.out.1 h (0) hlt)
                    omega
                  have BF := hide S.out.bel
                  clear S HP HG
                  go_wp2
                  go_ret2
                  exact ⟨.inr ⟨HNO.out, rfl⟩, BF.out⟩
                · have h2' : x < sects := by omega
                  obtain ⟨a9, c9, h9, r9⟩ := Ri.own S.out.row (fun z hz => HMf.out z (List.mem_of_mem_take hz))
                  subst h9
                  clear r9
                  have xw' : 1 ≤ x := by omega
                  have HP2 : Hid (∀ i, i < 0 + 1 → grB bs sects i = true) := fun i hi => by
                    rcases (show i < 0 ∨ i = 0 by omega) with h5 | h5
                    · exact HP.out i h5
                    · subst h5
                      exact HG.out.2 ⟨by omega, by omega⟩
                  obtain ⟨xs, hxs⟩ : ∃ xs, (M.take (0)).map (Value.int .i64) = xs := ⟨_, rfl⟩
                  have ow := S.out.row
                  rw [hxs] at ow
                  have OW := hide ow
                  have HXS := hide hxs
                  clear ow hxs HP HG
                  go_upto_region 10 with fail
                  go_upto_region 6 with (at_builtin; refine wpList_append_own _ rfl _ _ 23 rfl w.heap.size 3 iY (.int .i64 0) 1 8 Try.underlying23 hiY hzY0 hzY1 hzY2 rfl (by decide) _ _ _ rfl (OW.out.alloc _) ⟨wr.heap.size, 0, none⟩ 1 1 [.int .i64 x] rfl rfl (World.news_of_block (cs := #[.int .i64 x]) (t := 3) (fr := (0, 0)) (heap_alloc_new wr _)) (by simp [Value.oneCell']) (by unfold maxLen; omega) (by omega) (by simp; omega) ?_)
                  intro v9 W9 hown9 hgrow9 _
                  rw [← HXS.out] at hown9
                  have S9 := hide (S.out.push HX.out hown9 hgrow9)
                  clear hown9 hgrow9 S HXS OW
                  go_wp2
                  go_roundg (n - (0 + 1))
                  case measure => omega
                  case rel => exact ⟨0 + 1, by omega, rfl, by go_num, S9, HP2⟩
            · obtain ⟨y, hy⟩ : ∃ y, grAt bs (j + 1) = y := ⟨_, rfl⟩
              have z0 : grA bs (j + 1) = y := by rw [← hy]; simp [grA]
              have by0 := (grAt_bd HBY.out (j + 1)).1
              rw [hy] at by0
              rw [z0] at HG
              have hy2 := HMa.out j (by omega)
              rw [hy] at hy2
              clear hy z0
              by_cases h1 : x < 1
              · have HNO : Hid (¬ grOk bs sects) := fun h => by
                  have h1 := HG.out.1 (PR.out.1 h (j + 1) hlt)
                  omega
                have BF := hide S.out.bel
                clear S HP HG
                go_wp2
                go_ret2
                exact ⟨.inr ⟨HNO.out, rfl⟩, BF.out⟩
              · by_cases h2 : sects ≤ x
                · have HNO : Hid (¬ grOk bs sects) := fun h => by
                    have h1 := HG.out.1 (PR.out.1 h (j + 1) hlt)
                    omega
                  have BF := hide S.out.bel
                  clear S HP HG
                  go_wp2
                  go_ret2
                  exact ⟨.inr ⟨HNO.out, rfl⟩, BF.out⟩
                · have h2' : x < sects := by omega
                  obtain ⟨a9, c9, h9, r9⟩ := Ri.own S.out.row (fun z hz => HMf.out z (List.mem_of_mem_take hz))
                  subst h9
                  obtain ⟨b9, o9, rfl, hc9⟩ := r9.addr (by omega)
                  have c9 := hc9 j y (by rw [List.getElem?_take, if_pos (by omega)]; exact hy2)
                  have hj8 : (j : Int) < (j : Int) + 1 := by omega
                  clear r9 hc9
                  by_cases h3 : x ≤ y
                  · have HNO : Hid (¬ grOk bs sects) := fun h => by
                      have h1 := HG.out.1 (PR.out.1 h (j + 1) hlt)
                      omega
                    have BF := hide S.out.bel
                    clear S HP HG
                    go_wp2
                    go_ret2
                    exact ⟨.inr ⟨HNO.out, rfl⟩, BF.out⟩
                  · have h3' : y < x := by omega
                    have xw' : 1 ≤ x := by omega
                    have HP2 : Hid (∀ i, i < (j + 1) + 1 → grB bs sects i = true) := fun i hi => by
                      rcases (show i < (j + 1) ∨ i = (j + 1) by omega) with h5 | h5
                      · exact HP.out i h5
                      · subst h5
                        exact HG.out.2 ⟨by omega, by omega⟩
                    obtain ⟨xs, hxs⟩ : ∃ xs, (M.take ((j + 1))).map (Value.int .i64) = xs := ⟨_, rfl⟩
                    have ow := S.out.row
                    rw [hxs] at ow
                    have OW := hide ow
                    have HXS := hide hxs
                    clear ow hxs HP HG
                    go_upto_region 10 with fail
                    go_upto_region 6 with (at_builtin; refine wpList_append_own _ rfl _ _ 23 rfl w.heap.size 3 iY (.int .i64 0) 1 8 Try.underlying23 hiY hzY0 hzY1 hzY2 rfl (by decide) _ _ _ rfl (OW.out.alloc _) ⟨wr.heap.size, 0, none⟩ 1 1 [.int .i64 x] rfl rfl (World.news_of_block (cs := #[.int .i64 x]) (t := 3) (fr := (0, 0)) (heap_alloc_new wr _)) (by simp [Value.oneCell']) (by unfold maxLen; omega) (by omega) (by simp; omega) ?_)
                    intro v9 W9 hown9 hgrow9 _
                    rw [← HXS.out] at hown9
                    have S9 := hide (S.out.push HX.out hown9 hgrow9)
                    clear hown9 hgrow9 S HXS OW
                    go_wp2
                    go_roundg (n - ((j + 1) + 1))
                    case measure => omega
                    case rel => exact ⟨(j + 1) + 1, by omega, rfl, by go_num, S9, HP2⟩
          · obtain rfl : k = n := by omega
            have hrow := S.out.row
            rw [List.take_of_length_le (by omega)] at hrow
            obtain ⟨a9, c9, h9, r9⟩ := Ri.own hrow HMf.out
            subst h9
            have R9 := hide r9
            have HY := hide (PR.out.2 HP.out)
            have BF := hide hbW
            have hge : ¬ (4 * (k : Int) + 4 < (len : Int)) := by omega
            clear hrow r9 S hbW HP hx HG
            go_wp2
            go_ret2
            refine ⟨.inl ⟨HY.out, ?_⟩, BF.out⟩
            rw [HN2.out, HM.out]
            exact ⟨_, _, rfl, R9.out⟩
      · have hno : ¬ grOk bs sects := fun h => h1 (by rw [← hg]; exact h.2.2.1)
        have HNO := hide hno
        have m1 : (g != 1) = true := by simp [h1]
        clear hno r hg
        go_enter Try.func11, Try.ntmps11
        go_wp2_with (go_at_call 20; refine HU.out.mono ?_; rintro e w' ⟨rfl, hw'⟩; obtain rfl := hw'.symm)
        go_ret2
        exact ⟨.inr ⟨HNO.out, rfl⟩, Below.refl _ _⟩
    · have hno : ¬ grOk bs sects := fun h => h44 (by have := h.2.1; rw [hl] at this; exact this)
      have HNO := hide hno
      have h44' : (len : Int) < 4 := by omega
      clear hno r hg
      go_enter Try.func11, Try.ntmps11
      go_wp2_with (go_at_call 20; refine HU.out.mono ?_; rintro e w' ⟨rfl, hw'⟩; obtain rfl := hw'.symm)
      go_ret2
      exact ⟨.inr ⟨HNO.out, rfl⟩, Below.refl _ _⟩
  · have hno : ¬ grOk bs sects := fun h => hm (by have := h.1; rw [hl] at this; exact this)
    have HNO := hide hno
    have m0 : ((len : Int) % 4 != 0) = true := by simp; omega
    clear hno r hg
    go_enter Try.func11, Try.ntmps11
    go_wp2_with (go_at_call 20; refine HU.out.mono ?_; rintro e w' ⟨rfl, hw'⟩; obtain rfl := hw'.symm)
    go_ret2
    exact ⟨.inr ⟨HNO.out, rfl⟩, Below.refl _ _⟩

end Go.Proofs.Ytkllbcjbbfpccaa
