/- The contract of group.Parse: the members just where the rules hold. -/
import Derived.Test.YtkllbcjbbfpccaaGroupOne
import Derived.Deep.LoopGhost
import Derived.Deep.AppendLies
namespace Go.Proofs.Ytkllbcjbbfpccaa
open Go.RowKit
set_option linter.unusedVariables false
set_option linter.unusedSimpArgs false

/-- The members so far. -/
structure GrF (w wr : World) (v : Value) (M : List Int) (k : Nat) : Prop where
  row : wr.ownsRow w.heap.size 3 1 v k ((M.take k).map (Value.int .i64))
  bel : Below w.heap.size w wr
theorem GrF.push {w V W9 : World} {v v' : Value} {M : List Int} {k : Nat} {x : Int} {o : Obj} (h : GrF w V v M k) (hx : M[k]? = some x) (hown : W9.ownsRow w.heap.size 3 1 v' (k + 1) ((M.take k).map (Value.int .i64) ++ [.int .i64 x])) (hgrow : (V.alloc o).grownBy W9 v.ownBlock) : GrF w W9 v' M (k + 1) := by
  have z := h.bel.size
  refine ⟨?_, (h.bel.alloc z o).grown hgrow (by simp; omega) (fun j hj => (h.row.lt j hj).1)⟩
  rw [List.take_add_one, hx]
  simpa using hown

/-- The member ahead of member k. -/
def grA (bs : List Int) (k : Nat) : Int := if k = 0 then 0 else grAt bs k
theorem grA_iff {bs : List Int} {sects : Int} (k : Nat) (h : ∀ i, i < k → grB bs sects i = true) : grB bs sects k = true ↔ (grA bs k < grAt bs (k + 1) ∧ grAt bs (k + 1) < sects) := by
  unfold grA
  by_cases hk : k = 0
  · subst hk
    simp [grB]
    omega
  · have h1 := h (k - 1) (by omega)
    rw [if_neg hk]
    simp [grB, hk] at h1 ⊢
    rw [show k - 1 + 1 = k by omega] at h1
    omega

set_option maxHeartbeats 3200000 in
set_option maxRecDepth 20000 in
theorem grparse_any (a : Option Addr) (len cap : Nat) (bs : List Int) (sects : Int) (w : World) (r : Rd w a len cap bs) (y0 : -9223372036854775808 ≤ sects) (y1 : sects ≤ 9223372036854775807) (hl8 : len ≤ 1000000) :
    Calls Try.prog 10 #[.slice a len cap, .int .i64 sects] w fun e w' => GrR bs sects e w' ∧ Below w.heap.size w w' := by
  have hl := r.length
  have hle := r.le
  have hmx := r.max
  obtain ⟨iY, hiY, hzY0, hzY1, hzY2⟩ := info_parts Try.infoInt
  have d2 : (len : Int).tmod 4 = (len : Int) % 4 := Int.tmod_eq_emod_of_nonneg (by omega)
  have hU := u32_any a len cap bs 0 w r (by omega) (by omega)
  have hg0 := grAt_bd r.bytes 0
  have eg : got bs 0 4 = grAt bs 0 := rfl
  rw [eg] at hU
  obtain ⟨g, hg⟩ : ∃ g, grAt bs 0 = g := ⟨_, rfl⟩
  have h4 : ¬ 4 ≤ len → g = 0 := fun h => by
    rw [← hg]
    unfold grAt got
    simp
    intro h5
    omega
  obtain ⟨t, ht⟩ : ∃ t, has bs 0 4 = t := ⟨_, rfl⟩
  rw [ht, hg] at hU
  rw [hg] at hg0
  have HU := hide hU
  clear hU ht eg
  by_cases h1 : g = 1
  · subst h1
    have h44 : 4 ≤ len := by
      rcases Nat.lt_or_ge len 4 with h5 | h5
      · have := h4 (by omega); omega
      · exact h5
    by_cases hm : len % 4 = 0
    · have m0 : ((len : Int) % 4 != 0) = false := by simp; omega
      obtain ⟨n, hn⟩ : ∃ n, len / 4 - 1 = n := ⟨_, rfl⟩
      have hn' : (len : Int) / 4 = ((n + 1 : Nat) : Int) := by omega
      have hn2 : bs.length / 4 - 1 = n := by rw [hl]; exact hn
      obtain ⟨M, hM⟩ : ∃ M, grM bs = M := ⟨_, rfl⟩
      have hMl : M.length = n := by rw [← hM, grM_len]; exact hn2
      have hMa : ∀ i, i < n → M[i]? = some (grAt bs (i + 1)) := fun i hi => by rw [← hM]; exact grM_at _ _ (by omega)
      have hMf : ∀ x ∈ M, -9223372036854775808 ≤ x ∧ x ≤ 9223372036854775807 := by rw [← hM]; exact grM_fit r.bytes
      have PR : Hid (grOk bs sects ↔ ∀ i, i < n → grB bs sects i = true) := by
        show grOk bs sects ↔ _
        unfold grOk
        rw [hn2, hl]
        exact ⟨fun h => h.2.2.2, fun h => ⟨hm, h44, hg, h⟩⟩
      have HBY := hide r.bytes
      have HM := hide hM
      have HMa := hide hMa
      have HMf := hide hMf
      have HN2 := hide hn2
      have R0 := hide r
      have hl4 : 4 * (n + 1) = len := by omega
      clear hM hMa hMf hn2 r hn hm hg h4
      go_enter Try.func10, Try.ntmps10
      go_upto_region 4 with (go_at_call 18; refine HU.out.mono ?_; rintro e w' ⟨rfl, hw'⟩; obtain rfl := hw'.symm)
      go_upto_region 6 with (at_make; refine wpList_make_own _ rfl _ _ 23 rfl w.heap.size 3 iY (.int .i64 0) 1 Try.underlying23 hiY hzY0 hzY1 .i64 .i64 (n : Int) n rfl rfl (by omega) (by rw [hzY2]; omega) (by unfold maxLen; omega) (Nat.le_refl _) ?_)
      intro W1 hown1 hgrow1
      have S0 := hide (GrF.mk (w := w) (M := M) (k := 0) (by rw [List.take_zero, List.map_nil]; exact hown1) ((Below.refl _ _).grown hgrow1 (Nat.le_refl w.heap.size) (fun k hk => by cases hk)))
      clear hown1 hgrow1 HU
      go_wp2
      go_loopg [9, 10, 11] n (fun gg v x i wr => ∃ k : Nat, k ≤ n ∧ gg = n - k ∧ x = .int .i64 (grA bs k) ∧ i = .int .i64 ((k : Int) + 1) ∧ Hid (GrF w wr v M k) ∧ Hid (∀ i, i < k → grB bs sects i = true))
      case atStart => exact ⟨0, by omega, rfl, rfl, rfl, S0, fun i hi => by omega⟩
      case round =>
        obtain ⟨k, hk, rfl, rfl, rfl, S, HP⟩ := hrel
        clear S0
        have hbW := S.out.bel
        have zr := hbW.size
        have HG := hide (grA_iff k HP.out)
        obtain ⟨x, hx⟩ : ∃ x, grAt bs (k + 1) = x := ⟨_, rfl⟩
        obtain ⟨y, hy⟩ : ∃ y, grA bs k = y := ⟨_, rfl⟩
        have bx := grAt_bd HBY.out (k + 1)
        have hA : Hid (grA bs (k + 1) = x) := by show grA bs (k + 1) = x; rw [← hx]; simp [grA]
        rw [hx] at bx HG
        rw [hy] at HG ⊢
        by_cases hlt : k < n
        · have hlt' : (k : Int) + 1 < (n : Int) + 1 := by omega
          have HX := hide (HMa.out k hlt)
          rw [hx] at HX
          have NU := hide (number_any a len cap bs (k + 1) wr (R0.out.below hbW) (by omega))
          rw [hx] at NU
          have ek : (((k + 1 : Nat) : Nat) : Int) = (k : Int) + 1 := by omega
          rw [ek] at NU
          clear hx hy hbW
          go_upto_region 11 with (go_at_call 19; refine NU.out.mono ?_; rintro e w' ⟨rfl, hw'⟩; obtain rfl := hw'.symm)
          clear NU
          by_cases h1 : x ≤ y
          · have HNO : Hid (¬ grOk bs sects) := fun h => by
              have h1 := HG.out.1 (PR.out.1 h k hlt)
              omega
            have BF := hide S.out.bel
            clear S HP HG
            go_wp2
            go_ret2
            exact ⟨.inr ⟨HNO.out, rfl⟩, BF.out⟩
          · have h1' : y < x := by omega
            by_cases h2 : sects ≤ x
            · have HNO : Hid (¬ grOk bs sects) := fun h => by
                have h1 := HG.out.1 (PR.out.1 h k hlt)
                omega
              have BF := hide S.out.bel
              clear S HP HG
              go_wp2
              go_ret2
              exact ⟨.inr ⟨HNO.out, rfl⟩, BF.out⟩
            · have h2' : x < sects := by omega
              have HP2 : Hid (∀ i, i < k + 1 → grB bs sects i = true) := fun i hi => by
                rcases (show i < k ∨ i = k by omega) with h5 | h5
                · exact HP.out i h5
                · subst h5
                  exact HG.out.2 ⟨h1', h2'⟩
              have xw : IntKind.i64.wrap x = x := by rw [IntKind.wrap_i64]; omega
              obtain ⟨xs, hxs⟩ : ∃ xs, (M.take k).map (Value.int .i64) = xs := ⟨_, rfl⟩
              have ow := S.out.row
              rw [hxs] at ow
              have OW := hide ow
              have HXS := hide hxs
              clear ow hxs HP HG
              go_upto_region 14 with (at_builtin; refine wpList_append_own _ rfl _ _ 23 rfl w.heap.size 3 iY (.int .i64 0) 1 8 Try.underlying23 hiY hzY0 hzY1 hzY2 rfl (by decide) _ _ _ rfl (OW.out.alloc _) ⟨wr.heap.size, 0, none⟩ 1 1 [.int .i64 x] rfl rfl (World.news_of_block (cs := #[.int .i64 x]) (t := 3) (fr := (0, 0)) (heap_alloc_new wr _)) (by simp [Value.oneCell']) (by unfold maxLen; omega) (by omega) (by simp; omega) ?_)
              intro v9 W9 hown9 hgrow9 _
              rw [← HXS.out] at hown9
              have S9 := hide (S.out.push HX.out hown9 hgrow9)
              clear hown9 hgrow9 S HXS OW
              go_wp2
              go_roundg (n - (k + 1))
              case measure => omega
              case rel => exact ⟨k + 1, by omega, rfl, by rw [hA.out], by go_num, S9, HP2⟩
        · obtain rfl : k = n := by omega
          have hrow := S.out.row
          rw [List.take_of_length_le (by omega)] at hrow
          obtain ⟨a9, c9, h9, r9⟩ := Ri.own hrow HMf.out
          subst h9
          have R9 := hide r9
          have HY := hide (PR.out.2 HP.out)
          have BF := hide hbW
          clear hrow r9 S hbW HP hx hy HG hA
          go_wp2
          go_ret2
          refine ⟨.inl ⟨HY.out, ?_⟩, BF.out⟩
          rw [HN2.out, HM.out]
          exact ⟨_, _, rfl, R9.out⟩
    · have hno : ¬ grOk bs sects := fun h => hm (by have := h.1; rw [hl] at this; exact this)
      have HNO := hide hno
      have m0 : ((len : Int) % 4 != 0) = true := by simp; omega
      clear hno r h4 hg
      go_enter Try.func10, Try.ntmps10
      go_wp2_with (go_at_call 18; refine HU.out.mono ?_; rintro e w' ⟨rfl, hw'⟩; obtain rfl := hw'.symm)
      go_ret2
      exact ⟨.inr ⟨HNO.out, rfl⟩, Below.refl _ _⟩
  · have hno : ¬ grOk bs sects := fun h => h1 (by rw [← hg]; exact h.2.2.1)
    have HNO := hide hno
    have m0 : (g != 1) = true := by simp [h1]
    clear hno r h4 hg
    go_enter Try.func10, Try.ntmps10
    go_wp2_with (go_at_call 18; refine HU.out.mono ?_; rintro e w' ⟨rfl, hw'⟩; obtain rfl := hw'.symm)
    go_ret2
    exact ⟨.inr ⟨HNO.out, rfl⟩, Below.refl _ _⟩

end Go.Proofs.Ytkllbcjbbfpccaa
