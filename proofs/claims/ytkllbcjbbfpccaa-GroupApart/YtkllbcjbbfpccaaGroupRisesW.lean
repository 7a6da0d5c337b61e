/- The walk of GroupRises. -/
import Derived.Test.YtkllbcjbbfpccaaGroupKnown
import Derived.Test.YtkllbcjbbfpccaaGroupRef
namespace Go.Proofs.Ytkllbcjbbfpccaa
open Go.RowKit
set_option linter.unusedVariables false
set_option linter.unusedSimpArgs false

/-- The sum of the first k gaps. -/
def riA (gs : List Int) : Nat → Int
  | 0 => 0
  | k + 1 => riA gs k + gs.getD k 0 % 4
/-- .. the members, and whether every gap is one. -/
def riM (gs : List Int) (k : Nat) : List Int := (List.range k).map (fun j => riA gs (j + 1))
def riO (gs : List Int) : Nat → Bool
  | 0 => true
  | k + 1 => riO gs k && decide (0 < gs.getD k 0 % 4)
theorem riA_bd (gs : List Int) : ∀ k : Nat, 0 ≤ riA gs k ∧ riA gs k ≤ 3 * (k : Int)
  | 0 => by simp [riA]
  | k + 1 => by have := riA_bd gs k; simp only [riA]; omega
theorem riM_len (gs : List Int) (k : Nat) : (riM gs k).length = k := by simp [riM]
theorem riM_at (gs : List Int) (k i : Nat) (h : i < k) : (riM gs k)[i]? = some (riA gs (i + 1)) := by simp [riM, h]
theorem riM_succ (gs : List Int) (k : Nat) : riM gs (k + 1) = riM gs k ++ [riA gs (k + 1)] := by simp [riM, List.range_succ]
theorem riO_iff (gs : List Int) : ∀ k : Nat, riO gs k = true ↔ ∀ j, j < k → riA gs j < riA gs (j + 1)
  | 0 => by simp [riO]
  | k + 1 => by
    simp only [riO, Bool.and_eq_true, decide_eq_true_eq, riO_iff gs k]
    constructor
    · rintro ⟨h1, h2⟩ j hj
      rcases (show j < k ∨ j = k by omega) with h | h
      · exact h1 j h
      · subst h; simp only [riA]; omega
    · intro h
      refine ⟨fun j hj => h j (by omega), ?_⟩
      have := h k (by omega)
      simp only [riA] at this
      omega
theorem riA_mono (gs : List Int) (i : Nat) : ∀ d : Nat, riA gs i ≤ riA gs (i + d)
  | 0 => Int.le_refl _
  | d + 1 => by have := riA_mono gs i d; rw [← Nat.add_assoc]; simp only [riA]; omega
theorem ri_low (gs : List Int) (k : Nat) (hk : k ≤ 1000) : Low (riM gs k) := by
  intro x hx
  obtain ⟨j, hj, rfl⟩ := List.mem_map.1 hx
  have := riA_bd gs (j + 1)
  have := List.mem_range.1 hj
  omega
theorem ri_good (gs : List Int) (k : Nat) (sects : Int) : grGood (riM gs k) sects ↔ (riO gs k = true ∧ (k = 0 ∨ riA gs k < sects)) := by
  rw [riO_iff]
  constructor
  · intro h
    refine ⟨fun j hj => ?_, ?_⟩
    · have h1 := h j _ (riM_at gs k j hj)
      rcases j with _ | j
      · simp only [riA] at h1 ⊢
        omega
      · exact h1.2.2 j _ rfl (riM_at gs k j (by omega))
    · rcases k with _ | k
      · exact .inl rfl
      · exact .inr (h k _ (riM_at gs (k + 1) k (by omega))).2.1
  · rintro ⟨h1, h2⟩ i x hx
    have hi : i < k := by have := (List.getElem?_eq_some_iff.1 hx).1; rwa [riM_len] at this
    rw [riM_at gs k i hi] at hx
    cases hx
    have h3 := h1 i hi
    have h4 := (riA_bd gs i).1
    have h5 := riA_mono gs (i + 1) (k - (i + 1))
    rw [show i + 1 + (k - (i + 1)) = k by omega] at h5
    refine ⟨by omega, by omega, fun j y hj hy => ?_⟩
    subst hj
    rw [riM_at gs k j (by omega)] at hy
    cases hy
    exact h3

/-- The members so far. -/
structure RiF (w wr : World) (v : Value) (gs : List Int) (k : Nat) : Prop where
  row : wr.ownsRow w.heap.size 3 1 v k ((riM gs k).map (Value.int .i64))
  bel : Below w.heap.size w wr
theorem RiF.push {w V W9 : World} {v v' : Value} {gs : List Int} {k : Nat} {x : Int} {o : Obj} (h : RiF w V v gs k) (hx : riA gs (k + 1) = x) (hown : W9.ownsRow w.heap.size 3 1 v' (k + 1) ((riM gs k).map (Value.int .i64) ++ [.int .i64 x])) (hgrow : (V.alloc o).grownBy W9 v.ownBlock) : RiF w W9 v' gs (k + 1) := by
  have z := h.bel.size
  refine ⟨?_, (h.bel.alloc z o).grown hgrow (by simp; omega) (fun j hj => (h.row.lt j hj).1)⟩
  rw [riM_succ, hx]
  simpa using hown

set_option maxHeartbeats 3200000 in
set_option maxRecDepth 20000 in
theorem grouprises_walk (a : Option Addr) (n cap : Nat) (gs : List Int) (sects : Int) (w : World) (r : Rd w a n cap gs) (y0 : 0 ≤ sects) (y1 : sects ≤ 255) :
    Calls Try.prog 5 #[.slice a n cap, .int .u8 sects] w fun e w' => e = .returned (.bool true) ∧ Below w.heap.size w w' := by
  obtain ⟨iY, hiY, hzY0, hzY1, hzY2⟩ := info_parts Try.infoInt
  have hmx := r.max
  have hle := r.le
  have hl := r.length
  have HR := hide r
  have HBY := hide r.bytes
  have KN := hide (known_14 w)
  clear r
  by_cases h : 15 < n
  · have h' : (15 : Int) < (n : Int) := by omega
    go_enter Try.func5, Try.ntmps5
    go_wp2_with fail
    refine KN.out.mono ?_
    rintro e W1 ⟨rfl, b1⟩
    have B1 := hide b1
    clear b1
    go_wp2
    go_ret
    exact ⟨rfl, B1.out⟩
  have h' : ¬ ((15 : Int) < (n : Int)) := by omega
  have sw : IntKind.i64.wrap sects = sects := by rw [IntKind.wrap_i64]; omega
  go_enter Try.func5, Try.ntmps5
  go_wp2_with fail
  refine KN.out.mono ?_
  rintro e W1 ⟨rfl, b1⟩
  have S0 : Hid (RiF w W1 (.slice none 0 0) gs 0) := ⟨World.ownsRow_nil _ _ _ _, b1⟩
  clear b1 KN
  go_wp2
  go_loopg [5, 6, 7, 8] n (fun gg v av ov iv wr => ∃ k : Nat, k ≤ n ∧ gg = n - k ∧ iv = .int .i64 (k : Int) ∧ av = .int .i64 (riA gs k) ∧ ov = .bool (riO gs k) ∧ Hid (RiF w wr v gs k))
  case atStart => exact ⟨0, by omega, rfl, rfl, rfl, rfl, S0⟩
  case round =>
    obtain ⟨k, hk, rfl, rfl, rfl, rfl, S⟩ := hrel
    clear S0
    have bA := riA_bd gs k
    by_cases hlt : k < n
    · have hlt' : (k : Int) < (n : Int) := by omega
      obtain ⟨b2, o2, rfl, hc⟩ := (HR.out.below S.out.bel).addr (by omega)
      have c2 := hc k hlt
      obtain ⟨x, hx⟩ : ∃ x, gs.getD k 0 = x := ⟨_, rfl⟩
      have hxb : 0 ≤ x ∧ x ≤ 255 := by
        have := HBY.out x (by rw [← hx, List.getD_eq_getElem?_getD, List.getElem?_eq_getElem (by omega)]; exact List.getElem_mem _)
        omega
      rw [hx] at c2
      obtain ⟨p, hp⟩ : ∃ p, x % 4 = p := ⟨_, rfl⟩
      have hpb : 0 ≤ p ∧ p ≤ 3 := by omega
      have t0 : x.tmod 4 = p := by rw [Int.tmod_eq_emod_of_nonneg hxb.1]; exact hp
      have pw : IntKind.i64.wrap p = p := by rw [IntKind.wrap_i64]; omega
      have hA : riA gs (k + 1) = riA gs k + p := by simp only [riA, hx, hp]
      have hO : riO gs (k + 1) = (riO gs k && decide (0 < p)) := by simp only [riO, hx, hp]
      obtain ⟨s, hs⟩ : ∃ s, riA gs k = s := ⟨_, rfl⟩
      obtain ⟨o, ho⟩ : ∃ o, riO gs k = o := ⟨_, rfl⟩
      rw [hs] at bA hA ⊢
      rw [ho] at hO ⊢
      have HA := hide hA
      have HO := hide hO
      clear hc hx hp hA hO hs ho
      obtain ⟨q, hq⟩ : ∃ q, s + p = q := ⟨_, rfl⟩
      have hqb : 0 ≤ q ∧ q ≤ 1000 := by omega
      have HQ := hide hq
      obtain ⟨xs, hxs⟩ : ∃ xs, (riM gs k).map (Value.int .i64) = xs := ⟨_, rfl⟩
      have ow := S.out.row
      rw [hxs] at ow
      have OW := hide ow
      have HXS := hide hxs
      have zr := S.out.bel.size
      clear ow hxs
      have fin : ∀ (o2 : Bool), riO gs (k + 1) = o2 → Hid (riO gs (k + 1) = o2) := fun _ h => h
      rcases o with _ | _
      · have O2 := fin false (by rw [HO.out]; rfl)
        clear fin
        go_upto_region 9 with (at_builtin; refine wpList_append_own _ rfl _ _ 23 rfl w.heap.size 3 iY (.int .i64 0) 1 8 Try.underlying23 hiY hzY0 hzY1 hzY2 rfl (by decide) _ _ _ rfl (OW.out.alloc _) ⟨wr.heap.size, 0, none⟩ 1 1 [.int .i64 q] rfl rfl (World.news_of_block (cs := #[.int .i64 q]) (t := 3) (fr := (0, 0)) (heap_alloc_new wr _)) (by simp [Value.oneCell']) (by unfold maxLen; omega) (by omega) (by simp; omega) ?_)
        intro v9 W9 hown9 hgrow9 _
        rw [← HXS.out] at hown9
        have S9 := hide (S.out.push (by rw [HA.out, HQ.out]) hown9 hgrow9)
        clear hown9 hgrow9 S HXS OW c2
        go_wp2
        go_roundg (n - (k + 1))
        case measure => omega
        case rel => exact ⟨k + 1, by omega, rfl, by go_num, by rw [HA.out, HQ.out], by rw [O2.out], S9⟩
      · by_cases hp0 : 0 < p
        · have O2 := fin true (by rw [HO.out]; simp [hp0])
          clear fin
          go_upto_region 9 with (at_builtin; refine wpList_append_own _ rfl _ _ 23 rfl w.heap.size 3 iY (.int .i64 0) 1 8 Try.underlying23 hiY hzY0 hzY1 hzY2 rfl (by decide) _ _ _ rfl (OW.out.alloc _) ⟨wr.heap.size, 0, none⟩ 1 1 [.int .i64 q] rfl rfl (World.news_of_block (cs := #[.int .i64 q]) (t := 3) (fr := (0, 0)) (heap_alloc_new wr _)) (by simp [Value.oneCell']) (by unfold maxLen; omega) (by omega) (by simp; omega) ?_)
          intro v9 W9 hown9 hgrow9 _
          rw [← HXS.out] at hown9
          have S9 := hide (S.out.push (by rw [HA.out, HQ.out]) hown9 hgrow9)
          clear hown9 hgrow9 S HXS OW c2
          go_wp2
          go_roundg (n - (k + 1))
          case measure => omega
          case rel => exact ⟨k + 1, by omega, rfl, by go_num, by rw [HA.out, HQ.out], by rw [O2.out], S9⟩
        · have O2 := fin false (by rw [HO.out]; simp [hp0])
          clear fin
          go_upto_region 9 with (at_builtin; refine wpList_append_own _ rfl _ _ 23 rfl w.heap.size 3 iY (.int .i64 0) 1 8 Try.underlying23 hiY hzY0 hzY1 hzY2 rfl (by decide) _ _ _ rfl (OW.out.alloc _) ⟨wr.heap.size, 0, none⟩ 1 1 [.int .i64 q] rfl rfl (World.news_of_block (cs := #[.int .i64 q]) (t := 3) (fr := (0, 0)) (heap_alloc_new wr _)) (by simp [Value.oneCell']) (by unfold maxLen; omega) (by omega) (by simp; omega) ?_)
          intro v9 W9 hown9 hgrow9 _
          rw [← HXS.out] at hown9
          have S9 := hide (S.out.push (by rw [HA.out, HQ.out]) hown9 hgrow9)
          clear hown9 hgrow9 S HXS OW c2
          go_wp2
          go_roundg (n - (k + 1))
          case measure => omega
          case rel => exact ⟨k + 1, by omega, rfl, by go_num, by rw [HA.out, HQ.out], by rw [O2.out], S9⟩
    · obtain rfl : k = n := by omega
      have LW := hide (ri_low gs k (by omega))
      obtain ⟨a5, c5, h5, r5⟩ := Ri.own S.out.row (fun x hx => by have := LW.out x hx; omega)
      subst h5
      have GD := hide (ri_good gs k sects)
      have z5 := S.out.bel.size
      have B5 := hide S.out.bel
      have R5 := hide r5
      have MB := hide (rgrb_any a5 k c5 _ wr r5 (by omega))
      have hML := riM_len gs k
      obtain ⟨M, hM⟩ : ∃ M, riM gs k = M := ⟨_, rfl⟩
      obtain ⟨s, hs⟩ : ∃ s, riA gs k = s := ⟨_, rfl⟩
      obtain ⟨o, ho⟩ : ∃ o, riO gs k = o := ⟨_, rfl⟩
      rw [hs] at bA GD ⊢
      rw [ho] at GD ⊢
      rw [hM] at LW GD R5 MB hML
      clear S r5 hM hs ho
      obtain ⟨ln, hln⟩ : ∃ ln, 4 + k * 4 = ln := ⟨_, rfl⟩
      have hln2 : ln ≤ 480 := by omega
      rw [hln] at MB
      go_wp2_with fail
      refine MB.out.mono ?_
      rintro e W6 ⟨v6, rfl, o6, b6⟩
      obtain ⟨a6, c6, h6, r6⟩ := Rd.own o6 (grL_bytes M)
      subst h6
      have B6 := hide (B5.out.trans (b6.mono z5))
      have z6 := B6.out.size
      have R6 := hide (R5.out.below b6)
      have PA := hide (grparse_any a6 ln c6 (grL M) sects W6 r6 (by omega) (by omega) (by omega))
      clear o6 b6 r6 MB R5 B5 z5 hln
      have NO : Hid (¬ grGood M sects → ∀ e W, GrR (grL M) sects e W → e = .returned (.tuple #[.slice none 0 0, .int .i64 34])) := fun h e W he => gr_no LW.out h he
      have YES : Hid (grGood M sects → ∀ e W, GrR (grL M) sects e W → ∃ a c, e = .returned (.tuple #[.slice a k c, .int .i64 0]) ∧ Ri W a k c M) := fun h e W he => by have := gr_yes LW.out h he; rwa [hML] at this
      go_wp2_with fail
      refine PA.out.mono ?_
      rintro e W7 ⟨hp, b7⟩
      have B7 := hide (B6.out.trans (b7.mono z6))
      have z7 := B7.out.size
      have R7 := hide (R6.out.below b7)
      clear b7 PA B6 z6 R6
      rcases o with _ | _
      · obtain rfl := NO.out (fun h => by have := GD.out.1 h; cases this.1) e W7 hp
        clear hp NO YES GD LW R7
        go_wp2
        go_ret
        exact ⟨rfl, B7.out⟩
      · by_cases h0 : k = 0
        · subst h0
          obtain ⟨a8, c8, rfl, r8⟩ := YES.out (GD.out.2 ⟨rfl, .inl rfl⟩) e W7 hp
          have SM := hide (ints_eq a8 0 c8 M a5 c5 W7 r8 R7.out)
          clear hp NO YES GD LW R7 r8
          go_wp2_with fail
          refine SM.out.mono ?_
          rintro e W8 ⟨rfl, b8⟩
          have B9 := hide (B7.out.trans (b8.mono z7))
          clear b8 SM B7
          go_wp2
          go_ret
          exact ⟨rfl, B9.out⟩
        · have h0' : ((k : Int) == 0) = false := by simp [h0]
          by_cases hs : s < sects
          · obtain ⟨a8, c8, rfl, r8⟩ := YES.out (GD.out.2 ⟨rfl, .inr hs⟩) e W7 hp
            have SM := hide (ints_eq a8 k c8 M a5 c5 W7 r8 R7.out)
            clear hp NO YES GD LW R7 r8
            go_wp2_with fail
            refine SM.out.mono ?_
            rintro e W8 ⟨rfl, b8⟩
            have B9 := hide (B7.out.trans (b8.mono z7))
            clear b8 SM B7
            go_wp2
            go_ret
            exact ⟨rfl, B9.out⟩
          · obtain rfl := NO.out (fun h => by have := (GD.out.1 h).2; omega) e W7 hp
            clear hp NO YES GD LW R7
            go_wp2
            go_ret
            exact ⟨rfl, B7.out⟩

end Go.Proofs.Ytkllbcjbbfpccaa
