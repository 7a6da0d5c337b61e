/- The walk of SymOrder. -/
import Derived.Test.YtonhahijblnfhaaSymKnown
namespace Go.Proofs.Ytonhahijblnfhaa
open Go.RowKit
set_option linter.unusedVariables false
set_option linter.unusedSimpArgs false

/-- Behind i symbols: the number of the first that isn't local (len + 1: none), and whether the locals stand ahead. -/
def ordG (b : Nat → Bool) (len : Nat) : Nat → Nat
  | 0 => len + 1
  | i + 1 => if b i = true ∧ len < ordG b len i then i + 1 else ordG b len i
def ordS (b : Nat → Bool) (len : Nat) : Nat → Bool
  | 0 => true
  | i + 1 => ordS b len i && (b i || decide (len < ordG b len (i + 1)))

theorem ord_inv (b : Nat → Bool) (len : Nat) : ∀ i, i ≤ len →
    (len < ordG b len i → ordG b len i = len + 1 ∧ ∀ j, j < i → b j = false) ∧
    (ordG b len i ≤ len → 1 ≤ ordG b len i ∧ ordG b len i ≤ i ∧ b (ordG b len i - 1) = true ∧ ∀ j, j + 1 < ordG b len i → b j = false) ∧
    (ordS b len i = true ↔ ∀ j, j < i → (j + 1 < ordG b len i ↔ b j = false))
  | 0, _ => by
    refine ⟨fun _ => ⟨rfl, fun j hj => by omega⟩, fun h => ?_, ⟨fun _ j hj => by omega, fun _ => rfl⟩⟩
    exfalso
    unfold ordG at h
    omega
  | i + 1, hi => by
    obtain ⟨h1, h2, h3⟩ := ord_inv b len i (by omega)
    obtain ⟨F, hF⟩ : ∃ F, ordG b len i = F := ⟨_, rfl⟩
    rw [hF] at h1 h2 h3
    rcases hb : b i with _ | _
    · have e : ordG b len (i + 1) = F := by unfold ordG; rw [hF, hb]; simp
      have es : ordS b len (i + 1) = (ordS b len i && decide (len < F)) := by
        conv => lhs; unfold ordS
        rw [e, hb]
        simp
      rw [e, es]
      refine ⟨fun h => ?_, fun h => ?_, ?_⟩
      · obtain ⟨p, q⟩ := h1 h
        refine ⟨p, fun j hj => ?_⟩
        rcases (show j < i ∨ j = i by omega) with h5 | h5
        · exact q j h5
        · subst h5; exact hb
      · obtain ⟨p, q, r, t⟩ := h2 h
        exact ⟨p, by omega, r, t⟩
      · simp only [Bool.and_eq_true, decide_eq_true_eq]
        constructor
        · rintro ⟨p, q⟩ j hj
          rcases (show j < i ∨ j = i by omega) with h5 | h5
          · exact h3.1 p j h5
          · subst h5
            exact ⟨fun _ => hb, fun _ => by omega⟩
        · intro p
          refine ⟨h3.2 (fun j hj => p j (by omega)), ?_⟩
          rcases Nat.lt_or_ge len F with h5 | h5
          · exact h5
          · have h6 := (p i (by omega)).2 hb
            have h7 := (h2 h5).2.1
            omega
    · rcases Nat.lt_or_ge len F with hl | hl
      · have e : ordG b len (i + 1) = i + 1 := by unfold ordG; rw [hF, hb]; simp [hl]
        have es : ordS b len (i + 1) = ordS b len i := by
          conv => lhs; unfold ordS
          rw [hb]
          simp
        obtain ⟨p, q⟩ := h1 hl
        rw [e, es]
        refine ⟨fun h => by omega, fun _ => ⟨by omega, by omega, by rw [Nat.add_sub_cancel]; exact hb, fun j hj => q j (by omega)⟩, ?_⟩
        constructor
        · intro _ j hj
          rcases (show j < i ∨ j = i by omega) with h5 | h5
          · exact ⟨fun _ => q j h5, fun _ => by omega⟩
          · subst h5
            rw [hb]
            exact ⟨fun h => by omega, (fun h => by cases h)⟩
        · intro _
          exact h3.2 (fun j hj => ⟨fun _ => q j hj, fun _ => by omega⟩)
      · have e : ordG b len (i + 1) = F := by unfold ordG; rw [hF, hb]; simp; omega
        have es : ordS b len (i + 1) = ordS b len i := by
          conv => lhs; unfold ordS
          rw [hb]
          simp
        obtain ⟨p, q, r, t⟩ := h2 hl
        rw [e, es]
        refine ⟨fun h => by omega, fun _ => ⟨p, by omega, r, t⟩, ?_⟩
        constructor
        · intro h j hj
          rcases (show j < i ∨ j = i by omega) with h5 | h5
          · exact h3.1 h j h5
          · subst h5
            rw [hb]
            exact ⟨fun h => by omega, (fun h => by cases h)⟩
        · intro h
          exact h3.2 (fun j hj => h j (by omega))
theorem ord_iff (b : Nat → Bool) (len loc : Nat) : (1 ≤ loc ∧ loc ≤ len + 1 ∧ ∀ j, j < len → (j + 1 < loc ↔ b j = false)) ↔ (ordS b len len = true ∧ loc = ordG b len len) := by
  obtain ⟨h1, h2, h3⟩ := ord_inv b len len (Nat.le_refl _)
  obtain ⟨F, hF⟩ : ∃ F, ordG b len len = F := ⟨_, rfl⟩
  rw [hF] at h1 h2 h3 ⊢
  constructor
  · rintro ⟨l1, l2, l3⟩
    have e : loc = F := by
      rcases Nat.lt_or_ge len F with h5 | h5
      · obtain ⟨p, q⟩ := h1 h5
        rcases Nat.lt_or_ge (loc - 1) len with h6 | h6
        · have := (l3 (loc - 1) h6).2 (q _ h6)
          omega
        · omega
      · obtain ⟨p, q, r, t⟩ := h2 h5
        have h7 : ¬ (F - 1 + 1 < loc) := fun h => by have := (l3 (F - 1) (by omega)).1 h; rw [r] at this; cases this
        rcases Nat.lt_or_ge loc F with h6 | h6
        · have := (l3 (loc - 1) (by omega)).2 (t _ (by omega))
          omega
        · omega
    subst e
    exact ⟨h3.2 l3, rfl⟩
  · rintro ⟨p, rfl⟩
    refine ⟨?_, ?_, h3.1 p⟩
    · rcases Nat.lt_or_ge len loc with h5 | h5
      · omega
      · exact (h2 h5).1
    · rcases Nat.lt_or_ge len loc with h5 | h5
      · have := (h1 h5).1; omega
      · omega

def orN : List Int := [0, 115, 0]
theorem orN_bytes : Bytes orN := by intro x hx; simp [orN] at hx; omega
theorem or_gt : gtO orN 1 = some [115] := by decide +kernel
/-- The symbols that the statement makes of bytes. -/
def orY (bs : List Int) (i : Nat) : Sy := ⟨1, bs.getD i 0 % 3, bs.getD i 0 / 3 % 3, 0, 1, i, 0⟩
def orL (bs : List Int) : List Sy := sy0 :: (List.range bs.length).map (orY bs)
def orB (bs : List Int) (i : Nat) : Bool := bs.getD i 0 % 3 != 0
theorem orL_len (bs : List Int) : (orL bs).length = bs.length + 1 := by simp [orL]
theorem orL_at (bs : List Int) (i : Nat) (h : i < bs.length) : (orL bs)[i + 1]? = some (orY bs i) := by simp [orL, h]
theorem sy0_ok : sy0.Ok := ⟨by decide, by decide, by decide, by decide, by decide, by decide, by decide⟩
theorem orL_ok (bs : List Int) (hl : bs.length ≤ 20) : ∀ s ∈ orL bs, s.Ok ∧ s.nrm = s := by
  intro s hs
  simp only [orL, List.mem_cons, List.mem_map, List.mem_range] at hs
  rcases hs with rfl | ⟨i, hi, rfl⟩
  · exact ⟨sy0_ok, rfl⟩
  · refine ⟨⟨by simp [orY], ?_, ?_, by simp [orY], by simp [orY], ?_, by simp [orY]⟩, ?_⟩
    · simp only [orY]; omega
    · simp only [orY]; omega
    · simp only [orY]; omega
    · simp only [Sy.nrm, orY, Sy.mk.injEq]
      exact ⟨trivial, by omega, by omega, by omega, by omega, trivial, trivial⟩
theorem syms_back (l : List Sy) (h : ∀ s ∈ l, s.Ok ∧ s.nrm = s) : symsL (sysL l) l.length = l := by
  apply List.ext_getElem?
  intro i
  rcases Nat.lt_or_ge i l.length with hi | hi
  · obtain ⟨s, hs⟩ : ∃ s, l[i]? = some s := ⟨_, List.getElem?_eq_getElem hi⟩
    have hm := h s (List.mem_of_getElem? hs)
    rw [symsL_at _ _ _ hi, sysL_front l i s hs hm.1, hm.2, hs]
  · rw [List.getElem?_eq_none (by rw [symsL_len]; exact hi), List.getElem?_eq_none hi]
theorem or_ok (bs : List Int) (loc : Nat) (hl : bs.length ≤ 20) : symOk (sysL (orL bs)) orN loc ↔ (ordS (orB bs) bs.length bs.length = true ∧ loc = ordG (orB bs) bs.length bs.length) := by
  rw [← ord_iff]
  have hn : (sysL (orL bs)).length / 24 = bs.length + 1 := by rw [sysL_len, orL_len]; omega
  have hat : ∀ i, i < bs.length → syAt (sysL (orL bs)) (24 * (i + 1)) = orY bs i := fun i hi => by
    have hm := orL_ok bs hl _ (List.mem_of_getElem? (orL_at bs i hi))
    rw [sysL_front _ (i + 1) _ (orL_at bs i hi) hm.1, hm.2]
  have h0 : syAt (sysL (orL bs)) (24 * 0) = sy0 := by rw [sysL_front _ 0 sy0 rfl sy0_ok]; rfl
  have hB : ∀ i, i < bs.length → (syB orN (orY bs i) (i + 1) loc = true ↔ (i + 1 < loc ↔ orB bs i = false)) := fun i hi => by
    unfold syB
    rw [if_neg (by omega), show (orY bs i).nm = 1 from rfl, or_gt]
    have b0 : 0 ≤ bs.getD i 0 % 3 ∧ bs.getD i 0 % 3 ≤ 2 := by omega
    have b1 : 0 ≤ bs.getD i 0 / 3 % 3 ∧ bs.getD i 0 / 3 % 3 ≤ 2 := by omega
    simp only [orY, orB]
    obtain ⟨x, hx0⟩ : ∃ x, bs.getD i 0 % 3 = x := ⟨_, rfl⟩
    obtain ⟨y, hy0⟩ : ∃ y, bs.getD i 0 / 3 % 3 = y := ⟨_, rfl⟩
    simp only [hx0, hy0] at b0 b1 ⊢
    clear hx0 hy0
    by_cases hx : x = 0
    · by_cases hlc : i + 1 < loc
      · simp [hx, hlc]; omega
      · simp [hx, hlc]
    · by_cases hlc : i + 1 < loc
      · simp [hx, hlc]
      · simp [hx, hlc]; omega
  unfold symOk
  rw [hn]
  constructor
  · rintro ⟨_, _, _, l1, l2, l3⟩
    refine ⟨l1, l2, fun j hj => (hB j hj).1 ?_⟩
    have := l3 (j + 1) (by omega)
    rw [hat j hj] at this
    exact this
  · rintro ⟨l1, l2, l3⟩
    refine ⟨by rw [sysL_len]; omega, by omega, by omega, l1, l2, fun i hi => ?_⟩
    rcases i with _ | j
    · rw [h0]; rfl
    · rw [hat j (by omega)]
      exact (hB j (by omega)).2 (l3 j (by omega))

structure OrS (W1 wr : World) (v : Value) (L : List Sy) (k : Nat) : Prop where
  row : wr.ownsRow W1.heap.size 40 7 v k (syC.all (L.take k))
  bel : Below W1.heap.size W1 wr
theorem OrS.below {W1 wr W : World} {v : Value} {L : List Sy} {k : Nat} (h : OrS W1 wr v L k) (hw : Below wr.heap.size wr W) : OrS W1 W v L k :=
  ⟨ownsRow_kept0 h.row hw, h.bel.trans (hw.mono h.bel.size)⟩
theorem OrS.push {W1 V W9 : World} {v v' : Value} {L : List Sy} {k : Nat} {t : Sy} {o : Obj} (h : OrS W1 V v L k) (ht : L[k]? = some t) (hown : W9.ownsRow W1.heap.size 40 7 v' (k + 1) (syC.all (L.take k) ++ t.cells)) (hgrow : (V.alloc o).grownBy W9 v.ownBlock) : OrS W1 W9 v' L (k + 1) := by
  have z := h.bel.size
  refine ⟨?_, (h.bel.alloc z o).grown hgrow (by simp; omega) (fun j hj => (h.row.lt j hj).1)⟩
  rw [Rc.all_take syC L k t ht]
  exact hown

set_option maxHeartbeats 6400000 in
set_option maxRecDepth 20000 in
theorem symorder_walk (a : Option Addr) (len cap : Nat) (bs : List Int) (loc : Nat) (w : World) (r : Rd w a len cap bs) (hloc : loc ≤ 255) :
    Calls Try.prog 4 #[.slice a len cap, .int .u8 (loc : Int)] w fun e w' => e = .returned (.bool true) ∧ Below w.heap.size w w' := by
  have hl := r.length
  have hle := r.le
  have hmx := r.max
  obtain ⟨iY, hiY, hzY0, hzY1, hzY2⟩ := info_parts Try.infoSy
  have KN := hide (known_12 w)
  by_cases h20 : 20 < len
  · have h' : (20 : Int) < (len : Int) := by omega
    clear r
    go_enter Try.func4, Try.ntmps4
    go_wp2_with fail
    refine KN.out.mono ?_
    rintro e W1 ⟨rfl, b1⟩
    have B1 := hide b1
    clear b1
    go_wp2
    go_ret
    exact ⟨rfl, B1.out⟩
  have h' : ¬ ((20 : Int) < (len : Int)) := by omega
  obtain ⟨L, hL⟩ : ∃ L, orL bs = L := ⟨_, rfl⟩
  obtain ⟨b, hb⟩ : ∃ b, orB bs = b := ⟨_, rfl⟩
  have hLl : L.length = len + 1 := by rw [← hL, orL_len, hl]
  have HLa : Hid (∀ i, i < len → L[i + 1]? = some (orY bs i)) := fun i hi => by rw [← hL]; exact orL_at bs i (by omega)
  have HL0 : Hid (L[0]? = some sy0) := by rw [← hL]; exact rfl
  have HLok : Hid (∀ s ∈ L, s.Ok ∧ s.nrm = s) := by rw [← hL]; exact orL_ok bs (by omega)
  have HOK : Hid (symOk (sysL L) orN loc ↔ (ordS b len len = true ∧ loc = ordG b len len)) := by
    rw [← hL, ← hb, ← hl]
    exact or_ok bs loc (by omega)
  have HBI : Hid (∀ i, b i = (bs.getD i 0 % 3 != 0)) := fun i => by rw [← hb]; exact rfl
  have HR := hide r
  have HBY := hide r.bytes
  clear hL hb r h20
  go_enter Try.func4, Try.ntmps4
  go_wp2_with fail
  refine KN.out.mono ?_
  rintro e W1 ⟨rfl, bw1⟩
  have B1 := hide bw1
  have z1 := bw1.size
  have R1 := hide (HR.out.below bw1)
  clear bw1 KN HR
  go_upto_region 6 with fail
  have S0 : Hid (OrS W1 (W1.alloc (.cells #[.int .u32 0, .int .i64 0, .int .i64 0, .int .i64 0, .int .i64 0, .int .u64 0, .int .u64 0] 40)) (.slice (some ⟨W1.heap.size, 0, none⟩) 1 1) L 1) := by
    refine ⟨?_, (Below.refl _ _).alloc (Nat.le_refl _) _⟩
    have h1 := World.ownsRow_lit (base := W1.heap.size) (e := 40) (size := 7) W1 #[.int .u32 0, .int .i64 0, .int .i64 0, .int .i64 0, .int .i64 0, .int .u64 0, .int .u64 0] 1 (Nat.le_refl _) (by decide) rfl
    rw [show L.take 1 = [sy0] by rw [List.take_add_one, HL0.out]; rfl, Rc.all_one]
    exact h1
  obtain ⟨V1, hV1⟩ : ∃ V1, W1.alloc (.cells #[.int .u32 0, .int .i64 0, .int .i64 0, .int .i64 0, .int .i64 0, .int .u64 0, .int .u64 0] 40) = V1 := ⟨_, rfl⟩
  rw [hV1] at S0 ⊢
  obtain ⟨v1, hv1⟩ : ∃ v1, Value.slice (some ⟨W1.heap.size, 0, none⟩) 1 1 = v1 := ⟨_, rfl⟩
  rw [hv1] at S0 ⊢
  clear hV1 hv1
  go_wp2
  go_loopg [5, 6, 7, 8] len (fun gg v f sr i wr => ∃ (k F : Nat) (sb : Bool), k ≤ len ∧ gg = len - k ∧ f = .int .i64 (F : Int) ∧ sr = .bool sb ∧ i = .int .i64 (k : Int) ∧ Hid (OrS W1 wr v L (k + 1)) ∧ Hid (ordG b len k = F) ∧ Hid (ordS b len k = sb))
  case atStart => exact ⟨0, len + 1, true, by omega, rfl, by go_num, rfl, rfl, S0, rfl, rfl⟩
  case round =>
    obtain ⟨i, F, sb, hk, rfl, rfl, rfl, rfl, S, HF, HS⟩ := hrel
    clear S0
    have hbW := S.out.bel
    have zr := hbW.size
    have F1 : F ≤ len + 1 := by
      rw [← HF.out]
      rcases Nat.lt_or_ge len (ordG b len i) with h5 | h5
      · have := ((ord_inv b len i hk).1 h5).1; omega
      · omega
    by_cases hlt : i < len
    · have hlt' : (i : Int) < (len : Int) := by omega
      obtain ⟨b0, o0, rfl, hc⟩ := (R1.out.below hbW).addr (by omega)
      have x0 := hc i hlt
      obtain ⟨x, hx⟩ : ∃ x, bs.getD i 0 = x := ⟨_, rfl⟩
      have xb := HBY.out.at i
      rw [← List.getD_eq_getElem?_getD, hx] at xb
      have xb0 := xb.1
      have xb1 := xb.2
      rw [hx] at x0
      obtain ⟨bd, hbd⟩ : ∃ y, x % 3 = y := ⟨_, rfl⟩
      obtain ⟨x3, hx3⟩ : ∃ y, x / 3 = y := ⟨_, rfl⟩
      obtain ⟨ty, hty⟩ : ∃ y, x3 % 3 = y := ⟨_, rfl⟩
      have bd0 : 0 ≤ bd := by omega
      have bd1 : bd ≤ 2 := by omega
      have x30 : 0 ≤ x3 := by omega
      have x31 : x3 ≤ 85 := by omega
      have ty0 : 0 ≤ ty := by omega
      have ty1 : ty ≤ 2 := by omega
      obtain ⟨t, ht⟩ : ∃ t : Sy, t = ⟨1, bd, ty, 0, 1, i, 0⟩ := ⟨_, rfl⟩
      have htk : L[i + 1]? = some t := by
        rw [HLa.out i hlt, ht]
        simp only [orY, hx, hbd, hx3, hty]
      have HTK := hide htk
      have HZ0 : Hid (b i = (bd != 0)) := by rw [HBI.out i, hx, hbd]; exact rfl
      have nb0 : b0 ≠ wr.heap.size := by have := World.block_lt_of_cell? wr _ x0; simp at this; omega
      have t1 : x.tmod 3 = bd := by rw [Int.tmod_eq_emod_of_nonneg xb0]; exact hbd
      have t2 : x.tdiv 3 = x3 := by rw [Int.tdiv_eq_ediv_of_nonneg xb0]; exact hx3
      have t3 : x3.tmod 3 = ty := by rw [Int.tmod_eq_emod_of_nonneg x30]; exact hty
      have g1 : IntKind.i64.wrap bd = bd := by rw [IntKind.wrap_i64]; omega
      have g2 : IntKind.i64.wrap ty = ty := by rw [IntKind.wrap_i64]; omega
      have g3 : IntKind.u64.wrap (i : Int) = (i : Int) := u64_wrap_id _ (by omega) (by omega)
      have g4 : IntKind.u8.wrap bd = bd := by rw [IntKind.wrap_u8]; omega
      have g5 : IntKind.u8.wrap x3 = x3 := by rw [IntKind.wrap_u8]; omega
      have g6 : IntKind.u8.wrap ty = ty := by rw [IntKind.wrap_u8]; omega
      have HBW := hide hbW
      have ag : u5.ownBlock ≠ some wr.heap.size := fun e => by have := (S.out.row.lt _ e).2; omega
      clear hc hx xb htk hbW
      go_upto_region 10 with fail
      go_cut [9] (fun u wx => u = .pointer (some ⟨wr.heap.size, 0, none⟩) ∧ Hid (SyB wx wr.heap.size ⟨1, bd, ty, 0, 1, i, 0⟩) ∧ Hid (Below wr.heap.size wr wx))
      case first =>
        go_region_held3 (fun w' => w'.cell? ⟨b0, o0 + i, none⟩ = some (.int .u8 x))
          (go_keep)
          (fail)
        all_goals
          go_wp2
          go_meet
          case rel =>
            refine ⟨rfl, ?_, ?_⟩
            · exact SyB.new wr ⟨1, bd, ty, 0, 1, i, 0⟩
            · exact ((Below.refl wr.heap.size wr).alloc (Nat.le_refl _) _).drew
      case rest =>
        obtain ⟨rfl, H8, B8⟩ := hcut
        obtain ⟨V, hV⟩ : ∃ V, wc = V := ⟨_, rfl⟩
        rw [hV] at H8 B8 ⊢
        have S8 := hide (S.out.below B8.out)
        obtain ⟨X, hX⟩ : ∃ X, wr.heap.size = X := ⟨_, rfl⟩
        rw [hX] at H8 ag ⊢
        have hXV := H8.out.lt
        have zV := S8.out.bel.size
        clear hV hX S B8 HBW x0 t1 t2 t3 g1 g2 g3 g4 g5 g6 hx3 hty nb0
        obtain ⟨d0, d1, d2, d3, d4, d5, d6⟩ := H8.out.at
        simp only [Nat.zero_add] at d0 d1 d2 d3 d4 d5 d6
        go_upto_region 12 with (at_builtin; refine wpList_append_lies _ rfl _ _ 22 rfl W1.heap.size 40 iY (.agg #[.int .u32 0, .int .i64 0, .int .i64 0, .int .i64 0, .int .i64 0, .int .u64 0, .int .u64 0]) 7 56 Try.underlying22 hiY hzY0 hzY1 hzY2 rfl (by decide) u5 (i + 1) (syC.all (L.take (i + 1))) rfl (S8.out.row.alloc _) ⟨V.heap.size, 0, none⟩ 1 1 [.int .u32 1, .int .i64 bd, .int .i64 ty, .int .i64 0, .int .i64 1, .int .u64 (i : Int), .int .u64 0] rfl rfl (World.news_of_block (cs := #[.int .u32 1, .int .i64 bd, .int .i64 ty, .int .i64 0, .int .i64 1, .int .u64 (i : Int), .int .u64 0]) (t := 40) (fr := (0, 0)) (heap_alloc_new V _)) (syC.one ⟨1, bd, ty, 0, 1, i, 0⟩) (by omega) (by unfold maxLen; omega) (by omega) (by simp; omega) _ rfl ?_)
        intro g9 c9 W9 hown hgrow hat hlt9
        rw [ht] at HTK
        have N9 := hide (S8.out.push HTK.out hown hgrow)
        have X9 : SyB W9 X ⟨1, bd, ty, 0, 1, i, 0⟩ := (hgrow.block X (by simp; omega) (Ne.symm ag)).trans (H8.out.below hXV ((Below.refl _ _).alloc (Nat.le_refl _) _))
        clear hown hgrow hat hlt9 S8 H8 d0 d1 d2 d3 d4 d5 d6
        obtain ⟨d0, d1, d2, d3, d4, d5, d6⟩ := X9.at
        simp only [Nat.zero_add] at d0 d1 d2 d3 d4 d5 d6
        clear X9 ag hXV zV hbd ht t
        go_upto_region 12 with fail
        by_cases hz0 : bd = 0
        · rcases Nat.lt_or_ge len F with hfn | hfn
          · cases sb
            · have hz : (bd != 0) = false := by simp; omega
              have hf : (len : Int) < (F : Int) := by omega
              have HZ : Hid (b i = false) := hide (HZ0.out.trans hz)
              have NF : Hid (ordG b len (i + 1) = F) := by
                show ordG b len (i + 1) = _
                unfold ordG
                rw [HF.out, HZ.out]
                rw [if_neg (fun h => by cases h.1)]
              have NS : Hid (ordS b len (i + 1) = false) := by
                show ordS b len (i + 1) = _
                unfold ordS
                rw [HS.out, HZ.out, NF.out]
                rfl
              clear HF HS HZ HZ0 HBI
              go_wp2
              go_roundg (len - (i + 1))
              case measure => omega
              case rel => exact ⟨i + 1, F, false, by omega, rfl, by first | rfl | go_num, rfl, by go_num, N9, NF, NS⟩
            · have hz : (bd != 0) = false := by simp; omega
              have hf : (len : Int) < (F : Int) := by omega
              have HZ : Hid (b i = false) := hide (HZ0.out.trans hz)
              have NF : Hid (ordG b len (i + 1) = F) := by
                show ordG b len (i + 1) = _
                unfold ordG
                rw [HF.out, HZ.out]
                rw [if_neg (fun h => by cases h.1)]
              have NS : Hid (ordS b len (i + 1) = true) := by
                show ordS b len (i + 1) = _
                unfold ordS
                rw [HS.out, HZ.out, NF.out]
                rw [decide_eq_true hfn]
                rfl
              clear HF HS HZ HZ0 HBI
              go_wp2
              go_roundg (len - (i + 1))
              case measure => omega
              case rel => exact ⟨i + 1, F, true, by omega, rfl, by first | rfl | go_num, rfl, by go_num, N9, NF, NS⟩
          · cases sb
            · have hz : (bd != 0) = false := by simp; omega
              have hf : ¬ ((len : Int) < (F : Int)) := by omega
              have HZ : Hid (b i = false) := hide (HZ0.out.trans hz)
              have NF : Hid (ordG b len (i + 1) = F) := by
                show ordG b len (i + 1) = _
                unfold ordG
                rw [HF.out, HZ.out]
                rw [if_neg (fun h => by cases h.1)]
              have NS : Hid (ordS b len (i + 1) = false) := by
                show ordS b len (i + 1) = _
                unfold ordS
                rw [HS.out, HZ.out, NF.out]
                rfl
              clear HF HS HZ HZ0 HBI
              go_wp2
              go_roundg (len - (i + 1))
              case measure => omega
              case rel => exact ⟨i + 1, F, false, by omega, rfl, by first | rfl | go_num, rfl, by go_num, N9, NF, NS⟩
            · have hz : (bd != 0) = false := by simp; omega
              have hf : ¬ ((len : Int) < (F : Int)) := by omega
              have HZ : Hid (b i = false) := hide (HZ0.out.trans hz)
              have NF : Hid (ordG b len (i + 1) = F) := by
                show ordG b len (i + 1) = _
                unfold ordG
                rw [HF.out, HZ.out]
                rw [if_neg (fun h => by cases h.1)]
              have NS : Hid (ordS b len (i + 1) = false) := by
                show ordS b len (i + 1) = _
                unfold ordS
                rw [HS.out, HZ.out, NF.out]
                rw [decide_eq_false (by omega)]
                rfl
              clear HF HS HZ HZ0 HBI
              go_wp2
              go_roundg (len - (i + 1))
              case measure => omega
              case rel => exact ⟨i + 1, F, false, by omega, rfl, by first | rfl | go_num, rfl, by go_num, N9, NF, NS⟩
        · rcases Nat.lt_or_ge len F with hfn | hfn
          · cases sb
            · have hz : (bd != 0) = true := by simp; omega
              have hf : (len : Int) < (F : Int) := by omega
              have HZ : Hid (b i = true) := hide (HZ0.out.trans hz)
              have NF : Hid (ordG b len (i + 1) = i + 1) := by
                show ordG b len (i + 1) = _
                unfold ordG
                rw [HF.out, HZ.out]
                rw [if_pos ⟨rfl, hfn⟩]
              have NS : Hid (ordS b len (i + 1) = false) := by
                show ordS b len (i + 1) = _
                unfold ordS
                rw [HS.out, HZ.out, NF.out]
                rfl
              clear HF HS HZ HZ0 HBI
              go_wp2
              go_roundg (len - (i + 1))
              case measure => omega
              case rel => exact ⟨i + 1, i + 1, false, by omega, rfl, by first | rfl | go_num, rfl, by go_num, N9, NF, NS⟩
            · have hz : (bd != 0) = true := by simp; omega
              have hf : (len : Int) < (F : Int) := by omega
              have HZ : Hid (b i = true) := hide (HZ0.out.trans hz)
              have NF : Hid (ordG b len (i + 1) = i + 1) := by
                show ordG b len (i + 1) = _
                unfold ordG
                rw [HF.out, HZ.out]
                rw [if_pos ⟨rfl, hfn⟩]
              have NS : Hid (ordS b len (i + 1) = true) := by
                show ordS b len (i + 1) = _
                unfold ordS
                rw [HS.out, HZ.out, NF.out]
                rfl
              clear HF HS HZ HZ0 HBI
              go_wp2
              go_roundg (len - (i + 1))
              case measure => omega
              case rel => exact ⟨i + 1, i + 1, true, by omega, rfl, by first | rfl | go_num, rfl, by go_num, N9, NF, NS⟩
          · cases sb
            · have hz : (bd != 0) = true := by simp; omega
              have hf : ¬ ((len : Int) < (F : Int)) := by omega
              have HZ : Hid (b i = true) := hide (HZ0.out.trans hz)
              have NF : Hid (ordG b len (i + 1) = F) := by
                show ordG b len (i + 1) = _
                unfold ordG
                rw [HF.out, HZ.out]
                rw [if_neg (fun h => by have := h.2; omega)]
              have NS : Hid (ordS b len (i + 1) = false) := by
                show ordS b len (i + 1) = _
                unfold ordS
                rw [HS.out, HZ.out, NF.out]
                rfl
              clear HF HS HZ HZ0 HBI
              go_wp2
              go_roundg (len - (i + 1))
              case measure => omega
              case rel => exact ⟨i + 1, F, false, by omega, rfl, by first | rfl | go_num, rfl, by go_num, N9, NF, NS⟩
            · have hz : (bd != 0) = true := by simp; omega
              have hf : ¬ ((len : Int) < (F : Int)) := by omega
              have HZ : Hid (b i = true) := hide (HZ0.out.trans hz)
              have NF : Hid (ordG b len (i + 1) = F) := by
                show ordG b len (i + 1) = _
                unfold ordG
                rw [HF.out, HZ.out]
                rw [if_neg (fun h => by have := h.2; omega)]
              have NS : Hid (ordS b len (i + 1) = true) := by
                show ordS b len (i + 1) = _
                unfold ordS
                rw [HS.out, HZ.out, NF.out]
                rfl
              clear HF HS HZ HZ0 HBI
              go_wp2
              go_roundg (len - (i + 1))
              case measure => omega
              case rel => exact ⟨i + 1, F, true, by omega, rfl, by first | rfl | go_num, rfl, by go_num, N9, NF, NS⟩
    · obtain rfl : i = len := by omega
      have hrow := S.out.row
      rw [List.take_of_length_le (by omega)] at hrow
      obtain ⟨a9, c9, h9, r9⟩ := Rr.own hrow (fun s hs => (HLok.out s hs).1)
      subst h9
      have R9 := hide r9
      have BF := hide (B1.out.trans (hbW.mono z1))
      have zF := BF.out.size
      obtain ⟨m, hm⟩ : ∃ m, 24 * (i + 1) = m := ⟨_, rfl⟩
      have SB := hide (rsymb_any a9 (i + 1) c9 L wr r9 (by omega))
      rw [hm] at SB
      clear hrow r9 S hbW
      have kc := fun (w : World) (C : Array Value) (n c : Nat) => Lib.run_convert_bytes_const (P := Try.prog) w 23 5 C n c Try.underlying23 Try.underlying5
      go_wp2_with fail
      refine SB.out.mono ?_
      rintro e W5 ⟨v5, rfl, o5, b5⟩
      obtain ⟨a5, c5, hv5, r5⟩ := Rd.own o5 (sysL_bytes _)
      subst hv5
      have R10 := hide (R9.out.below b5)
      have B5 := hide (BF.out.trans (b5.mono zF))
      have z5 := B5.out.size
      have b6 : Below W5.heap.size W5 (W5.alloc (.cells #[.int .u8 0, .int .u8 115, .int .u8 0] 5 (3, 4))) := (Below.refl _ _).alloc (Nat.le_refl _) _
      have q6 : Rd (W5.alloc (.cells #[.int .u8 0, .int .u8 115, .int .u8 0] 5 (3, 4))) (some ⟨W5.heap.size, 0, none⟩) 3 3 orN := Rd.row W5 5 (3, 4) orN orN_bytes (by decide)
      have PA := hide (symparse_any a5 m c5 (sysL L) _ 3 3 orN loc _ (r5.below b6) q6 (by omega))
      have R11 := hide (R10.out.below b6)
      have B6 := hide (B5.out.trans (b6.mono z5))
      have z6 := B6.out.size
      clear o5 b5 r5 b6 q6 SB R9 R10 B5 z5 BF zF
      go_wp2_with fail
      refine PA.out.mono ?_
      rintro e W7 ⟨hp, b7⟩
      have R12 := hide (R11.out.below b7)
      have B7 := hide (B6.out.trans (b7.mono z6))
      have z7 := B7.out.size
      have hn : (sysL L).length / 24 = i + 1 := by rw [sysL_len, hLl]; omega
      have hbk : symsL (sysL L) (i + 1) = L := by rw [← hLl]; exact syms_back L HLok.out
      clear b7 PA R11 B6 z6 kc hm
      by_cases hk2 : symOk (sysL L) orN loc
      · obtain ⟨hs1, hs2⟩ := HOK.out.1 hk2
        rcases hp with ⟨_, a, c, a2, c2, he, h1, h2⟩ | ⟨hno, _⟩
        · rw [hn] at he h1
          rw [hbk] at h1
          subst he
          have SM := hide (symsame_eq a (i + 1) c L a9 c9 W7 h1 R12.out)
          have e1 : sb = true := HS.out.symm.trans hs1
          have e2 : (loc : Int) = (F : Int) := by have := HF.out; omega
          subst e1
          have e3 : ((loc : Int) == (F : Int)) = true := by simp; omega
          clear h1 h2 hs1 hs2 hk2 HOK HF HS R12 hn hbk e2
          go_wp2_with fail
          refine SM.out.mono ?_
          rintro e W8 ⟨rfl, b8⟩
          have B8 := hide (B7.out.trans (b8.mono z7))
          clear b8 SM
          go_wp2
          go_ret
          exact ⟨ret_bool (by simp), B8.out⟩
        · exact absurd hk2 hno
      · rcases hp with ⟨hyes, _⟩ | ⟨_, he⟩
        · exact absurd hyes hk2
        · subst he
          have hno : ¬ (sb = true ∧ loc = F) := fun h => hk2 (HOK.out.2 ⟨by rw [HS.out]; exact h.1, by rw [HF.out]; exact h.2⟩)
          clear hk2 HOK HF HS R12 hn hbk
          cases sb
          · clear hno
            go_wp2
            go_ret
            exact ⟨ret_bool (by simp), B7.out⟩
          · have e3 : ((loc : Int) == (F : Int)) = false := by simp; exact fun h => hno ⟨rfl, by omega⟩
            clear hno
            go_wp2
            go_ret
            exact ⟨ret_bool (by simp), B7.out⟩

end Go.Proofs.Ytonhahijblnfhaa
