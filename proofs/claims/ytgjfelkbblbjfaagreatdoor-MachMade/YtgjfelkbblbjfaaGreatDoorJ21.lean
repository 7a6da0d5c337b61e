/- Texts of this claim, joined: MachPut, MachMadeP, MachMem, MachKnown. -/
import Derived.Test.YtgjfelkbblbjfaaGreatDoorJ17
import Derived.Test.YtgjfelkbblbjfaaGreatDoorJ20
import Derived.Deep.LoopGhost
/- The contract of the document's Put at four bytes, behind a row of the caller's own. -/
namespace Go.Proofs.YtgjfelkbblbjfaaGreatDoor
open Go.RowKit Go.Maps
set_option linter.unusedVariables false
set_option maxRecDepth 100000
set_option linter.unusedSimpArgs false

/-- A word's bytes. -/
def w4 (x : Int) : List Int := [x % 256, x / 256 % 256, x / 65536 % 256, x / 16777216 % 256]
def w4k (x : Int) (k : Nat) : Int := x / 2 ^ (8 * k) % 256
theorem w4_take (x : Int) (k : Nat) (hk : k < 4) : (w4 x).take (k + 1) = (w4 x).take k ++ [w4k x k] := by
  match k, hk with
  | 0, _ => simp [w4, w4k]
  | 1, _ => simp [w4, w4k]
  | 2, _ => simp [w4, w4k]
  | 3, _ => simp [w4, w4k]
theorem w4_bytes (x : Int) : Bytes (w4 x) := fun y hy => by
  simp [w4] at hy
  omega

set_option maxHeartbeats 12800000 in
theorem wput4 (B : Nat) (v : Value) (len : Nat) (bs : List Int) (x : Int) (w : World) (hO : w.ownsRow B 5 1 v len (bs.map (Value.int .u8))) (hB : B ≤ w.heap.size)
    (hx : 0 ≤ x) (hx' : x ≤ 4294967295) (hl : len ≤ 1000000) :
    Calls Tryz.prog 10 #[v, .int .u64 x, .int .i64 4] w fun e w' =>
      ∃ v', e = .returned v' ∧ w'.ownsRow B 5 1 v' (len + 4) ((bs ++ w4 x).map (Value.int .u8)) ∧ Below B w w' := by
  obtain ⟨i0, hi, hz0, hz1, hz2⟩ := info_parts Tryz.info8
  have HO := hide hO
  have HTk := hide (fun k hk => w4_take x k hk)
  have HE : Hid ((w4 x).take 4 = w4 x) := hide rfl
  clear hO
  go_enter Tryz.func10, Tryz.ntmps10
  go_wp2
  go_loopg [0, 7] 4 (fun g u i wr => ∃ (k : Nat) (u0 : Value), k ≤ 4 ∧ g = 4 - k ∧ u0 = u ∧ i = .int .i64 k ∧ Hid (wr.ownsRow B 5 1 u0 (len + k) ((bs ++ (w4 x).take k).map (Value.int .u8))) ∧ Hid (Below B w wr))
  case atStart => exact ⟨0, _, by omega, rfl, rfl, rfl, by rw [List.take_zero, List.append_nil]; exact HO.out, Below.refl _ _⟩
  case round =>
    obtain ⟨k, u0, hk, rfl, rfl, rfl, HO2, HB⟩ := hrel
    clear HO
    by_cases hlt : k < 4
    · have hlt' : (k : Int) < 4 := by omega
      have hsz : B ≤ wr.heap.size := Nat.le_trans hB HB.out.size
      have HLT := hide HO2.out.lt
      go_wp2_with (at_builtin; refine wpList_append_own _ rfl _ _ 24 rfl B 5 i0 (.int .u8 0) 1 1 Tryz.underlying24 hi hz0 hz1 hz2 rfl (by decide) _ _ _ rfl (HO2.out.alloc _) ⟨wr.heap.size, 0, none⟩ 1 1 [.int .u8 (w4k x k)] rfl rfl ?d1 ?d2 ?d3 ?d4 ?d5 ?_)
      case d1 =>
        intro j u hj
        match j, hj with
        | 0, hj => simp at hj; subst hj; simp [Addr.add, w4k]
      case d2 => intro u hu; simp at hu; subst hu; rfl
      case d3 => unfold maxLen; omega
      case d4 => omega
      case d5 => simp; omega
      · intro v' w1 hown' hgrow _
        have R : Hid (w1.ownsRow B 5 1 v' (len + (k + 1)) ((bs ++ (w4 x).take (k + 1)).map (Value.int .u8))) := by
          rw [HTk.out k hlt]; simpa [Nat.add_assoc] using hide hown'
        have B1 : Hid (Below B w w1) := hide ((HB.out.alloc hsz _).grown hgrow (by simp; omega) (fun j hj => (HLT.out j hj).1))
        clear hown' hgrow HO2 HB HLT
        go_wp2
        go_roundg (4 - (k + 1))
        case measure => omega
        case rel => exact ⟨k + 1, v', by omega, rfl, rfl, by go_num, R.out, B1.out⟩
    · obtain rfl : k = 4 := by omega
      go_wp2
      go_ret
      exact ⟨_, rfl, by have := HO2.out; rwa [HE.out] at this, HB.out⟩

/-! ### Memories among other things -/

def RMt (m : Nat) (S : Mm) (w : World) (F : Nat → Prop) : Prop := RM w m S F
theorem rmt_stays (B m : Nat) (S : Mm) : Stays B (RMt m S) := ⟨fun h hk hd _ => RM.kept h hk hd, fun h => RM.flt h⟩

section
variable {w0 w w' : World} {l : List (World → (Nat → Prop) → Prop)} {m : Nat} {S : Mm} {a : Option Addr} {len cap : Nat} {bs : List Int}

theorem h_new (h : Has w0 w l) : Calls Tryz.prog 8 #[] w fun e w' => ∃ m, e = .returned (.pointer (some ⟨m, 0, none⟩)) ∧ Has w0 w' (PMt m Mm.new :: l) :=
  (new_any w).mono fun e w' ⟨m, F, h1, h2, h3, h4⟩ => ⟨m, h1, h.more h4 (P := PMt m Mm.new) h2 h3 (pmt_stays _ _ _)⟩
theorem h_rnew (h : Has w0 w l) : Calls Tryz.prog 9 #[] w fun e w' => ∃ m, e = .returned (.pointer (some ⟨m, 0, none⟩)) ∧ Has w0 w' (RMt m Mm.new :: l) :=
  (rnew_any w).mono fun e w' ⟨m, F, h1, h2, h3, h4⟩ => ⟨m, h1, h.more h4 (P := RMt m Mm.new) h2 h3 (rmt_stays _ _ _)⟩

theorem h_map (h : Has w0 w (PMt m S :: RdT a len cap bs :: l)) (a0 size : Nat) (p : Int) (ha : a0 ≤ 18446744073709551615) (hs : size ≤ 18446744073709551615) (hp : 1 ≤ p ∧ p ≤ 7) :
    Calls Tryz.prog 11 #[.pointer (some ⟨m, 0, none⟩), .int .u64 (a0 : Int), .int .u64 (size : Int), .int .i64 p, .slice a len cap] w fun e w' => (∃ v, e = .returned v) ∧ Has w0 w' (PMt m (mappedTo S a0 size p bs) :: RdT a len cap bs :: l) := by
  obtain ⟨F, G, g1, g2, g3, g4, g5⟩ := h.open2
  refine (map_any m S F a0 size p a len cap bs w g1 ha hs (by omega) (by omega) g2.1 (fun hl x hx hf => g3 _ hf (g2.2.1 hl x hx))).mono ?_
  rintro e w' ⟨k1, F', k2, k3⟩
  exact ⟨⟨_, k1⟩, g5 w' (PMt m _) F' k2 k3 (pmt_stays _ _ _)⟩
theorem h_rmap (h : Has w0 w (RMt m S :: RdT a len cap bs :: l)) (a0 size : Nat) (p : Int) (ha : a0 ≤ 18446744073709551615) (hs : size ≤ 18446744073709551615) (hp : 1 ≤ p ∧ p ≤ 7) :
    Calls Tryz.prog 12 #[.pointer (some ⟨m, 0, none⟩), .int .u64 (a0 : Int), .int .u64 (size : Int), .int .i64 p, .slice a len cap] w fun e w' => (∃ v, e = .returned v) ∧ Has w0 w' (RMt m (mappedTo S a0 size p bs) :: RdT a len cap bs :: l) := by
  obtain ⟨F, G, g1, g2, g3, g4, g5⟩ := h.open2
  refine (rmap_any m S F a0 size p a len cap bs w g1 ha hs (by omega) (by omega) g2.1 (fun hl x hx hf => g3 _ hf (g2.2.1 hl x hx))).mono ?_
  rintro e w' ⟨k1, F', k2, k3⟩
  exact ⟨⟨_, k1⟩, g5 w' (RMt m _) F' k2 k3 (rmt_stays _ _ _)⟩
theorem h_map0 (h : Has w0 w (PMt m S :: l)) (r : Rd w0 a len cap bs) (a0 size : Nat) (p : Int) (ha : a0 ≤ 18446744073709551615) (hs : size ≤ 18446744073709551615) (hp : 1 ≤ p ∧ p ≤ 7) :
    Calls Tryz.prog 11 #[.pointer (some ⟨m, 0, none⟩), .int .u64 (a0 : Int), .int .u64 (size : Int), .int .i64 p, .slice a len cap] w fun e w' => (∃ v, e = .returned v) ∧ Has w0 w' (PMt m (mappedTo S a0 size p bs) :: l) := by
  obtain ⟨F, g1, g2, g3⟩ := h.step
  refine (map_any m S F a0 size p a len cap bs w g1 ha hs (by omega) (by omega) (r.below h.bel) (fun hl x hx hf => by have h1 := g2 _ hf; have h2 := r.blk hl x hx; omega)).mono ?_
  rintro e w' ⟨k1, F', k2, k3⟩
  exact ⟨⟨_, k1⟩, g3 w' (PMt m _) F' k2 k3 (pmt_stays _ _ _)⟩
theorem h_rmap0 (h : Has w0 w (RMt m S :: l)) (r : Rd w0 a len cap bs) (a0 size : Nat) (p : Int) (ha : a0 ≤ 18446744073709551615) (hs : size ≤ 18446744073709551615) (hp : 1 ≤ p ∧ p ≤ 7) :
    Calls Tryz.prog 12 #[.pointer (some ⟨m, 0, none⟩), .int .u64 (a0 : Int), .int .u64 (size : Int), .int .i64 p, .slice a len cap] w fun e w' => (∃ v, e = .returned v) ∧ Has w0 w' (RMt m (mappedTo S a0 size p bs) :: l) := by
  obtain ⟨F, g1, g2, g3⟩ := h.step
  refine (rmap_any m S F a0 size p a len cap bs w g1 ha hs (by omega) (by omega) (r.below h.bel) (fun hl x hx hf => by have h1 := g2 _ hf; have h2 := r.blk hl x hx; omega)).mono ?_
  rintro e w' ⟨k1, F', k2, k3⟩
  exact ⟨⟨_, k1⟩, g3 w' (RMt m _) F' k2 k3 (rmt_stays _ _ _)⟩

/-! ### The document's machine -/

def rcells (mm me : Nat) (x : Nat → Int) (pc : Nat) (k c t : Int) : List Value :=
  .pointer (some ⟨mm, 0, none⟩) :: .pointer (some ⟨me, 0, none⟩) :: ((List.range 32).map (fun i => Value.int .u64 (x i)) ++ [.int .u64 (pc : Int), .int .i64 k, .int .i64 c, .int .i64 t])

/-- Block m is the document's machine over the memory mm and the environment me. -/
def RD (m mm me : Nat) (x : Nat → Int) (pc : Nat) (k c t : Int) (w : World) (F : Nat → Prop) : Prop :=
  w.heap[m]? = some (.cells (rcells mm me x pc k c t).toArray 58 (0, 0)) ∧ Fits x pc k c t ∧ F m ∧ ∀ k, F k → k < w.heap.size
theorem rd_mach_stays (B m mm me : Nat) (x : Nat → Int) (pc : Nat) (k c t : Int) : Stays B (RD m mm me x pc k c t) :=
  ⟨fun ⟨h1, h2, h3, h4⟩ hk hd hG => ⟨(hk.block m (h4 m h3) (hd m h3)).trans h1, h2, h3, fun k hF => Nat.lt_of_lt_of_le (h4 k hF) hk.size⟩, fun ⟨h1, h2, h3, h4⟩ => h4⟩

def RH (w0 w : World) (m mm me : Nat) (M : Mc) (l : List (World → (Nat → Prop) → Prop)) : Prop :=
  Has w0 w (RD m mm me M.x M.pc M.kind M.code M.trap :: RMt mm M.mem :: EV w0.heap.size 48 me M.ins M.tr :: l)

theorem newmach_any (mm me entry : Nat) (w : World) (he : entry ≤ 18446744073709551615) (h : Has w0 w l) :
    Calls Tryz.prog 15 #[.pointer (some ⟨mm, 0, none⟩), .pointer (some ⟨me, 0, none⟩), .int .u64 (entry : Int)] w fun e w' => ∃ m, e = .returned (.pointer (some ⟨m, 0, none⟩)) ∧ Has w0 w' (RD m mm me (fun _ => 0) entry 0 0 0 :: l) := by
  have in0 : (-9223372036854775808 : Int) ≤ 0 ∧ (0 : Int) ≤ 9223372036854775807 := by decide
  have H := hide h
  clear h
  go_enter Tryz.func15, Tryz.ntmps15
  go_wp2
  go_ret
  refine ⟨w.heap.size, rfl, H.out.more (F := fun k => k = w.heap.size) (below_alloc _ _) ⟨heap_alloc_new w _, ⟨fun i => by simp, rfl, fun i hi => rfl, he, in0, in0, in0⟩, rfl, fun k hk => by subst hk; simp⟩ (fun k hk => by subst hk; exact Nat.le_refl _) (rd_mach_stays _ _ _ _ _ _ _ _ _)⟩

end

end Go.Proofs.YtgjfelkbblbjfaaGreatDoor

/- The statements' help 'made': a machine with words at a place where they may be run, data above, and the document's beside it. -/
namespace Go.Proofs.YtgjfelkbblbjfaaGreatDoor
open Go.RowKit Go.Maps
set_option linter.unusedVariables false
set_option maxRecDepth 100000

def wsBytes (ws : List Int) : List Int := ws.flatMap w4
theorem wsBytes_take (ws : List Int) (j : Nat) (h : j < ws.length) : wsBytes (ws.take (j + 1)) = wsBytes (ws.take j) ++ w4 (ws.getD j 0) := by
  unfold wsBytes
  rw [List.take_add_one, List.flatMap_append]
  simp [h]
theorem wsBytes_length : ∀ ws : List Int, (wsBytes ws).length = ws.length * 4
  | [] => rfl
  | x :: ws => by
    have := wsBytes_length ws
    unfold wsBytes at *
    rw [List.flatMap_cons, List.length_append, this, List.length_cons]
    simp [w4]
    omega
theorem wsBytes_bytes (ws : List Int) : Bytes (wsBytes ws) := fun y hy => by
  unfold wsBytes at hy
  obtain ⟨x, _, h⟩ := List.mem_flatMap.1 hy
  exact w4_bytes x y h

/-- The memory that is made. -/
noncomputable def madeS (ws ds : List Int) : Mm := mappedTo (mappedTo Mm.new 65536 4096 5 (wsBytes ws)) 131072 4096 6 ds
noncomputable def madeM (ws ds is : List Int) : Mc := ⟨madeS ws ds, is, [], fun _ => 0, 65536, 0, 0, 0⟩

theorem ownsRow_zero {w : World} {base : Nat} {e : TypeId} {size : Nat} {v : Value} {n : Nat} {xs : List Value} (h : w.ownsRow base e size v n xs) : w.ownsRow 0 e size v n xs := by
  refine ⟨h.1, ?_⟩
  rcases h.2 with h1 | ⟨g, cap, cur, rfl, h2, h3⟩
  · exact Or.inl h1
  · exact Or.inr ⟨g, cap, cur, rfl, Nat.zero_le _, h3⟩

section
variable {w0 w w' : World} {l : List (World → (Nat → Prop) → Prop)}

theorem Has.rowrd {v : Value} {bs : List Int} (h : Has w0 w (RowT v bs :: l)) : ∃ a cap, v = .slice a bs.length cap ∧ Has w0 w (RdT a bs.length cap bs :: l) := by
  obtain ⟨F, ⟨h1, h2, h3, h4⟩, h5, h6⟩ := h.step
  obtain ⟨a, cap, hv, hr⟩ := Rd.own h1 h2
  refine ⟨a, cap, hv, h6 w _ F ⟨hr, fun hl x hx => h3 _ ?_, h4⟩ (Went.refl _ _) (rd_stays _ _ _ _ _)⟩
  subst hx
  rw [hv]
  rfl

theorem perm6 {A B C D E G : World → (Nat → Prop) → Prop} : (A :: B :: C :: D :: E :: G :: l).Perm (C :: D :: E :: A :: G :: B :: l) :=
  (List.Perm.cons A (List.perm_middle (a := B) (l₁ := [C, D, E, G]) (l₂ := l)).symm).trans (List.perm_middle (a := A) (l₁ := [C, D, E]) (l₂ := G :: B :: l)).symm

set_option maxHeartbeats 3200000 in
theorem made_any (a1 : Option Addr) (n1 c1 : Nat) (ws : List Int) (a2 : Option Addr) (n2 c2 : Nat) (ds : List Int) (a3 : Option Addr) (n3 c3 : Nat) (is : List Int) (w : World) (h : Has w0 w l)
    (r1 : Rn .u32 4294967295 w a1 n1 c1 ws) (h1 : n1 ≤ 60) (r2 : Rd w0 a2 n2 c2 ds) (h2 : n2 ≤ 200) (r3 : Rd w0 a3 n3 c3 is) (h3 : n3 ≤ 100) :
    Calls Tryz.prog 25 #[.slice a1 n1 c1, .slice a2 n2 c2, .slice a3 n3 c3] w fun e w' => ∃ m mm me m2 mm2 me2, e = .returned (.tuple #[.pointer (some ⟨m, 0, none⟩), .pointer (some ⟨m2, 0, none⟩)]) ∧
      MH w0 w' m mm me (madeM ws ds is) (RD m2 mm2 me2 (fun _ => 0) 65536 0 0 0 :: RMt mm2 (madeS ws ds) :: EV w0.heap.size 48 me2 is [] :: l) := by
  have H := hide h
  have R1 := hide r1
  have R2 := hide r2
  have R3 := hide r3
  have hl1 := r1.le
  have hm1 := r1.max
  have hl2 := r2.le
  have hm2 := r2.max
  have hl3 := r3.le
  have hm3 := r3.max
  have HL1 := hide r1.length
  clear h r1 r2 r3
  go_enter Tryz.func25, Tryz.ntmps25
  go_wp2
  go_loopg [8, 9] n1 (fun g u i wr => ∃ (j : Nat) (u0 : Value), j ≤ n1 ∧ g = n1 - j ∧ u0 = u ∧ i = .int .i64 j ∧ Hid (wr.ownsRow w.heap.size 5 1 u0 (j * 4) ((wsBytes (ws.take j)).map (Value.int .u8))) ∧ Hid (Below w.heap.size w wr))
  case atStart => exact ⟨0, _, by omega, rfl, rfl, rfl, World.ownsRow_nil _ _ _ _, Below.refl _ _⟩
  case round =>
    obtain ⟨j, u0, hj, rfl, rfl, rfl, HO, HB⟩ := hrel
    by_cases hlt : j < n1
    · have hlt' : (j : Int) < (n1 : Int) := by omega
      obtain ⟨b, o, ha, hc⟩ := R1.out.addr (by omega)
      subst ha
      obtain ⟨y, hy⟩ : ∃ y, ws.getD j 0 = y := ⟨_, rfl⟩
      have hcj := (HB.out.cell (World.block_lt_of_cell? _ _ (hc j hlt))).trans (hc j hlt)
      rw [hy] at hcj
      have hyb : 0 ≤ y ∧ y ≤ 4294967295 := by rw [← hy]; have := R1.out.at j; simpa using this
      have HY := hide hy
      have hy0 := hyb.1
      have hy1 := hyb.2
      clear hc hy hyb
      go_wp2_with fail
      refine (wput4 w.heap.size u0 (j * 4) (wsBytes (ws.take j)) y wr HO.out HB.out.size hy0 hy1 (by omega)).mono ?_
      rintro e W ⟨v', rfl, hO, hB⟩
      have O2 : Hid (W.ownsRow w.heap.size 5 1 v' ((j + 1) * 4) ((wsBytes (ws.take (j + 1))).map (Value.int .u8))) := by
        rw [wsBytes_take ws j (by rw [HL1.out]; exact hlt), HY.out, show (j + 1) * 4 = j * 4 + 4 by omega]
        exact hO
      have B2 := hide (HB.out.trans hB)
      clear hO hB HO HB hcj
      go_wp2
      go_roundg (n1 - (j + 1))
      case measure => omega
      case rel => exact ⟨j + 1, v', by omega, rfl, rfl, by go_num, O2.out, B2.out⟩
    · obtain rfl : j = n1 := by omega
      have hws : ws.take j = ws := List.take_of_length_le (by rw [HL1.out]; exact Nat.le_refl _)
      have hbl : (wsBytes ws).length = j * 4 := by rw [wsBytes_length, HL1.out]
      have hO := HO.out
      rw [hws] at hO
      have hB := H.out.more HB.out (P := RowT u0 (wsBytes ws)) (F := fun k => u0.ownBlock = some k) ⟨by
          unfold RowB
          rw [hbl]
          exact ownsRow_zero hO, wsBytes_bytes ws, fun g hg => hg, fun k hk => ownsRow_blk hO k hk⟩ (fun k hk => (hO.lt k hk).1) (row_stays _ _ _)
      obtain ⟨ab, cb, rfl, hB1⟩ := hB.rowrd
      have HB1 := hide hB1
      rw [hbl] at HB1
      clear hB hB1 hO HO HB hws R1 H
      rw [hbl]
      clear hbl HL1
      go_wp2_with fail
      refine (h_new HB1.out).mono ?_
      rintro e W1 ⟨mm, rfl, g1⟩
      go_wp2_with fail
      refine (h_rnew g1).mono ?_
      rintro e W2 ⟨mm2, rfl, g2⟩
      have G2 := hide (g2.perm p_rot)
      clear g1 g2 HB1
      go_wp2_with fail
      refine (h_map G2.out 65536 4096 5 (by decide) (by decide) (by decide)).mono ?_
      rintro e W3 ⟨⟨v3, rfl⟩, g3⟩
      have G3 := hide ((g3.perm p_back).perm (List.Perm.cons _ (List.Perm.swap ..)))
      clear g3 G2
      go_wp2_with fail
      refine (h_rmap G3.out 65536 4096 5 (by decide) (by decide) (by decide)).mono ?_
      rintro e W4 ⟨⟨v4, rfl⟩, g4⟩
      have G4 := hide (g4.perm p_back)
      clear g4 G3
      go_wp2_with fail
      refine (h_map0 G4.out R2.out 131072 4096 6 (by decide) (by decide) (by decide)).mono ?_
      rintro e W5 ⟨⟨v5, rfl⟩, g5⟩
      have G5 := hide g5.swap
      clear g5 G4
      go_wp2_with fail
      refine (h_rmap0 G5.out R2.out 131072 4096 6 (by decide) (by decide) (by decide)).mono ?_
      rintro e W6 ⟨⟨v6, rfl⟩, g6⟩
      have G6 := hide (g6.perm p_back).drop
      clear g6 G5
      go_wp2_with fail
      refine (has_new G6.out (R3.out.below G6.out.bel) (by omega)).mono ?_
      rintro e W7 ⟨me, rfl, g7⟩
      have G7 := hide (g7.perm p_back)
      clear g7 G6
      go_wp2_with fail
      refine (new_mach mm me 65536 _ _ _ _ G7.out (by decide)).mono ?_
      rintro e W8 ⟨m, rfl, g8⟩
      have G8 := hide (has_ref g8 R3.out)
      clear g8 G7
      go_wp2_with fail
      refine (newmach_any mm2 W8.heap.size 65536 _ (by decide) G8.out).mono ?_
      rintro e W9 ⟨m2, rfl, g9⟩
      have G9 := hide (g9.perm perm6)
      clear g9 G8
      go_wp2
      go_ret2
      exact ⟨m, mm, me, m2, mm2, W8.heap.size, rfl, G9.out⟩

end

end Go.Proofs.YtgjfelkbblbjfaaGreatDoor

/- Plain facts on the memory that the statements make: what may be done where, the words in it; a step at a known word. -/
namespace Go.Proofs.YtgjfelkbblbjfaaGreatDoor
open Go.RowKit Go.Maps
set_option linter.unusedVariables false
set_option maxRecDepth 100000
set_option maxRecDepth 20000

theorem made1_ok (n : Nat) (hn : n ≤ 4096) : mapB Mm.new 65536 4096 5 n = true := mapB_yes ⟨by decide, by decide, hn, by decide, fun i _ _ => rfl⟩
theorem made1_eq (bs : List Int) (hn : bs.length ≤ 4096) : mappedTo Mm.new 65536 4096 5 bs = (Mm.new.mapped 16 1 5).lay 65536 bs := by unfold mappedTo; exact if_pos (made1_ok _ hn)
theorem made1_perm (bs : List Int) (hn : bs.length ≤ 4096) (i : Nat) : (mappedTo Mm.new 65536 4096 5 bs).perm i = if i = 16 then 5 else 0 := by
  rw [made1_eq bs hn]; simp only [Mm.lay, Mm.mapped, Mm.new]
  by_cases h : i = 16
  · rw [if_pos h, if_pos (by omega)]
  · rw [if_neg h, if_neg (by omega)]
theorem made2_ok (bs : List Int) (hn : bs.length ≤ 4096) (n : Nat) (hn2 : n ≤ 4096) : mapB (mappedTo Mm.new 65536 4096 5 bs) 131072 4096 6 n = true :=
  mapB_yes ⟨by decide, by decide, hn2, by rw [made1_eq bs hn]; show 0 + 1 + (4096 + 4095) / 4096 ≤ 65536; decide, fun i h1 h2 => by rw [made1_perm bs hn, if_neg (by omega)]⟩
theorem madeS_eq (ws ds : List Int) (h1 : ws.length ≤ 60) (h2 : ds.length ≤ 4096) : madeS ws ds = ((mappedTo Mm.new 65536 4096 5 (wsBytes ws)).mapped 32 1 6).lay 131072 ds := by
  unfold madeS
  exact if_pos (made2_ok _ (by rw [wsBytes_length]; omega) _ h2)
theorem madeS_perm (ws ds : List Int) (h1 : ws.length ≤ 60) (h2 : ds.length ≤ 4096) (i : Nat) : (madeS ws ds).perm i = if i = 32 then 6 else if i = 16 then 5 else 0 := by
  rw [madeS_eq ws ds h1 h2]; simp only [Mm.lay, Mm.mapped]
  rw [made1_perm _ (by rw [wsBytes_length]; omega)]
  by_cases h : i = 32
  · rw [if_pos h, if_pos (by omega)]
  · rw [if_neg h, if_neg (by omega)]
theorem madeS_byte (ws ds : List Int) (h1 : ws.length ≤ 60) (h2 : ds.length ≤ 4096) (j : Nat) (hj : j < 4096) : (madeS ws ds).byte (65536 + j) = (wsBytes ws).getD j 0 := by
  rw [madeS_eq ws ds h1 h2, made1_eq _ (by rw [wsBytes_length]; omega)]; simp only [Mm.lay, Mm.mapped, Mm.new]
  rw [if_neg (by omega), if_neg (by omega)]
  by_cases h : j < (wsBytes ws).length
  · rw [if_pos (by omega), show 65536 + j - 65536 = j by omega]
  · rw [if_neg (by omega), if_pos (by omega), List.getD_eq_getElem?_getD, List.getElem?_eq_none (by omega)]
    rfl
theorem wsBytes_at : ∀ (ws : List Int) (i k : Nat), k < 4 → (wsBytes ws).getD (4 * i + k) 0 = (w4 (ws.getD i 0)).getD k 0
  | [], i, k, hk => by
    rw [show wsBytes [] = [] from rfl]
    match k, hk with
    | 0, _ => simp [w4]
    | 1, _ => simp [w4]
    | 2, _ => simp [w4]
    | 3, _ => simp [w4]
  | x :: ws, 0, k, hk => by
    rw [show wsBytes (x :: ws) = w4 x ++ wsBytes ws from rfl, List.getD_eq_getElem?_getD, List.getElem?_append_left (by simp [w4]; omega)]
    simp
  | x :: ws, i + 1, k, hk => by
    have h := wsBytes_at ws i k hk
    rw [show wsBytes (x :: ws) = w4 x ++ wsBytes ws from rfl, List.getD_eq_getElem?_getD, List.getElem?_append_right (by simp [w4]; omega), ← List.getD_eq_getElem?_getD]
    rw [show 4 * (i + 1) + k - (w4 x).length = 4 * i + k by simp [w4]; omega, h]
    simp
theorem num_w4 (x : Int) (h0 : 0 ≤ x) (h1 : x ≤ 4294967295) : num (w4 x) = x := by
  simp only [w4, num]
  omega
theorem made_fetch (ws ds : List Int) (h1 : ws.length ≤ 60) (h2 : ds.length ≤ 4096) (i : Nat) (hi : i < 1024) (hw : 0 ≤ ws.getD i 0 ∧ ws.getD i 0 ≤ 4294967295) :
    mayB (madeS ws ds) (65536 + 4 * i) 4 1 = true ∧ fetchV (madeS ws ds) (65536 + 4 * i) = ws.getD i 0 := by
  have hm : mayB (madeS ws ds) (65536 + 4 * i) 4 1 = true := by
    rw [mayB_one (i := 16) (q := 5) (by decide) (by omega) (by omega) (by rw [madeS_perm ws ds h1 h2]; rfl)]
    decide
  refine ⟨hm, ?_⟩
  unfold fetchV
  rw [if_pos hm]
  have e : (madeS ws ds).read (65536 + 4 * i) 4 = w4 (ws.getD i 0) := by
    have hb : ∀ k, k < 4 → (madeS ws ds).byte (65536 + 4 * i + k) = (w4 (ws.getD i 0)).getD k 0 := fun k hk => by
      rw [Nat.add_assoc, madeS_byte ws ds h1 h2 _ (by omega), wsBytes_at ws i k hk]
    have e1 : (madeS ws ds).read (65536 + 4 * i) 4 = [(madeS ws ds).byte (65536 + 4 * i + 0), (madeS ws ds).byte (65536 + 4 * i + 1), (madeS ws ds).byte (65536 + 4 * i + 2), (madeS ws ds).byte (65536 + 4 * i + 3)] := rfl
    rw [e1, hb 0 (by decide), hb 1 (by decide), hb 2 (by decide), hb 3 (by decide)]
    rfl
  rw [e, num_w4 _ hw.1 hw.2]

theorem opOf_eq {v : Int} {o : Nat} (h1 : 1 ≤ o) (h2 : o < 66) (h : Mt o v) : opOf v = o := by
  rcases opOf_is v with ⟨_, h3⟩ | ⟨h3, h4, h5⟩
  · exact absurd h (h3 o h1 h2)
  · exact Mt_one h3 h4 h1 h2 h5 h

/-- A step at a known word. -/
theorem Mc.step_is {M : Mc} {v : Int} {o : Nat} (hk : M.kind = 0) (hp : M.pc % 4 = 0) (hm : mayB M.mem M.pc 4 1 = true) (hv : fetchV M.mem M.pc = v) (h1 : 1 ≤ o) (h2 : o < 66) (hM : Mt o v) :
    M.step = M.doF o (rdO (fmo o) v) (r1O (fmo o) v) (r2O (fmo o) v) (imO (fmo o) v) := by
  unfold Mc.step
  rw [if_pos hk, if_pos hp, if_pos hm, hv, opOf_eq h1 h2 hM, if_neg (by omega)]
theorem Mc.step_ill {M : Mc} {v : Int} (hk : M.kind = 0) (hp : M.pc % 4 = 0) (hm : mayB M.mem M.pc 4 1 = true) (hv : fetchV M.mem M.pc = v) (hM : ∀ o, 1 ≤ o → o < 66 → ¬ Mt o v) : M.step = M.trapped 2 := by
  unfold Mc.step
  have e : opOf v = 0 := by
    rcases opOf_is v with ⟨h3, _⟩ | ⟨h3, h4, h5⟩
    · exact h3
    · exact absurd h5 (hM _ h3 h4)
  rw [if_pos hk, if_pos hp, if_pos hm, hv, e, if_pos rfl]

/-! ### known's run -/

def knW : List Int := [97519763, 7341331, 115]
noncomputable def knM : Mc := madeM knW [] []

theorem kn_run : (knM.runF 9).kind = 1 ∧ (knM.runF 9).code = 7 ∧ (knM.runF 9).trap = 0 ∧ (knM.runF 9).x 17 = 93 ∧ (knM.runF 9).pc = 65544 := by
  have f0 := made_fetch knW [] (by decide) (by decide) 0 (by decide) (by decide)
  have f1 := made_fetch knW [] (by decide) (by decide) 1 (by decide) (by decide)
  have f2 := made_fetch knW [] (by decide) (by decide) 2 (by decide) (by decide)
  have s1 : knM.runF 1 = knM.put 17 93 := by
    show knM.step = _
    rw [Mc.step_is (v := 97519763) (o := 22) rfl (by decide) f0.1 f0.2 (by decide) (by decide) (by decide +kernel)]
    rw [show rdO (fmo ((22 : Nat) : Int)) 97519763 = 17 by decide +kernel, show r1O (fmo ((22 : Nat) : Int)) 97519763 = 0 by decide +kernel, show r2O (fmo ((22 : Nat) : Int)) 97519763 = 0 by decide +kernel, show imO (fmo ((22 : Nat) : Int)) 97519763 = 93 by decide +kernel]
    unfold Mc.doF
    rw [if_neg (by decide), if_neg (by decide), if_neg (by decide), if_neg (by decide), if_neg (by decide), if_neg (by decide), if_neg (by decide), if_pos (by decide), if_pos (show fmo ((22 : Nat) : Int) = 1 by decide +kernel)]
    rfl
  have s2 : knM.runF 2 = (knM.put 17 93).put 10 7 := by
    show (knM.runF 1).step = _
    rw [s1, Mc.step_is (v := 7341331) (o := 22) rfl (by decide) f1.1 f1.2 (by decide) (by decide) (by decide +kernel)]
    rw [show rdO (fmo ((22 : Nat) : Int)) 7341331 = 10 by decide +kernel, show r1O (fmo ((22 : Nat) : Int)) 7341331 = 0 by decide +kernel, show r2O (fmo ((22 : Nat) : Int)) 7341331 = 0 by decide +kernel, show imO (fmo ((22 : Nat) : Int)) 7341331 = 7 by decide +kernel]
    unfold Mc.doF
    rw [if_neg (by decide), if_neg (by decide), if_neg (by decide), if_neg (by decide), if_neg (by decide), if_neg (by decide), if_neg (by decide), if_pos (by decide), if_pos (show fmo ((22 : Nat) : Int) = 1 by decide +kernel)]
    rfl
  have s3 : knM.runF 3 = { (knM.put 17 93).put 10 7 with kind := 1, code := 7, trap := 0 } := by
    show (knM.runF 2).step = _
    rw [s2, Mc.step_is (v := 115) (o := 64) rfl (by decide) f2.1 f2.2 (by decide) (by decide) (by decide +kernel)]
    unfold Mc.doF
    rw [if_neg (by decide), if_neg (by decide), if_neg (by decide), if_neg (by decide), if_neg (by decide), if_neg (by decide), if_neg (by decide), if_neg (by decide), if_neg (by decide), if_pos rfl]
    unfold Mc.call
    rw [if_pos (show ((knM.put 17 93).put 10 7).x 17 = 93 from rfl)]
    rfl
  have e : knM.runF 9 = knM.runF 3 := Mc.runF_ended (by rw [s3]; decide) 9 (by decide)
  rw [e, s3]
  exact ⟨rfl, rfl, rfl, rfl, rfl⟩

end Go.Proofs.YtgjfelkbblbjfaaGreatDoor

/- The statements' known: a program that exits with 7. -/
namespace Go.Proofs.YtgjfelkbblbjfaaGreatDoor
open Go.RowKit Go.Maps
set_option linter.unusedVariables false
set_option maxRecDepth 100000

theorem alu_known (w : World) : Calls Tryz.prog 27 #[.int .i64 53, .int .u64 9223372036854775808, .int .u64 4] w fun e w' => e = .returned (.int .u64 2) ∧ w' = w := by
  have := alu_any 53 9223372036854775808 4 w (by decide) (by decide) (by decide) (by decide) (by decide) (by decide)
  rw [show aluF 53 9223372036854775808 4 = 2 by decide] at this
  exact this

set_option maxHeartbeats 1600000 in
theorem known_8 (w : World) (hL : Laid w) : Calls Tryz.prog 4 #[] w fun e w' => e = .returned (.bool true) ∧ Below w.heap.size w w' := by
  obtain ⟨k1, k2, k3, k4, k5⟩ := kn_run
  have hb : Below w.heap.size w (w.alloc (.cells #[.int .u32 97519763, .int .u32 7341331, .int .u32 115] 31)) := below_alloc _ _
  have hR : Rn .u32 4294967295 (w.alloc (.cells #[.int .u32 97519763, .int .u32 7341331, .int .u32 115] 31)) (some ⟨w.heap.size, 0, none⟩) 3 3 knW := Rn.lit .u32 4294967295 31 w knW (by decide) (by decide) (by decide)
  have HMd := hide (made_any (w0 := w) (l := []) _ _ _ _ none 0 0 [] none 0 0 [] _ (Has.start hb) hR (by decide) (Rd.nothing w) (by decide) (Rd.nothing w) (by decide))
  have HK := hide (And.intro k1 (And.intro k2 (And.intro k3 (And.intro k4 k5))))
  have HL := hide hL
  clear hb hR k1 k2 k3 k4 k5 hL
  go_enter Tryz.func4, Tryz.ntmps4
  go_wp2_with fail
  refine HMd.out.mono ?_
  rintro e W1 ⟨m, mm, me, m2, mm2, me2, rfl, h1⟩
  have H1 := hide h1
  clear h1 HMd
  go_wp2_with fail
  refine (run_any 9 W1 H1.out HL.out (by decide) (by decide) (by decide)).mono ?_
  rintro e W2 ⟨rfl, h2⟩
  have H2 : Hid (MH w W2 m mm me (knM.runF 9) _) := h2
  have e1 : stV (knM.runF 9).kind (knM.runF 9).code (knM.runF 9).trap = .agg #[.int .i64 1, .int .i64 7, .int .i64 0] := by
    rw [HK.out.1, HK.out.2.1, HK.out.2.2.1]
    rfl
  have e2 : stV ((madeM knW [] []).runF 9).kind ((madeM knW [] []).runF 9).code ((madeM knW [] []).runF 9).trap = .agg #[.int .i64 1, .int .i64 7, .int .i64 0] := e1
  rw [e2]
  have HB2 := hide (H2.out.bel.trans ((below_alloc W2 (.cells #[.int .i64 1, .int .i64 7, .int .i64 0] 56)).mono H2.out.bel.size))
  have H3 := hide (H2.out.below (below_alloc W2 (.cells #[.int .i64 1, .int .i64 7, .int .i64 0] 56)))
  have HR := hide (mh_rg H3.out 17 (by decide) 93 HK.out.2.2.2.1)
  obtain ⟨F, hd⟩ := H3.out.hd
  have HP := hide (pc_any _ hd)
  rw [HK.out.2.2.2.2] at HP
  clear e1 e2 h2 H1 H2 H3 hd
  go_wp2_with fail
  refine HR.out.mono ?_
  rintro e W3 ⟨rfl, hW3⟩
  rw [hW3]
  clear hW3 W3
  go_wp2_with fail
  refine HP.out.mono ?_
  rintro e W3 ⟨rfl, hW3⟩
  rw [hW3]
  clear hW3 W3
  go_wp2_with fail
  refine (alu_known _).mono ?_
  rintro e W3 ⟨rfl, hW3⟩
  rw [hW3]
  clear hW3 W3
  go_wp2
  go_ret
  exact ⟨rfl, HB2.out⟩

end Go.Proofs.YtgjfelkbblbjfaaGreatDoor
