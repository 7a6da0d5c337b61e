/- Texts of this claim, joined: MachCall, MachServe, MachStore. -/
import Derived.Test.YtgjfelkbblbjfaaGreatDoorJ12
import Derived.Test.YtgjfelkbblbjfaaGreatDoorJ10
import Derived.Deep.RegionHeld3
/- Contracts of package mach's calls of the service: writable, write, read, answer, call. -/
namespace Go.Proofs.YtgjfelkbblbjfaaGreatDoor
open Go.RowKit Go.Maps
set_option linter.unusedVariables false
set_option maxRecDepth 100000

section
variable {w0 w w' : World} {m mm me : Nat} {M : Mc} {l : List (World → (Nat → Prop) → Prop)}

theorem mh_perm (h : MH w0 w m mm me M l) (a : Nat) (ha : a ≤ 18446744073709551615) :
    Calls Tryz.prog 130 #[.pointer (some ⟨mm, 0, none⟩), .int .u64 (a : Int)] w fun e w' => e = .returned (.int .i64 (M.mem.perm (a / 4096))) ∧ w' = w := by
  obtain ⟨F, h1⟩ := h.pm
  exact perm_any mm M.mem F a w h1 ha

set_option maxHeartbeats 1600000 in
theorem writable_any (a n : Nat) (w : World) (h : MH w0 w m mm me M l) (ha : a ≤ 18446744073709551615) (hn : n ≤ 18446744073709551615) :
    Calls Tryz.prog 125 #[.pointer (some ⟨m, 0, none⟩), .int .u64 (a : Int), .int .u64 (n : Int)] w fun e w' => e = .returned (.bool (mayB M.mem a n 2)) ∧ w' = w := by
  by_cases h0 : n = 0
  · rw [mayB_yes (Or.inl h0)]
    subst h0
    go_enter Tryz.func125, Tryz.ntmps125
    go_wp2
    go_ret
    exact ⟨rfl, rfl⟩
  by_cases h1 : 18446744073709551616 ≤ a + n - 1
  · rw [mayB_no (h.good.far h0 and_2 (by omega))]
    obtain ⟨z, hz⟩ : ∃ z : Nat, z + 18446744073709551616 = a + n - 1 := ⟨a + n - 1 - 18446744073709551616, by omega⟩
    have e0 : IntKind.u64.wrap (IntKind.u64.wrap ((a : Int) + (n : Int)) - 1) = (z : Int) := by rw [wrap_u64, wrap_u64]; unfold u64; omega
    have e1 : (z : Int) < (a : Int) := by omega
    have e2 : ((n : Int) == 0) = false := by simpa using h0
    clear h
    go_enter Tryz.func125, Tryz.ntmps125
    go_wp2
    go_ret
    exact ⟨rfl, rfl⟩
  · obtain ⟨z, hz⟩ : ∃ z : Nat, z = a + n - 1 := ⟨_, rfl⟩
    have hz1 : z ≤ 18446744073709551615 := by omega
    have e0 : IntKind.u64.wrap (IntKind.u64.wrap ((a : Int) + (n : Int)) - 1) = (z : Int) := by rw [wrap_u64, wrap_u64]; unfold u64; omega
    have e1 : (a : Int) ≤ (z : Int) := by omega
    have e1n : decide (z < a) = false := by simp; omega
    have e2 : ((n : Int) == 0) = false := by simpa using h0
    have hc0 := h.c0
    obtain ⟨lz, hl⟩ : ∃ lz, lz = z / 4096 := ⟨_, rfl⟩
    have hl' : (z : Int) / 4096 = (lz : Int) := by omega
    obtain ⟨f, hf⟩ : ∃ f, f = a / 4096 := ⟨_, rfl⟩
    have hf' : (a : Int) / 4096 = (f : Int) := by omega
    have hfl : f ≤ lz := by omega
    have hll : lz ≤ 4503599627370495 := by omega
    have hMay : Hid (Mayp M.mem a n 2 ↔ ∀ i, f ≤ i → i ≤ lz → bits .and .i64 (M.mem.perm i) 2 ≠ 0) := by
      unfold Mayp
      rw [hl, hf, hz]
      exact ⟨fun h => h.resolve_left h0, Or.inr⟩
    have HP : Hid (∀ k : Nat, k ≤ lz → Calls Tryz.prog 130 #[.pointer (some ⟨mm, 0, none⟩), .int .u64 ((k : Int) * 4096)] w fun e w' => e = .returned (.int .i64 (M.mem.perm k)) ∧ w' = w) := fun k hk => by
      have := mh_perm h (k * 4096) (by omega)
      rw [show ((k * 4096 : Nat) : Int) = (k : Int) * 4096 by omega, show k * 4096 / 4096 = k by omega] at this
      exact this
    clear h hf hl hz h0 h1
    go_enter Tryz.func125, Tryz.ntmps125
    go_wp2
    go_loop [8] (fun v => ∃ k : Nat, f ≤ k ∧ k ≤ lz + 1 ∧ v = .int .u64 (k : Int) ∧ ∀ j, f ≤ j → j < k → bits .and .i64 (M.mem.perm j) 2 ≠ 0) (fun v => lz + 1 - (intOf v).toNat)
    case atStart => exact ⟨f, Nat.le_refl _, by omega, rfl, fun j h1 h2 => by omega⟩
    case round =>
      obtain ⟨k, hk1, hk2, rfl, hall⟩ := hrel
      have HA := hide hall
      clear hall
      by_cases hlt : k ≤ lz
      · have hm : IntKind.u64.wrap ((k : Int) * 4096) = (k : Int) * 4096 := by rw [wrap_u64]; unfold u64; omega
        have HPk := hide (HP.out k hlt)
        obtain ⟨q, hq⟩ : ∃ q, q = M.mem.perm k := ⟨_, rfl⟩
        rw [← hq] at HPk
        have HQ := hide hq
        clear hq
        by_cases hz : bits .and .i64 q 2 = 0
        · have hno : Hid (¬ Mayp M.mem a n 2) := fun hm => hMay.out.1 hm k hk1 hlt (by rw [← HQ.out]; exact hz)
          go_wp2_with fail
          refine HPk.out.mono ?_
          rintro e W ⟨rfl, rfl⟩
          go_wp2
          go_ret
          exact ⟨ret_bool (mayB_no hno.out).symm, rfl⟩
        · have hz' : (bits .and .i64 q 2 == 0) = false := by simpa using hz
          have HZ := hide hz
          clear hz
          go_wp2_with fail
          refine HPk.out.mono ?_
          rintro e W ⟨rfl, rfl⟩
          go_wp2
          go_round
          case rel =>
            refine ⟨k + 1, by omega, by omega, by go_num, fun j h1 h2 => ?_⟩
            by_cases hjk : j = k
            · subst hjk; rw [← HQ.out]; exact HZ.out
            · exact HA.out j h1 (by omega)
          case measure => simp [intOf]; omega
      · have hyes : Hid (Mayp M.mem a n 2) := hMay.out.2 (fun i h1 h2 => HA.out i h1 (by omega))
        go_wp2
        go_ret
        exact ⟨ret_bool (mayB_yes hyes.out).symm, rfl⟩

theorem answer_any (v : Int) (w : World) (h : MH w0 w m mm me M l) (v0 : -9223372036854775808 ≤ v) (v1 : v ≤ 9223372036854775807) :
    Calls Tryz.prog 114 #[.pointer (some ⟨m, 0, none⟩), .int .i64 v] w fun e w' => e = .returned (.int .i64 0) ∧ MH w0 w' m mm me (M.put 10 (u64 v)) l := by
  have HP := hide (mh_put h 10 (u64 v) (by unfold InI; omega) (u64_bd v))
  have hv : IntKind.u64.wrap v = u64 v := wrap_u64 v
  generalize u64 v = u at *
  clear h
  go_enter Tryz.func114, Tryz.ntmps114
  go_wp2_with fail
  refine HP.out.mono ?_
  rintro e w' ⟨rfl, h1⟩
  have H1 := hide h1
  clear h1 HP
  go_wp2
  go_ret
  exact ⟨rfl, H1.out⟩

/-- The environment turns alone. -/
theorem mh_note (h : MH w0 w m mm me M l) (hb : Below w.heap.size w w') {X : Nat} {x : Evt} {t : TypeId} (hX : w.heap.size ≤ X) (hc : w'.heap[X]? = some (.cells #[.int .i64 x.kind, .int .i64 x.fd, .slice x.a x.len x.cap, .int .i64 x.n] t (0, 0))) (hx : x.Ok w')
    (hy : 0 < x.len → ∀ y, x.a = some y → w.heap.size ≤ y.block ∨ y.block < w0.heap.size) (hs : x.len ≤ 140737488355328) (hn : M.tr.length < 1000000) :
    Calls Tryz.prog 124 #[.pointer (some ⟨me, 0, none⟩), .slice (some ⟨X, 0, none⟩) 1 1] w' fun e w'' => e = .returned (.tuple #[]) ∧ MH w0 w'' m mm me { M with tr := M.tr ++ [x.says] } l := by
  have h1 := Has.arg1 h hb hX hc hx hy
  have h2 : Has w0 w' (EV w0.heap.size 92 me M.ins M.tr :: ArgT w0.heap.size (some ⟨X, 0, none⟩) 1 [x] :: HD m mm me M.x M.pc M.kind M.code M.trap :: PMt mm M.mem :: l) :=
    h1.perm (((List.Perm.cons _ ((List.Perm.cons _ (List.Perm.swap ..)).trans (List.Perm.swap ..))).trans (List.Perm.swap ..)))
  refine (has_note (cap := 1) h2 (by intro z hz; simp at hz; subst hz; exact hs) (by omega)).mono ?_
  rintro e w'' ⟨g1, g2⟩
  refine ⟨g1, ?_⟩
  have g3 := (g2.swap.drop).perm (List.Perm.trans (List.Perm.swap ..) (List.Perm.cons _ (List.Perm.swap ..)))
  exact g3

end

end Go.Proofs.YtgjfelkbblbjfaaGreatDoor

/- Contracts of package mach's write, read, call: what the service does. -/
namespace Go.Proofs.YtgjfelkbblbjfaaGreatDoor
open Go.RowKit Go.Maps
set_option linter.unusedVariables false
set_option maxRecDepth 100000

section
variable {w0 w w' : World} {m mm me : Nat} {M : Mc} {l : List (World → (Nat → Prop) → Prop)}

theorem mh_rg (h : MH w0 w m mm me M l) (z : Nat) (hz : z < 32) (v : Int) (hv : M.x z = v) :
    Calls Tryz.prog 26 #[.pointer (some ⟨m, 0, none⟩), .int .i64 (z : Int)] w fun e w' => e = .returned (.int .u64 v) ∧ w' = w := by
  have := mh_reg h z (by unfold InI; omega)
  rw [rg_in (by omega), Int.toNat_natCast, hv] at this
  exact this

theorem write_long (w : World) (h : MH w0 w m mm me M l) (hx : 65536 < M.x 12) :
    Calls Tryz.prog 115 #[.pointer (some ⟨m, 0, none⟩)] w fun e w' => e = .returned (.int .i64 (-22)) ∧ MH w0 w' m mm me M l := by
  obtain ⟨v, hv⟩ : ∃ v, M.x 12 = v := ⟨_, rfl⟩
  rw [hv] at hx
  have HR := hide (mh_rg h 12 (by decide) v hv)
  have HM := hide h
  clear h hv
  go_enter Tryz.func115, Tryz.ntmps115
  go_wp2_with fail
  refine HR.out.mono ?_
  rintro e W ⟨rfl, rfl⟩
  go_wp2
  go_ret
  exact ⟨rfl, HM.out⟩

set_option maxHeartbeats 1600000 in
theorem write_no (w : World) (h : MH w0 w m mm me M l) (hx : M.x 12 ≤ 65536) (hm : mayB M.mem (M.x 11).toNat (M.x 12).toNat 4 = false) :
    Calls Tryz.prog 115 #[.pointer (some ⟨m, 0, none⟩)] w fun e w' => e = .returned (.int .i64 (-14)) ∧ MH w0 w' m mm me M l := by
  obtain ⟨n, hn⟩ := Int.eq_ofNat_of_zero_le (h.fits.reg 12).1
  obtain ⟨a, ha⟩ := Int.eq_ofNat_of_zero_le (h.fits.reg 11).1
  have hab : a ≤ 18446744073709551615 := by have := (h.fits.reg 11).2; omega
  rw [hn, ha, Int.toNat_natCast, Int.toNat_natCast] at hm
  rw [hn] at hx
  have hx' : decide ((65536 : Int) < (n : Int)) = false := by simp; omega
  have HR := hide (mh_rg h 12 (by decide) n hn)
  have HR1 := hide (mh_rg (h.below ((Below.refl _ _).drew)) 11 (by decide) a ha)
  obtain ⟨F, hP⟩ := h.pm
  have hk : manyOk M.mem a n 4 = false := by simp [manyOk, hm]
  have HRd : Hid (Calls Tryz.prog 20 #[.pointer (some ⟨mm, 0, none⟩), .int .u64 (a : Int), .int .u64 (n : Int)] w.drew fun e w' => e = .returned (.tuple #[.slice none 0 0, .bool false]) ∧ MH w0 w' m mm me M l) := by
    refine hide ((read_any mm M.mem F a n w.drew (hP.below ((Below.refl _ _).drew)) hab (by omega)).mono ?_)
    rintro e w' ⟨g1, g2, g3⟩
    exact ⟨g1 hk, (h.below ((Below.refl _ _).drew)).below g3⟩
  have hc0 := h.c0
  have HM := hide h
  clear h hn ha hP hk hm
  go_enter Tryz.func115, Tryz.ntmps115
  go_wp2_with fail
  refine HR.out.mono ?_
  rintro e W ⟨rfl, rfl⟩
  clear HR
  go_wp2_with fail
  go_region_held3 (fun w' => w'.cell? ⟨m, 0, none⟩ = some (.pointer (some ⟨mm, 0, none⟩))) (go_keep)
    (first
      | (go_at_call 26; refine HR1.out.mono ?_; rintro e W3 ⟨rfl, hW3⟩; rw [hW3]; clear hW3 W3)
      | (go_at_call 20; refine HRd.out.mono ?_; rintro e W2 ⟨rfl, h6⟩; have l5 := h6.c0; have H6 := hide h6; clear h6))
  clear HR1 HRd HM
  go_wp2
  go_ret
  exact ⟨rfl, H6.out⟩

theorem rd_block {w' : World} {O n : Nat} {bs : List Int} {t : TypeId} (hl : bs.length = n) (hn : n ≤ 65536) (hb : Bytes bs) (h : w'.heap[O]? = some (.cells (bs.map (Value.int .u8)).toArray t (0, 0))) : Rd w' (some ⟨O, 0, none⟩) n n bs := by
  refine ⟨hl, Nat.le_refl _, by omega, hb, (fun h => by cases h), fun x hx i hi => ?_⟩
  cases hx
  have e : (⟨O, 0, none⟩ : Addr).add i = ⟨O, i, none⟩ := by unfold Addr.add; split <;> simp_all
  rw [e, cell_of_row _ _ i _ _ _ h]
  simp [show i < bs.length by omega]

set_option maxHeartbeats 3200000 in
theorem write_ok (w : World) (h : MH w0 w m mm me M l) (hx : M.x 12 ≤ 65536) (hm : mayB M.mem (M.x 11).toNat (M.x 12).toNat 4 = true) (ht : M.tr.length < 1000000) :
    Calls Tryz.prog 115 #[.pointer (some ⟨m, 0, none⟩)] w fun e w' => e = .returned (.int .i64 (M.x 12)) ∧ MH w0 w' m mm me { M with tr := M.tr ++ [⟨0, s64 (M.x 10), M.mem.read (M.x 11).toNat (M.x 12).toNat, 0⟩] } l := by
  obtain ⟨n, hn⟩ := Int.eq_ofNat_of_zero_le (h.fits.reg 12).1
  obtain ⟨a, ha⟩ := Int.eq_ofNat_of_zero_le (h.fits.reg 11).1
  obtain ⟨fd, hfd⟩ : ∃ fd, M.x 10 = fd := ⟨_, rfl⟩
  have hab : a ≤ 18446744073709551615 := by have := (h.fits.reg 11).2; omega
  have hfb := h.fits.reg 10
  have HR := hide (mh_rg h 12 (by decide) n hn)
  have HR1 := hide (mh_rg (h.below ((Below.refl _ _).drew)) 11 (by decide) a ha)
  have HR0 := hide (fun W (hW : MH w0 W m mm me M l) => mh_rg hW 10 (by decide) fd hfd)
  rw [hn, ha, Int.toNat_natCast, Int.toNat_natCast] at hm ⊢
  rw [hn] at hx
  rw [hfd] at hfb ⊢
  have hgb := s64_bd fd
  rw [← wrap_s64] at hgb ⊢
  have hx' : decide ((65536 : Int) < (n : Int)) = false := by simp; omega
  have hn6 : n ≤ 65536 := by omega
  obtain ⟨F, hP⟩ := h.pm
  have hk : manyOk M.mem a n 4 = true := by unfold manyOk; rw [hm]; simp; omega
  have hby : Bytes (M.mem.read a n) := Mm.read_bytes hP.good a n
  have hlen : (M.mem.read a n).length = n := Mm.read_length _ _ _
  have HRd : Hid (Calls Tryz.prog 20 #[.pointer (some ⟨mm, 0, none⟩), .int .u64 (a : Int), .int .u64 (n : Int)] w.drew fun e w' => ∃ O, e = .returned (.tuple #[.slice (some ⟨O, 0, none⟩) n n, .bool true]) ∧ w.heap.size ≤ O ∧ Rd w' (some ⟨O, 0, none⟩) n n (M.mem.read a n) ∧ Below w.heap.size w w') := by
    refine hide ((read_any mm M.mem F a n w.drew (hP.below ((Below.refl _ _).drew)) hab (by omega)).mono ?_)
    rintro e w' ⟨g1, g2, g3⟩
    obtain ⟨O, k1, k2, k3⟩ := g2 hk
    exact ⟨O, k1, k2, rd_block hlen hn6 hby k3, ((Below.refl _ _).drew).trans g3⟩
  generalize M.mem.read a n = bs at *
  have hc0 := h.c0
  have HM := hide h
  clear h hn ha hP hk hm hfd hby hlen
  go_enter Tryz.func115, Tryz.ntmps115
  go_wp2_with fail
  refine HR.out.mono ?_
  rintro e W ⟨rfl, rfl⟩
  clear HR
  go_wp2_with fail
  go_region_held3 (fun w' => w'.cell? ⟨m, 0, none⟩ = some (.pointer (some ⟨mm, 0, none⟩))) (go_keep)
    (first
      | (go_at_call 26; refine HR1.out.mono ?_; rintro e W3 ⟨rfl, hW3⟩; rw [hW3]; clear hW3 W3)
      | (go_at_call 20; refine HRd.out.mono ?_; rintro e W2 ⟨O, rfl, hO, hRd, hB2⟩; have h6 := HM.out.below hB2; have l5 := h6.c0; have H6 := hide h6; have HO := hide hO; have HRr := hide hRd; have HB2 := hide hB2; clear h6 hO hRd hB2))
  clear HR1 HRd
  go_wp2_with fail
  have hc1 := H6.out.c1
  have H6D := hide (H6.out.below ((Below.refl _ _).drew))
  have hBD : Below _ _ ((W2.alloc (.cells #[.int .i64 0, .int .i64 (IntKind.i64.wrap fd), .slice (some ⟨O, 0, none⟩) n n, .int .i64 0] 100)).drew) := HB2.out.trans ((below_alloc _ _).drew.mono HB2.out.size)
  have HN := hide (mh_note HM.out hBD (X := W2.heap.size) (x := ⟨0, IntKind.i64.wrap fd, some ⟨O, 0, none⟩, n, n, 0, bs⟩) (t := 100) HB2.out.size
    (heap_alloc_new W2 (.cells #[.int .i64 0, .int .i64 (IntKind.i64.wrap fd), .slice (some ⟨O, 0, none⟩) n n, .int .i64 0] 100))
    ⟨⟨by dsimp only; omega, by dsimp only; omega⟩, hgb, ⟨by dsimp only; omega, by dsimp only; omega⟩, HRr.out.below (below_alloc _ _).drew⟩
    (fun _ y hy => Or.inl (by cases hy; exact HO.out)) (by dsimp only; omega) ht)
  clear hBD
  go_region_held3 (fun w' => w'.cell? ⟨m, 1, none⟩ = some (.pointer (some ⟨me, 0, none⟩))) (go_keep)
    (first
      | (go_at_call 26; refine (HR0.out _ H6D.out).mono ?_; rintro e W3 ⟨rfl, hW3⟩; rw [hW3]; clear hW3 W3)
      | (go_at_call 124; refine HN.out.mono ?_; rintro e W4 ⟨rfl, h7⟩; have l6 := h7.c1; have H7 := hide h7; clear h7))
  clear HN H6D H6 HR0 HM HO HRr HB2
  go_wp2
  go_ret
  exact ⟨rfl, H7.out⟩

theorem p_back {P Q R : World → (Nat → Prop) → Prop} {l : List (World → (Nat → Prop) → Prop)} : (P :: Q :: R :: l).Perm (R :: P :: Q :: l) := (List.Perm.cons _ (List.Perm.swap ..)).trans (List.Perm.swap ..)
theorem p_rot {P Q R : World → (Nat → Prop) → Prop} {l : List (World → (Nat → Prop) → Prop)} : (P :: Q :: R :: l).Perm (Q :: R :: P :: l) := (List.Perm.swap ..).trans (List.Perm.cons _ (List.Perm.swap ..))

theorem mh_take (h : MH w0 w m mm me M l) (n : Int) (hl : M.ins.length ≤ 140737488355328) :
    Calls Tryz.prog 126 #[.pointer (some ⟨me, 0, none⟩), .int .i64 n] w fun e w' => ∃ a' c', e = .returned (.slice a' (M.ins.take n.toNat).length c') ∧ MH w0 w' m mm me { M with ins := M.ins.drop n.toNat } (RdT a' (M.ins.take n.toNat).length c' (M.ins.take n.toNat) :: l) := by
  refine (has_take (Has.back h) n hl).mono ?_
  rintro e w' ⟨a', c', h1, h2⟩
  exact ⟨a', c', h1, h2.rot.rot.perm (List.Perm.cons _ p_back)⟩

theorem mh_write {a' : Option Addr} {len c' : Nat} {bs : List Int} (h : MH w0 w m mm me M (RdT a' len c' bs :: l)) (a0 : Nat) (ha : a0 ≤ 18446744073709551615) (hk : manyOk M.mem a0 len 2 = true) :
    Calls Tryz.prog 127 #[.pointer (some ⟨mm, 0, none⟩), .int .u64 (a0 : Int), .slice a' len c'] w fun e w' => e = .returned (.bool true) ∧ MH w0 w' m mm me { M with mem := M.mem.lay a0 bs } (RdT a' len c' bs :: l) := by
  have h1 := (Has.swap h).perm (List.Perm.cons _ p_back)
  obtain ⟨F, G, g1, g2, g3, g4, g5⟩ := h1.open2
  refine (write_any mm M.mem F a0 a' len c' bs w g1 ha g2.1 (fun hl x hx hf => g3 _ hf (g2.2.1 hl x hx))).mono ?_
  rintro e w' ⟨k1, F', k2, k3⟩
  rw [hk] at k1 k2
  rw [if_pos rfl] at k2
  have k4 := g5 w' (PMt mm (M.mem.lay a0 bs)) F' k2 k3 (pmt_stays _ _ _)
  exact ⟨k1, (k4.perm (List.Perm.cons _ p_rot)).swap⟩

theorem read_long (w : World) (h : MH w0 w m mm me M l) (hx : 65536 < M.x 12) :
    Calls Tryz.prog 116 #[.pointer (some ⟨m, 0, none⟩)] w fun e w' => e = .returned (.int .i64 (-22)) ∧ MH w0 w' m mm me M l := by
  obtain ⟨v, hv⟩ : ∃ v, M.x 12 = v := ⟨_, rfl⟩
  obtain ⟨u, hu⟩ : ∃ u, M.x 11 = u := ⟨_, rfl⟩
  rw [hv] at hx
  have HR := hide (mh_rg h 12 (by decide) v hv)
  have HR1 := hide (mh_rg h 11 (by decide) u hu)
  have HM := hide h
  clear h hv hu
  go_enter Tryz.func116, Tryz.ntmps116
  go_wp2_with fail
  refine HR1.out.mono ?_
  rintro e W ⟨rfl, hW⟩
  rw [hW]
  clear hW W
  go_wp2_with fail
  refine HR.out.mono ?_
  rintro e W ⟨rfl, hW⟩
  rw [hW]
  clear hW W
  go_wp2
  go_ret
  exact ⟨rfl, HM.out⟩

theorem read_no (w : World) (h : MH w0 w m mm me M l) (hx : M.x 12 ≤ 65536) (hm : mayB M.mem (M.x 11).toNat (M.x 12).toNat 2 = false) :
    Calls Tryz.prog 116 #[.pointer (some ⟨m, 0, none⟩)] w fun e w' => e = .returned (.int .i64 (-14)) ∧ MH w0 w' m mm me M l := by
  obtain ⟨n, hn⟩ := Int.eq_ofNat_of_zero_le (h.fits.reg 12).1
  obtain ⟨a, ha⟩ := Int.eq_ofNat_of_zero_le (h.fits.reg 11).1
  have hab : a ≤ 18446744073709551615 := by have := (h.fits.reg 11).2; omega
  rw [hn, ha, Int.toNat_natCast, Int.toNat_natCast] at hm
  rw [hn] at hx
  have hx' : decide ((65536 : Int) < (n : Int)) = false := by simp; omega
  have HR := hide (mh_rg h 12 (by decide) n hn)
  have HR1 := hide (mh_rg h 11 (by decide) a ha)
  have HWr := hide (writable_any a n w h hab (by omega))
  rw [hm] at HWr
  have HM := hide h
  clear h hn ha hm
  go_enter Tryz.func116, Tryz.ntmps116
  go_wp2_with fail
  refine HR1.out.mono ?_
  rintro e W ⟨rfl, hW⟩
  rw [hW]
  clear hW W
  go_wp2_with fail
  refine HR.out.mono ?_
  rintro e W ⟨rfl, hW⟩
  rw [hW]
  clear hW W
  go_wp2_with fail
  refine HWr.out.mono ?_
  rintro e W ⟨rfl, hW⟩
  rw [hW]
  clear hW W
  go_wp2
  go_ret
  exact ⟨rfl, HM.out⟩

theorem may_less {S : Mm} {a n k : Nat} {p : Int} (h : mayB S a n p = true) (hk : k ≤ n) : mayB S a k p = true := by
  by_cases h0 : k = 0
  · exact mayB_yes (Or.inl h0)
  · refine mayB_yes (Or.inr (fun i h1 h2 => ?_))
    rcases mayB_iff.1 h with h3 | h3
    · omega
    · exact h3 i h1 (by omega)

set_option maxHeartbeats 3200000 in
theorem read_ok (w : World) (h : MH w0 w m mm me M l) (hx : M.x 12 ≤ 65536) (hm : mayB M.mem (M.x 11).toNat (M.x 12).toNat 2 = true) (ht : M.tr.length < 1000000) (hi : M.ins.length ≤ 140737488355328) :
    Calls Tryz.prog 116 #[.pointer (some ⟨m, 0, none⟩)] w fun e w' => e = .returned (.int .i64 ((M.ins.take (M.x 12).toNat).length : Int)) ∧
      MH w0 w' m mm me { M with mem := M.mem.lay (M.x 11).toNat (M.ins.take (M.x 12).toNat), ins := M.ins.drop (M.x 12).toNat, tr := M.tr ++ [⟨1, s64 (M.x 10), [], ((M.ins.take (M.x 12).toNat).length : Int)⟩] } l := by
  obtain ⟨n, hn⟩ := Int.eq_ofNat_of_zero_le (h.fits.reg 12).1
  obtain ⟨a, ha⟩ := Int.eq_ofNat_of_zero_le (h.fits.reg 11).1
  obtain ⟨fd, hfd⟩ : ∃ fd, M.x 10 = fd := ⟨_, rfl⟩
  have hab : a ≤ 18446744073709551615 := by have := (h.fits.reg 11).2; omega
  have hfb := h.fits.reg 10
  have HR := hide (mh_rg h 12 (by decide) n hn)
  have HR1 := hide (mh_rg h 11 (by decide) a ha)
  rw [hn, ha, Int.toNat_natCast, Int.toNat_natCast] at hm ⊢
  rw [hn] at hx
  rw [hfd] at hfb ⊢
  have hgb := s64_bd fd
  rw [← wrap_s64] at hgb ⊢
  have hx' : decide ((65536 : Int) < (n : Int)) = false := by simp; omega
  have hn6 : n ≤ 65536 := by omega
  have HWr := hide (writable_any a n w h hab (by omega))
  rw [hm] at HWr
  have hlen : (M.ins.take n).length ≤ n := by rw [List.length_take]; omega
  have hk : manyOk M.mem a (M.ins.take n).length 2 = true := by unfold manyOk; rw [may_less hm hlen]; simp; omega
  have HT := hide (mh_take h n hi)
  rw [Int.toNat_natCast] at HT
  generalize M.ins.take n = bs at *
  generalize M.ins.drop n = rs at *
  obtain ⟨L, hL⟩ : ∃ L, bs.length = L := ⟨_, rfl⟩
  rw [hL] at hlen hk HT ⊢
  obtain ⟨M1, hM1⟩ : ∃ M1 : Mc, M1 = { M with ins := rs } := ⟨_, rfl⟩
  obtain ⟨M2, hM2⟩ : ∃ M2 : Mc, M2 = { M with ins := rs, mem := M.mem.lay a bs } := ⟨_, rfl⟩
  rw [← hM1] at HT
  have HWt : Hid (∀ W a' c', MH w0 W m mm me M1 (RdT a' L c' bs :: l) → Calls Tryz.prog 127 #[.pointer (some ⟨mm, 0, none⟩), .int .u64 (a : Int), .slice a' L c'] W fun e w' => e = .returned (.bool true) ∧ MH w0 w' m mm me M2 (RdT a' L c' bs :: l)) := fun W a' c' hW => by
    have hk1 : manyOk M1.mem a L 2 = true := by rw [hM1]; exact hk
    have := mh_write hW a hab hk1
    rw [hM2]
    rw [hM1] at this
    exact this
  have HR0 : Hid (∀ W l, MH w0 W m mm me M2 l → Calls Tryz.prog 26 #[.pointer (some ⟨m, 0, none⟩), .int .i64 10] W fun e w' => e = .returned (.int .u64 fd) ∧ w' = W) := fun W l hW => by
    have := mh_rg hW 10 (by decide) fd (by rw [hM2]; exact hfd)
    exact this
  have HMt : Hid (M2.tr.length < 1000000) := by rw [hM2]; exact ht
  have HM2 := hide hM2
  have hc1 := h.c1
  clear h hn ha hm hfd hk hM1 hM2 ht hL hi
  go_enter Tryz.func116, Tryz.ntmps116
  go_wp2_with fail
  refine HR1.out.mono ?_
  rintro e W ⟨rfl, hW⟩
  rw [hW]
  clear hW W HR1
  go_wp2_with fail
  refine HR.out.mono ?_
  rintro e W ⟨rfl, hW⟩
  rw [hW]
  clear hW W HR
  go_wp2_with fail
  refine HWr.out.mono ?_
  rintro e W ⟨rfl, hW⟩
  rw [hW]
  clear hW W HWr
  go_wp2_with fail
  refine HT.out.mono ?_
  rintro e W1 ⟨a', c', rfl, h1⟩
  have d0 := h1.c0
  have H1 := hide h1
  clear h1 HT hc1
  go_wp2_with fail
  refine (HWt.out _ _ _ H1.out).mono ?_
  rintro e W2 ⟨rfl, h2⟩
  have e1 := h2.c1
  have H2 := hide h2
  have H2D := hide (h2.below ((Below.refl _ _).drew))
  clear h2 H1 HWt d0
  go_wp2_with fail
  have hBD : Below W2.heap.size W2 ((W2.alloc (.cells #[.int .i64 1, .int .i64 (IntKind.i64.wrap fd), .slice none 0 0, .int .i64 (L : Int)] 100)).drew) := (below_alloc _ _).drew
  have HN := hide (mh_note H2.out hBD (X := W2.heap.size) (x := ⟨1, IntKind.i64.wrap fd, none, 0, 0, (L : Int), []⟩) (t := 100) (Nat.le_refl _)
    (heap_alloc_new W2 (.cells #[.int .i64 1, .int .i64 (IntKind.i64.wrap fd), .slice none 0 0, .int .i64 (L : Int)] 100))
    ⟨⟨by dsimp only; omega, by dsimp only; omega⟩, hgb, ⟨by dsimp only; omega, by dsimp only; omega⟩, Rd.nothing _⟩
    (fun hl => by cases hl) (by dsimp only; omega) HMt.out)
  clear hBD
  go_region_held3 (fun w' => w'.cell? ⟨m, 1, none⟩ = some (.pointer (some ⟨me, 0, none⟩))) (go_keep)
    (first
      | (go_at_call 26; refine (HR0.out _ _ H2D.out).mono ?_; rintro e W3 ⟨rfl, hW3⟩; rw [hW3]; clear hW3 W3)
      | (go_at_call 124; refine HN.out.mono ?_; rintro e W4 ⟨rfl, h7⟩; have l6 := h7.c1; have H7 := hide h7.unbox; clear h7))
  clear HN H2D H2 HR0
  go_wp2
  go_ret
  refine ⟨rfl, ?_⟩
  have h8 := H7.out
  rw [HM2.out] at h8
  exact h8

end

end Go.Proofs.YtgjfelkbblbjfaaGreatDoor

/- The contract of package mach's store. -/
namespace Go.Proofs.YtgjfelkbblbjfaaGreatDoor
open Go.RowKit Go.Maps
set_option linter.unusedVariables false
set_option maxRecDepth 100000

def StoR (ok : Bool) (r : Int) (A B : Prop) : Prop := (ok = true ∧ r = 0 ∧ A) ∨ (ok = false ∧ r = 4 ∧ B)

section
variable {w0 w w' : World} {m mm me : Nat} {M : Mc} {l : List (World → (Nat → Prop) → Prop)}

set_option maxHeartbeats 1600000 in
theorem mstore_any (o : Nat) (rd r1 r2 im : Int) (w : World) (h : MH w0 w m mm me M l) (h0 : 18 ≤ o) (h1 : o ≤ 21) (hf : Fit5 rd r1 r2 im) :
    Calls Tryz.prog 84 #[.pointer (some ⟨m, 0, none⟩), inst o rd r1 r2 im] w fun e w' => ∃ r M', e = .returned (.int .i64 r) ∧
      Did M (if numOk M.mem (u64 (M.x r1.toNat + im)).toNat (widthF o) 2 = true then { M.next with mem := stored M.mem (u64 (M.x r1.toNat + im)).toNat (widthF o) (M.x r2.toNat) } else M.trapped 4) r M' ∧ MH w0 w' m mm me M' l := by
  have HWd := hide (fun W => width_any' o W (by omega) h1)
  have him := hf.im
  have hub := u64_bd (M.x r1.toNat + im)
  obtain ⟨p, hp⟩ : ∃ p : Nat, (u64 (M.x r1.toNat + im)).toNat = p := ⟨_, rfl⟩
  have hp' : u64 (M.x r1.toNat + im) = (p : Int) := by omega
  rw [hp]
  have hwd : 1 ≤ widthF o ∧ widthF o ≤ 8 := by
    rcases (show o = 18 ∨ o = 19 ∨ o = 20 ∨ o = 21 by omega) with rfl | rfl | rfl | rfl <;> decide
  have hxb := h.fits.reg r2.toNat
  obtain ⟨v, hv⟩ : ∃ v, M.x r2.toNat = v := ⟨_, rfl⟩
  obtain ⟨n, hn⟩ : ∃ n, widthF o = n := ⟨_, rfl⟩
  rw [hn] at HWd hwd ⊢
  rw [hv] at hxb ⊢
  have HPl : Hid (∀ W l, MH w0 W m mm me M l → Calls Tryz.prog 81 #[.pointer (some ⟨m, 0, none⟩), .agg #[.int .i64 (o : Int), .int .i64 rd, .int .i64 r1, .int .i64 r2, .int .i64 im]] W fun e w' => e = .returned (.int .u64 (p : Int)) ∧ MH w0 w' m mm me M l) := fun W l hW => by
    have := mh_place hW o rd r1 r2 im hf.r1 (by omega) (by omega)
    rw [hp'] at this
    exact this
  have HRg : Hid (∀ W l, MH w0 W m mm me M l → Calls Tryz.prog 26 #[.pointer (some ⟨m, 0, none⟩), .int .i64 r2] W fun e w' => e = .returned (.int .u64 v) ∧ w' = W) := fun W l hW => by
    have := mh_reg hW r2 (ini_of hf.r2)
    rw [rg_in hf.r2, hv] at this
    exact this
  obtain ⟨ok, hok⟩ : ∃ ok, numOk M.mem p n 2 = ok := ⟨_, rfl⟩
  obtain ⟨M2, hM2⟩ : ∃ M2 : Mc, M2 = { M with mem := stored M.mem p n v } := ⟨_, rfl⟩
  have HSt : Hid (∀ W l, MH w0 W m mm me M l → Calls Tryz.prog 113 #[.pointer (some ⟨mm, 0, none⟩), .int .u64 (p : Int), .int .i64 n, .int .u64 v] W fun e w' => e = .returned (.bool ok) ∧ MH w0 w' m mm me M2 l) := fun W l hW => by
    have := mh_store hW p n v (by omega) (by omega) (by omega) hxb.1 hxb.2
    rw [hok, ← hM2] at this
    exact this
  have HM2 := hide hM2
  have HOK := hide hok
  rw [hok]
  have HM := hide h
  clear h hf hok hM2 hp hp' hn hv hub hwd hxb
  unfold inst
  refine Calls.mono (?_ : Calls _ _ _ _ (fun e w' => ∃ r, e = .returned (.int .i64 r) ∧ StoR ok r (MH w0 w' m mm me M2.next l) (MH w0 w' m mm me M2 l))) ?_
  · go_enter Tryz.func84, Tryz.ntmps84
    go_wp2_with fail
    obtain ⟨V, hV⟩ : ∃ V, V = w.alloc (.cells #[.int .i64 (o : Int), .int .i64 rd, .int .i64 r1, .int .i64 r2, .int .i64 im] 28) := ⟨_, rfl⟩
    rw [← hV]
    obtain ⟨X, hX⟩ : ∃ X, X = w.heap.size := ⟨_, rfl⟩
    rw [← hX]
    have hMV : MH w0 V m mm me M (InXT X o rd r1 r2 im :: l) := by rw [hV, hX]; exact HM.out.box _ _ _ _ _ _
    have hc0 := hMV.c0
    obtain ⟨i0, i1, i2, i3, i4⟩ := hMV.inx
    have HV := hide hMV
    have HVD := hide (hMV.below ((Below.refl _ _).drew))
    clear hMV hV hX HM
    go_region_held3 (fun w' => w'.cell? ⟨X, 0, none⟩ = some (.int .i64 (o : Int)) ∧ w'.cell? ⟨X, 1, none⟩ = some (.int .i64 rd) ∧ w'.cell? ⟨X, 2, none⟩ = some (.int .i64 r1) ∧ w'.cell? ⟨X, 3, none⟩ = some (.int .i64 r2) ∧ w'.cell? ⟨X, 4, none⟩ = some (.int .i64 im) ∧ w'.cell? ⟨m, 0, none⟩ = some (.pointer (some ⟨mm, 0, none⟩))) (go_keep)
      (first
        | (go_at_call 81; refine (HPl.out _ _ HVD.out).mono ?_; rintro e W1 ⟨rfl, h5⟩; obtain ⟨j0, j1, j2, j3, j4⟩ := h5.inx; have j5 := h5.c0; have H5 := hide h5; clear h5)
        | (go_at_call 111; refine (HWd.out _).mono ?_; rintro e W3 ⟨rfl, hW3⟩; rw [hW3]; clear hW3 W3)
        | (go_at_call 26; refine (HRg.out _ _ (by first | exact H5.out | exact HVD.out)).mono ?_; rintro e W3 ⟨rfl, hW3⟩; rw [hW3]; clear hW3 W3)
        | (go_at_call 113; refine (HSt.out _ _ H5.out).mono ?_; rintro e W2 ⟨rfl, h6⟩; obtain ⟨l0, l1, l2, l3, l4⟩ := h6.inx; have l5 := h6.c0; have H6 := hide h6; clear h6))
    clear HPl HWd HRg HSt HV HVD H5
    cases ok with
    | false =>
      go_wp2
      go_ret
      exact ⟨4, rfl, Or.inr ⟨rfl, rfl, H6.out.unbox⟩⟩
    | true =>
      go_wp2_with fail
      refine (mh_next H6.out).mono ?_
      rintro e W7 ⟨rfl, h7⟩
      have H7 := hide h7.unbox
      clear h7 H6
      go_wp2
      go_ret
      exact ⟨0, rfl, Or.inl ⟨rfl, rfl, H7.out⟩⟩
  · rintro e w' ⟨r, rfl, ⟨rfl, rfl, h7⟩ | ⟨rfl, rfl, h7⟩⟩
    · rw [if_pos rfl]
      refine ⟨0, _, rfl, Or.inl ⟨rfl, rfl⟩, ?_⟩
      rw [HM2.out] at h7
      exact h7
    · rw [if_neg (by decide)]
      refine ⟨4, M, rfl, Or.inr ⟨by decide, by unfold InI; omega, rfl, rfl⟩, ?_⟩
      rw [HM2.out] at h7
      unfold stored at h7
      rw [HOK.out] at h7
      exact h7

end

end Go.Proofs.YtgjfelkbblbjfaaGreatDoor
