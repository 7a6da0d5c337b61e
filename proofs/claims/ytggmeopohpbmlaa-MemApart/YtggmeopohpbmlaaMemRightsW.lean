/- The walk of MemRights: each permission is asked by what needs it, and by nothing else. -/
import Derived.Test.YtggmeopohpbmlaaMemKnown
namespace Go.Proofs.Ytggmeopohpbmlaa
open Go.RowKit Go.Maps
set_option linter.unusedVariables false

theorem own_read {w0 w : World} {m : Nat} {S : Mm} (h : Own w0 w m S) (a n : Nat) (ha : a ≤ 18446744073709551615) (hn : n ≤ 18446744073709551615) :
    Calls Try.prog 20 #[.pointer (some ⟨m, 0, none⟩), .int .u64 (a : Int), .int .u64 (n : Int)] w fun e w' =>
      (∃ b l c, e = .returned (.tuple #[.slice b l c, .bool (manyOk S a n 4)]) ∧ Rd w' b l c (if manyOk S a n 4 = true then S.read a n else [])) ∧ Own w0 w' m S ∧ Below w.heap.size w w' := by
  obtain ⟨F, h1, h2⟩ := h.ex
  refine (read_any m S F a n w h1 ha hn).mono ?_
  rintro e w' ⟨h3, h4, h5⟩
  refine ⟨?_, h.below h5, h5⟩
  cases hm : manyOk S a n 4 with
  | false => exact ⟨none, 0, 0, h3 hm, Rd.nothing w'⟩
  | true =>
    obtain ⟨O, h6, h7, h8⟩ := h4 hm
    have hn6 : n ≤ 65536 := by
      unfold manyOk at hm
      simp at hm
      exact hm.1
    refine ⟨_, n, n, h6, ?_, Nat.le_refl _, by omega, ?_, (fun h => by cases h), fun x hx i hi => ?_⟩
    · simp [Mm.read_length]
    · simpa using Mm.read_bytes h1.good a n
    · cases hx
      rw [show (⟨O, 0, none⟩ : Addr).add i = ⟨O, i, none⟩ by unfold Addr.add; split <;> simp_all, cell_of_row _ _ _ _ _ _ h8]
      simp [Mm.read_at S a n i hi]

theorem own_write {w0 w : World} {m : Nat} {S : Mm} (h : Own w0 w m S) (a0 : Nat) (xs : List Int) (hb : Bytes xs) (hl : xs.length ≤ 9223372036854775807) (ha : a0 ≤ 18446744073709551615) :
    Calls Try.prog 22 #[.pointer (some ⟨m, 0, none⟩), .int .u64 (a0 : Int), .slice (some ⟨w.heap.size, 0, none⟩) xs.length xs.length] (w.alloc (.cells (xs.map (Value.int .u8)).toArray 5)) fun e w' =>
      e = .returned (.bool (manyOk S a0 xs.length 2)) ∧ Own w0 w' m (if manyOk S a0 xs.length 2 = true then S.lay a0 xs else S) := by
  obtain ⟨F, h1, h2⟩ := h.ex
  have hbel : Below w.heap.size w (w.alloc (.cells (xs.map (Value.int .u8)).toArray 5)) := (Below.refl _ _).alloc (Nat.le_refl _) _
  refine (write_any m S F a0 _ _ _ xs _ (h1.below hbel) ha (Rd.lit 5 w xs hb hl) (fun x hx hf => ?_)).mono ?_
  · cases hx
    have := h1.flt _ hf
    simp at this
  · rintro e w' ⟨h3, h4⟩
    exact ⟨h3, Own.went h2 (h.below hbel).bel h4⟩

theorem mayB_perm {S T : Mm} (h : ∀ i, S.perm i = T.perm i) (a n : Nat) (p : Int) : mayB S a n p = mayB T a n p := by
  have e : Mayp S a n p ↔ Mayp T a n p := by
    unfold Mayp
    constructor
    · rintro (h1 | h1)
      · exact Or.inl h1
      · exact Or.inr (fun i h2 h3 => by rw [← h i]; exact h1 i h2 h3)
    · rintro (h1 | h1)
      · exact Or.inl h1
      · exact Or.inr (fun i h2 h3 => by rw [h i]; exact h1 i h2 h3)
  by_cases hm : Mayp S a n p
  · rw [mayB_yes hm, mayB_yes (e.1 hm)]
  · rw [mayB_no hm, mayB_no (fun h => hm (e.2 h))]

theorem stored_perm (S : Mm) (a : Nat) (n v : Int) (i : Nat) : (stored S a n v).perm i = S.perm i := by
  unfold stored; split <;> rfl

/-- The permission that MemRights takes. -/
def rp (k : Nat) : Int := match k with | 0 => 4 | 1 => 2 | 2 => 1 | 3 => 6 | _ => 5
theorem rp_ok (k : Nat) : PermOk (rp k) := by unfold rp PermOk; split <;> omega
theorem rp_tab (W : World) (k : Nat) (hk : k < 5) : (W.alloc (.cells #[.int .i64 4, .int .i64 2, .int .i64 1, .int .i64 6, .int .i64 5] 3)).cell? ⟨W.heap.size, k, none⟩ = some (.int .i64 (rp k)) := by
  match k, hk with
  | 0, _ => simp [rp]
  | 1, _ => simp [rp]
  | 2, _ => simp [rp]
  | 3, _ => simp [rp]
  | 4, _ => simp [rp]

/-- The memory of MemRights: one page, at 4096. -/
noncomputable def rm (p : Int) : Mm := mappedTo Mm.new 4096 4096 p [1, 2, 3, 4, 5, 6, 7, 8]
theorem rm_ok {p : Int} (hp : PermOk p) : mapB Mm.new 4096 4096 p 8 = true := mapB_yes ⟨by decide, hp, by decide, by decide, fun i _ _ => rfl⟩
theorem rm_perm {p : Int} (hp : PermOk p) (i : Nat) : (rm p).perm i = if i = 1 then p else 0 := by
  have e : rm p = (Mm.new.mapped 1 1 p).lay 4096 [1, 2, 3, 4, 5, 6, 7, 8] := by unfold rm mappedTo; exact if_pos (rm_ok hp)
  rw [e]; simp only [Mm.lay, Mm.mapped, Mm.new]
  by_cases h : i = 1
  · rw [if_pos h, if_pos (by omega)]
  · rw [if_neg h, if_neg (by omega)]
theorem rm_may {p : Int} (hp : PermOk p) {S : Mm} (hS : ∀ i, S.perm i = (rm p).perm i) (a : Nat) (h0 : 4092 ≤ a) (h1 : a ≤ 8195) (r : Int) (hr : bits .and .i64 0 r = 0) :
    mayB S a 4 r = (decide (4096 ≤ a ∧ a + 4 ≤ 8192) && !(bits .and .i64 p r == 0)) := by
  by_cases h : 4096 ≤ a ∧ a + 4 ≤ 8192
  · rw [mayB_one (i := 1) (q := p) (by decide) (by omega) (by omega) (by rw [hS, rm_perm hp]; rfl), decide_eq_true h]
    simp
  · rw [decide_eq_false h, mayB_no]
    · rfl
    · rintro (h2 | h2)
      · omega
      · by_cases h3 : a < 4096
        · refine h2 0 (by omega) (by omega) ?_
          rw [hS, rm_perm hp, if_neg (by omega)]; exact hr
        · refine h2 2 (by omega) (by omega) ?_
          rw [hS, rm_perm hp, if_neg (by omega)]; exact hr

theorem bytes_18 : Bytes [1, 2, 3, 4, 5, 6, 7, 8] := fun x hx => by simp at hx; omega
theorem bytes_14 : Bytes [1, 2, 3, 4] := fun x hx => by simp at hx; omega

theorem ri_c1 {w0 w : World} {m : Nat} {p : Int} (hp : PermOk p) (h : Own w0 w m Mm.new) :
    Calls Try.prog 12 #[.pointer (some ⟨m, 0, none⟩), .int .u64 4096, .int .u64 4096, .int .i64 p, .slice (some ⟨w.heap.size, 0, none⟩) 8 8]
      (w.alloc (.cells #[.int .u8 1, .int .u8 2, .int .u8 3, .int .u8 4, .int .u8 5, .int .u8 6, .int .u8 7, .int .u8 8] 5)) fun e w' => e = .returned (.int .i64 0) ∧ Own w0 w' m (rm p) :=
  (own_map h 4096 4096 p [1, 2, 3, 4, 5, 6, 7, 8] bytes_18 (by decide) (by simp) (by decide) (by decide) (by have := hp.bd; omega) (by have := hp.bd; omega)).mono fun e w' ⟨h1, h2⟩ =>
    ⟨by rw [h1, show mapB Mm.new 4096 4096 p ([1, 2, 3, 4, 5, 6, 7, 8] : List Int).length = true from rm_ok hp]; rfl, h2⟩
theorem ri_c2 {w0 w : World} {m : Nat} {p : Int} (hp : PermOk p) (h : Own w0 w m (rm p)) (a : Nat) (h0 : 4092 ≤ a) (h1 : a ≤ 8195) (c : Bool) (hc : decide (4096 ≤ a ∧ a + 4 ≤ 8192) = c) :
    Calls Try.prog 14 #[.pointer (some ⟨m, 0, none⟩), .int .u64 (a : Int), .int .i64 4] w fun e w' => ∃ v l, e = .returned (.tuple #[.int .u64 v, .bool l]) ∧ Hid (l = (c && !(bits .and .i64 p 4 == 0))) ∧ Own w0 w' m (rm p) :=
  (own_load h a 4 (by omega) (by decide) (by decide)).mono fun e w' ⟨h2, h3, _⟩ => ⟨_, _, h2, by rw [show numOk (rm p) a 4 4 = mayB (rm p) a 4 4 from rfl, rm_may hp (fun _ => rfl) a h0 h1 4 and_4, hc]; exact rfl, h3⟩
theorem ri_c3 {w0 w : World} {m : Nat} {p : Int} (hp : PermOk p) (h : Own w0 w m (rm p)) (a : Nat) (h0 : 4092 ≤ a) (h1 : a ≤ 8195) (c : Bool) (hc : decide (4096 ≤ a ∧ a + 4 ≤ 8192) = c) :
    Calls Try.prog 18 #[.pointer (some ⟨m, 0, none⟩), .int .u64 (a : Int)] w fun e w' => ∃ v l, e = .returned (.tuple #[.int .u32 v, .bool l]) ∧ Hid (l = (c && !(bits .and .i64 p 1 == 0))) ∧ Own w0 w' m (rm p) :=
  (own_fetch h a (by omega)).mono fun e w' ⟨h2, h3, _⟩ => ⟨_, _, h2, by rw [rm_may hp (fun _ => rfl) a h0 h1 1 and_1, hc]; exact rfl, h3⟩
theorem ri_c4 {w0 w : World} {m : Nat} {p : Int} (hp : PermOk p) (h : Own w0 w m (rm p)) (a : Nat) (h0 : 4092 ≤ a) (h1 : a ≤ 8195) (c : Bool) (hc : decide (4096 ≤ a ∧ a + 4 ≤ 8192) = c) :
    Calls Try.prog 20 #[.pointer (some ⟨m, 0, none⟩), .int .u64 (a : Int), .int .u64 4] w fun e w' => ∃ b n k l, e = .returned (.tuple #[.slice b n k, .bool l]) ∧ Hid (l = (c && !(bits .and .i64 p 4 == 0))) ∧ Own w0 w' m (rm p) :=
  (own_read h a 4 (by omega) (by decide)).mono fun e w' ⟨⟨b, l, k, h2, _⟩, h3, _⟩ => ⟨b, l, k, _, h2, by rw [show manyOk (rm p) a 4 4 = mayB (rm p) a 4 4 from rfl, rm_may hp (fun _ => rfl) a h0 h1 4 and_4, hc]; exact rfl, h3⟩
theorem ri_c5 {w0 w : World} {m : Nat} {p : Int} (hp : PermOk p) (h : Own w0 w m (rm p)) (a : Nat) (h0 : 4092 ≤ a) (h1 : a ≤ 8195) (c : Bool) (hc : decide (4096 ≤ a ∧ a + 4 ≤ 8192) = c) :
    Calls Try.prog 16 #[.pointer (some ⟨m, 0, none⟩), .int .u64 (a : Int), .int .i64 4, .int .u64 9] w fun e w' => ∃ l, e = .returned (.bool l) ∧ Hid (l = (c && !(bits .and .i64 p 2 == 0))) ∧ Own w0 w' m (stored (rm p) a 4 9) :=
  (own_store h a 4 9 (by omega) (by decide) (by decide) (by decide) (by decide)).mono fun e w' ⟨h2, h3⟩ => ⟨_, h2, by rw [show numOk (rm p) a 4 2 = mayB (rm p) a 4 2 from rfl, rm_may hp (fun _ => rfl) a h0 h1 2 and_2, hc]; exact rfl, h3⟩
theorem ri_c6 {w0 w : World} {m : Nat} {p : Int} (hp : PermOk p) (a : Nat) (h : Own w0 w m (stored (rm p) a 4 9)) (h0 : 4092 ≤ a) (h1 : a ≤ 8195) (c : Bool) (hc : decide (4096 ≤ a ∧ a + 4 ≤ 8192) = c) :
    Calls Try.prog 22 #[.pointer (some ⟨m, 0, none⟩), .int .u64 (a : Int), .slice (some ⟨w.heap.size, 0, none⟩) 4 4] (w.alloc (.cells #[.int .u8 1, .int .u8 2, .int .u8 3, .int .u8 4] 5)) fun e w' =>
      ∃ l, e = .returned (.bool l) ∧ Hid (l = (c && !(bits .and .i64 p 2 == 0))) ∧ Below w0.heap.size w0 w' :=
  (own_write h a [1, 2, 3, 4] bytes_14 (by decide) (by omega)).mono fun e w' ⟨h2, h3⟩ => ⟨_, h2, by
    rw [show manyOk (stored (rm p) a 4 9) a ([1, 2, 3, 4] : List Int).length 2 = mayB (stored (rm p) a 4 9) a 4 2 from rfl, rm_may hp (fun i => stored_perm _ _ _ _ i) a h0 h1 2 and_2, hc]; exact rfl, h3.bel⟩

set_option maxRecDepth 20000 in
set_option maxHeartbeats 3200000 in
theorem rights_walk (a0 a1 : Int) (w : World) (p0 : 0 ≤ a0) (p1 : a0 ≤ 255) (q0 : 0 ≤ a1) (q1 : a1 ≤ 65535) :
    Calls Try.prog 7 #[.int .u8 a0, .int .u16 a1] w fun e w' => e = .returned (.bool true) ∧ Below w.heap.size w w' := by
  obtain ⟨k, hk⟩ : ∃ k : Nat, a0 % 5 = k := ⟨(a0 % 5).toNat, by omega⟩
  have hk5 : k < 5 := by omega
  obtain ⟨t, ht⟩ : ∃ t : Nat, a1 % 4104 = t := ⟨(a1 % 4104).toNat, by omega⟩
  have ht4 : t < 4104 := by omega
  obtain ⟨p, hp⟩ : ∃ p, p = rp k := ⟨_, rfl⟩
  have HPo : Hid (PermOk p) := by rw [hp]; exact rp_ok k
  have hTab : ∀ W : World, (W.alloc (.cells #[.int .i64 4, .int .i64 2, .int .i64 1, .int .i64 6, .int .i64 5] 3)).cell? ⟨W.heap.size, k, none⟩ = some (.int .i64 p) := fun W => by rw [hp]; exact rp_tab W k hk5
  have hpb := HPo.out.bd
  clear hp
  obtain ⟨a, ha⟩ : ∃ a : Nat, (4092 : Int) + (t : Int) = (a : Int) := ⟨4092 + t, by omega⟩
  have hal : 4092 ≤ a := by omega
  have hah : a ≤ 8195 := by omega
  have HK := hide known_any
  obtain ⟨c, hc⟩ : ∃ c, decide (4096 ≤ a ∧ a + 4 ≤ 8192) = c := ⟨_, rfl⟩
  have HC := hide hc
  have h3 : (c = true ∧ 4096 ≤ a ∧ a + 4 ≤ 8192) ∨ (c = false ∧ a < 4096) ∨ (c = false ∧ 4096 ≤ a ∧ 8192 < a + 4) := by
    by_cases h1 : 4096 ≤ a
    · by_cases h2 : a + 4 ≤ 8192
      · exact Or.inl ⟨by rw [← hc]; exact decide_eq_true ⟨h1, h2⟩, h1, h2⟩
      · exact Or.inr (Or.inr ⟨by rw [← hc]; exact decide_eq_false (fun h => h2 h.2), h1, by omega⟩)
    · exact Or.inr (Or.inl ⟨by rw [← hc]; exact decide_eq_false (fun h => h1 h.1), by omega⟩)
  clear hc
  rcases h3 with ⟨rfl, x1, x2⟩ | ⟨rfl, x1⟩ | ⟨rfl, x1, x2⟩
  · have d1 : decide ((4096 : Int) ≤ (a : Int)) = true := by simp; omega
    have d2 : decide ((a : Int) + 4 ≤ 8192) = true := by simp; omega
    clear x1 x2
    go_enter Try.func7, Try.ntmps7
    go_wp2_with fail
    refine (HK.out _).mono ?_
    rintro e W1 ⟨rfl, hB1⟩
    have HB1 := hide hB1
    have hT1 := hTab W1
    clear hB1 hTab HK
    go_wp2_with fail
    have hB2 : Below w.heap.size w (W1.alloc (.cells #[.int .i64 4, .int .i64 2, .int .i64 1, .int .i64 6, .int .i64 5] 3)) := HB1.out.alloc HB1.out.size _
    refine (own_new w _ hB2).mono ?_
    rintro e W3 ⟨m, rfl, hO⟩
    have HO := hide hO
    clear hO hB2 HB1 hT1
    go_wp2_with fail
    refine (ri_c1 HPo.out HO.out).mono ?_
    rintro e W4 ⟨rfl, hO⟩
    have HO2 := hide hO
    clear hO HO
    go_wp2_with fail
    refine (ri_c2 HPo.out HO2.out a hal hah _ HC.out).mono ?_
    rintro e W5 ⟨v1, l1, rfl, H1, hO⟩
    have HO := hide hO
    clear hO HO2
    go_wp2_with fail
    refine (ri_c3 HPo.out HO.out a hal hah _ HC.out).mono ?_
    rintro e W6 ⟨v2, l2, rfl, H2, hO⟩
    have HO2 := hide hO
    clear hO HO
    go_wp2_with fail
    refine (ri_c4 HPo.out HO2.out a hal hah _ HC.out).mono ?_
    rintro e W7 ⟨v3, n3, k3, l3, rfl, H3, hO⟩
    have HO := hide hO
    clear hO HO2
    go_wp2_with fail
    refine (ri_c5 HPo.out HO.out a hal hah _ HC.out).mono ?_
    rintro e W8 ⟨l4, rfl, H4, hO⟩
    have HO2 := hide hO
    clear hO HO
    go_wp2_with fail
    refine (ri_c6 HPo.out a HO2.out hal hah _ HC.out).mono ?_
    rintro e W9 ⟨l5, rfl, H5, hB⟩
    have HB := hide hB
    clear hB HO2
    obtain ⟨z4, h4⟩ : ∃ z, (bits .and .i64 p 4 == 0) = z := ⟨_, rfl⟩
    obtain ⟨z2, h2⟩ : ∃ z, (bits .and .i64 p 2 == 0) = z := ⟨_, rfl⟩
    obtain ⟨z1, h1⟩ : ∃ z, (bits .and .i64 p 1 == 0) = z := ⟨_, rfl⟩
    have e1 := H1.out
    have e2 := H2.out
    have e3 := H3.out
    have e4 := H4.out
    have e5 := H5.out
    rw [h4] at e1 e3
    rw [h2] at e4 e5
    rw [h1] at e2
    clear H1 H2 H3 H4 H5
    subst e1 e2 e3 e4 e5
    clear d1 d2
    clear ha hal hah ht ht4 hk hk5 q0 q1 p0 p1
    cases z4 <;> cases z2 <;> cases z1 <;> go_wp2 <;> go_ret <;> refine ⟨?_, HB.out⟩ <;> first | rfl | exact ret_bool (by simp_all)
  · have d1 : decide ((4096 : Int) ≤ (a : Int)) = false := by simp; omega
    clear x1
    go_enter Try.func7, Try.ntmps7
    go_wp2_with fail
    refine (HK.out _).mono ?_
    rintro e W1 ⟨rfl, hB1⟩
    have HB1 := hide hB1
    have hT1 := hTab W1
    clear hB1 hTab HK
    go_wp2_with fail
    have hB2 : Below w.heap.size w (W1.alloc (.cells #[.int .i64 4, .int .i64 2, .int .i64 1, .int .i64 6, .int .i64 5] 3)) := HB1.out.alloc HB1.out.size _
    refine (own_new w _ hB2).mono ?_
    rintro e W3 ⟨m, rfl, hO⟩
    have HO := hide hO
    clear hO hB2 HB1 hT1
    go_wp2_with fail
    refine (ri_c1 HPo.out HO.out).mono ?_
    rintro e W4 ⟨rfl, hO⟩
    have HO2 := hide hO
    clear hO HO
    go_wp2_with fail
    refine (ri_c2 HPo.out HO2.out a hal hah _ HC.out).mono ?_
    rintro e W5 ⟨v1, l1, rfl, H1, hO⟩
    have HO := hide hO
    clear hO HO2
    go_wp2_with fail
    refine (ri_c3 HPo.out HO.out a hal hah _ HC.out).mono ?_
    rintro e W6 ⟨v2, l2, rfl, H2, hO⟩
    have HO2 := hide hO
    clear hO HO
    go_wp2_with fail
    refine (ri_c4 HPo.out HO2.out a hal hah _ HC.out).mono ?_
    rintro e W7 ⟨v3, n3, k3, l3, rfl, H3, hO⟩
    have HO := hide hO
    clear hO HO2
    go_wp2_with fail
    refine (ri_c5 HPo.out HO.out a hal hah _ HC.out).mono ?_
    rintro e W8 ⟨l4, rfl, H4, hO⟩
    have HO2 := hide hO
    clear hO HO
    go_wp2_with fail
    refine (ri_c6 HPo.out a HO2.out hal hah _ HC.out).mono ?_
    rintro e W9 ⟨l5, rfl, H5, hB⟩
    have HB := hide hB
    clear hB HO2
    obtain ⟨z4, h4⟩ : ∃ z, (bits .and .i64 p 4 == 0) = z := ⟨_, rfl⟩
    obtain ⟨z2, h2⟩ : ∃ z, (bits .and .i64 p 2 == 0) = z := ⟨_, rfl⟩
    obtain ⟨z1, h1⟩ : ∃ z, (bits .and .i64 p 1 == 0) = z := ⟨_, rfl⟩
    have e1 := H1.out
    have e2 := H2.out
    have e3 := H3.out
    have e4 := H4.out
    have e5 := H5.out
    rw [h4] at e1 e3
    rw [h2] at e4 e5
    rw [h1] at e2
    clear H1 H2 H3 H4 H5
    subst e1 e2 e3 e4 e5
    clear ha hal hah ht ht4 hk hk5 q0 q1 p0 p1
    cases z4 <;> cases z2 <;> cases z1 <;> go_wp2 <;> go_ret <;> exact ⟨rfl, HB.out⟩
  · have d1 : decide ((4096 : Int) ≤ (a : Int)) = true := by simp; omega
    have d2 : decide ((a : Int) + 4 ≤ 8192) = false := by simp; omega
    clear x1 x2
    go_enter Try.func7, Try.ntmps7
    go_wp2_with fail
    refine (HK.out _).mono ?_
    rintro e W1 ⟨rfl, hB1⟩
    have HB1 := hide hB1
    have hT1 := hTab W1
    clear hB1 hTab HK
    go_wp2_with fail
    have hB2 : Below w.heap.size w (W1.alloc (.cells #[.int .i64 4, .int .i64 2, .int .i64 1, .int .i64 6, .int .i64 5] 3)) := HB1.out.alloc HB1.out.size _
    refine (own_new w _ hB2).mono ?_
    rintro e W3 ⟨m, rfl, hO⟩
    have HO := hide hO
    clear hO hB2 HB1 hT1
    go_wp2_with fail
    refine (ri_c1 HPo.out HO.out).mono ?_
    rintro e W4 ⟨rfl, hO⟩
    have HO2 := hide hO
    clear hO HO
    go_wp2_with fail
    refine (ri_c2 HPo.out HO2.out a hal hah _ HC.out).mono ?_
    rintro e W5 ⟨v1, l1, rfl, H1, hO⟩
    have HO := hide hO
    clear hO HO2
    go_wp2_with fail
    refine (ri_c3 HPo.out HO.out a hal hah _ HC.out).mono ?_
    rintro e W6 ⟨v2, l2, rfl, H2, hO⟩
    have HO2 := hide hO
    clear hO HO
    go_wp2_with fail
    refine (ri_c4 HPo.out HO2.out a hal hah _ HC.out).mono ?_
    rintro e W7 ⟨v3, n3, k3, l3, rfl, H3, hO⟩
    have HO := hide hO
    clear hO HO2
    go_wp2_with fail
    refine (ri_c5 HPo.out HO.out a hal hah _ HC.out).mono ?_
    rintro e W8 ⟨l4, rfl, H4, hO⟩
    have HO2 := hide hO
    clear hO HO
    go_wp2_with fail
    refine (ri_c6 HPo.out a HO2.out hal hah _ HC.out).mono ?_
    rintro e W9 ⟨l5, rfl, H5, hB⟩
    have HB := hide hB
    clear hB HO2
    obtain ⟨z4, h4⟩ : ∃ z, (bits .and .i64 p 4 == 0) = z := ⟨_, rfl⟩
    obtain ⟨z2, h2⟩ : ∃ z, (bits .and .i64 p 2 == 0) = z := ⟨_, rfl⟩
    obtain ⟨z1, h1⟩ : ∃ z, (bits .and .i64 p 1 == 0) = z := ⟨_, rfl⟩
    have e1 := H1.out
    have e2 := H2.out
    have e3 := H3.out
    have e4 := H4.out
    have e5 := H5.out
    rw [h4] at e1 e3
    rw [h2] at e4 e5
    rw [h1] at e2
    clear H1 H2 H3 H4 H5
    subst e1 e2 e3 e4 e5
    clear ha hal hah ht ht4 hk hk5 q0 q1 p0 p1
    cases z4 <;> cases z2 <;> cases z1 <;> go_wp2 <;> go_ret <;> exact ⟨rfl, HB.out⟩

end Go.Proofs.Ytggmeopohpbmlaa
