/- The statements' known: what a memory of two pages answers. -/
import Derived.Test.YtggmeopohpbmlaaMemMapC
namespace Go.Proofs.Ytggmeopohpbmlaa
open Go.RowKit Go.Maps
set_option linter.unusedVariables false

theorem Rd.lit (t : TypeId) (w : World) (xs : List Int) (hb : Bytes xs) (hl : xs.length ≤ 9223372036854775807) :
    Rd (w.alloc (.cells (xs.map (Value.int .u8)).toArray t)) (some ⟨w.heap.size, 0, none⟩) xs.length xs.length xs := by
  refine ⟨rfl, Nat.le_refl _, hl, hb, (fun h => by cases h), fun x hx i hi => ?_⟩
  cases hx
  have e : (⟨w.heap.size, 0, none⟩ : Addr).add i = ⟨w.heap.size, i, none⟩ := by unfold Addr.add; split <;> simp_all
  rw [e, cell_of_row _ _ i _ t (0, 0) (heap_alloc_new w _)]
  simp [hi]

theorem Went.below {F F' : Nat → Prop} {w w' : World} {B : Nat} (h : Went F w F' w') (hB : B ≤ w.heap.size) (hF : ∀ k, F k → B ≤ k) : Below B w w' ∧ (∀ k, F' k → B ≤ k) :=
  ⟨h.1.below hB hF, fun k hk => by
    rcases h.2 k hk with h1 | h1
    · exact hF k h1
    · omega⟩

/-- What a memory of the call's own is: its blocks are new. -/
structure Own (w0 w : World) (m : Nat) (S : Mm) : Prop where
  ex : ∃ F, PM w m S F ∧ ∀ k, F k → w0.heap.size ≤ k
  bel : Below w0.heap.size w0 w

theorem Own.below {w0 w w' : World} {m : Nat} {S : Mm} (h : Own w0 w m S) (hb : Below w.heap.size w w') : Own w0 w' m S := by
  obtain ⟨F, h1, h2⟩ := h.ex
  exact ⟨⟨F, h1.below hb, h2⟩, h.bel.trans (hb.mono h.bel.size)⟩

theorem Own.went {w0 w w' : World} {m : Nat} {S' : Mm} {F : Nat → Prop} (h1 : ∀ k, F k → w0.heap.size ≤ k) (hb : Below w0.heap.size w0 w) (h : ∃ F', PM w' m S' F' ∧ Went F w F' w') : Own w0 w' m S' := by
  obtain ⟨F', h2, h3⟩ := h
  have h4 := h3.below hb.size h1
  exact ⟨⟨F', h2, h4.2⟩, hb.trans h4.1⟩

theorem Own.good {w0 w : World} {m : Nat} {S : Mm} (h : Own w0 w m S) : S.Good := by
  obtain ⟨F, h1, h2⟩ := h.ex
  exact h1.good

theorem own_new (w0 w : World) (hb : Below w0.heap.size w0 w) :
    Calls Try.prog 9 #[] w fun e w' => ∃ m, e = .returned (.pointer (some ⟨m, 0, none⟩)) ∧ Own w0 w' m Mm.new :=
  (new_any w).mono fun e w' ⟨m, F, h1, h2, h3, h4⟩ => ⟨m, h1, ⟨F, h2, fun k hk => Nat.le_trans hb.size (h3 k hk)⟩, hb.trans (h4.mono hb.size)⟩

/-- A slice that is none of a memory's: nil, or in blocks that were there ahead of it, or in new ones that are read alone. -/
theorem own_map {w0 w : World} {m : Nat} {S : Mm} (h : Own w0 w m S) (a0 size : Nat) (p : Int) (xs : List Int) (hb : Bytes xs) (hl : xs.length ≤ 9223372036854775807) (hx : xs ≠ []) (ha : a0 ≤ 18446744073709551615) (hs : size ≤ 18446744073709551615)
    (hp0 : -9223372036854775808 ≤ p) (hp1 : p ≤ 9223372036854775807) :
    Calls Try.prog 12 #[.pointer (some ⟨m, 0, none⟩), .int .u64 (a0 : Int), .int .u64 (size : Int), .int .i64 p, .slice (some ⟨w.heap.size, 0, none⟩) xs.length xs.length] (w.alloc (.cells (xs.map (Value.int .u8)).toArray 5)) fun e w' =>
      e = .returned (.int .i64 (if mapB S a0 size p xs.length = true then 0 else 20)) ∧ Own w0 w' m (mappedTo S a0 size p xs) := by
  obtain ⟨F, h1, h2⟩ := h.ex
  have hbel : Below w.heap.size w (w.alloc (.cells (xs.map (Value.int .u8)).toArray 5)) := (Below.refl _ _).alloc (Nat.le_refl _) _
  refine (map_any m S F a0 size p _ _ _ xs _ (h1.below hbel) ha hs hp0 hp1 (Rd.lit 5 w xs hb hl) (fun _ x hx hf => ?_)).mono ?_
  · cases hx
    have := h1.flt _ hf
    simp at this
  · rintro e w' ⟨h3, h4⟩
    exact ⟨h3, Own.went h2 (h.below hbel).bel h4⟩

theorem own_map0 {w0 w : World} {m : Nat} {S : Mm} (h : Own w0 w m S) (a0 size : Nat) (p : Int) (ha : a0 ≤ 18446744073709551615) (hs : size ≤ 18446744073709551615)
    (hp0 : -9223372036854775808 ≤ p) (hp1 : p ≤ 9223372036854775807) :
    Calls Try.prog 12 #[.pointer (some ⟨m, 0, none⟩), .int .u64 (a0 : Int), .int .u64 (size : Int), .int .i64 p, .slice none 0 0] w fun e w' =>
      e = .returned (.int .i64 (if mapB S a0 size p 0 = true then 0 else 20)) ∧ Own w0 w' m (mappedTo S a0 size p []) := by
  obtain ⟨F, h1, h2⟩ := h.ex
  refine (map_any m S F a0 size p none 0 0 [] w h1 ha hs hp0 hp1 (Rd.nothing w) (fun _ x hx => by cases hx)).mono ?_
  rintro e w' ⟨h3, h4⟩
  exact ⟨h3, Own.went h2 h.bel h4⟩

theorem own_store {w0 w : World} {m : Nat} {S : Mm} (h : Own w0 w m S) (a : Nat) (n v : Int) (ha : a ≤ 18446744073709551615) (hn0 : -9223372036854775808 ≤ n) (hn1 : n ≤ 9223372036854775807) (hv0 : 0 ≤ v) (hv1 : v ≤ 18446744073709551615) :
    Calls Try.prog 16 #[.pointer (some ⟨m, 0, none⟩), .int .u64 (a : Int), .int .i64 n, .int .u64 v] w fun e w' =>
      e = .returned (.bool (numOk S a n 2)) ∧ Own w0 w' m (stored S a n v) := by
  obtain ⟨F, h1, h2⟩ := h.ex
  refine (store_any m S F a n v w h1 ha hn0 hn1 hv0 hv1).mono ?_
  rintro e w' ⟨h3, h4⟩
  exact ⟨h3, Own.went h2 h.bel h4⟩

theorem own_load {w0 w : World} {m : Nat} {S : Mm} (h : Own w0 w m S) (a : Nat) (n : Int) (ha : a ≤ 18446744073709551615) (hn0 : -9223372036854775808 ≤ n) (hn1 : n ≤ 9223372036854775807) :
    Calls Try.prog 14 #[.pointer (some ⟨m, 0, none⟩), .int .u64 (a : Int), .int .i64 n] w fun e w' =>
      e = .returned (.tuple #[.int .u64 (loadV S a n), .bool (numOk S a n 4)]) ∧ Own w0 w' m S ∧ Below w.heap.size w w' := by
  obtain ⟨F, h1, h2⟩ := h.ex
  refine (load_any m S F a n w h1 ha hn0 hn1).mono ?_
  rintro e w' ⟨h3, h4⟩
  exact ⟨h3, h.below h4, h4⟩

theorem own_fetch {w0 w : World} {m : Nat} {S : Mm} (h : Own w0 w m S) (a : Nat) (ha : a ≤ 18446744073709551615) :
    Calls Try.prog 18 #[.pointer (some ⟨m, 0, none⟩), .int .u64 (a : Int)] w fun e w' =>
      e = .returned (.tuple #[.int .u32 (fetchV S a), .bool (mayB S a 4 1)]) ∧ Own w0 w' m S ∧ Below w.heap.size w w' := by
  obtain ⟨F, h1, h2⟩ := h.ex
  refine (fetch_any m S F a w h1 ha).mono ?_
  rintro e w' ⟨h3, h4⟩
  exact ⟨h3, h.below h4, h4⟩

theorem own_size {w0 w : World} {m : Nat} {S : Mm} (h : Own w0 w m S) :
    Calls Try.prog 24 #[.pointer (some ⟨m, 0, none⟩)] w fun e w' => e = .returned (.int .u64 ((S.count * 4096 : Nat) : Int)) ∧ w' = w := by
  obtain ⟨F, h1, h2⟩ := h.ex
  exact size_any m S F w h1

theorem own_perm {w0 w : World} {m : Nat} {S : Mm} (h : Own w0 w m S) (a : Nat) (ha : a ≤ 18446744073709551615) :
    Calls Try.prog 26 #[.pointer (some ⟨m, 0, none⟩), .int .u64 (a : Int)] w fun e w' => e = .returned (.int .i64 (S.perm (a / 4096))) ∧ w' = w := by
  obtain ⟨F, h1, h2⟩ := h.ex
  exact perm_any m S F a w h1 ha

/-- n bytes within one page. -/
theorem mayB_one {S : Mm} {a n i : Nat} {p q : Int} (hn : n ≠ 0) (h1 : a / 4096 = i) (h2 : (a + n - 1) / 4096 = i) (hq : S.perm i = q) : mayB S a n p = !(bits .and .i64 q p == 0) := by
  by_cases h : bits .and .i64 q p = 0
  · rw [mayB_no]
    · simp [h]
    · rintro (h3 | h3)
      · exact hn h3
      · exact h3 i (by omega) (by omega) (by rw [hq]; exact h)
  · rw [mayB_yes]
    · simp [h]
    · refine Or.inr (fun j h3 h4 => ?_)
      obtain rfl : j = i := by omega
      rw [hq]; exact h

/-- The memory of known, and what it answers. -/
noncomputable def kn1 : Mm := mappedTo Mm.new 4096 10 6 [7]
noncomputable def kn2 : Mm := mappedTo kn1 8192 4 1 []
theorem kn1_ok : mapB Mm.new 4096 10 6 1 = true := mapB_yes ⟨by decide, by decide, by decide, by decide, fun i _ _ => rfl⟩
theorem kn1_eq : kn1 = (Mm.new.mapped 1 1 6).lay 4096 [7] := by unfold kn1 mappedTo; exact if_pos kn1_ok
theorem kn1_perm (i : Nat) : kn1.perm i = if i = 1 then 6 else 0 := by
  rw [kn1_eq]; simp only [Mm.lay, Mm.mapped, Mm.new]
  by_cases h : i = 1
  · rw [if_pos h, if_pos (by omega)]
  · rw [if_neg h, if_neg (by omega)]
theorem kn2_ok : mapB kn1 8192 4 1 0 = true := mapB_yes ⟨by decide, by decide, by decide, by rw [kn1_eq]; decide, fun i h1 h2 => by rw [kn1_perm, if_neg (by omega)]⟩
theorem kn2_eq : kn2 = (kn1.mapped 2 1 1).lay 8192 [] := by unfold kn2 mappedTo; exact if_pos kn2_ok
theorem kn2_perm (i : Nat) : kn2.perm i = if i = 2 then 1 else if i = 1 then 6 else 0 := by
  rw [kn2_eq]; simp only [Mm.lay, Mm.mapped]
  rw [kn1_perm]
  by_cases h : i = 2
  · rw [if_pos h, if_pos (by omega)]
  · rw [if_neg h, if_neg (by omega)]
theorem kn2_count : kn2.count = 2 := by rw [kn2_eq, kn1_eq]; rfl
theorem kn2_byte (j : Nat) (h : j < 4096) : kn2.byte (4096 + j) = if j = 0 then 7 else 0 := by
  rw [kn2_eq, kn1_eq]; simp only [Mm.lay, Mm.mapped, Mm.new]
  rw [if_neg (by simp), if_neg (by omega)]
  by_cases hj : j = 0
  · subst hj; simp
  · rw [if_neg (by simp; omega), if_neg hj, if_pos (by omega)]
theorem kn3_no : mapB kn2 4096 1 4 0 = false := mapB_no (fun h => by
  have := h.2.2.2.2 1 (by decide) (by decide)
  rw [kn2_perm] at this
  simp at this)

noncomputable def kn3 : Mm := stored kn2 4097 1 5
theorem kn_load : numOk kn2 4096 2 4 = true ∧ loadV kn2 4096 2 = 7 := by
  have h1 : numOk kn2 4096 2 4 = true := by
    unfold numOk
    rw [mayB_one (i := 1) (q := 6) (by decide) (by decide) (by decide) (by rw [kn2_perm]; rfl)]
    decide
  refine ⟨h1, ?_⟩
  unfold loadV
  rw [if_pos h1]
  have e : kn2.read 4096 (2 : Int).toNat = [kn2.byte (4096 + 0), kn2.byte (4096 + 1)] := rfl
  rw [e, kn2_byte 0 (by decide), kn2_byte 1 (by decide)]
  decide
theorem kn_store : numOk kn2 4097 1 2 = true := by
  unfold numOk
  rw [mayB_one (i := 1) (q := 6) (by decide) (by decide) (by decide) (by rw [kn2_perm]; rfl)]
  decide
theorem kn3_eq : kn3 = kn2.lay 4097 (bytesOf 5 1) := by unfold kn3 stored; exact if_pos kn_store
theorem kn3_perm (i : Nat) : kn3.perm i = kn2.perm i := by rw [kn3_eq]; rfl
theorem kn3_count : kn3.count = 2 := by rw [kn3_eq]; exact kn2_count
theorem kn_store2 : numOk kn3 8192 1 2 = false := by
  unfold numOk
  rw [mayB_one (i := 2) (q := 1) (by decide) (by decide) (by decide) (by rw [kn3_perm, kn2_perm]; rfl)]
  decide
theorem kn3_stay : stored kn3 8192 1 5 = kn3 := by unfold stored; rw [kn_store2]; rfl
theorem kn_fetch : mayB kn3 8192 4 1 = true := by
  rw [mayB_one (i := 2) (q := 1) (by decide) (by decide) (by decide) (by rw [kn3_perm, kn2_perm]; rfl)]
  decide
theorem kn_fetch2 : mayB kn3 4096 4 1 = false := by
  rw [mayB_one (i := 1) (q := 6) (by decide) (by decide) (by decide) (by rw [kn3_perm, kn2_perm]; rfl)]
  decide
theorem kn_map3 : mappedTo kn2 4096 1 4 [] = kn2 := by unfold mappedTo; rw [show mapB kn2 4096 1 4 ([] : List Int).length = false from kn3_no]; rfl

theorem bytes_7 : Bytes [7] := fun x hx => by simp at hx; omega

theorem kn_c1 {w0 w : World} {m : Nat} (h : Own w0 w m Mm.new) :
    Calls Try.prog 12 #[.pointer (some ⟨m, 0, none⟩), .int .u64 4096, .int .u64 10, .int .i64 6, .slice (some ⟨w.heap.size, 0, none⟩) 1 1] (w.alloc (.cells #[.int .u8 7] 5)) fun e w' => e = .returned (.int .i64 0) ∧ Own w0 w' m kn1 :=
  (own_map h 4096 10 6 [7] bytes_7 (by decide) (by simp) (by decide) (by decide) (by decide) (by decide)).mono fun e w' ⟨h1, h2⟩ => ⟨by rw [h1, show mapB Mm.new 4096 10 6 ([7] : List Int).length = true from kn1_ok]; rfl, h2⟩
theorem kn_c2 {w0 w : World} {m : Nat} (h : Own w0 w m kn1) :
    Calls Try.prog 12 #[.pointer (some ⟨m, 0, none⟩), .int .u64 8192, .int .u64 4, .int .i64 1, .slice none 0 0] w fun e w' => e = .returned (.int .i64 0) ∧ Own w0 w' m kn2 :=
  (own_map0 h 8192 4 1 (by decide) (by decide) (by decide) (by decide)).mono fun e w' ⟨h1, h2⟩ => ⟨by rw [h1, kn2_ok]; rfl, h2⟩
theorem kn_c3 {w0 w : World} {m : Nat} (h : Own w0 w m kn2) :
    Calls Try.prog 12 #[.pointer (some ⟨m, 0, none⟩), .int .u64 4096, .int .u64 1, .int .i64 4, .slice none 0 0] w fun e w' => e = .returned (.int .i64 20) ∧ Own w0 w' m kn2 :=
  (own_map0 h 4096 1 4 (by decide) (by decide) (by decide) (by decide)).mono fun e w' ⟨h1, h2⟩ => ⟨by rw [h1, kn3_no]; rfl, by rw [kn_map3] at h2; exact h2⟩
theorem kn_c4 {w0 w : World} {m : Nat} (h : Own w0 w m kn2) :
    Calls Try.prog 14 #[.pointer (some ⟨m, 0, none⟩), .int .u64 4096, .int .i64 2] w fun e w' => e = .returned (.tuple #[.int .u64 7, .bool true]) ∧ Own w0 w' m kn2 :=
  (own_load h 4096 2 (by decide) (by decide) (by decide)).mono fun e w' ⟨h1, h2, _⟩ => ⟨by rw [h1, kn_load.1, kn_load.2], h2⟩
theorem kn_c5 {w0 w : World} {m : Nat} (h : Own w0 w m kn2) :
    Calls Try.prog 16 #[.pointer (some ⟨m, 0, none⟩), .int .u64 4097, .int .i64 1, .int .u64 5] w fun e w' => e = .returned (.bool true) ∧ Own w0 w' m kn3 :=
  (own_store h 4097 1 5 (by decide) (by decide) (by decide) (by decide) (by decide)).mono fun e w' ⟨h1, h2⟩ => ⟨by rw [h1, kn_store], h2⟩
theorem kn_c6 {w0 w : World} {m : Nat} (h : Own w0 w m kn3) :
    Calls Try.prog 16 #[.pointer (some ⟨m, 0, none⟩), .int .u64 8192, .int .i64 1, .int .u64 5] w fun e w' => e = .returned (.bool false) ∧ Own w0 w' m kn3 :=
  (own_store h 8192 1 5 (by decide) (by decide) (by decide) (by decide) (by decide)).mono fun e w' ⟨h1, h2⟩ => ⟨by rw [h1, kn_store2], by rw [kn3_stay] at h2; exact h2⟩
theorem kn_c7 {w0 w : World} {m : Nat} (h : Own w0 w m kn3) :
    Calls Try.prog 18 #[.pointer (some ⟨m, 0, none⟩), .int .u64 8192] w fun e w' => ∃ v, e = .returned (.tuple #[.int .u32 v, .bool true]) ∧ Own w0 w' m kn3 :=
  (own_fetch h 8192 (by decide)).mono fun e w' ⟨h1, h2, _⟩ => ⟨fetchV kn3 8192, by rw [h1, kn_fetch], h2⟩
theorem kn_c8 {w0 w : World} {m : Nat} (h : Own w0 w m kn3) :
    Calls Try.prog 18 #[.pointer (some ⟨m, 0, none⟩), .int .u64 4096] w fun e w' => ∃ v, e = .returned (.tuple #[.int .u32 v, .bool false]) ∧ Own w0 w' m kn3 :=
  (own_fetch h 4096 (by decide)).mono fun e w' ⟨h1, h2, _⟩ => ⟨fetchV kn3 4096, by rw [h1, kn_fetch2], h2⟩
theorem kn_c9 {w0 w : World} {m : Nat} (h : Own w0 w m kn3) :
    Calls Try.prog 24 #[.pointer (some ⟨m, 0, none⟩)] w fun e w' => e = .returned (.int .u64 8192) ∧ w' = w :=
  (own_size h).mono fun e w' ⟨h1, h2⟩ => ⟨by rw [h1, kn3_count]; rfl, h2⟩
theorem kn_c10 {w0 w : World} {m : Nat} (h : Own w0 w m kn3) :
    Calls Try.prog 26 #[.pointer (some ⟨m, 0, none⟩), .int .u64 8195] w fun e w' => e = .returned (.int .i64 1) ∧ w' = w :=
  (own_perm h 8195 (by decide)).mono fun e w' ⟨h1, h2⟩ => ⟨by rw [h1, kn3_perm, kn2_perm]; rfl, h2⟩

set_option maxRecDepth 20000 in
set_option maxHeartbeats 1600000 in
theorem known_any (w : World) : Calls Try.prog 8 #[] w fun e w' => e = .returned (.bool true) ∧ Below w.heap.size w w' := by
  go_enter Try.func8, Try.ntmps8
  go_wp2_with fail
  refine (own_new w w (Below.refl _ _)).mono ?_
  rintro e W1 ⟨m, rfl, hO⟩
  have HO := hide hO
  clear hO
  go_wp2_with fail
  refine (kn_c1 HO.out).mono ?_
  rintro e W2 ⟨rfl, hO⟩
  have HO2 := hide hO
  clear hO HO
  go_wp2_with fail
  refine (kn_c2 HO2.out).mono ?_
  rintro e W3 ⟨rfl, hO⟩
  have HO := hide hO
  clear hO HO2
  go_wp2_with fail
  refine (kn_c3 HO.out).mono ?_
  rintro e W4 ⟨rfl, hO⟩
  have HO2 := hide hO
  clear hO HO
  go_wp2_with fail
  refine (kn_c4 HO2.out).mono ?_
  rintro e W5 ⟨rfl, hO⟩
  have HO := hide hO
  clear hO HO2
  go_wp2_with fail
  refine (kn_c5 HO.out).mono ?_
  rintro e W6 ⟨rfl, hO⟩
  have HO2 := hide hO
  clear hO HO
  go_wp2_with fail
  refine (kn_c6 HO2.out).mono ?_
  rintro e W7 ⟨rfl, hO⟩
  have HO := hide hO
  clear hO HO2
  go_wp2_with fail
  refine (kn_c7 HO.out).mono ?_
  rintro e W8 ⟨v1, rfl, hO⟩
  have HO2 := hide hO
  clear hO HO
  go_wp2_with fail
  refine (kn_c8 HO2.out).mono ?_
  rintro e W9 ⟨v2, rfl, hO⟩
  have HO := hide hO
  clear hO HO2
  go_wp2_with fail
  refine (kn_c9 HO.out).mono ?_
  rintro e W ⟨rfl, rfl⟩
  go_wp2_with fail
  refine (kn_c10 HO.out).mono ?_
  rintro e W ⟨rfl, rfl⟩
  go_wp2
  go_ret
  exact ⟨rfl, HO.out.bel⟩

end Go.Proofs.Ytggmeopohpbmlaa
