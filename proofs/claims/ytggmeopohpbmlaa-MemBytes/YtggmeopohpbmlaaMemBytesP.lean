/- Plain facts and contracts for MemBytes. -/
import Derived.Test.YtggmeopohpbmlaaMemPair
namespace Go.Proofs.Ytggmeopohpbmlaa
open Go.RowKit Go.Maps
set_option linter.unusedVariables false

theorem read_rd (m : Nat) (S : Mm) (F : Nat → Prop) (a n : Nat) (w : World) (h : PM w m S F) (ha : a ≤ 18446744073709551615) (hn : n ≤ 18446744073709551615) :
    Calls Try.prog 20 #[.pointer (some ⟨m, 0, none⟩), .int .u64 (a : Int), .int .u64 (n : Int)] w fun e w' =>
      (∃ b l c, e = .returned (.tuple #[.slice b l c, .bool (manyOk S a n 4)]) ∧ Rd w' b l c (if manyOk S a n 4 = true then S.read a n else [])) ∧ Below w.heap.size w w' := by
  refine (read_any m S F a n w h ha hn).mono ?_
  rintro e w' ⟨h3, h4, h5⟩
  refine ⟨?_, h5⟩
  cases hm : manyOk S a n 4 with
  | false => exact ⟨none, 0, 0, h3 hm, Rd.nothing w'⟩
  | true =>
    obtain ⟨O, h6, h7, h8⟩ := h4 hm
    have hn6 : n ≤ 65536 := by
      unfold manyOk at hm
      simp at hm
      exact hm.1
    refine ⟨_, n, n, h6, ?_, Nat.le_refl _, by omega, ?_, (fun h => by cases h), fun x hx i hi => ?_⟩
    · simp [Mm.read_length]
    · simpa using Mm.read_bytes h.good a n
    · cases hx
      rw [show (⟨O, 0, none⟩ : Addr).add i = ⟨O, i, none⟩ by unfold Addr.add; split <;> simp_all, cell_of_row _ _ _ _ _ _ h8]
      simp [Mm.read_at S a n i hi]

/-- A second memory. -/
theorem new_two {w0 w : World} {m : Nat} {S : Mm} (h : Own w0 w m S) :
    Calls Try.prog 9 #[] w fun e w' => ∃ m2, e = .returned (.pointer (some ⟨m2, 0, none⟩)) ∧ Pair w0 w' (fun w F => PM w m S F) (fun w F => PM w m2 Mm.new F) := by
  obtain ⟨F, h1, h2⟩ := h.ex
  refine (new_any w).mono ?_
  rintro e w' ⟨m2, G, h3, h4, h5, h6⟩
  exact ⟨m2, h3, F, G, h1.below h6, h4, h2, fun k hk => Nat.le_trans h.bel.size (h5 k hk), fun k hf hg => by have := h1.flt k hf; have := h5 k hg; omega, h.bel.trans (h6.mono h.bel.size)⟩

/-- An argument's bytes lie in no memory of the call's own. -/
theorem arg_apart {w0 : World} {a : Option Addr} {len cap : Nat} {bs : List Int} (r : Rd w0 a len cap bs) {F : Nat → Prop} (h : ∀ k, F k → w0.heap.size ≤ k) : 0 < len → ∀ x, a = some x → ¬ F x.block := by
  intro hl x hx hf
  have h1 := World.block_lt_of_cell? w0 _ (r.cell x hx 0 hl)
  have e : (x.add 0).block = x.block := by unfold Addr.add; split <;> rfl
  rw [e] at h1
  have := h _ hf
  omega

/-- Three pages that may be read and written. -/
noncomputable def by0 : Mm := mappedTo Mm.new 0 12288 6 []
theorem by0_ok : mapB Mm.new 0 12288 6 0 = true := mapB_yes ⟨by decide, by decide, by decide, by decide, fun i _ _ => rfl⟩
theorem by0_perm (i : Nat) (h : i < 3) : by0.perm i = 6 := by
  have e : by0 = (Mm.new.mapped 0 3 6).lay 0 [] := by unfold by0 mappedTo; exact if_pos by0_ok
  rw [e]; simp only [Mm.lay, Mm.mapped, Mm.new]
  rw [if_pos (by omega)]
theorem by0_may {S : Mm} (hS : ∀ i, S.perm i = by0.perm i) (a n : Nat) (h : a + n ≤ 12288) (p : Int) (hp : bits .and .i64 6 p ≠ 0) : mayB S a n p = true := mayB_yes (by
  by_cases hn : n = 0
  · exact Or.inl hn
  · refine Or.inr (fun i h1 h2 => ?_)
    rw [hS, by0_perm i (by omega)]
    exact hp)

theorem by_map {w0 w : World} {m : Nat} {Q : World → (Nat → Prop) → Prop} (hQ : Lasts Q) (h : Pair w0 w (fun w F => PM w m Mm.new F) Q) :
    Calls Try.prog 12 #[.pointer (some ⟨m, 0, none⟩), .int .u64 0, .int .u64 12288, .int .i64 6, .slice none 0 0] w fun e w' => e = .returned (.int .i64 0) ∧ Pair w0 w' (fun w F => PM w m by0 F) Q :=
  h.left (C := fun _ => True) hQ _ _ (fun e => e = .returned (.int .i64 0)) (fun F h1 h2 => (map_any m Mm.new F 0 12288 6 none 0 0 [] w h1 (by decide) (by decide) (by decide) (by decide) (Rd.nothing w) (fun _ x hx => by cases hx)).mono fun e w' ⟨h3, h4⟩ =>
    ⟨by rw [h3, by0_ok]; rfl, h4⟩)

theorem by_write {w0 w : World} {m : Nat} {Q : World → (Nat → Prop) → Prop} (hQ : Lasts Q) (h : Pair w0 w (fun w F => PM w m by0 F) Q) (t : Nat) (ht : t < 8200) {a : Option Addr} {len cap : Nat} {bs : List Int} (r : Rd w0 a len cap bs) (hl : len ≤ 300) :
    Calls Try.prog 22 #[.pointer (some ⟨m, 0, none⟩), .int .u64 (t : Int), .slice a len cap] w fun e w' => e = .returned (.bool true) ∧ Pair w0 w' (fun w F => PM w m (by0.lay t bs) F) Q := by
  have hok : manyOk by0 t len 2 = true := by
    unfold manyOk
    rw [by0_may (fun _ => rfl) t len (by omega) 2 (by decide), decide_eq_true (by omega : len ≤ 65536)]; rfl
  have hb := h.bel
  exact h.left (C := fun _ => True) hQ _ _ (fun e => e = .returned (.bool true)) (fun F h1 h2 => (write_any m by0 F t a len cap bs w h1 (by omega) (r.below hb) (arg_apart r h2)).mono fun e w' ⟨h3, h4⟩ =>
    ⟨by rw [h3, hok], by rw [hok] at h4; exact h4⟩)

theorem bytesOf_one (z y : Int) (h : z % 256 = y) : bytesOf z 1 = [y] := by
  simp [bytesOf, byteOf, List.range_succ, h]

theorem by_store {w0 w : World} {m : Nat} {Q : World → (Nat → Prop) → Prop} (hQ : Lasts Q) (t j : Nat) (bs : List Int) (hj : j < bs.length) (h : Pair w0 w (fun w F => PM w m (by0.lay t (bs.take j)) F) Q) (hl : bs.length ≤ 300) (ht : t < 8200)
    (z : Int) (hz0 : 0 ≤ z) (hz1 : z ≤ 18446744073709551615) (hz : z % 256 = bs[j]?.getD 0) (A : Nat) (hA : A = t + j) :
    Calls Try.prog 16 #[.pointer (some ⟨m, 0, none⟩), .int .u64 (A : Int), .int .i64 1, .int .u64 z] w fun e w' => e = .returned (.bool true) ∧ Pair w0 w' (fun w F => PM w m (by0.lay t (bs.take (j + 1))) F) Q := by
  have hok : numOk (by0.lay t (bs.take j)) A 1 2 = true := by
    unfold numOk
    rw [by0_may (S := by0.lay t (bs.take j)) (fun _ => rfl) A (1 : Int).toNat (by show A + 1 ≤ _; omega) 2 (by decide)]; rfl
  have hst : stored (by0.lay t (bs.take j)) A 1 z = by0.lay t (bs.take (j + 1)) := by
    unfold stored
    rw [if_pos hok]
    have e1 : bytesOf z (1 : Int).toNat = [bs[j]?.getD 0] := bytesOf_one z _ hz
    rw [e1, hA]
    have e2 : (bs.take j).length = j := by simp; omega
    have e3 := Mm.lay_more by0 t (bs.take j) [bs[j]?.getD 0]
    rw [e2] at e3
    rw [e3, ← take_snoc bs j hj]
  exact h.left (C := fun _ => True) hQ _ _ (fun e => e = .returned (.bool true)) (fun F h1 h2 => (store_any m _ F A 1 z w h1 (by omega) (by decide) (by decide) hz0 hz1).mono fun e w' ⟨h3, h4⟩ =>
    ⟨by rw [h3, hok], by rw [hst] at h4; exact h4⟩)

theorem by_read {w0 w : World} {m : Nat} {Q : World → (Nat → Prop) → Prop} (hQ : Lasts Q) (t : Nat) (bs : List Int) (h : Pair w0 w (fun w F => PM w m (by0.lay t bs) F) Q) :
    Calls Try.prog 20 #[.pointer (some ⟨m, 0, none⟩), .int .u64 0, .int .u64 12288] w fun e w' => (∃ b l c, e = .returned (.tuple #[.slice b l c, .bool true]) ∧ Rd w' b l c ((by0.lay t bs).read 0 12288) ∧ Below w.heap.size w w') ∧ Pair w0 w' (fun w F => PM w m (by0.lay t bs) F) Q := by
  have hok : manyOk (by0.lay t bs) 0 12288 4 = true := by
    unfold manyOk
    rw [by0_may (S := by0.lay t bs) (fun _ => rfl) 0 12288 (by omega) 4 (by decide)]; rfl
  refine h.ask (pm_lasts m _) hQ _ _ (fun e w' => ∃ b l c, e = .returned (.tuple #[.slice b l c, .bool true]) ∧ Rd w' b l c ((by0.lay t bs).read 0 12288) ∧ Below w.heap.size w w') (fun F h1 => (read_rd m _ F 0 12288 w h1 (by decide) (by decide)).mono ?_)
  rintro e w' ⟨⟨b, l, c, h2, h3⟩, h4⟩
  rw [hok] at h2 h3
  exact ⟨⟨b, l, c, h2, h3, h4⟩, h4⟩

/-- The bytes of a number that bytes make. -/
theorem byteOf_num : ∀ (l : List Int) (k : Nat), Bytes l → k < l.length → byteOf (num l) k = l[k]?.getD 0
  | [], k, _, h => by simp at h
  | x :: r, 0, hb, h => by
    have h1 := hb x (by simp)
    simp only [num, byteOf, List.getElem?_cons_zero, Option.getD_some, Nat.mul_zero, Int.pow_zero, Int.ediv_one]
    omega
  | x :: r, k + 1, hb, h => by
    have h1 := hb x (by simp)
    have ih := byteOf_num r k (fun y hy => hb y (by simp [hy])) (by simpa using h)
    simp only [List.getElem?_cons_succ]
    rw [← ih]
    unfold byteOf
    simp only [num]
    have e : (2 : Int) ^ (8 * (k + 1)) = 256 * 2 ^ (8 * k) := by rw [Nat.mul_add, Int.pow_add, Int.mul_comm]; rfl
    rw [e, ← Int.ediv_ediv_of_nonneg (by decide)]
    have e2 : (x + 256 * num r) / 256 = num r := by omega
    rw [e2]

theorem lay_read (S : Mm) (t i n : Nat) (bs : List Int) (h : i + n ≤ bs.length) : (S.lay t bs).read (t + i) n = (bs.drop i).take n := by
  apply List.ext_getElem?
  intro j
  by_cases hj : j < n
  · rw [Mm.read_at _ _ _ _ hj, List.getElem?_take, if_pos hj, List.getElem?_drop]
    simp only [Mm.lay]
    rw [if_pos (by omega)]
    have e : t + i + j - t = i + j := by omega
    rw [e]
    have h2 : i + j < bs.length := by omega
    simp [h2]
  · rw [List.getElem?_eq_none (by rw [Mm.read_length]; omega), List.getElem?_eq_none (by simp; omega)]

theorem by_load {w0 w : World} {m : Nat} {Q : World → (Nat → Prop) → Prop} (hQ : Lasts Q) (t i : Nat) (bs : List Int) (h : Pair w0 w (fun w F => PM w m (by0.lay t bs) F) Q) (hi : i + 8 ≤ bs.length) (hl : bs.length ≤ 300) (ht : t < 8200) (A : Nat) (hA : A = t + i) :
    Calls Try.prog 14 #[.pointer (some ⟨m, 0, none⟩), .int .u64 (A : Int), .int .i64 8] w fun e w' => (e = .returned (.tuple #[.int .u64 (num ((bs.drop i).take 8)), .bool true])) ∧ Pair w0 w' (fun w F => PM w m (by0.lay t bs) F) Q := by
  have hok : numOk (by0.lay t bs) A 8 4 = true := by
    unfold numOk
    rw [by0_may (S := by0.lay t bs) (fun _ => rfl) A (8 : Int).toNat (by show A + 8 ≤ _; omega) 4 (by decide)]; rfl
  have hv : loadV (by0.lay t bs) A 8 = num ((bs.drop i).take 8) := by
    unfold loadV
    rw [if_pos hok, hA]
    exact congrArg num (lay_read by0 t i 8 bs hi)
  refine h.ask (pm_lasts m _) hQ _ _ (fun e w' => e = .returned (.tuple #[.int .u64 (num ((bs.drop i).take 8)), .bool true])) (fun F h1 => (load_any m _ F A 8 w h1 (by omega) (by decide) (by decide)).mono ?_)
  rintro e w' ⟨h2, h4⟩
  rw [hok, hv] at h2
  exact ⟨h2, h4⟩

theorem or_ff : ∀ y : Nat, y < 256 → bits .or .u64 (y : Int) 65280 = (y : Int) + 65280 := by decide +kernel

end Go.Proofs.Ytggmeopohpbmlaa
