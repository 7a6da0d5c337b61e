/- The walk of MemApart: a store changes just its bytes, across pages too. -/
import Derived.Test.YtggmeopohpbmlaaMemApartP
namespace Go.Proofs.Ytggmeopohpbmlaa
open Go.RowKit Go.Maps
set_option linter.unusedVariables false

/-- A memory of the call's own, apart from the blocks G. -/
def Apx (w0 w : World) (m : Nat) (S : Mm) (G : Nat → Prop) : Prop :=
  ∃ F, PM w m S F ∧ (∀ k, F k → w0.heap.size ≤ k ∧ ¬ G k) ∧ Below w0.heap.size w0 w ∧ ∀ k, G k → k < w.heap.size

theorem Own.apx {w0 w : World} {m : Nat} {S : Mm} (h : Own w0 w m S) : Apx w0 w m S (fun _ => False) := by
  obtain ⟨F, h1, h2⟩ := h.ex
  exact ⟨F, h1, fun k hk => ⟨h2 k hk, fun h => h⟩, h.bel, fun k h => h.elim⟩

theorem Apx.bel {w0 w : World} {m : Nat} {S : Mm} {G : Nat → Prop} (h : Apx w0 w m S G) : Below w0.heap.size w0 w := by
  obtain ⟨F, h1, h2, h3, h4⟩ := h
  exact h3

theorem apx_read {w0 w : World} {m : Nat} {S : Mm} {G : Nat → Prop} (h : Apx w0 w m S G) (a n : Nat) (ha : a ≤ 18446744073709551615) (hn : n ≤ 18446744073709551615) (hm : manyOk S a n 4 = true) :
    Calls Try.prog 20 #[.pointer (some ⟨m, 0, none⟩), .int .u64 (a : Int), .int .u64 (n : Int)] w fun e w' =>
      ∃ O, e = .returned (.tuple #[.slice (some ⟨O, 0, none⟩) n n, .bool true]) ∧ w0.heap.size ≤ O ∧ ¬ G O ∧ RowOf w' O S a n ∧ Apx w0 w' m S (fun k => G k ∨ k = O) ∧ Below w.heap.size w w' := by
  obtain ⟨F, h1, h2, h3, h4⟩ := h
  refine (read_any m S F a n w h1 ha hn).mono ?_
  rintro e w' ⟨_, h5, h6⟩
  obtain ⟨O, h7, h8, h9⟩ := h5 hm
  refine ⟨O, h7, Nat.le_trans h3.size h8, fun hg => ?_, h9, ⟨F, h1.below h6, fun k hk => ⟨(h2 k hk).1, ?_⟩, h3.trans (h6.mono h3.size), ?_⟩, h6⟩
  · have := h4 O hg; omega
  · rintro (hg | rfl)
    · exact (h2 k hk).2 hg
    · have := h1.flt _ hk; omega
  · rintro k (hg | rfl)
    · have := h4 k hg; have := h6.size; omega
    · exact (Array.getElem?_eq_some_iff.1 h9).1

theorem apx_noread {w0 w : World} {m : Nat} {S : Mm} {G : Nat → Prop} (h : Apx w0 w m S G) (a n : Nat) (ha : a ≤ 18446744073709551615) (hn : n ≤ 18446744073709551615) (hm : manyOk S a n 4 = false) :
    Calls Try.prog 20 #[.pointer (some ⟨m, 0, none⟩), .int .u64 (a : Int), .int .u64 (n : Int)] w fun e w' =>
      e = .returned (.tuple #[.slice none 0 0, .bool false]) ∧ Apx w0 w' m S G ∧ Below w.heap.size w w' := by
  obtain ⟨F, h1, h2, h3, h4⟩ := h
  refine (read_any m S F a n w h1 ha hn).mono ?_
  rintro e w' ⟨h5, _, h6⟩
  exact ⟨h5 hm, ⟨F, h1.below h6, h2, h3.trans (h6.mono h3.size), fun k hk => by have := h4 k hk; have := h6.size; omega⟩, h6⟩

theorem apx_store {w0 w : World} {m : Nat} {S : Mm} {G : Nat → Prop} (h : Apx w0 w m S G) (a : Nat) (n v : Int) (ha : a ≤ 18446744073709551615) (hn0 : -9223372036854775808 ≤ n) (hn1 : n ≤ 9223372036854775807) (hv0 : 0 ≤ v) (hv1 : v ≤ 18446744073709551615) :
    Calls Try.prog 16 #[.pointer (some ⟨m, 0, none⟩), .int .u64 (a : Int), .int .i64 n, .int .u64 v] w fun e w' =>
      e = .returned (.bool (numOk S a n 2)) ∧ Apx w0 w' m (stored S a n v) G ∧ ∀ k, G k → w'.heap[k]? = w.heap[k]? := by
  obtain ⟨F, h1, h2, h3, h4⟩ := h
  refine (store_any m S F a n v w h1 ha hn0 hn1 hv0 hv1).mono ?_
  rintro e w' ⟨h5, F', h6, h7⟩
  have h8 := h7.below h3.size (fun k hk => (h2 k hk).1)
  refine ⟨h5, ⟨F', h6, fun k hk => ⟨h8.2 k hk, fun hg => ?_⟩, h3.trans h8.1, fun k hk => ?_⟩, fun k hk => h7.1.block k (h4 k hk) (fun hf => (h2 k hf).2 hk)⟩
  · rcases h7.2 k hk with h9 | h9
    · exact (h2 k h9).2 hg
    · have := h4 k hg; omega
  · have := h4 k hk; have := h7.1.size; omega

theorem bytes_123 : Bytes [1, 2, 3] := fun x hx => by simp at hx; omega
theorem bytes_987 : Bytes [9, 8, 7] := fun x hx => by simp at hx; omega

theorem ap_c1 {w0 w : World} {m : Nat} (h : Own w0 w m Mm.new) :
    Calls Try.prog 12 #[.pointer (some ⟨m, 0, none⟩), .int .u64 0, .int .u64 4096, .int .i64 6, .slice (some ⟨w.heap.size, 0, none⟩) 3 3]
      (w.alloc (.cells #[.int .u8 1, .int .u8 2, .int .u8 3] 5)) fun e w' => e = .returned (.int .i64 0) ∧ Own w0 w' m ap1 :=
  (own_map h 0 4096 6 [1, 2, 3] bytes_123 (by decide) (by simp) (by decide) (by decide) (by decide) (by decide)).mono fun e w' ⟨h1, h2⟩ =>
    ⟨by rw [h1, show mapB Mm.new 0 4096 6 ([1, 2, 3] : List Int).length = true from ap1_ok]; rfl, h2⟩
theorem ap_c2 {w0 w : World} {m : Nat} {q : Int} (hq : PermOk q) (h : Own w0 w m ap1) :
    Calls Try.prog 12 #[.pointer (some ⟨m, 0, none⟩), .int .u64 4096, .int .u64 4096, .int .i64 q, .slice (some ⟨w.heap.size, 0, none⟩) 3 3]
      (w.alloc (.cells #[.int .u8 9, .int .u8 8, .int .u8 7] 5)) fun e w' => e = .returned (.int .i64 0) ∧ Own w0 w' m (ap2 q) :=
  (own_map h 4096 4096 q [9, 8, 7] bytes_987 (by decide) (by simp) (by decide) (by decide) (by have := hq.bd; omega) (by have := hq.bd; omega)).mono fun e w' ⟨h1, h2⟩ =>
    ⟨by rw [h1, show mapB ap1 4096 4096 q ([9, 8, 7] : List Int).length = true from ap2_ok hq]; rfl, h2⟩

theorem Own.alloc {w0 w : World} {m : Nat} {S : Mm} (h : Own w0 w m S) (o : Obj) : Own w0 (w.alloc o) m S := h.below ((Below.refl _ _).alloc (Nat.le_refl _) _)

theorem store_none {S : Mm} {q : Int} (hS : TwoP S q) {at' k : Nat} (hk8 : 1 ≤ k ∧ k ≤ 8) (hat : at' < 4120) (hw : WidthOk (k : Int)) : numOk S at' (k : Int) 2 = (decide (at' + k ≤ 4096) || !(bits .and .i64 q 2 == 0)) := by
  unfold numOk
  rw [decide_eq_true hw, Int.toNat_natCast, hS.store at' k hk8 hat, Bool.true_and]

end Go.Proofs.Ytggmeopohpbmlaa
