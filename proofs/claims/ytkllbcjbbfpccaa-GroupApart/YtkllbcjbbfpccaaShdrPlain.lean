/- Plain facts on headers of sections: their bytes, and what is read of them. Nothing of the program is named. -/
import Derived.Test.YtkllbcjbbfpccaaHeadPlain
namespace Go.Proofs.Ytkllbcjbbfpccaa
open Go.RowKit
set_option linter.unusedVariables false
set_option linter.unusedSimpArgs false

/-- A header: its ten numbers. -/
structure Sh where
  nm : Nat
  ty : Nat
  fl : Nat
  ad : Nat
  off : Nat
  sz : Nat
  lk : Nat
  nf : Nat
  al : Nat
  en : Nat

structure Sh.Ok (s : Sh) : Prop where
  nm : s.nm < 4294967296
  ty : s.ty < 4294967296
  fl : s.fl < 18446744073709551616
  ad : s.ad < 18446744073709551616
  off : s.off < 18446744073709551616
  sz : s.sz < 18446744073709551616
  lk : s.lk < 4294967296
  nf : s.nf < 4294967296
  al : s.al < 18446744073709551616
  en : s.en < 18446744073709551616

def shL (s : Sh) : List Int :=
  bytesOf s.nm 4 ++ (bytesOf s.ty 4 ++ (bytesOf s.fl 8 ++ (bytesOf s.ad 8 ++ (bytesOf s.off 8 ++ (bytesOf s.sz 8 ++ (bytesOf s.lk 4 ++ (bytesOf s.nf 4 ++ (bytesOf s.al 8 ++ bytesOf s.en 8))))))))
theorem shL_len (s : Sh) : (shL s).length = 64 := by simp [shL, bytesOf_length]
theorem shL_bytes (s : Sh) : Bytes (shL s) := by
  unfold shL
  repeat (first | exact bytesOf_bytes _ _ | refine (bytesOf_bytes _ _).append ?_)

def shsL : List Sh → List Int
  | [] => []
  | s :: l => shL s ++ shsL l
theorem shsL_len : ∀ l : List Sh, (shsL l).length = 64 * l.length
  | [] => rfl
  | s :: l => by rw [shsL, List.length_append, shL_len, shsL_len l, List.length_cons]; omega
theorem shsL_bytes : ∀ l : List Sh, Bytes (shsL l)
  | [] => Bytes.nil
  | s :: l => (shL_bytes s).append (shsL_bytes l)
theorem shsL_append : ∀ l m : List Sh, shsL (l ++ m) = shsL l ++ shsL m
  | [], m => rfl
  | s :: l, m => by rw [List.cons_append, shsL, shsL, shsL_append l m, List.append_assoc]
theorem shsL_take (l : List Sh) (j : Nat) (s : Sh) (h : l[j]? = some s) : shsL (l.take (j + 1)) = shsL (l.take j) ++ shL s := by
  rw [List.take_add_one, h, shsL_append]
  simp [shsL]

/-- The header that is read at a place. -/
def shAt (bs : List Int) (o : Nat) : Sh :=
  ⟨(got bs (o : Int) 4).toNat, (got bs ((o + 4 : Nat) : Int) 4).toNat, (got bs ((o + 8 : Nat) : Int) 8).toNat, (got bs ((o + 16 : Nat) : Int) 8).toNat, (got bs ((o + 24 : Nat) : Int) 8).toNat, (got bs ((o + 32 : Nat) : Int) 8).toNat,
    (got bs ((o + 40 : Nat) : Int) 4).toNat, (got bs ((o + 44 : Nat) : Int) 4).toNat, (got bs ((o + 48 : Nat) : Int) 8).toNat, (got bs ((o + 56 : Nat) : Int) 8).toNat⟩

theorem got_mid (A B C : List Int) (v n : Nat) (hB : B = bytesOf (v : Int) n) (hv : v < 256 ^ n) : got (A ++ (B ++ C)) (A.length : Int) n = (v : Int) := by
  have hl : B.length = n := by rw [hB, bytesOf_length]
  rw [got_seg _ A.length n (by simp [hl])]
  have hs : seg (A ++ (B ++ C)) A.length n = B := by
    unfold seg
    rw [List.drop_left, ← hl, List.take_left]
  rw [hs, hB, num_bytesN, Nat.mod_eq_of_lt hv]

theorem got_part (A S C : List Int) (k n v : Nat) (pre post : List Int) (hS : S = pre ++ (bytesOf (v : Int) n ++ post)) (hk : pre.length = k) (hv : v < 256 ^ n) : got (A ++ (S ++ C)) ((A.length + k : Nat) : Int) n = (v : Int) := by
  have e : A ++ (S ++ C) = (A ++ pre) ++ (bytesOf (v : Int) n ++ (post ++ C)) := by rw [hS]; simp only [List.append_assoc]
  have hl : A.length + k = (A ++ pre).length := by simp [hk]
  rw [e, hl]
  exact got_mid _ _ _ v n rfl hv

theorem shAt_mid (A C : List Int) (s : Sh) (h : s.Ok) : shAt (A ++ (shL s ++ C)) A.length = s := by
  obtain ⟨nm, ty, fl, ad, off, sz, lk, nf, al, en⟩ := s
  have h0 := got_part A (shL ⟨nm, ty, fl, ad, off, sz, lk, nf, al, en⟩) C 0 4 nm [] _ rfl rfl h.nm
  have h1 := got_part A (shL ⟨nm, ty, fl, ad, off, sz, lk, nf, al, en⟩) C 4 4 ty (bytesOf nm 4) _ rfl rfl h.ty
  have h2 := got_part A (shL ⟨nm, ty, fl, ad, off, sz, lk, nf, al, en⟩) C 8 8 fl (bytesOf nm 4 ++ bytesOf ty 4) (bytesOf ad 8 ++ (bytesOf off 8 ++ (bytesOf sz 8 ++ (bytesOf lk 4 ++ (bytesOf nf 4 ++ (bytesOf al 8 ++ bytesOf en 8)))))) (by simp only [shL, List.append_assoc]) rfl h.fl
  have h3 := got_part A (shL ⟨nm, ty, fl, ad, off, sz, lk, nf, al, en⟩) C 16 8 ad (bytesOf nm 4 ++ (bytesOf ty 4 ++ bytesOf fl 8)) (bytesOf off 8 ++ (bytesOf sz 8 ++ (bytesOf lk 4 ++ (bytesOf nf 4 ++ (bytesOf al 8 ++ bytesOf en 8))))) (by simp only [shL, List.append_assoc]) rfl h.ad
  have h4 := got_part A (shL ⟨nm, ty, fl, ad, off, sz, lk, nf, al, en⟩) C 24 8 off (bytesOf nm 4 ++ (bytesOf ty 4 ++ (bytesOf fl 8 ++ bytesOf ad 8))) (bytesOf sz 8 ++ (bytesOf lk 4 ++ (bytesOf nf 4 ++ (bytesOf al 8 ++ bytesOf en 8)))) (by simp only [shL, List.append_assoc]) rfl h.off
  have h5 := got_part A (shL ⟨nm, ty, fl, ad, off, sz, lk, nf, al, en⟩) C 32 8 sz (bytesOf nm 4 ++ (bytesOf ty 4 ++ (bytesOf fl 8 ++ (bytesOf ad 8 ++ bytesOf off 8)))) (bytesOf lk 4 ++ (bytesOf nf 4 ++ (bytesOf al 8 ++ bytesOf en 8))) (by simp only [shL, List.append_assoc]) rfl h.sz
  have h6 := got_part A (shL ⟨nm, ty, fl, ad, off, sz, lk, nf, al, en⟩) C 40 4 lk (bytesOf nm 4 ++ (bytesOf ty 4 ++ (bytesOf fl 8 ++ (bytesOf ad 8 ++ (bytesOf off 8 ++ bytesOf sz 8))))) (bytesOf nf 4 ++ (bytesOf al 8 ++ bytesOf en 8)) (by simp only [shL, List.append_assoc]) rfl h.lk
  have h7 := got_part A (shL ⟨nm, ty, fl, ad, off, sz, lk, nf, al, en⟩) C 44 4 nf (bytesOf nm 4 ++ (bytesOf ty 4 ++ (bytesOf fl 8 ++ (bytesOf ad 8 ++ (bytesOf off 8 ++ (bytesOf sz 8 ++ bytesOf lk 4)))))) (bytesOf al 8 ++ bytesOf en 8) (by simp only [shL, List.append_assoc]) rfl h.nf
  have h8 := got_part A (shL ⟨nm, ty, fl, ad, off, sz, lk, nf, al, en⟩) C 48 8 al (bytesOf nm 4 ++ (bytesOf ty 4 ++ (bytesOf fl 8 ++ (bytesOf ad 8 ++ (bytesOf off 8 ++ (bytesOf sz 8 ++ (bytesOf lk 4 ++ bytesOf nf 4))))))) (bytesOf en 8) (by simp only [shL, List.append_assoc]) rfl h.al
  have h9 := got_part A (shL ⟨nm, ty, fl, ad, off, sz, lk, nf, al, en⟩) C 56 8 en (bytesOf nm 4 ++ (bytesOf ty 4 ++ (bytesOf fl 8 ++ (bytesOf ad 8 ++ (bytesOf off 8 ++ (bytesOf sz 8 ++ (bytesOf lk 4 ++ (bytesOf nf 4 ++ bytesOf al 8)))))))) [] (by simp only [shL, List.append_assoc, List.append_nil]) rfl h.en
  unfold shAt
  rw [Nat.add_zero] at h0
  rw [h0, h1, h2, h3, h4, h5, h6, h7, h8, h9]
  simp only [Int.toNat_natCast]

theorem shAt_list (A C : List Int) (l : List Sh) (j : Nat) (s : Sh) (hj : l[j]? = some s) (h : s.Ok) : shAt (A ++ (shsL l ++ C)) (A.length + 64 * j) = s := by
  have hlt : j < l.length := by
    rcases Nat.lt_or_ge j l.length with h5 | h5
    · exact h5
    · rw [List.getElem?_eq_none h5] at hj; cases hj
  have e : l = l.take j ++ (s :: l.drop (j + 1)) := by
    have h1 := List.take_append_drop j l
    rw [List.drop_eq_getElem_cons hlt] at h1
    rw [List.getElem?_eq_getElem hlt] at hj
    cases hj
    exact h1.symm
  have e2 : A ++ (shsL l ++ C) = (A ++ shsL (l.take j)) ++ (shL s ++ (shsL (l.drop (j + 1)) ++ C)) := by
    rw [e, shsL_append, shsL]
    simp only [List.append_assoc]
    rw [← e]
  have e3 : A.length + 64 * j = (A ++ shsL (l.take j)).length := by
    rw [List.length_append, shsL_len, List.length_take, Nat.min_eq_left (by omega)]
  rw [e2, e3]
  exact shAt_mid _ _ s h

theorem shAt_ok {bs : List Int} (hb : Bytes bs) (o : Nat) : (shAt bs o).Ok := by
  have h4 : ∀ k : Int, (got bs k 4).toNat < 4294967296 := fun k => by
    have h0 := got_nonneg hb k 4
    have h1 := got_lt hb k 4
    have e2 : (2 : Int) ^ (8 * 4) = 4294967296 := by decide
    omega
  have h8 : ∀ k : Int, (got bs k 8).toNat < 18446744073709551616 := fun k => by
    have h0 := got_nonneg hb k 8
    have h1 := got_lt hb k 8
    have e2 : (2 : Int) ^ (8 * 8) = 18446744073709551616 := by decide
    omega
  exact ⟨h4 _, h4 _, h8 _, h8 _, h8 _, h8 _, h4 _, h4 _, h8 _, h8 _⟩

end Go.Proofs.Ytkllbcjbbfpccaa
