/- Groups whose numbers are apart, in plain numbers; a row of rows of numbers that the call makes. -/
import Derived.Test.YtkllbcjbbfpccaaGroupRisesW
import Derived.Test.YtkllbcjbbfpccaaGroupChkR
import Derived.Test.YtkllbcjbbfpccaaRecMore
namespace Go.Proofs.Ytkllbcjbbfpccaa
open Go.RowKit
set_option linter.unusedVariables false
set_option linter.unusedSimpArgs false

/-- Group number j: so many numbers, behind those of the groups ahead. -/
def apL (gs : List Int) (j : Nat) : List Int := (List.range (gs.getD j 0 % 4).toNat).map (fun i : Nat => 1 + riA gs j + (i : Int))
theorem apL_len (gs : List Int) (j : Nat) : (apL gs j).length = (gs.getD j 0 % 4).toNat := by simp [apL]
theorem apL_le (gs : List Int) (j : Nat) : (apL gs j).length ≤ 3 := by rw [apL_len]; omega
theorem apL_mem (gs : List Int) (j : Nat) (x : Int) : x ∈ apL gs j ↔ (1 + riA gs j ≤ x ∧ x < 1 + riA gs (j + 1)) := by
  unfold apL
  rw [List.mem_map]
  simp only [riA, List.mem_range]
  constructor
  · rintro ⟨i, hi, rfl⟩
    omega
  · intro h
    exact ⟨(x - (1 + riA gs j)).toNat, by omega, by omega⟩
theorem apL_at (gs : List Int) (j i : Nat) (h : i < (gs.getD j 0 % 4).toNat) : (apL gs j)[i]? = some (1 + riA gs j + (i : Int)) := by
  unfold apL
  rw [List.getElem?_map, List.getElem?_range h]
  rfl
theorem apL_fit (gs : List Int) (j : Nat) (hj : j ≤ 1000) : ∀ x ∈ apL gs j, -9223372036854775808 ≤ x ∧ x ≤ 9223372036854775807 := by
  intro x hx
  have h1 := (apL_mem gs j x).1 hx
  have h2 := riA_bd gs j
  have h3 := riA_bd gs (j + 1)
  omega
/-- The groups, turned by t. -/
def apT (gs : List Int) (n t : Nat) : List (List Int) := (List.range n).map (fun j => apL gs ((j + t) % n))
theorem apT_len (gs : List Int) (n t : Nat) : (apT gs n t).length = n := by simp [apT]
theorem apT_at (gs : List Int) (n t j : Nat) (h : j < n) : (apT gs n t)[j]? = some (apL gs ((j + t) % n)) := by simp [apT, h]
def apS (gs : List Int) (n : Nat) : List (List Int) := (List.range n).map (apL gs)
theorem apS_len (gs : List Int) (n : Nat) : (apS gs n).length = n := by simp [apS]
theorem apS_at (gs : List Int) (n j : Nat) (h : j < n) : (apS gs n)[j]? = some (apL gs j) := by simp [apS, h]
theorem apS_succ (gs : List Int) (n : Nat) : apS gs (n + 1) = apS gs n ++ [apL gs n] := by simp [apS, List.range_succ]
theorem apL_apart (gs : List Int) (a b : Nat) (hab : a < b) (x : Int) (ha : x ∈ apL gs a) (hb : x ∈ apL gs b) : False := by
  have h1 := (apL_mem gs a x).1 ha
  have h2 := (apL_mem gs b x).1 hb
  have h3 := riA_mono gs (a + 1) (b - (a + 1))
  rw [show a + 1 + (b - (a + 1)) = b by omega] at h3
  omega
theorem turn_inj (n t i k : Nat) (hi : i < n) (hk : k < i) : (i + t) % n ≠ (k + t) % n := by
  intro e
  have h1 : (i + t - (k + t)) % n = 0 := Nat.sub_mod_eq_zero_of_mod_eq e
  rw [show i + t - (k + t) = i - k by omega, Nat.mod_eq_of_lt (by omega)] at h1
  omega
theorem apT_apart (gs : List Int) (n t : Nat) : ¬ grTwo (apT gs n t) := by
  rintro ⟨i, k, x, hk, ⟨m, hm, hx⟩, ⟨m', hm', hx'⟩⟩
  have hi : i < n := by have := (List.getElem?_eq_some_iff.1 hm).1; rwa [apT_len] at this
  rw [apT_at _ _ _ _ hi] at hm
  rw [apT_at _ _ _ _ (by omega)] at hm'
  cases hm
  cases hm'
  have hne := turn_inj n t i k hi hk
  rcases Nat.lt_or_ge ((i + t) % n) ((k + t) % n) with h | h
  · exact apL_apart gs _ _ h x hx hx'
  · exact apL_apart gs _ _ (by omega) x hx' hx
theorem grTwo_of {L : List (List Int)} {i k : Nat} {x : Int} {m m' : List Int} (hne : i ≠ k) (hm : L[i]? = some m) (hx : x ∈ m) (hm' : L[k]? = some m') (hx' : x ∈ m') : grTwo L := by
  rcases Nat.lt_or_ge i k with h | h
  · exact ⟨k, i, x, h, ⟨m', hm', hx'⟩, ⟨m, hm, hx⟩⟩
  · exact ⟨i, k, x, by omega, ⟨m, hm, hx⟩, ⟨m', hm', hx'⟩⟩
theorem ap_some (gs : List Int) : ∀ (n : Nat) (x : Int), 1 ≤ x → x ≤ riA gs n → ∃ j, j < n ∧ x ∈ apL gs j
  | 0, x, h1, h2 => by simp only [riA] at h2; omega
  | n + 1, x, h1, h2 => by
    by_cases h : x ≤ riA gs n
    · obtain ⟨j, hj, hx⟩ := ap_some gs n x h1 h
      exact ⟨j, by omega, hx⟩
    · exact ⟨n, by omega, (apL_mem gs n x).2 (by omega)⟩
theorem turn_back (n t j : Nat) (hj : j < n) : ∃ i, i < n ∧ (i + t) % n = j := by
  refine ⟨(j + (n - t % n)) % n, Nat.mod_lt _ (by omega), ?_⟩
  have h1 : t % n < n := Nat.mod_lt _ (by omega)
  rw [Nat.mod_add_mod]
  have e : j + (n - t % n) + t = j + n * (1 + t / n) := by
    have := Nat.div_add_mod t n
    rw [Nat.mul_add, Nat.mul_one]
    omega
  rw [e, Nat.add_mul_mod_self_left, Nat.mod_eq_of_lt hj]
/-- One of the numbers once more, in another group. -/
theorem ap_again (gs : List Int) (n t k : Nat) (hk : k < n) (x : Int) (h1 : 1 ≤ x) (h2 : x ≤ riA gs n) (m : List Int) (hm : (apT gs n t)[k]? = some m) (hx : x ∉ m) : grTwo ((apT gs n t).set k (m ++ [x])) := by
  obtain ⟨j0, hj0, hxj⟩ := ap_some gs n x h1 h2
  obtain ⟨j, hj, he⟩ := turn_back n t j0 hj0
  have hT := apT_at gs n t j hj
  rw [he] at hT
  have hne : j ≠ k := fun e => by
    subst e
    rw [hT] at hm
    cases hm
    exact hx hxj
  refine grTwo_of (i := k) (k := j) (x := x) (Ne.symm hne) (List.getElem?_set_self (by rw [apT_len]; exact hk)) (by simp) (m' := apL gs j0) ?_ hxj
  rw [List.getElem?_set_ne (Ne.symm hne)]
  exact hT

theorem row_lower {w : World} {B B' : Nat} {e : TypeId} {size : Nat} {v : Value} {n : Nat} {xs : List Value} (h : w.ownsRow B e size v n xs) (hB : B' ≤ B) : w.ownsRow B' e size v n xs := by
  refine ⟨h.1, ?_⟩
  rcases h.2 with h1 | ⟨g, cap, cur, h1, h2, h3⟩
  · exact .inl h1
  · exact .inr ⟨g, cap, cur, h1, by omega, h3⟩
theorem Try.infoInts : (Try.prog.info? 23).map (fun i => (i.zero, i.size, i.bytes)) = some (some (.slice none 0 0), 1, 24) := by kernel_rfl
theorem typ_ne : (3 : TypeId) ≠ 23 := by decide

/-- A row of rows of numbers, all made since w. -/
structure Grs (w : World) (B : Nat) (wr : World) (v : Value) (n : Nat) (vs : List Value) (T : List (List Int)) : Prop where
  row : wr.ownsRow B 23 1 v n vs
  len : T.length = n
  el : ∀ (j : Nat) (m : List Int), T[j]? = some m → ∃ v', vs[j]? = some v' ∧ wr.ownsRow w.heap.size 3 1 v' m.length (m.map (Value.int .i64)) ∧ (m = [] → v' = .slice none 0 0)
  fit : ∀ m ∈ T, ∀ x ∈ m, -9223372036854775808 ≤ x ∧ x ≤ 9223372036854775807
  bel : Below w.heap.size w wr
  hB : w.heap.size ≤ B
theorem Grs.below {w wr W : World} {B n : Nat} {v : Value} {vs : List Value} {T : List (List Int)} (h : Grs w B wr v n vs T) (hb : Below wr.heap.size wr W) : Grs w B W v n vs T :=
  ⟨ownsRow_kept0 h.row hb, h.len, fun j m hm => by
    obtain ⟨v', h1, h2, h3⟩ := h.el j m hm
    exact ⟨v', h1, ownsRow_kept0 h2 hb, h3⟩, h.fit, h.bel.trans (hb.mono h.bel.size), h.hB⟩
theorem Grs.rii {w wr : World} {B n : Nat} {v : Value} {vs : List Value} {T : List (List Int)} (h : Grs w B wr v n vs T) : ∃ a c, v = .slice a n c ∧ Rii wr a n c T := by
  obtain ⟨a, c, h1, h2⟩ := Rv.own h.row
  refine ⟨a, c, h1, Rii.of h2 h.len fun i m hm => ?_⟩
  obtain ⟨v', h3, h4, _⟩ := h.el i m hm
  obtain ⟨a', c', h5, h6⟩ := Ri.own h4 (h.fit m (List.mem_of_getElem? hm))
  subst h5
  exact ⟨a', c', h3, h6⟩
theorem Grs.nil (w wr : World) (B : Nat) (hb : Below w.heap.size w wr) (hB : w.heap.size ≤ B) : Grs w B wr (.slice none 0 0) 0 [] [] := ⟨World.ownsRow_nil _ _ _ _, rfl, fun j m hm => by simp at hm, fun m hm => by simp at hm, hb, hB⟩
/-- One more. -/
theorem Grs.push {w V W9 : World} {B n : Nat} {v v9 v' : Value} {vs : List Value} {T : List (List Int)} {m : List Int} {o : Obj} (h : Grs w B V v n vs T) (hm : V.ownsRow w.heap.size 3 1 v' m.length (m.map (Value.int .i64))) (hn : m = [] → v' = .slice none 0 0)
    (hf : ∀ x ∈ m, -9223372036854775808 ≤ x ∧ x ≤ 9223372036854775807) (hown : W9.ownsRow B 23 1 v9 (n + 1) (vs ++ [v'])) (hgrow : (V.alloc o).grownBy W9 v.ownBlock) : Grs w B W9 v9 (n + 1) (vs ++ [v']) (T ++ [m]) := by
  have z := h.bel.size
  have hvl : vs.length = n := by simpa using h.row.1
  refine ⟨hown, by simp [h.len], fun j q hq => ?_, fun q hq => ?_, (h.bel.alloc z o).grown hgrow (by simp; omega) (fun j hj => Nat.le_trans h.hB (h.row.lt j hj).1), h.hB⟩
  · have hjl : j < n + 1 := by have := (List.getElem?_eq_some_iff.1 hq).1; simp [h.len] at this; omega
    rcases (show j < n ∨ j = n by omega) with hj | hj
    · rw [List.getElem?_append_left (by rw [h.len]; exact hj)] at hq
      obtain ⟨u, h1, h2, h3⟩ := h.el j q hq
      exact ⟨u, by rw [List.getElem?_append_left (by omega)]; exact h1, rows_apart (h2.alloc o) (h.row.alloc o) typ_ne hgrow, h3⟩
    · subst hj
      have e := h.len
      rw [List.getElem?_append_right (by omega), e, Nat.sub_self] at hq
      simp at hq
      subst hq
      exact ⟨v', by rw [List.getElem?_append_right (by omega), hvl, Nat.sub_self]; rfl, rows_apart (hm.alloc o) (h.row.alloc o) typ_ne hgrow, hn⟩
  · rcases List.mem_append.1 hq with h5 | h5
    · exact h.fit q h5
    · rw [List.mem_singleton.1 h5]; exact hf

/-- The address of a row of the call's own that isn't empty. -/
theorem row_at {w : World} {B : Nat} {e : TypeId} {b o n c : Nat} {vs : List Value} (h : w.ownsRow B e 1 (.slice (some ⟨b, o, none⟩) n c) n vs) : o = 0 := by
  rcases h.2 with ⟨h1, _⟩ | ⟨g, cap, cur, h1, _⟩
  · cases h1
  · cases h1
    rfl
/-- One of the rows changed for another that was made since. -/
theorem Grs.store {w V X : World} {B b n c k : Nat} {v' : Value} {vs : List Value} {T : List (List Int)} {m : List Int} (h : Grs w B V (.slice (some ⟨b, 0, none⟩) n c) n vs T) (hb : Below V.heap.size V X) (hk : k < n)
    (hm : X.ownsRow V.heap.size 3 1 v' m.length (m.map (Value.int .i64))) (hne : m ≠ []) (hf : ∀ x ∈ m, -9223372036854775808 ≤ x ∧ x ≤ 9223372036854775807) :
    Grs w B (X.setCell ⟨b, k, none⟩ v') (.slice (some ⟨b, 0, none⟩) n c) n (vs.set k v') (T.set k m) := by
  have g := h.below hb
  have hvl : vs.length = n := by simpa using h.row.1
  have hgr : X.grownBy (X.setCell ⟨b, k, none⟩ v') (some b) := grown_setCells b [v'] k X
  have hbB : B ≤ b := (g.row.lt b rfl).1
  have hz := h.bel.size
  refine ⟨(g.row.stored k v').1, by simp [h.len], fun j q hq => ?_, fun q hq => ?_, g.bel.grown hgr g.bel.size (fun i hi => by cases hi; exact Nat.le_trans h.hB hbB), h.hB⟩
  · by_cases hj : j = k
    · subst hj
      rw [List.getElem?_set_self (by rw [h.len]; exact hk)] at hq
      cases hq
      exact ⟨v', List.getElem?_set_self (by omega), rows_apart (row_lower hm hz) g.row typ_ne hgr, fun e => absurd e hne⟩
    · rw [List.getElem?_set_ne (Ne.symm hj)] at hq
      obtain ⟨u, h1, h2, h3⟩ := g.el j q hq
      exact ⟨u, by rw [List.getElem?_set_ne (Ne.symm hj)]; exact h1, rows_apart h2 g.row typ_ne hgr, h3⟩
  · rcases List.mem_or_eq_of_mem_set hq with h5 | h5
    · exact h.fit q h5
    · rw [h5]; exact hf

end Go.Proofs.Ytkllbcjbbfpccaa
