/- Headers of sections in memory: as a value, in a block of their own, in a slice that is read; what the rules say of one. -/
import Derived.Test.YtmmbahblnmhhmaaShdrPlain
import Derived.Test.YtmmbahblnmhhmaaStrGet
import Derived.Test.YtmmbahblnmhhmaaStrRs
import Derived.Test.YtmmbahblnmhhmaaHeadRef
import Derived.Test.YtmmbahblnmhhmaaSpan
namespace Go.Proofs.Ytmmbahblnmhhmaa
open Go.RowKit
set_option linter.unusedVariables false
set_option linter.unusedSimpArgs false

def Sh.cells (s : Sh) : List Value := [.int .u32 (s.nm : Int), .int .u32 (s.ty : Int), .int .u64 (s.fl : Int), .int .u64 (s.ad : Int), .int .u64 (s.off : Int), .int .u64 (s.sz : Int), .int .u32 (s.lk : Int), .int .u32 (s.nf : Int), .int .u64 (s.al : Int), .int .u64 (s.en : Int)]
/-- A header as a value. -/
def shV (s : Sh) : Value := .agg #[.int .u32 (s.nm : Int), .int .u32 (s.ty : Int), .int .u64 (s.fl : Int), .int .u64 (s.ad : Int), .int .u64 (s.off : Int), .int .u64 (s.sz : Int), .int .u32 (s.lk : Int), .int .u32 (s.nf : Int), .int .u64 (s.al : Int), .int .u64 (s.en : Int)]
def sh0 : Sh := ⟨0, 0, 0, 0, 0, 0, 0, 0, 0, 0⟩

theorem Sh.ext' {s t : Sh} (h0 : s.nm = t.nm) (h1 : s.ty = t.ty) (h2 : s.fl = t.fl) (h3 : s.ad = t.ad) (h4 : s.off = t.off) (h5 : s.sz = t.sz) (h6 : s.lk = t.lk) (h7 : s.nf = t.nf) (h8 : s.al = t.al) (h9 : s.en = t.en) : s = t := by
  cases s; cases t; simp_all

/-- A header in a block of its own. -/
def ShB (w : World) (b : Nat) (s : Sh) : Prop := w.heap[b]? = some (.cells s.cells.toArray 47 (0, 0))
theorem ShB.new (w : World) (s : Sh) : ShB (w.alloc (.cells s.cells.toArray 47)) w.heap.size s := heap_alloc_new w _
theorem ShB.below {w w' : World} {B b : Nat} {s : Sh} (h : ShB w b s) (hB : b < B) (hb : Below B w w') : ShB w' b s := (hb.block b hB).trans h
theorem ShB.lt {w : World} {b : Nat} {s : Sh} (h : ShB w b s) : b < w.heap.size := (Array.getElem?_eq_some_iff.1 h).1
theorem ShB.drew {w : World} {b : Nat} {s : Sh} (h : ShB w b s) : ShB w.drew b s := h
/-- Its cells. -/
structure ShC (w : World) (b o : Nat) (s : Sh) : Prop where
  c0 : w.cell? ⟨b, o, none⟩ = some (.int .u32 (s.nm : Int))
  c1 : w.cell? ⟨b, o + 1, none⟩ = some (.int .u32 (s.ty : Int))
  c2 : w.cell? ⟨b, o + 2, none⟩ = some (.int .u64 (s.fl : Int))
  c3 : w.cell? ⟨b, o + 3, none⟩ = some (.int .u64 (s.ad : Int))
  c4 : w.cell? ⟨b, o + 4, none⟩ = some (.int .u64 (s.off : Int))
  c5 : w.cell? ⟨b, o + 5, none⟩ = some (.int .u64 (s.sz : Int))
  c6 : w.cell? ⟨b, o + 6, none⟩ = some (.int .u32 (s.lk : Int))
  c7 : w.cell? ⟨b, o + 7, none⟩ = some (.int .u32 (s.nf : Int))
  c8 : w.cell? ⟨b, o + 8, none⟩ = some (.int .u64 (s.al : Int))
  c9 : w.cell? ⟨b, o + 9, none⟩ = some (.int .u64 (s.en : Int))
theorem ShC.of {w : World} {b o : Nat} {s : Sh} (h : ∀ j, j < 10 → w.cell? ⟨b, o + j, none⟩ = s.cells[j]?) : ShC w b o s :=
  ⟨h 0 (by omega), h 1 (by omega), h 2 (by omega), h 3 (by omega), h 4 (by omega), h 5 (by omega), h 6 (by omega), h 7 (by omega), h 8 (by omega), h 9 (by omega)⟩
theorem ShB.cell {w : World} {b : Nat} {s : Sh} (h : ShB w b s) (j : Nat) : w.cell? ⟨b, j, none⟩ = s.cells[j]? := by
  rw [cell_of_row _ _ j _ _ (0, 0) h]; simp
theorem ShB.at {w : World} {b : Nat} {s : Sh} (h : ShB w b s) : ShC w b 0 s := ShC.of (fun j hj => by rw [Nat.zero_add]; exact h.cell j)
theorem ShB.frozen {w : World} {b : Nat} {s : Sh} (h : ShB w b s) (j : Nat) : w.frozen? ⟨b, j, none⟩ = false := frozen_of_row _ _ _ _ _ h
theorem Sh.cells_some (s : Sh) {j : Nat} (hj : j < 10) : ∃ u, s.cells[j]? = some u := ⟨_, List.getElem?_eq_getElem (by simp [Sh.cells]; omega)⟩

/-- Headers in a slice that is read. -/
structure Rh (w : World) (a : Option Addr) (len cap : Nat) (l : List Sh) : Prop where
  length : l.length = len
  le : len ≤ cap
  max : cap ≤ 9223372036854775807
  ok : ∀ s ∈ l, s.Ok
  nil : a = none → cap = 0
  cell : ∀ i s, l[i]? = some s → ∃ b o, a = some ⟨b, o, none⟩ ∧ ∀ j, j < 10 → w.cell? ⟨b, o + i * 10 + j, none⟩ = s.cells[j]?
theorem Rh.below {w w' : World} {a : Option Addr} {len cap : Nat} {l : List Sh} (r : Rh w a len cap l) (hb : Below w.heap.size w w') : Rh w' a len cap l :=
  ⟨r.length, r.le, r.max, r.ok, r.nil, fun i x hx => by
    obtain ⟨b, o, h1, h2⟩ := r.cell i x hx
    refine ⟨b, o, h1, fun j hj => ?_⟩
    have h3 := h2 j hj
    obtain ⟨u, hu⟩ := x.cells_some hj
    rw [hu] at h3 ⊢
    rw [hb.cell (World.block_lt_of_cell? w _ h3)]
    exact h3⟩
theorem Rh.nothing (w : World) : Rh w none 0 0 [] := ⟨rfl, by omega, by omega, (fun x hx => by cases hx), fun _ => rfl, fun i x hx => by simp at hx⟩

theorem Rh.addr {w : World} {a : Option Addr} {len cap : Nat} {l : List Sh} (r : Rh w a len cap l) (h : 0 < len) : ∃ b o, a = some ⟨b, o, none⟩ ∧ ∀ i s, l[i]? = some s → ShC w b (o + i * 10) s := by
  have hl := r.length
  obtain ⟨b, o, h1, _⟩ := r.cell 0 _ (List.getElem?_eq_getElem (show 0 < l.length by omega))
  refine ⟨b, o, h1, fun i s hs => ?_⟩
  obtain ⟨b', o', h2, h3⟩ := r.cell i s hs
  rw [h1] at h2
  cases h2
  exact ShC.of h3

def shCells (l : List Sh) : List Value := l.flatMap Sh.cells
theorem shCells_append (l r : List Sh) : shCells (l ++ r) = shCells l ++ shCells r := List.flatMap_append ..
theorem shCells_one (x : Sh) : shCells [x] = x.cells := by simp [shCells]
theorem shCells_length : ∀ l : List Sh, (shCells l).length = l.length * 10
  | [] => rfl
  | x :: l => by
    have h := shCells_length l
    unfold shCells at h ⊢
    rw [List.flatMap_cons, List.length_append, h, List.length_cons]
    simp [Sh.cells]
    omega
theorem shCells_at : ∀ (l : List Sh) (i j : Nat) (x : Sh), l[i]? = some x → j < 10 → (shCells l)[i * 10 + j]? = x.cells[j]?
  | [], i, j, x, h, hj => by simp at h
  | y :: l, 0, j, x, h, hj => by
    simp at h
    subst h
    unfold shCells
    rw [List.flatMap_cons, List.getElem?_append_left (by simp [Sh.cells]; omega)]
    simp
  | y :: l, i + 1, j, x, h, hj => by
    have h1 := shCells_at l i j x (by simpa using h) hj
    unfold shCells at h1 ⊢
    rw [List.flatMap_cons, List.getElem?_append_right (by simp [Sh.cells]; omega)]
    rw [← h1]
    congr 1
    simp [Sh.cells]
    omega
theorem shCells_oneCell (l : List Sh) : ∀ u ∈ shCells l, u.oneCell' = true := by
  intro u hu
  unfold shCells at hu
  obtain ⟨x, hx, hc⟩ := List.mem_flatMap.1 hu
  simp [Sh.cells] at hc
  rcases hc with rfl | rfl | rfl | rfl | rfl | rfl | rfl | rfl | rfl | rfl <;> rfl

/-- A row of the call's own, as a slice that is read. -/
theorem Rh.own {w : World} {base : Nat} {v : Value} {n : Nat} {l : List Sh} (h : w.ownsRow base 47 10 v n (shCells l)) (hok : ∀ x ∈ l, x.Ok) : ∃ a cap, v = .slice a n cap ∧ Rh w a n cap l := by
  have hl : l.length = n := by have := h.1; rw [shCells_length] at this; omega
  rcases h.2 with ⟨rfl, h2⟩ | ⟨g, cap, cur, rfl, hbg, hg, hnc, hcm, hcs, htake⟩
  · subst h2
    obtain rfl : l = [] := List.eq_nil_of_length_eq_zero hl
    exact ⟨none, 0, rfl, Rh.nothing w⟩
  · refine ⟨_, cap, rfl, ⟨hl, hnc, by unfold maxLen at hcm; omega, hok, (fun h => by cases h), fun i x hx => ⟨g, 0, rfl, fun j hj => ?_⟩⟩⟩
    obtain ⟨u, hu⟩ := x.cells_some hj
    have h5 := shCells_at l i j x hx hj
    rw [hu] at h5 ⊢
    have h6 := h.cells (g := g) rfl (i * 10 + j) _ h5
    have e : (⟨g, 0, none⟩ : Addr).add (i * 10 + j) = ⟨g, 0 + i * 10 + j, none⟩ := by unfold Addr.add; split <;> simp_all
    rw [← e]
    exact h6

/-! ### The rules -/

def knB (t : Nat) : Bool := decide (t = 1 ∨ t = 2 ∨ t = 3 ∨ t = 4 ∨ t = 8 ∨ t = 17)
def alB (a : Nat) : Bool := decide (a = 0 ∨ (a ≤ 4096 ∧ isPow (a : Int) = true))
def hlB (s : Sh) (size : Nat) : Bool := if s.ty = 8 then decide (s.sz ≤ 67108864) else decide (s.off + s.sz ≤ size)
def flB (f : Nat) : Bool := bits .andNot .u64 (f : Int) 631 == 0
def zrB (s : Sh) : Bool := s.nm == 0 && s.ty == 0 && s.fl == 0 && s.ad == 0 && s.off == 0 && s.sz == 0 && s.lk == 0 && s.nf == 0 && s.al == 0 && s.en == 0
theorem zrB_iff (s : Sh) : zrB s = true ↔ s = sh0 := by
  unfold zrB
  constructor
  · intro h
    simp at h
    exact Sh.ext' h.1.1.1.1.1.1.1.1.1 h.1.1.1.1.1.1.1.1.2 h.1.1.1.1.1.1.1.2 h.1.1.1.1.1.1.2 h.1.1.1.1.1.2 h.1.1.1.1.2 h.1.1.1.2 h.1.1.2 h.1.2 h.2
  · rintro rfl
    rfl
/-- May s be header number i of a file of so many bytes? -/
def rtB (s : Sh) (i size : Nat) : Bool := if i = 0 then zrB s else knB s.ty && flB s.fl && decide (s.ad = 0) && alB s.al && hlB s size

theorem sknown_any (t : Nat) (w : World) (h : t < 4294967296) : Calls Try.prog 36 #[.int .u32 (t : Int)] w fun e w' => e = .returned (.bool (knB t)) ∧ w' = w := by
  by_cases h1 : t = 1
  · subst h1
    go_enter Try.func36, Try.ntmps36
    go_wp2
    go_ret
    exact ⟨rfl, rfl⟩
  by_cases h2 : t = 2
  · subst h2
    go_enter Try.func36, Try.ntmps36
    go_wp2
    go_ret
    exact ⟨rfl, rfl⟩
  by_cases h3 : t = 3
  · subst h3
    go_enter Try.func36, Try.ntmps36
    go_wp2
    go_ret
    exact ⟨rfl, rfl⟩
  by_cases h4 : t = 4
  · subst h4
    go_enter Try.func36, Try.ntmps36
    go_wp2
    go_ret
    exact ⟨rfl, rfl⟩
  by_cases h8 : t = 8
  · subst h8
    go_enter Try.func36, Try.ntmps36
    go_wp2
    go_ret
    exact ⟨rfl, rfl⟩
  by_cases h17 : t = 17
  · subst h17
    go_enter Try.func36, Try.ntmps36
    go_wp2
    go_ret
    exact ⟨rfl, rfl⟩
  have e : knB t = false := by unfold knB; simp; omega
  rw [e]
  have n1 : ((t : Int) == 1) = false := by simp; omega
  have n2 : ((t : Int) == 2) = false := by simp; omega
  have n3 : ((t : Int) == 3) = false := by simp; omega
  have n4 : ((t : Int) == 4) = false := by simp; omega
  have n8 : ((t : Int) == 8) = false := by simp; omega
  have n17 : ((t : Int) == 17) = false := by simp; omega
  go_enter Try.func36, Try.ntmps36
  go_wp2
  go_ret
  exact ⟨rfl, rfl⟩

theorem rknown_any (t : Nat) (w : World) (h : t < 4294967296) : Calls Try.prog 25 #[.int .u32 (t : Int)] w fun e w' => e = .returned (.bool (knB t)) ∧ w' = w := by
  obtain ⟨b1, e1⟩ : ∃ b, ((t : Int) == 1) = b := ⟨_, rfl⟩
  obtain ⟨b2, e2⟩ : ∃ b, ((t : Int) == 2) = b := ⟨_, rfl⟩
  obtain ⟨b3, e3⟩ : ∃ b, ((t : Int) == 3) = b := ⟨_, rfl⟩
  obtain ⟨b4, e4⟩ : ∃ b, ((t : Int) == 4) = b := ⟨_, rfl⟩
  obtain ⟨b8, e8⟩ : ∃ b, ((t : Int) == 8) = b := ⟨_, rfl⟩
  obtain ⟨b17, e17⟩ : ∃ b, ((t : Int) == 17) = b := ⟨_, rfl⟩
  have e : knB t = (b1 || (b2 || (b3 || (b4 || (b8 || b17))))) := by
    subst e1 e2 e3 e4 e8 e17
    unfold knB
    rw [Bool.eq_iff_iff]
    simp
    omega
  rw [e]
  clear e
  cases b1 <;> cases b2 <;> cases b3 <;> cases b4 <;> cases b8 <;> cases b17 <;> first
    | (exfalso; simp at e1 e2 e3 e4 e8 e17; omega)
    | (go_enter Try.func25, Try.ntmps25
       go_wp2
       go_ret
       exact ⟨rfl, rfl⟩)

theorem aligned_any (a : Nat) (w : World) (h : a < 18446744073709551616) : Calls Try.prog 37 #[.int .u64 (a : Int)] w fun e w' => e = .returned (.bool (alB a)) ∧ w' = w := by
  by_cases h0 : a = 0
  · subst h0
    go_enter Try.func37, Try.ntmps37
    go_wp2
    go_ret
    exact ⟨rfl, rfl⟩
  have n0 : ((a : Int) == 0) = false := by simp; omega
  by_cases h1 : a ≤ 4096
  · have e : alB a = isPow (a : Int) := by
      unfold alB
      rw [Bool.eq_iff_iff]
      simp [h0, h1]
    rw [e]
    have hp := pow2_any (a : Int) w (by omega) (by omega)
    generalize isPow (a : Int) = t at *
    clear e
    go_enter Try.func37, Try.ntmps37
    go_wp2_with (go_at_call 45; refine hp.mono ?_; rintro e w' ⟨rfl, rfl⟩)
    go_ret
    exact ⟨rfl, rfl⟩
  · have e : alB a = false := by unfold alB; simp [h0, h1]
    rw [e]
    go_enter Try.func37, Try.ntmps37
    go_wp2
    go_ret
    exact ⟨rfl, rfl⟩

end Go.Proofs.Ytmmbahblnmhhmaa
