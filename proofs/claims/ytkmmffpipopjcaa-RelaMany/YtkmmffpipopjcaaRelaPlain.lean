/- Plain facts on relocations: their bytes, what is read of them, their widths, the rules of a table; as records in rows. Nothing of the program is named. -/
import Derived.Test.YtkmmffpipopjcaaShdrPlain
import Derived.Test.YtkmmffpipopjcaaRec
namespace Go.Proofs.Ytkmmffpipopjcaa
open Go.RowKit
set_option linter.unusedVariables false
set_option linter.unusedSimpArgs false

/-- A relocation: its place, type, symbol, addend. -/
structure Re where
  off : Nat
  ty : Nat
  sy : Nat
  ad : Int
structure Re.Ok (s : Re) : Prop where
  off : s.off < 18446744073709551616
  ty : s.ty < 4294967296
  sy : s.sy < 4294967296
  ad : -9223372036854775808 ≤ s.ad ∧ s.ad ≤ 9223372036854775807
def re0 : Re := ⟨0, 0, 0, 0⟩
theorem re0_ok : re0.Ok := ⟨by decide, by decide, by decide, by decide⟩
/-- An addend without its sign, and with it again. -/
def adU (x : Int) : Nat := (x % 18446744073709551616).toNat
theorem adU_eq (x : Int) : (adU x : Int) = x % 18446744073709551616 := by unfold adU; omega
theorem adU_lt (x : Int) : adU x < 18446744073709551616 := by unfold adU; omega
def adS (x : Int) : Int := (x + 9223372036854775808) % 18446744073709551616 - 9223372036854775808
theorem adS_wrap (x : Int) : IntKind.i64.wrap x = adS x := IntKind.wrap_i64 x
theorem adS_bd (x : Int) : -9223372036854775808 ≤ adS x ∧ adS x ≤ 9223372036854775807 := by unfold adS; omega
theorem adS_adU (x : Int) (h : -9223372036854775808 ≤ x ∧ x ≤ 9223372036854775807) : adS (adU x) = x := by rw [adU_eq]; unfold adS; omega

def reL (s : Re) : List Int := bytesOf s.off 8 ++ (bytesOf s.ty 4 ++ (bytesOf s.sy 4 ++ bytesOf (adU s.ad) 8))
theorem reL_len (s : Re) : (reL s).length = 24 := by simp [reL, bytesOf_length]
theorem reL_bytes (s : Re) : Bytes (reL s) := (bytesOf_bytes _ _).append ((bytesOf_bytes _ _).append ((bytesOf_bytes _ _).append (bytesOf_bytes _ _)))
def resL : List Re → List Int
  | [] => []
  | s :: l => reL s ++ resL l
theorem resL_len : ∀ l : List Re, (resL l).length = 24 * l.length
  | [] => rfl
  | s :: l => by rw [resL, List.length_append, reL_len, resL_len l, List.length_cons]; omega
theorem resL_bytes : ∀ l : List Re, Bytes (resL l)
  | [] => Bytes.nil
  | s :: l => (reL_bytes s).append (resL_bytes l)
theorem resL_append : ∀ l m : List Re, resL (l ++ m) = resL l ++ resL m
  | [], m => rfl
  | s :: l, m => by rw [List.cons_append, resL, resL, resL_append l m, List.append_assoc]
theorem resL_take (l : List Re) (j : Nat) (s : Re) (h : l[j]? = some s) : resL (l.take (j + 1)) = resL (l.take j) ++ reL s := by
  rw [List.take_add_one, h, resL_append]
  simp [resL]
theorem reL_cat (s : Re) (bs : List Int) : bs ++ bytesOf s.off 8 ++ bytesOf s.ty 4 ++ bytesOf s.sy 4 ++ bytesOf (adU s.ad) 8 = bs ++ reL s := by
  simp only [reL, List.append_assoc]

/-- The relocation that is read at a place. -/
def reAt (bs : List Int) (o : Nat) : Re :=
  ⟨(got bs (o : Int) 8).toNat, (got bs ((o + 8 : Nat) : Int) 4).toNat, (got bs ((o + 12 : Nat) : Int) 4).toNat, adS (got bs ((o + 16 : Nat) : Int) 8)⟩
theorem reAt_mid (A C : List Int) (s : Re) (h : s.Ok) : reAt (A ++ (reL s ++ C)) A.length = s := by
  obtain ⟨off, ty, sy, ad⟩ := s
  have h0 := got_part A (reL ⟨off, ty, sy, ad⟩) C 0 8 off [] _ rfl rfl h.off
  have h1 := got_part A (reL ⟨off, ty, sy, ad⟩) C 8 4 ty (bytesOf off 8) (bytesOf sy 4 ++ bytesOf (adU ad) 8) rfl (by simp [bytesOf_length]) h.ty
  have h2 := got_part A (reL ⟨off, ty, sy, ad⟩) C 12 4 sy (bytesOf off 8 ++ bytesOf ty 4) (bytesOf (adU ad) 8) (by simp only [reL, List.append_assoc]) (by simp [bytesOf_length]) h.sy
  have h3 := got_part A (reL ⟨off, ty, sy, ad⟩) C 16 8 (adU ad) (bytesOf off 8 ++ (bytesOf ty 4 ++ bytesOf sy 4)) [] (by simp only [reL, List.append_assoc, List.append_nil]) (by simp [bytesOf_length]) (adU_lt ad)
  unfold reAt
  rw [Nat.add_zero] at h0
  rw [h0, h1, h2, h3, adS_adU ad h.ad]
  simp only [Int.toNat_natCast]
theorem reAt_list (A C : List Int) (l : List Re) (j : Nat) (s : Re) (hj : l[j]? = some s) (h : s.Ok) : reAt (A ++ (resL l ++ C)) (A.length + 24 * j) = s := by
  have hlt : j < l.length := by
    rcases Nat.lt_or_ge j l.length with h5 | h5
    · exact h5
    · rw [List.getElem?_eq_none h5] at hj; cases hj
  have e : l = l.take j ++ (s :: l.drop (j + 1)) := by
    have h1 := List.take_append_drop j l
    rw [List.drop_eq_getElem_cons hlt] at h1
    rw [List.getElem?_eq_getElem hlt] at hj
    cases hj
    exact h1.symm
  have e2 : A ++ (resL l ++ C) = (A ++ resL (l.take j)) ++ (reL s ++ (resL (l.drop (j + 1)) ++ C)) := by
    rw [e, resL_append, resL]
    simp only [List.append_assoc]
    rw [← e]
  have e3 : A.length + 24 * j = (A ++ resL (l.take j)).length := by
    rw [List.length_append, resL_len, List.length_take, Nat.min_eq_left (by omega)]
  rw [e2, e3]
  exact reAt_mid _ _ s h
theorem resL_front (l : List Re) (j : Nat) (s : Re) (hj : l[j]? = some s) (h : s.Ok) : reAt (resL l) (24 * j) = s := by
  have := reAt_list [] [] l j s hj h
  simpa using this
theorem reAt_ok {bs : List Int} (hb : Bytes bs) (o : Nat) : (reAt bs o).Ok := by
  have g8 := got_nonneg hb (o : Int) 8
  have g8' := got_lt hb (o : Int) 8
  have g4 := got_nonneg hb ((o + 8 : Nat) : Int) 4
  have g4' := got_lt hb ((o + 8 : Nat) : Int) 4
  have g5 := got_nonneg hb ((o + 12 : Nat) : Int) 4
  have g5' := got_lt hb ((o + 12 : Nat) : Int) 4
  have e4 : (2 : Int) ^ (8 * 4) = 4294967296 := by decide
  have e8 : (2 : Int) ^ (8 * 8) = 18446744073709551616 := by decide
  rw [e4] at g4' g5'
  rw [e8] at g8'
  refine ⟨?_, ?_, ?_, adS_bd _⟩
  all_goals (simp only [reAt]; omega)
/-- What is read at a place, number by number. -/
theorem reAt_got {bs : List Int} (hb : Bytes bs) (p : Nat) : got bs (p : Int) 8 = ((reAt bs p).off : Int) ∧ got bs ((p : Int) + 8) 4 = ((reAt bs p).ty : Int) ∧ got bs ((p : Int) + 12) 4 = ((reAt bs p).sy : Int) ∧ adS (got bs ((p : Int) + 16) 8) = (reAt bs p).ad := by
  have h : ∀ (q : Nat) (n : Nat) (z : Int), ((q : Nat) : Int) = z → got bs z n = ((got bs ((q : Nat) : Int) n).toNat : Int) := fun q n z e => by
    rw [← e]
    have := got_nonneg hb (q : Int) n
    omega
  exact ⟨h p 8 _ rfl, h (p + 8) 4 _ (by omega), h (p + 12) 4 _ (by omega), rfl⟩

/-! ### The rules -/

def reW (t : Nat) : Nat := if t = 2 ∨ t = 18 ∨ t = 19 then 8 else if t = 51 then 0 else 4
theorem reW_le (t : Nat) : reW t ≤ 8 := by unfold reW; split <;> (try split) <;> omega
def reK (t : Nat) : Bool := decide (t = 1 ∨ t = 2 ∨ t = 16 ∨ t = 17 ∨ t = 18 ∨ t = 19 ∨ t = 23 ∨ t = 24 ∨ t = 25 ∨ t = 26 ∨ t = 27 ∨ t = 28 ∨ t = 51)
/-- May s be a relocation of a section of that size, with so many symbols? -/
def reB (s : Re) (size : Nat) (syms : Int) : Bool := decide ((s.sy : Int) < syms) && decide (s.off + reW s.ty ≤ size)
def rlsL (bs : List Int) (n : Nat) : List Re := (List.range n).map (fun i => reAt bs (24 * i))
theorem rlsL_len (bs : List Int) (n : Nat) : (rlsL bs n).length = n := by simp [rlsL]
theorem rlsL_at (bs : List Int) (n i : Nat) (h : i < n) : (rlsL bs n)[i]? = some (reAt bs (24 * i)) := by simp [rlsL, h]
theorem rlsL_ok {bs : List Int} (hb : Bytes bs) (n : Nat) : ∀ s ∈ rlsL bs n, s.Ok := by
  intro s hs
  obtain ⟨i, _, rfl⟩ := List.mem_map.1 hs
  exact reAt_ok hb _
theorem rls_back (l : List Re) (h : ∀ s ∈ l, s.Ok) : rlsL (resL l) l.length = l := by
  apply List.ext_getElem?
  intro i
  rcases Nat.lt_or_ge i l.length with hi | hi
  · obtain ⟨s, hs⟩ : ∃ s, l[i]? = some s := ⟨_, List.getElem?_eq_getElem hi⟩
    rw [rlsL_at _ _ _ hi, resL_front l i s hs (h s (List.mem_of_getElem? hs)), hs]
  · rw [List.getElem?_eq_none (by rw [rlsL_len]; exact hi), List.getElem?_eq_none hi]
/-- The rules of a table of relocations. -/
def relOk (bs : List Int) (size : Nat) (syms : Int) : Prop := bs.length % 24 = 0 ∧ bs.length / 24 ≤ 2000 ∧ ∀ i, i < bs.length / 24 → reB (reAt bs (24 * i)) size syms = true
theorem rel_laid (l : List Re) (size : Nat) (syms : Int) (h : ∀ s ∈ l, s.Ok) (hl : l.length ≤ 2000) : relOk (resL l) size syms ↔ ∀ s ∈ l, reB s size syms = true := by
  have hn : (resL l).length / 24 = l.length := by rw [resL_len]; omega
  unfold relOk
  rw [hn]
  constructor
  · rintro ⟨_, _, h3⟩ s hs
    obtain ⟨i, hi, he⟩ := List.getElem_of_mem hs
    have h4 := h3 i hi
    rw [resL_front l i s (by rw [List.getElem?_eq_getElem hi, he]) (h s hs)] at h4
    exact h4
  · intro h3
    refine ⟨by rw [resL_len]; omega, hl, fun i hi => ?_⟩
    obtain ⟨s, hs⟩ : ∃ s, l[i]? = some s := ⟨_, List.getElem?_eq_getElem hi⟩
    have hm := List.mem_of_getElem? hs
    rw [resL_front l i s hs (h s hm)]
    exact h3 s hm
theorem resL_zeros : ∀ k : Nat, resL (List.replicate k re0) = List.replicate (24 * k) 0
  | 0 => rfl
  | k + 1 => by
    rw [List.replicate_succ, resL, resL_zeros k, show reL re0 = List.replicate 24 0 by decide, List.replicate_append_replicate]
    congr 1
    omega

/-! ### As records, and as words -/

def Re.cells (s : Re) : List Value := [.int .u64 (s.off : Int), .int .u32 (s.ty : Int), .int .u32 (s.sy : Int), .int .i64 s.ad]
def reC : Rc Re := ⟨Re.cells, 4, by decide, fun _ => rfl, fun r u hu => by
  simp [Re.cells] at hu
  rcases hu with rfl | rfl | rfl | rfl <;> rfl⟩
/-- Relocations in a slice that is read. -/
abbrev Rl (w : World) (a : Option Addr) (len cap : Nat) (l : List Re) : Prop := Rr reC Re.Ok w a len cap l
/-- The cells of a relocation that lies at a place. -/
structure ReC (w : World) (b o : Nat) (s : Re) : Prop where
  c0 : w.cell? ⟨b, o, none⟩ = some (.int .u64 (s.off : Int))
  c1 : w.cell? ⟨b, o + 1, none⟩ = some (.int .u32 (s.ty : Int))
  c2 : w.cell? ⟨b, o + 2, none⟩ = some (.int .u32 (s.sy : Int))
  c3 : w.cell? ⟨b, o + 3, none⟩ = some (.int .i64 s.ad)
theorem ReC.of {w : World} {b o : Nat} {s : Re} (h : ∀ j, j < 4 → w.cell? ⟨b, o + j, none⟩ = s.cells[j]?) : ReC w b o s :=
  ⟨h 0 (by omega), h 1 (by omega), h 2 (by omega), h 3 (by omega)⟩
theorem Rl.addr {w : World} {a : Option Addr} {len cap : Nat} {l : List Re} (r : Rl w a len cap l) (h : 0 < len) : ∃ b o, a = some ⟨b, o, none⟩ ∧ ∀ i s, l[i]? = some s → ReC w b (o + i * 4) s := by
  obtain ⟨b, o, h1, h2⟩ := Rr.addr r h
  exact ⟨b, o, h1, fun i s hs => ReC.of (h2 i s hs)⟩
/-- Three numbers of eight bytes. -/
def re3 (s : Re) : List Int := [(s.off : Int), ((s.ty + 4294967296 * s.sy : Nat) : Int), (adU s.ad : Int)]
def re3s (l : List Re) : List Int := l.flatMap re3
theorem re3s_len : ∀ l : List Re, (re3s l).length = 3 * l.length
  | [] => rfl
  | x :: l => by
    have h := re3s_len l
    unfold re3s at h ⊢
    rw [List.flatMap_cons, List.length_append, h, List.length_cons]
    simp [re3]
    omega
theorem re3s_take (l : List Re) (k : Nat) (s : Re) (h : l[k]? = some s) : re3s (l.take (k + 1)) = re3s (l.take k) ++ re3 s := by
  rw [List.take_add_one, h]
  simp [re3s]
theorem re3_fit {s : Re} (h : s.Ok) : ∀ x ∈ re3 s, 0 ≤ x ∧ x ≤ 18446744073709551615 := by
  intro x hx
  have h0 := h.off
  have h1 := h.ty
  have h2 := h.sy
  have h3 := adU_lt s.ad
  simp [re3] at hx
  omega
theorem re3s_fit {l : List Re} (h : ∀ s ∈ l, s.Ok) : ∀ x ∈ re3s l, 0 ≤ x ∧ x ≤ 18446744073709551615 := by
  intro x hx
  obtain ⟨s, hs, hx⟩ := List.mem_flatMap.1 hx
  exact re3_fit (h s hs) x hx
theorem bytesOf_pair (a b : Nat) (ha : a < 4294967296) : bytesOf ((a + 4294967296 * b : Nat) : Int) 8 = bytesOf (a : Int) 4 ++ bytesOf (b : Int) 4 := by
  simp only [bytesOf, List.range, List.range.loop, List.map, byteOf, List.cons_append, List.nil_append]
  simp only [show (2 : Int) ^ (8 * 0) = 1 by decide, show (2 : Int) ^ (8 * 1) = 256 by decide, show (2 : Int) ^ (8 * 2) = 65536 by decide, show (2 : Int) ^ (8 * 3) = 16777216 by decide, show (2 : Int) ^ (8 * 4) = 4294967296 by decide, show (2 : Int) ^ (8 * 5) = 1099511627776 by decide, show (2 : Int) ^ (8 * 6) = 281474976710656 by decide, show (2 : Int) ^ (8 * 7) = 72057594037927936 by decide]
  congr 1
  · omega
  congr 1
  · omega
  congr 1
  · omega
  congr 1
  · omega
  congr 1
  · omega
  congr 1
  · omega
  congr 1
  · omega
  congr 1
  omega
theorem flat_re3 {s : Re} (h : s.Ok) : flat 8 (re3 s) = reL s := by
  have h0 := bytesOf_pair s.ty s.sy h.ty
  simp only [re3, flat, reL, h0, List.append_assoc, List.append_nil]
theorem flat_re3s : ∀ {l : List Re}, (∀ s ∈ l, s.Ok) → flat 8 (re3s l) = resL l
  | [], _ => rfl
  | s :: l, h => by
    have e : re3s (s :: l) = re3 s ++ re3s l := by simp [re3s]
    rw [e, flat_append, flat_re3 (h s (by simp)), flat_re3s (fun t ht => h t (by simp [ht]))]
    rfl

end Go.Proofs.Ytkmmffpipopjcaa
