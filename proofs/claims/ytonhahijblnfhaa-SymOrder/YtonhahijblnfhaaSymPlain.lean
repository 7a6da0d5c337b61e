/- Plain facts on symbols: their bytes, what is read of them, the rules of a table. Nothing of the program is named. -/
import Derived.Test.YtonhahijblnfhaaShdrPlain
import Derived.Test.YtonhahijblnfhaaStrGet
namespace Go.Proofs.Ytonhahijblnfhaa
open Go.RowKit
set_option linter.unusedVariables false
set_option linter.unusedSimpArgs false

/-- A symbol: its seven numbers; bind, type, other and section are any. -/
structure Sy where
  nm : Nat
  bd : Int
  ty : Int
  ot : Int
  se : Int
  va : Nat
  sz : Nat
structure Sy.Ok (s : Sy) : Prop where
  nm : s.nm < 4294967296
  bd : -9223372036854775808 ≤ s.bd ∧ s.bd ≤ 9223372036854775807
  ty : -9223372036854775808 ≤ s.ty ∧ s.ty ≤ 9223372036854775807
  ot : -9223372036854775808 ≤ s.ot ∧ s.ot ≤ 9223372036854775807
  se : -9223372036854775808 ≤ s.se ∧ s.se ≤ 9223372036854775807
  va : s.va < 18446744073709551616
  sz : s.sz < 18446744073709551616
/-- What of a symbol its bytes hold. -/
def Sy.nrm (s : Sy) : Sy := ⟨s.nm, s.bd % 16, s.ty % 16, s.ot % 256, s.se % 65536, s.va, s.sz⟩
def sy0 : Sy := ⟨0, 0, 0, 0, 0, 0, 0⟩

/-- The byte of bind and type. -/
def syI (s : Sy) : Int := 16 * (s.bd % 16) + s.ty % 16
theorem syI_bd (s : Sy) : 0 ≤ syI s ∧ syI s ≤ 255 := by unfold syI; omega
def syL (s : Sy) : List Int := bytesOf s.nm 4 ++ ([syI s, s.ot % 256] ++ (bytesOf (s.se % 65536) 2 ++ (bytesOf s.va 8 ++ bytesOf s.sz 8)))
theorem syL_len (s : Sy) : (syL s).length = 24 := by simp [syL, bytesOf_length]
theorem syL_bytes (s : Sy) : Bytes (syL s) := by
  unfold syL
  refine (bytesOf_bytes _ _).append (Bytes.append ?_ ((bytesOf_bytes _ _).append ((bytesOf_bytes _ _).append (bytesOf_bytes _ _))))
  intro x hx
  simp at hx
  have := syI_bd s
  rcases hx with rfl | rfl <;> omega
def sysL : List Sy → List Int
  | [] => []
  | s :: l => syL s ++ sysL l
theorem sysL_len : ∀ l : List Sy, (sysL l).length = 24 * l.length
  | [] => rfl
  | s :: l => by rw [sysL, List.length_append, syL_len, sysL_len l, List.length_cons]; omega
theorem sysL_bytes : ∀ l : List Sy, Bytes (sysL l)
  | [] => Bytes.nil
  | s :: l => (syL_bytes s).append (sysL_bytes l)
theorem sysL_append : ∀ l m : List Sy, sysL (l ++ m) = sysL l ++ sysL m
  | [], m => rfl
  | s :: l, m => by rw [List.cons_append, sysL, sysL, sysL_append l m, List.append_assoc]
theorem sysL_take (l : List Sy) (j : Nat) (s : Sy) (h : l[j]? = some s) : sysL (l.take (j + 1)) = sysL (l.take j) ++ syL s := by
  rw [List.take_add_one, h, sysL_append]
  simp [sysL]

/-- The symbol that is read at a place. -/
def syAt (bs : List Int) (o : Nat) : Sy :=
  ⟨(got bs (o : Int) 4).toNat, bs.getD (o + 4) 0 / 16, bs.getD (o + 4) 0 % 16, bs.getD (o + 5) 0, got bs ((o + 6 : Nat) : Int) 2, (got bs ((o + 8 : Nat) : Int) 8).toNat, (got bs ((o + 16 : Nat) : Int) 8).toNat⟩

theorem at_part (A S C : List Int) (k : Nat) (x : Int) (hx : S[k]? = some x) : (A ++ (S ++ C)).getD (A.length + k) 0 = x := by
  have hk := (List.getElem?_eq_some_iff.1 hx).1
  have h1 : (A ++ (S ++ C))[A.length + k]? = some x := by
    rw [List.getElem?_append_right (by omega), Nat.add_sub_cancel_left, List.getElem?_append_left hk, hx]
  rw [List.getD_eq_getElem?_getD, h1]
  rfl

theorem syAt_mid (A C : List Int) (s : Sy) (h : s.Ok) : syAt (A ++ (syL s ++ C)) A.length = s.nrm := by
  obtain ⟨nm, bd, ty, ot, se, va, sz⟩ := s
  obtain ⟨e, he⟩ : ∃ e : Nat, (e : Int) = se % 65536 := ⟨(se % 65536).toNat, by omega⟩
  have h0 := got_part A (syL ⟨nm, bd, ty, ot, se, va, sz⟩) C 0 4 nm [] _ rfl rfl h.nm
  have h3 := got_part A (syL ⟨nm, bd, ty, ot, se, va, sz⟩) C 6 2 e (bytesOf nm 4 ++ [syI ⟨nm, bd, ty, ot, se, va, sz⟩, ot % 256]) (bytesOf va 8 ++ bytesOf sz 8) (by simp only [syL, List.append_assoc, he]) (by simp [bytesOf_length]) (by omega)
  have h4 := got_part A (syL ⟨nm, bd, ty, ot, se, va, sz⟩) C 8 8 va (bytesOf nm 4 ++ ([syI ⟨nm, bd, ty, ot, se, va, sz⟩, ot % 256] ++ bytesOf (se % 65536) 2)) (bytesOf sz 8) (by simp only [syL, List.append_assoc]) (by simp [bytesOf_length]) h.va
  have h5 := got_part A (syL ⟨nm, bd, ty, ot, se, va, sz⟩) C 16 8 sz (bytesOf nm 4 ++ ([syI ⟨nm, bd, ty, ot, se, va, sz⟩, ot % 256] ++ (bytesOf (se % 65536) 2 ++ bytesOf va 8))) [] (by simp only [syL, List.append_assoc, List.append_nil]) (by simp [bytesOf_length]) h.sz
  have h1 := at_part A (syL ⟨nm, bd, ty, ot, se, va, sz⟩) C 4 (syI ⟨nm, bd, ty, ot, se, va, sz⟩) (by
    unfold syL
    rw [List.getElem?_append_right (by simp [bytesOf_length]), bytesOf_length]
    rfl)
  have h2 := at_part A (syL ⟨nm, bd, ty, ot, se, va, sz⟩) C 5 (ot % 256) (by
    unfold syL
    rw [List.getElem?_append_right (by simp [bytesOf_length]), bytesOf_length]
    rfl)
  unfold syAt
  rw [Nat.add_zero] at h0
  rw [h0, h1, h2, h3, h4, h5, he]
  simp only [Int.toNat_natCast, Sy.nrm, syI]
  congr 1 <;> omega

theorem syAt_list (A C : List Int) (l : List Sy) (j : Nat) (s : Sy) (hj : l[j]? = some s) (h : s.Ok) : syAt (A ++ (sysL l ++ C)) (A.length + 24 * j) = s.nrm := by
  have hlt : j < l.length := by
    rcases Nat.lt_or_ge j l.length with h5 | h5
    · exact h5
    · rw [List.getElem?_eq_none h5] at hj; cases hj
  have e : l = l.take j ++ (s :: l.drop (j + 1)) := by
    have h1 := List.take_append_drop j l
    rw [List.drop_eq_getElem_cons hlt] at h1
    rw [List.getElem?_eq_getElem hlt] at hj
    cases hj
    exact h1.symm
  have e2 : A ++ (sysL l ++ C) = (A ++ sysL (l.take j)) ++ (syL s ++ (sysL (l.drop (j + 1)) ++ C)) := by
    rw [e, sysL_append, sysL]
    simp only [List.append_assoc]
    rw [← e]
  have e3 : A.length + 24 * j = (A ++ sysL (l.take j)).length := by
    rw [List.length_append, sysL_len, List.length_take, Nat.min_eq_left (by omega)]
  rw [e2, e3]
  exact syAt_mid _ _ s h

theorem syAt_ok {bs : List Int} (hb : Bytes bs) (o : Nat) : (syAt bs o).Ok ∧ 0 ≤ (syAt bs o).bd ∧ (syAt bs o).bd ≤ 15 ∧ 0 ≤ (syAt bs o).ty ∧ (syAt bs o).ty ≤ 15 ∧ 0 ≤ (syAt bs o).ot ∧ (syAt bs o).ot ≤ 255 ∧ 0 ≤ (syAt bs o).se ∧ (syAt bs o).se ≤ 65535 := by
  have g4 := got_nonneg hb (o : Int) 4
  have g4' := got_lt hb (o : Int) 4
  have g2 := got_nonneg hb ((o + 6 : Nat) : Int) 2
  have g2' := got_lt hb ((o + 6 : Nat) : Int) 2
  have g8 := got_nonneg hb ((o + 8 : Nat) : Int) 8
  have g8' := got_lt hb ((o + 8 : Nat) : Int) 8
  have g9 := got_nonneg hb ((o + 16 : Nat) : Int) 8
  have g9' := got_lt hb ((o + 16 : Nat) : Int) 8
  have e2 : (2 : Int) ^ (8 * 2) = 65536 := by decide
  have e4 : (2 : Int) ^ (8 * 4) = 4294967296 := by decide
  have e8 : (2 : Int) ^ (8 * 8) = 18446744073709551616 := by decide
  have b4 := hb.at (o + 4)
  have b5 := hb.at (o + 5)
  rw [← List.getD_eq_getElem?_getD] at b4 b5
  rw [e2] at g2'
  rw [e4] at g4'
  rw [e8] at g8' g9'
  simp only [syAt]
  refine ⟨⟨?_, ?_, ?_, ?_, ?_, ?_, ?_⟩, ?_, ?_, ?_, ?_, ?_, ?_, ?_, ?_⟩
  all_goals ((try simp only []); omega)

/-! ### The rules -/

def syZ (s : Sy) : Bool := s.nm == 0 && s.bd == 0 && s.ty == 0 && s.ot == 0 && s.se == 0 && s.va == 0 && s.sz == 0
theorem syZ_iff (s : Sy) : syZ s = true ↔ s = sy0 := by
  unfold syZ
  constructor
  · intro h
    simp at h
    obtain ⟨nm, bd, ty, ot, se, va, sz⟩ := s
    simp only [sy0, Sy.mk.injEq]
    simp at h
    exact ⟨h.1.1.1.1.1.1, h.1.1.1.1.1.2, h.1.1.1.1.2, h.1.1.1.2, h.1.1.2, h.1.2, h.2⟩
  · rintro rfl
    rfl
/-- May s be symbol number i of a table of these names, with so many locals? -/
def syB (nb : List Int) (s : Sy) (i loc : Nat) : Bool :=
  if i = 0 then syZ s else
    match gtO nb s.nm with
    | none => false
    | some y => (decide (i < loc) == decide (s.bd = 0)) && decide (s.bd ≤ 2) && decide (s.ty ≤ 4) && (decide (s.ty < 3) || decide (i < loc)) && decide (s.ot ≤ 3) && (decide (i < loc) || !y.isEmpty)
def symsL (bs : List Int) (n : Nat) : List Sy := (List.range n).map (fun i => syAt bs (24 * i))
theorem symsL_len (bs : List Int) (n : Nat) : (symsL bs n).length = n := by simp [symsL]
theorem symsL_at (bs : List Int) (n i : Nat) (h : i < n) : (symsL bs n)[i]? = some (syAt bs (24 * i)) := by simp [symsL, h]
def synL (bs nb : List Int) (n : Nat) : List (List UInt8) := (List.range n).map (fun i => if i = 0 then [] else (gtO nb (syAt bs (24 * i)).nm).getD [])
theorem synL_len (bs nb : List Int) (n : Nat) : (synL bs nb n).length = n := by simp [synL]
/-- The rules of a table of symbols. -/
def symOk (bs nb : List Int) (loc : Nat) : Prop := bs.length % 24 = 0 ∧ 1 ≤ bs.length / 24 ∧ bs.length / 24 ≤ 500 ∧ 1 ≤ loc ∧ loc ≤ bs.length / 24 ∧ ∀ i, i < bs.length / 24 → syB nb (syAt bs (24 * i)) i loc = true

end Go.Proofs.Ytonhahijblnfhaa
