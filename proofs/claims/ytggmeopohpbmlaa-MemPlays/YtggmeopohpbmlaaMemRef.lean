/- The document's memory in a world; contracts of its NewMem, Size, Perm, May, get, put. -/
import Derived.Test.YtggmeopohpbmlaaMemPair
namespace Go.Proofs.Ytggmeopohpbmlaa
open Go.RowKit Go.Maps
set_option linter.unusedVariables false

structure RMx (w : World) (m b : Nat) (pb db : Nat → Nat) (S : Mm) (F : Nat → Prop) : Prop where
  head : w.heap[m]? = some (.cells #[.map (some b)] 58 (0, 0))
  map : MapAt w b S.count (fun i => if S.perm i = 0 then none else some (.pointer (some ⟨pb i, 0, none⟩)))
  good : S.Good
  node : ∀ i, S.perm i ≠ 0 → w.heap[pb i]? = some (.cells #[.int .i64 (S.perm i), .slice (some ⟨db i, 0, none⟩) 4096 4096] 67 (0, 0))
  page : ∀ i, S.perm i ≠ 0 → Page w (db i) S i
  apart : ∀ i j, S.perm i ≠ 0 → S.perm j ≠ 0 → db i = db j → i = j
  fm : F m
  fb : F b
  fp : ∀ i, S.perm i ≠ 0 → F (pb i)
  fd : ∀ i, S.perm i ≠ 0 → F (db i)
  flt : ∀ k, F k → k < w.heap.size

/-- Block m is the document's memory S; its blocks are among F. -/
def RM (w : World) (m : Nat) (S : Mm) (F : Nat → Prop) : Prop := ∃ b pb db, RMx w m b pb db S F

section
variable {w w' : World} {m b : Nat} {pb db : Nat → Nat} {S : Mm} {F G : Nat → Prop}

theorem RMx.kept (h : RMx w m b pb db S F) (hk : Kept G w w') (hd : ∀ k, F k → ¬ G k) : RMx w' m b pb db S F :=
  have same : ∀ k, F k → w'.heap[k]? = w.heap[k]? := fun k hF => hk.block k (h.flt k hF) (hd k hF)
  ⟨(same m h.fm).trans h.head, h.map.kept (same b h.fb), h.good, fun i hi => (same _ (h.fp i hi)).trans (h.node i hi), fun i hi => (h.page i hi).kept (same _ (h.fd i hi)), h.apart, h.fm, h.fb, h.fp, h.fd,
    fun k hF => Nat.lt_of_lt_of_le (h.flt k hF) hk.size⟩

theorem RM.kept (h : RM w m S F) (hk : Kept G w w') (hd : ∀ k, F k → ¬ G k) : RM w' m S F := by
  obtain ⟨b, pb, db, h⟩ := h
  exact ⟨b, pb, db, h.kept hk hd⟩

theorem RM.flt (h : RM w m S F) : ∀ k, F k → k < w.heap.size := by
  obtain ⟨b, pb, db, h⟩ := h
  exact h.flt

theorem RM.good (h : RM w m S F) : S.Good := by
  obtain ⟨b, pb, db, h⟩ := h
  exact h.good

theorem RM.below (h : RM w m S F) (hb : Below w.heap.size w w') : RM w' m S F := h.kept (kept_of_below hb (fun _ => False)) (fun _ _ h => h)
theorem RMx.below (h : RMx w m b pb db S F) (hb : Below w.heap.size w w') : RMx w' m b pb db S F := h.kept (kept_of_below hb (fun _ => False)) (fun _ _ h => h)

theorem RMx.cell (h : RMx w m b pb db S F) : w.cell? ⟨m, 0, none⟩ = some (.map (some b)) := by
  rw [cell_of_row _ _ 0 _ _ _ h.head]; rfl
theorem RMx.cell0 (h : RMx w m b pb db S F) {i : Nat} (hi : S.perm i ≠ 0) : w.cell? ⟨pb i, 0, none⟩ = some (.int .i64 (S.perm i)) := by
  rw [cell_of_row _ _ 0 _ _ _ (h.node i hi)]; rfl
theorem RMx.cell1 (h : RMx w m b pb db S F) {i : Nat} (hi : S.perm i ≠ 0) : w.cell? ⟨pb i, 1, none⟩ = some (.slice (some ⟨db i, 0, none⟩) 4096 4096) := by
  rw [cell_of_row _ _ 1 _ _ _ (h.node i hi)]; rfl
theorem RMx.byte (h : RMx w m b pb db S F) {i : Nat} (hi : S.perm i ≠ 0) (j : Nat) (hj : j < 4096) : w.cell? ⟨db i, j, none⟩ = some (.int .u8 (S.byte (i * 4096 + j))) := by
  obtain ⟨cs, h1, h2, h3⟩ := h.page i hi
  rw [cell_of_row _ _ j _ _ _ h1]
  simpa using h3 j hj
theorem RMx.look (h : RMx w m b pb db S F) (i : Nat) (hi : i ≤ 18446744073709551615) (h0 : S.perm i ≠ 0) :
    (Instr.lookup 56 (.map (some b)) (.int .u64 (i : Int)) false).run Try.prog w = .ok (.pointer (some ⟨pb i, 0, none⟩)) w := by
  rw [h.map.look Try.underlying56 (zeroPtr w) i hi, if_neg h0]; rfl
theorem RMx.look0 (h : RMx w m b pb db S F) (i : Nat) (hi : i ≤ 18446744073709551615) (h0 : S.perm i = 0) :
    (Instr.lookup 56 (.map (some b)) (.int .u64 (i : Int)) false).run Try.prog w = .ok (.pointer none) w := by
  rw [h.map.look Try.underlying56 (zeroPtr w) i hi, if_pos h0]; rfl

theorem RMx.dm (h : RMx w m b pb db S F) {i : Nat} (hi : S.perm i ≠ 0) : db i ≠ m := fun e => by
  obtain ⟨cs, h1, h2, _⟩ := h.page i hi
  rw [e, h.head] at h1
  have h3 := congrArg (fun o : Option Obj => match o with | some (.cells c _ _) => c.size | _ => 0) h1
  simp [h2] at h3
theorem RMx.dp (h : RMx w m b pb db S F) {i j : Nat} (hi : S.perm i ≠ 0) (hj : S.perm j ≠ 0) : db i ≠ pb j := fun e => by
  obtain ⟨cs, h1, h2, _⟩ := h.page i hi
  rw [e, h.node j hj] at h1
  have h3 := congrArg (fun o : Option Obj => match o with | some (.cells c _ _) => c.size | _ => 0) h1
  simp [h2] at h3
theorem RMx.dbb (h : RMx w m b pb db S F) {i : Nat} (hi : S.perm i ≠ 0) : db i ≠ b := fun e => by
  obtain ⟨cs, h1, h2, _⟩ := h.page i hi
  rw [e] at h1
  exact h.map.noCells h1
theorem RMx.pbb (h : RMx w m b pb db S F) {i : Nat} (hi : S.perm i ≠ 0) : pb i ≠ b := fun e => by
  have h1 := h.node i hi
  rw [e] at h1
  exact h.map.noCells h1
theorem RMx.mb (h : RMx w m b pb db S F) : m ≠ b := fun e => by
  have h1 := h.head
  rw [e] at h1
  exact h.map.noCells h1

theorem rm_lasts (m : Nat) (S : Mm) : Lasts (fun w F => RM w m S F) := ⟨fun h hk hd => h.kept hk hd, fun h => h.flt⟩

/-- One byte laid. -/
theorem RMx.laid1 (h : RMx w m b pb db S F) {i off : Nat} (hi : S.perm i ≠ 0) (ho : off < 4096) {c : Int} (hc : 0 ≤ c ∧ c ≤ 255) : RMx (w.setCell ⟨db i, off, none⟩ (.int .u8 c)) m b pb db (S.lay (i * 4096 + off) [c]) F := by
  have same : ∀ k, k ≠ db i → (w.setCell ⟨db i, off, none⟩ (.int .u8 c)).heap[k]? = w.heap[k]? := fun k hk => Below.heap_setCell _ _ _ _ hk
  have hb : Bytes [c] := fun x hx => by simp at hx; subst hx; exact hc
  refine ⟨(same m (fun e => h.dm hi e.symm)).trans h.head, h.map.kept (same b (fun e => h.dbb hi e.symm)), h.good.lay _ hb, fun j hj => (same _ (fun e => h.dp hi hj e.symm)).trans (h.node j hj), ?_, h.apart, h.fm, h.fb, h.fp, h.fd, fun k hk => by simpa [World.setCell] using h.flt k hk⟩
  intro j hj
  by_cases hji : j = i
  · subst hji
    obtain ⟨L, h1, h2, h3⟩ := h.page j hj
    refine (h.page j hj).laid (off := off) (by simp; omega) h1 ?_
    rw [heap_setCell_same w (db j) off _ 5 (.int .u8 c) h1, List.setIfInBounds_toArray]
    congr 2
    unfold splice
    rw [List.set_eq_take_append_cons_drop, if_pos (by omega)]
    simp
  · exact (h.page j hj).other (by simp; omega) hji (same _ (fun e => hji (h.apart j i hj hi e)))

end

theorem rnew_any (w : World) :
    Calls Try.prog 10 #[] w fun e w' => ∃ m F, e = .returned (.pointer (some ⟨m, 0, none⟩)) ∧ RM w' m Mm.new F ∧ (∀ k, F k → w.heap.size ≤ k) ∧ Below w.heap.size w w' := by
  have hmm := @run_makeMap Try.prog
  go_enter Try.func10, Try.ntmps10
  go_wp2
  go_ret
  refine ⟨w.heap.size + 1, fun k => k = w.heap.size ∨ k = w.heap.size + 1, rfl, ⟨w.heap.size, fun _ => 0, fun _ => 0, ?_, ?_, Mm.new_good, fun i hi => absurd rfl hi, fun i hi => absurd rfl hi, fun i j hi => absurd rfl hi, Or.inr rfl, Or.inl rfl, fun i hi => absurd rfl hi, fun i hi => absurd rfl hi, ?_⟩, ?_, ?_⟩
  · have := heap_alloc_new (w.alloc (.map #[] 0)) (.cells #[.map (some w.heap.size)] 58)
    simpa using this
  · exact ((MapAt.made w).kept (Below.heap_alloc _ _ _ (by simp))).congr (fun i _ => by simp [Mm.new])
  · intro k hk; simp; omega
  · intro k hk; omega
  · exact ((Below.refl _ _).alloc (Nat.le_refl _) _).alloc (by simp) _

theorem rsize_any (m : Nat) (S : Mm) (F : Nat → Prop) (w : World) (h : RM w m S F) :
    Calls Try.prog 25 #[.pointer (some ⟨m, 0, none⟩)] w fun e w' => e = .returned (.int .u64 ((S.count * 4096 : Nat) : Int)) ∧ w' = w := by
  obtain ⟨b, pb, db, h⟩ := h
  have hc := h.cell
  have hl := h.map.len Try.underlying56 3
  have hg := h.good.count
  clear h
  go_enter Try.func25, Try.ntmps25
  go_wp2
  go_ret
  exact ⟨ret_int (by omega), rfl⟩

theorem rperm_any (m : Nat) (S : Mm) (F : Nat → Prop) (addr : Nat) (w : World) (h : RM w m S F) (ha : addr ≤ 18446744073709551615) :
    Calls Try.prog 27 #[.pointer (some ⟨m, 0, none⟩), .int .u64 (addr : Int)] w fun e w' => e = .returned (.int .i64 (S.perm (addr / 4096))) ∧ w' = w := by
  obtain ⟨b, pb, db, h⟩ := h
  have hc := h.cell
  by_cases h0 : S.perm (addr / 4096) = 0
  · have hl := h.look0 (addr / 4096) (by omega) h0
    rw [show ((addr / 4096 : Nat) : Int) = (addr : Int) / 4096 by omega] at hl
    rw [h0]
    clear h h0
    go_enter Try.func27, Try.ntmps27
    go_wp2
    go_ret
    exact ⟨rfl, rfl⟩
  · have hl := h.look (addr / 4096) (by omega) h0
    rw [show ((addr / 4096 : Nat) : Int) = (addr : Int) / 4096 by omega] at hl
    have hc0 := h.cell0 h0
    clear h h0
    generalize pb (addr / 4096) = P at *
    generalize S.perm (addr / 4096) = q at *
    go_enter Try.func27, Try.ntmps27
    go_wp2
    go_ret
    exact ⟨rfl, rfl⟩

theorem rget_any (m : Nat) (S : Mm) (F : Nat → Prop) (a : Nat) (w : World) (h : RM w m S F) (ha : a ≤ 18446744073709551615) (h0 : S.perm (a / 4096) ≠ 0) :
    Calls Try.prog 40 #[.pointer (some ⟨m, 0, none⟩), .int .u64 (a : Int)] w fun e w' => e = .returned (.int .u8 (S.byte a)) ∧ w' = w := by
  obtain ⟨b, pb, db, h⟩ := h
  have hc := h.cell
  have hl := h.look (a / 4096) (by omega) h0
  rw [show ((a / 4096 : Nat) : Int) = (a : Int) / 4096 by omega] at hl
  have hc1 := h.cell1 h0
  have hby := h.byte h0 (a % 4096) (by omega)
  rw [show a / 4096 * 4096 + a % 4096 = a by omega] at hby
  clear h h0
  generalize pb (a / 4096) = P at *
  generalize db (a / 4096) = D at *
  generalize S.byte a = y at *
  obtain ⟨o, ho⟩ : ∃ o, o = a % 4096 := ⟨_, rfl⟩
  have ho' : (a : Int) % 4096 = (o : Int) := by omega
  have ho4 : o < 4096 := by omega
  rw [← ho] at hby
  clear ho
  go_enter Try.func40, Try.ntmps40
  go_wp2
  go_ret
  exact ⟨rfl, rfl⟩

theorem rput_any (m : Nat) (S : Mm) (F : Nat → Prop) (a : Nat) (c : Int) (w : World) (h : RM w m S F) (ha : a ≤ 18446744073709551615) (hc : 0 ≤ c ∧ c ≤ 255) (h0 : S.perm (a / 4096) ≠ 0) :
    Calls Try.prog 38 #[.pointer (some ⟨m, 0, none⟩), .int .u64 (a : Int), .int .u8 c] w fun e w' => e = .returned (.tuple #[]) ∧ RM w' m (S.lay a [c]) F ∧ Kept F w w' := by
  obtain ⟨b, pb, db, h⟩ := h
  have hcc := h.cell
  have hl := h.look (a / 4096) (by omega) h0
  rw [show ((a / 4096 : Nat) : Int) = (a : Int) / 4096 by omega] at hl
  have hc1 := h.cell1 h0
  have hby := h.byte h0 (a % 4096) (by omega)
  have hfz : w.frozen? ⟨db (a / 4096), a % 4096, none⟩ = false := by
    obtain ⟨cs, h1, _⟩ := h.page (a / 4096) h0
    exact frozen_of_row w _ _ _ 5 h1
  have HL := hide (h.laid1 h0 (show a % 4096 < 4096 by omega) hc)
  rw [show a / 4096 * 4096 + a % 4096 = a by omega] at hby HL
  have HF := hide (h.fd _ h0)
  have hne : db (a / 4096) ≠ m := h.dm h0
  have hne2 : db (a / 4096) ≠ pb (a / 4096) := h.dp h0 h0
  obtain ⟨P, hP⟩ : ∃ P, P = pb (a / 4096) := ⟨_, rfl⟩
  obtain ⟨D, hD⟩ : ∃ D, D = db (a / 4096) := ⟨_, rfl⟩
  rw [← hP] at hl hc1 hne2
  rw [← hD] at hc1 hby hfz HL HF hne hne2
  generalize S.byte a = y at *
  obtain ⟨o, ho⟩ : ∃ o, o = a % 4096 := ⟨_, rfl⟩
  have ho' : (a : Int) % 4096 = (o : Int) := by omega
  have ho4 : o < 4096 := by omega
  rw [← ho] at hby hfz HL
  clear ho h h0 hP hD
  go_enter Try.func38, Try.ntmps38
  go_wp2
  go_end0
  exact ⟨rfl, ⟨b, pb, db, HL.out⟩, (Kept.refl F w).setCell _ _ (Or.inl HF.out)⟩

end Go.Proofs.Ytggmeopohpbmlaa
