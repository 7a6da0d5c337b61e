/- Texts of this claim, joined: MemRef, MemRefO, MemRefS, MemRefM. -/
import Derived.Test.YtgjfelkbblbjfaaGreatDoorJ12
import Derived.Laws.AppendOwnNone
/- The document's memory in a world; contracts of its NewMem, Size, Perm, May, get, put. -/
namespace Go.Proofs.YtgjfelkbblbjfaaGreatDoor
open Go.RowKit Go.Maps
set_option linter.unusedVariables false
set_option maxRecDepth 100000

structure RMx (w : World) (m b : Nat) (pb db : Nat → Nat) (S : Mm) (F : Nat → Prop) : Prop where
  head : w.heap[m]? = some (.cells #[.map (some b)] 82 (0, 0))
  map : MapAt w b S.count (fun i => if S.perm i = 0 then none else some (.pointer (some ⟨pb i, 0, none⟩)))
  good : S.Good
  node : ∀ i, S.perm i ≠ 0 → w.heap[pb i]? = some (.cells #[.int .i64 (S.perm i), .slice (some ⟨db i, 0, none⟩) 4096 4096] 89 (0, 0))
  page : ∀ i, S.perm i ≠ 0 → Page w (db i) S i
  apart : ∀ i j, S.perm i ≠ 0 → S.perm j ≠ 0 → db i = db j → i = j
  fm : F m
  fb : F b
  fp : ∀ i, S.perm i ≠ 0 → F (pb i)
  fd : ∀ i, S.perm i ≠ 0 → F (db i)
  flt : ∀ k, F k → k < w.heap.size

/-- Block m is the document's memory S; its blocks are among F. -/
def RM (w : World) (m : Nat) (S : Mm) (F : Nat → Prop) : Prop := ∃ b pb db, RMx w m b pb db S F

section
variable {w w' : World} {m b : Nat} {pb db : Nat → Nat} {S : Mm} {F G : Nat → Prop}

theorem RMx.kept (h : RMx w m b pb db S F) (hk : Kept G w w') (hd : ∀ k, F k → ¬ G k) : RMx w' m b pb db S F :=
  have same : ∀ k, F k → w'.heap[k]? = w.heap[k]? := fun k hF => hk.block k (h.flt k hF) (hd k hF)
  ⟨(same m h.fm).trans h.head, h.map.kept (same b h.fb), h.good, fun i hi => (same _ (h.fp i hi)).trans (h.node i hi), fun i hi => (h.page i hi).kept (same _ (h.fd i hi)), h.apart, h.fm, h.fb, h.fp, h.fd,
    fun k hF => Nat.lt_of_lt_of_le (h.flt k hF) hk.size⟩

theorem RM.kept (h : RM w m S F) (hk : Kept G w w') (hd : ∀ k, F k → ¬ G k) : RM w' m S F := by
  obtain ⟨b, pb, db, h⟩ := h
  exact ⟨b, pb, db, h.kept hk hd⟩

theorem RM.flt (h : RM w m S F) : ∀ k, F k → k < w.heap.size := by
  obtain ⟨b, pb, db, h⟩ := h
  exact h.flt

theorem RM.good (h : RM w m S F) : S.Good := by
  obtain ⟨b, pb, db, h⟩ := h
  exact h.good

theorem RM.below (h : RM w m S F) (hb : Below w.heap.size w w') : RM w' m S F := h.kept (kept_of_below hb (fun _ => False)) (fun _ _ h => h)
theorem RMx.below (h : RMx w m b pb db S F) (hb : Below w.heap.size w w') : RMx w' m b pb db S F := h.kept (kept_of_below hb (fun _ => False)) (fun _ _ h => h)

theorem RMx.cell (h : RMx w m b pb db S F) : w.cell? ⟨m, 0, none⟩ = some (.map (some b)) := by
  rw [cell_of_row _ _ 0 _ _ _ h.head]; rfl
theorem RMx.cell0 (h : RMx w m b pb db S F) {i : Nat} (hi : S.perm i ≠ 0) : w.cell? ⟨pb i, 0, none⟩ = some (.int .i64 (S.perm i)) := by
  rw [cell_of_row _ _ 0 _ _ _ (h.node i hi)]; rfl
theorem RMx.cell1 (h : RMx w m b pb db S F) {i : Nat} (hi : S.perm i ≠ 0) : w.cell? ⟨pb i, 1, none⟩ = some (.slice (some ⟨db i, 0, none⟩) 4096 4096) := by
  rw [cell_of_row _ _ 1 _ _ _ (h.node i hi)]; rfl
theorem RMx.byte (h : RMx w m b pb db S F) {i : Nat} (hi : S.perm i ≠ 0) (j : Nat) (hj : j < 4096) : w.cell? ⟨db i, j, none⟩ = some (.int .u8 (S.byte (i * 4096 + j))) := by
  obtain ⟨cs, h1, h2, h3⟩ := h.page i hi
  rw [cell_of_row _ _ j _ _ _ h1]
  simpa using h3 j hj
theorem RMx.look (h : RMx w m b pb db S F) (i : Nat) (hi : i ≤ 18446744073709551615) (h0 : S.perm i ≠ 0) :
    (Instr.lookup 80 (.map (some b)) (.int .u64 (i : Int)) false).run Tryz.prog w = .ok (.pointer (some ⟨pb i, 0, none⟩)) w := by
  rw [h.map.look Tryz.underlying80 (zeroPtr w) i hi, if_neg h0]; rfl
theorem RMx.look0 (h : RMx w m b pb db S F) (i : Nat) (hi : i ≤ 18446744073709551615) (h0 : S.perm i = 0) :
    (Instr.lookup 80 (.map (some b)) (.int .u64 (i : Int)) false).run Tryz.prog w = .ok (.pointer none) w := by
  rw [h.map.look Tryz.underlying80 (zeroPtr w) i hi, if_pos h0]; rfl

theorem RMx.dm (h : RMx w m b pb db S F) {i : Nat} (hi : S.perm i ≠ 0) : db i ≠ m := fun e => by
  obtain ⟨cs, h1, h2, _⟩ := h.page i hi
  rw [e, h.head] at h1
  have h3 := congrArg (fun o : Option Obj => match o with | some (.cells c _ _) => c.size | _ => 0) h1
  simp [h2] at h3
theorem RMx.dp (h : RMx w m b pb db S F) {i j : Nat} (hi : S.perm i ≠ 0) (hj : S.perm j ≠ 0) : db i ≠ pb j := fun e => by
  obtain ⟨cs, h1, h2, _⟩ := h.page i hi
  rw [e, h.node j hj] at h1
  have h3 := congrArg (fun o : Option Obj => match o with | some (.cells c _ _) => c.size | _ => 0) h1
  simp [h2] at h3
theorem RMx.dbb (h : RMx w m b pb db S F) {i : Nat} (hi : S.perm i ≠ 0) : db i ≠ b := fun e => by
  obtain ⟨cs, h1, h2, _⟩ := h.page i hi
  rw [e] at h1
  exact h.map.noCells h1
theorem RMx.pbb (h : RMx w m b pb db S F) {i : Nat} (hi : S.perm i ≠ 0) : pb i ≠ b := fun e => by
  have h1 := h.node i hi
  rw [e] at h1
  exact h.map.noCells h1
theorem RMx.mb (h : RMx w m b pb db S F) : m ≠ b := fun e => by
  have h1 := h.head
  rw [e] at h1
  exact h.map.noCells h1

theorem rm_lasts (m : Nat) (S : Mm) : Lasts (fun w F => RM w m S F) := ⟨fun h hk hd => h.kept hk hd, fun h => h.flt⟩

/-- One byte laid. -/
theorem RMx.laid1 (h : RMx w m b pb db S F) {i off : Nat} (hi : S.perm i ≠ 0) (ho : off < 4096) {c : Int} (hc : 0 ≤ c ∧ c ≤ 255) : RMx (w.setCell ⟨db i, off, none⟩ (.int .u8 c)) m b pb db (S.lay (i * 4096 + off) [c]) F := by
  have same : ∀ k, k ≠ db i → (w.setCell ⟨db i, off, none⟩ (.int .u8 c)).heap[k]? = w.heap[k]? := fun k hk => Below.heap_setCell _ _ _ _ hk
  have hb : Bytes [c] := fun x hx => by simp at hx; subst hx; exact hc
  refine ⟨(same m (fun e => h.dm hi e.symm)).trans h.head, h.map.kept (same b (fun e => h.dbb hi e.symm)), h.good.lay _ hb, fun j hj => (same _ (fun e => h.dp hi hj e.symm)).trans (h.node j hj), ?_, h.apart, h.fm, h.fb, h.fp, h.fd, fun k hk => by simpa [World.setCell] using h.flt k hk⟩
  intro j hj
  by_cases hji : j = i
  · subst hji
    obtain ⟨L, h1, h2, h3⟩ := h.page j hj
    refine (h.page j hj).laid (off := off) (by simp; omega) h1 ?_
    rw [heap_setCell_same w (db j) off _ 5 (.int .u8 c) h1, List.setIfInBounds_toArray]
    congr 2
    unfold splice
    rw [List.set_eq_take_append_cons_drop, if_pos (by omega)]
    simp
  · exact (h.page j hj).other (by simp; omega) hji (same _ (fun e => hji (h.apart j i hj hi e)))

end

theorem rnew_any (w : World) :
    Calls Tryz.prog 9 #[] w fun e w' => ∃ m F, e = .returned (.pointer (some ⟨m, 0, none⟩)) ∧ RM w' m Mm.new F ∧ (∀ k, F k → w.heap.size ≤ k) ∧ Below w.heap.size w w' := by
  have hmm := @run_makeMap Tryz.prog
  go_enter Tryz.func9, Tryz.ntmps9
  go_wp2
  go_ret
  refine ⟨w.heap.size + 1, fun k => k = w.heap.size ∨ k = w.heap.size + 1, rfl, ⟨w.heap.size, fun _ => 0, fun _ => 0, ?_, ?_, Mm.new_good, fun i hi => absurd rfl hi, fun i hi => absurd rfl hi, fun i j hi => absurd rfl hi, Or.inr rfl, Or.inl rfl, fun i hi => absurd rfl hi, fun i hi => absurd rfl hi, ?_⟩, ?_, ?_⟩
  · have := heap_alloc_new (w.alloc (.map #[] 0)) (.cells #[.map (some w.heap.size)] 82)
    simpa using this
  · exact ((MapAt.made w).kept (Below.heap_alloc _ _ _ (by simp))).congr (fun i _ => by simp [Mm.new])
  · intro k hk; simp; omega
  · intro k hk; omega
  · exact ((Below.refl _ _).alloc (Nat.le_refl _) _).alloc (by simp) _

theorem rsize_any (m : Nat) (S : Mm) (F : Nat → Prop) (w : World) (h : RM w m S F) :
    Calls Tryz.prog 37 #[.pointer (some ⟨m, 0, none⟩)] w fun e w' => e = .returned (.int .u64 ((S.count * 4096 : Nat) : Int)) ∧ w' = w := by
  obtain ⟨b, pb, db, h⟩ := h
  have hc := h.cell
  have hl := h.map.len Tryz.underlying80 3
  have hg := h.good.count
  clear h
  go_enter Tryz.func37, Tryz.ntmps37
  go_wp2
  go_ret
  exact ⟨ret_int (by omega), rfl⟩



theorem mrget_any (m : Nat) (S : Mm) (F : Nat → Prop) (a : Nat) (w : World) (h : RM w m S F) (ha : a ≤ 18446744073709551615) (h0 : S.perm (a / 4096) ≠ 0) :
    Calls Tryz.prog 44 #[.pointer (some ⟨m, 0, none⟩), .int .u64 (a : Int)] w fun e w' => e = .returned (.int .u8 (S.byte a)) ∧ w' = w := by
  obtain ⟨b, pb, db, h⟩ := h
  have hc := h.cell
  have hl := h.look (a / 4096) (by omega) h0
  rw [show ((a / 4096 : Nat) : Int) = (a : Int) / 4096 by omega] at hl
  have hc1 := h.cell1 h0
  have hby := h.byte h0 (a % 4096) (by omega)
  rw [show a / 4096 * 4096 + a % 4096 = a by omega] at hby
  clear h h0
  generalize pb (a / 4096) = P at *
  generalize db (a / 4096) = D at *
  generalize S.byte a = y at *
  obtain ⟨o, ho⟩ : ∃ o, o = a % 4096 := ⟨_, rfl⟩
  have ho' : (a : Int) % 4096 = (o : Int) := by omega
  have ho4 : o < 4096 := by omega
  rw [← ho] at hby
  clear ho
  go_enter Tryz.func44, Tryz.ntmps44
  go_wp2
  go_ret
  exact ⟨rfl, rfl⟩

theorem mrput_any (m : Nat) (S : Mm) (F : Nat → Prop) (a : Nat) (c : Int) (w : World) (h : RM w m S F) (ha : a ≤ 18446744073709551615) (hc : 0 ≤ c ∧ c ≤ 255) (h0 : S.perm (a / 4096) ≠ 0) :
    Calls Tryz.prog 92 #[.pointer (some ⟨m, 0, none⟩), .int .u64 (a : Int), .int .u8 c] w fun e w' => e = .returned (.tuple #[]) ∧ RM w' m (S.lay a [c]) F ∧ Kept F w w' := by
  obtain ⟨b, pb, db, h⟩ := h
  have hcc := h.cell
  have hl := h.look (a / 4096) (by omega) h0
  rw [show ((a / 4096 : Nat) : Int) = (a : Int) / 4096 by omega] at hl
  have hc1 := h.cell1 h0
  have hby := h.byte h0 (a % 4096) (by omega)
  have hfz : w.frozen? ⟨db (a / 4096), a % 4096, none⟩ = false := by
    obtain ⟨cs, h1, _⟩ := h.page (a / 4096) h0
    exact frozen_of_row w _ _ _ 5 h1
  have HL := hide (h.laid1 h0 (show a % 4096 < 4096 by omega) hc)
  rw [show a / 4096 * 4096 + a % 4096 = a by omega] at hby HL
  have HF := hide (h.fd _ h0)
  have hne : db (a / 4096) ≠ m := h.dm h0
  have hne2 : db (a / 4096) ≠ pb (a / 4096) := h.dp h0 h0
  obtain ⟨P, hP⟩ : ∃ P, P = pb (a / 4096) := ⟨_, rfl⟩
  obtain ⟨D, hD⟩ : ∃ D, D = db (a / 4096) := ⟨_, rfl⟩
  rw [← hP] at hl hc1 hne2
  rw [← hD] at hc1 hby hfz HL HF hne hne2
  generalize S.byte a = y at *
  obtain ⟨o, ho⟩ : ∃ o, o = a % 4096 := ⟨_, rfl⟩
  have ho' : (a : Int) % 4096 = (o : Int) := by omega
  have ho4 : o < 4096 := by omega
  rw [← ho] at hby hfz HL
  clear ho h h0 hP hD
  go_enter Tryz.func92, Tryz.ntmps92
  go_wp2
  go_end0
  exact ⟨rfl, ⟨b, pb, db, HL.out⟩, (Kept.refl F w).setCell _ _ (Or.inl HF.out)⟩

end Go.Proofs.YtgjfelkbblbjfaaGreatDoor

/- Contracts of the document's May, num, Load, Store, Fetch, Read, Write. -/
namespace Go.Proofs.YtgjfelkbblbjfaaGreatDoor
open Go.RowKit Go.Maps
set_option linter.unusedVariables false
set_option maxRecDepth 100000

theorem RM.far_wrap {S : Mm} {a n : Nat} (ha : a ≤ 18446744073709551615) (hn : n ≤ 18446744073709551615) (h0 : n ≠ 0) (hf : 18446744073709551616 ≤ a + n - 1) : IntKind.u64.wrap ((a : Int) + ((n : Int) - 1)) = (a : Int) + ((n : Int) - 1) - 18446744073709551616 := by
  rw [IntKind.wrap_u64]; omega

set_option maxHeartbeats 1600000 in
theorem rmay_any (m : Nat) (S : Mm) (F : Nat → Prop) (a n : Nat) (p : Int) (w : World) (h : RM w m S F) (ha : a ≤ 18446744073709551615) (hn : n ≤ 18446744073709551615) (hp : bits .and .i64 0 p = 0) :
    Calls Tryz.prog 43 #[.pointer (some ⟨m, 0, none⟩), .int .u64 (a : Int), .int .u64 (n : Int), .int .i64 p] w fun e w' => e = .returned (.bool (mayB S a n p)) ∧ w' = w := by
  by_cases h0 : n = 0
  · rw [mayB_yes (Or.inl h0)]
    subst h0
    go_enter Tryz.func43, Tryz.ntmps43
    go_wp2
    go_ret
    exact ⟨rfl, rfl⟩
  by_cases h1 : 18446744073709551616 ≤ a + n - 1
  · rw [mayB_no (h.good.far h0 hp (by omega))]
    have hw := RM.far_wrap (S := S) ha hn h0 h1
    have hlt : decide ((a : Int) + ((n : Int) - 1) - 18446744073709551616 < (a : Int)) = true := by simp; omega
    go_enter Tryz.func43, Tryz.ntmps43
    go_wp2
    go_ret
    exact ⟨rfl, rfl⟩
  · obtain ⟨b, pb, db, h⟩ := h
    have hc := h.cell
    have HP := hide h
    clear h
    have hnw : decide ((a : Int) + ((n : Int) - 1) < (a : Int)) = false := by simp; omega
    obtain ⟨l, hl⟩ : ∃ l, l = (a + n - 1) / 4096 := ⟨_, rfl⟩
    have hl' : ((a : Int) + ((n : Int) - 1)) / 4096 = ((l : Nat) : Int) := by omega
    have HL := hide hl
    obtain ⟨f, hf⟩ : ∃ f, f = a / 4096 := ⟨_, rfl⟩
    have hf' : (a : Int) / 4096 = (f : Int) := by omega
    have HF := hide hf
    have hfl : f ≤ l := by omega
    have hll : l ≤ 4503599627370496 := by omega
    clear hf hl
    have hMay : Hid (Mayp S a n p ↔ ∀ i, f ≤ i → i ≤ l → bits .and .i64 (S.perm i) p ≠ 0) := by
      unfold Mayp
      rw [← HL.out, ← HF.out]
      exact ⟨fun h => h.resolve_left h0, Or.inr⟩
    go_enter Tryz.func43, Tryz.ntmps43
    go_wp2
    go_loop [9] (fun v => ∃ k : Nat, f ≤ k ∧ k ≤ l + 1 ∧ v = .int .u64 (k : Int) ∧ ∀ j, f ≤ j → j < k → bits .and .i64 (S.perm j) p ≠ 0) (fun v => l + 1 - (intOf v).toNat)
    case atStart => exact ⟨f, Nat.le_refl _, by omega, rfl, fun j h1 h2 => by omega⟩
    case round =>
      obtain ⟨k, hk1, hk2, rfl, hall⟩ := hrel
      have HA := hide hall
      clear hall
      by_cases hlt : k ≤ l
      · by_cases hz0 : S.perm k = 0
        · have hr := HP.out.look0 k (by omega) hz0
          have hno : Hid (¬ Mayp S a n p) := fun hm => hMay.out.1 hm k hk1 hlt (by rw [hz0]; exact hp)
          clear hz0
          go_wp2
          go_ret
          exact ⟨ret_bool (mayB_no hno.out).symm, rfl⟩
        · have hr := HP.out.look k (by omega) hz0
          have hc0 := HP.out.cell0 hz0
          obtain ⟨q, hq⟩ : ∃ q, q = S.perm k := ⟨_, rfl⟩
          rw [← hq] at hc0
          have HQ := hide hq
          clear hq hz0
          generalize pb k = P at hr hc0
          by_cases hz : bits .and .i64 q p = 0
          · have hno : Hid (¬ Mayp S a n p) := fun hm => hMay.out.1 hm k hk1 hlt (by rw [← HQ.out]; exact hz)
            go_wp2
            go_ret
            exact ⟨ret_bool (mayB_no hno.out).symm, rfl⟩
          · have hz' : (bits .and .i64 q p == 0) = false := by simpa using hz
            have HZ := hide hz
            clear hz
            go_wp2
            go_round
            case rel =>
              refine ⟨k + 1, by omega, by omega, by go_num, fun j h1 h2 => ?_⟩
              by_cases hjk : j = k
              · subst hjk; rw [← HQ.out]; exact HZ.out
              · exact HA.out j h1 (by omega)
            case measure => simp [intOf]; omega
      · have hyes : Hid (Mayp S a n p) := hMay.out.2 (fun i h1 h2 => HA.out i h1 (by omega))
        go_wp2
        go_ret
        exact ⟨ret_bool (mayB_yes hyes.out).symm, rfl⟩

theorem Mm.read_drop (S : Mm) (a n k : Nat) (h : k ≤ n) : (S.read a n).drop k = S.read (a + k) (n - k) := by
  apply List.ext_getElem?
  intro j
  rw [List.getElem?_drop]
  by_cases hj : j < n - k
  · rw [Mm.read_at _ _ _ _ (by omega), Mm.read_at _ _ _ _ hj]
    congr 2; omega
  · rw [List.getElem?_eq_none (by rw [Mm.read_length]; omega), List.getElem?_eq_none (by rw [Mm.read_length]; omega)]

set_option maxHeartbeats 1600000 in
theorem rnum_any (m : Nat) (S : Mm) (F : Nat → Prop) (a n : Nat) (w : World) (h : RM w m S F) (ha : a + n ≤ 140737488355328) (h8 : n ≤ 8) (hpg : ∀ i, a / 4096 ≤ i → i * 4096 < a + n → S.perm i ≠ 0) :
    Calls Tryz.prog 88 #[.pointer (some ⟨m, 0, none⟩), .int .u64 (a : Int), .int .i64 (n : Int)] w fun e w' => e = .returned (.int .u64 (num (S.read a n))) ∧ w' = w := by
  have HM := hide h
  have HG := hide hpg
  have hby := Mm.read_bytes h.good a n
  have hrl := S.read_length a n
  have hrat := fun k hk => S.read_at a n k hk
  generalize S.read a n = X at *
  clear h hpg
  go_enter Tryz.func88, Tryz.ntmps88
  go_wp2
  go_loop [7, 8] (fun v i => ∃ k : Nat, k ≤ n ∧ i = .int .i64 ((k : Int) - 1) ∧ v = .int .u64 (num (X.drop k))) (fun _ i => (intOf i + 1).toNat)
  case atStart => exact ⟨n, Nat.le_refl _, rfl, by rw [List.drop_eq_nil_of_le (by omega)]; rfl⟩
  case round =>
    obtain ⟨k, hk, rfl, rfl⟩ := hrel
    by_cases hlt : k = 0
    · subst hlt
      clear hrat
      go_wp2
      go_ret
      exact ⟨rfl, rfl⟩
    · obtain ⟨j, rfl⟩ : ∃ j, k = j + 1 := ⟨k - 1, by omega⟩
      have HU : Hid (bits .or .u64 (IntKind.u64.wrap (num (X.drop (j + 1)) * 256)) (X[j]?.getD 0) = num (X.drop j)) := num_down X j hby (by omega) (by omega)
      have e1 := hrat j (by omega)
      rw [e1, Option.getD_some] at HU
      have hbb := HM.out.good.byte (a + j)
      obtain ⟨A, hA⟩ : ∃ A : Nat, A = a + j := ⟨_, rfl⟩
      have hA' : (a : Int) + (j : Int) = (A : Int) := by omega
      have HGt := hide (mrget_any m S F A w HM.out (by omega) (HG.out (A / 4096) (by omega) (by omega)))
      rw [← hA] at HU hbb
      generalize S.byte A = y at *
      obtain ⟨V, hV⟩ : ∃ V, V = num (X.drop (j + 1)) := ⟨_, rfl⟩
      rw [← hV] at HU
      rw [← hV]
      have ej : ((j + 1 : Nat) : Int) - 1 = j := by omega
      rw [ej]
      clear ej hV e1 hA hlt hrat hby
      go_wp2_with fail
      refine HGt.out.mono ?_
      rintro e w' ⟨rfl, rfl⟩
      go_wp2
      go_round
      case rel => exact ⟨j, by omega, by go_num, by rw [← HU.out]⟩
      case measure => simp [intOf]

theorem rload_any (m : Nat) (S : Mm) (F : Nat → Prop) (a : Nat) (n : Int) (w : World) (h : RM w m S F) (ha : a ≤ 18446744073709551615) (hn0 : -9223372036854775808 ≤ n) (hn1 : n ≤ 9223372036854775807) :
    Calls Tryz.prog 64 #[.pointer (some ⟨m, 0, none⟩), .int .u64 (a : Int), .int .i64 n] w fun e w' =>
      e = .returned (.tuple #[.int .u64 (loadV S a n), .bool (numOk S a n 4)]) ∧ w' = w := by
  have HW := hide (width_any n)
  by_cases hw : WidthOk n
  · obtain ⟨k, rfl⟩ : ∃ k : Nat, n = k := ⟨n.toNat, by unfold WidthOk at hw; omega⟩
    have hk8 : 1 ≤ k ∧ k ≤ 8 := by unfold WidthOk at hw; omega
    have HMay := hide (rmay_any m S F a k 4 w h ha (by omega) and_4)
    have e1 : numOk S a (k : Int) 4 = mayB S a k 4 := by simp [numOk, hw]
    have e2 : loadV S a (k : Int) = if mayB S a k 4 = true then num (S.read a k) else 0 := by simp [loadV, e1]
    rw [e1, e2]
    have HW2 : Hid (∀ w, Calls Tryz.prog 91 #[.int .i64 (k : Int)] w fun e w' => e = .returned (.bool true) ∧ w' = w) := fun w => by
      have := HW.out w
      rwa [decide_eq_true hw] at this
    clear HW
    by_cases hm : Mayp S a k 4
    · rw [mayB_yes hm] at HMay
      rw [mayB_yes hm, if_pos rfl]
      have hbd := hm.bd h.good and_4 (by omega)
      have HN := hide (rnum_any m S F a k w h (by omega) hk8.2 (fun i h1 h2 => hm.mapped and_4 h1 h2 (by omega)))
      clear h hw e1 e2 hm
      go_enter Tryz.func64, Tryz.ntmps64
      go_wp2_with fail
      refine (HW2.out _).mono ?_
      rintro e w' ⟨rfl, rfl⟩
      go_wp2_with fail
      refine HMay.out.mono ?_
      rintro e w' ⟨rfl, rfl⟩
      go_wp2_with fail
      refine HN.out.mono ?_
      rintro e w' ⟨rfl, rfl⟩
      go_wp2
      go_ret2
      exact ⟨rfl, rfl⟩
    · rw [mayB_no hm] at HMay
      rw [mayB_no hm, if_neg (by decide)]
      clear h hw e1 e2 hm
      go_enter Tryz.func64, Tryz.ntmps64
      go_wp2_with fail
      refine (HW2.out _).mono ?_
      rintro e w' ⟨rfl, rfl⟩
      go_wp2_with fail
      refine HMay.out.mono ?_
      rintro e w' ⟨rfl, rfl⟩
      go_wp2
      go_ret2
      exact ⟨rfl, rfl⟩
  · have e1 : numOk S a n 4 = false := by simp [numOk, hw]
    have e2 : loadV S a n = 0 := by simp [loadV, e1]
    rw [e1, e2]
    have HW2 : Hid (∀ w, Calls Tryz.prog 91 #[.int .i64 n] w fun e w' => e = .returned (.bool false) ∧ w' = w) := fun w => by
      have := HW.out w
      rwa [decide_eq_false hw] at this
    clear HW h hw e1 e2
    go_enter Tryz.func64, Tryz.ntmps64
    go_wp2_with fail
    refine (HW2.out _).mono ?_
    rintro e w' ⟨rfl, rfl⟩
    go_wp2_with fail
    go_ret2
    exact ⟨rfl, rfl⟩

theorem rfetch_any (m : Nat) (S : Mm) (F : Nat → Prop) (a : Nat) (w : World) (h : RM w m S F) (ha : a ≤ 18446744073709551615) :
    Calls Tryz.prog 59 #[.pointer (some ⟨m, 0, none⟩), .int .u64 (a : Int)] w fun e w' =>
      e = .returned (.tuple #[.int .u32 (fetchV S a), .bool (mayB S a 4 1)]) ∧ w' = w := by
  have HMay := hide (rmay_any m S F a 4 1 w h ha (by omega) and_1)
  have hb := fetchV_bd h.good a
  unfold fetchV at *
  by_cases hm : Mayp S a 4 1
  · rw [mayB_yes hm] at HMay hb
    rw [if_pos rfl] at hb
    rw [mayB_yes hm, if_pos rfl]
    have hbd := hm.bd h.good and_1 (by omega)
    have HN := hide (rnum_any m S F a 4 w h (by omega) (by omega) (fun i h1 h2 => hm.mapped and_1 h1 h2 (by omega)))
    generalize num (S.read a 4) = v at *
    clear h hm
    go_enter Tryz.func59, Tryz.ntmps59
    go_wp2_with fail
    refine HMay.out.mono ?_
    rintro e w' ⟨rfl, rfl⟩
    go_wp2_with fail
    refine HN.out.mono ?_
    rintro e w' ⟨rfl, rfl⟩
    go_wp2
    go_ret2
    exact ⟨rfl, rfl⟩
  · rw [mayB_no hm] at HMay
    rw [mayB_no hm, if_neg (by decide)]
    clear h hm hb
    go_enter Tryz.func59, Tryz.ntmps59
    go_wp2_with fail
    refine HMay.out.mono ?_
    rintro e w' ⟨rfl, rfl⟩
    go_wp2
    go_ret2
    exact ⟨rfl, rfl⟩

end Go.Proofs.YtgjfelkbblbjfaaGreatDoor

/- Contracts of the document's Store, Write, Read. -/
namespace Go.Proofs.YtgjfelkbblbjfaaGreatDoor
open Go.RowKit Go.Maps
set_option linter.unusedVariables false
set_option maxRecDepth 100000

set_option maxHeartbeats 1600000 in
theorem rstore_any (m : Nat) (S : Mm) (F : Nat → Prop) (a : Nat) (n v : Int) (w : World) (h : RM w m S F) (ha : a ≤ 18446744073709551615) (hn0 : -9223372036854775808 ≤ n) (hn1 : n ≤ 9223372036854775807) (hv0 : 0 ≤ v) (hv1 : v ≤ 18446744073709551615) :
    Calls Tryz.prog 66 #[.pointer (some ⟨m, 0, none⟩), .int .u64 (a : Int), .int .i64 n, .int .u64 v] w fun e w' =>
      e = .returned (.bool (numOk S a n 2)) ∧ RM w' m (stored S a n v) F ∧ Kept F w w' := by
  have HW := hide (width_any n)
  by_cases hw : WidthOk n
  · obtain ⟨k, rfl⟩ : ∃ k : Nat, n = k := ⟨n.toNat, by unfold WidthOk at hw; omega⟩
    have hk8 : 1 ≤ k ∧ k ≤ 8 := by unfold WidthOk at hw; omega
    have HMay := hide (rmay_any m S F a k 2 w h ha (by omega) and_2)
    have e1 : numOk S a (k : Int) 2 = mayB S a k 2 := by simp [numOk, hw]
    have HW2 : Hid (∀ w, Calls Tryz.prog 91 #[.int .i64 (k : Int)] w fun e w' => e = .returned (.bool true) ∧ w' = w) := fun w => by
      have := HW.out w
      rwa [decide_eq_true hw] at this
    clear HW
    by_cases hm : Mayp S a k 2
    · rw [mayB_yes hm] at HMay e1
      have e2 : stored S a (k : Int) v = S.lay a (bytesOf v k) := by simp [stored, e1]
      rw [e1, e2]
      have hbd := hm.bd h.good and_2 (by omega)
      have HM := hide hm
      have HP := hide h
      have hk1 := hk8.1
      have hk2 := hk8.2
      clear h hw e1 e2 hm hk8
      go_enter Tryz.func66, Tryz.ntmps66
      go_wp2_with fail
      refine (HW2.out _).mono ?_
      rintro e w' ⟨rfl, rfl⟩
      go_wp2_with fail
      refine HMay.out.mono ?_
      rintro e w' ⟨rfl, rfl⟩
      clear HMay HW2
      go_wp2
      go_loopw [9] (fun i wr => ∃ j : Nat, j ≤ k ∧ i = .int .i64 (j : Int) ∧ RM wr m (S.lay a (bytesOf v j)) F ∧ Kept F w' wr) (fun i _ => k - (intOf i).toNat)
      case atStart => exact ⟨0, by omega, rfl, by rw [show bytesOf v 0 = [] from rfl, Mm.lay_nil]; exact HP.out, Kept.refl _ _⟩
      case round =>
        obtain ⟨j, hj, rfl, hR, hK⟩ := hrel
        have HR := hide hR
        have HK := hide hK
        clear hR hK
        by_cases hlt : j < k
        · obtain ⟨A, hA⟩ : ∃ A : Nat, A = a + j := ⟨_, rfl⟩
          have hA' : (a : Int) + (j : Int) = (A : Int) := by omega
          have hby := byteOf_bd v j
          have HPut := hide (mrput_any m (S.lay a (bytesOf v j)) F A (byteOf v j) wr HR.out (by omega) hby (HM.out.mapped and_2 (i := A / 4096) (by omega) (by omega) (by omega)))
          have HE : Hid ((S.lay a (bytesOf v j)).lay A [byteOf v j] = S.lay a (bytesOf v (j + 1))) := by
            show _ = _
            rw [bytesOf_succ, ← Mm.lay_more, bytesOf_length, hA]
          have HBy : Hid (byteOf v j = v / 2 ^ (8 * j) % 256) := rfl
          rw [HE.out] at HPut
          clear hA HE
          go_wp2_with fail
          refine HPut.out.mono ?_
          rintro e W ⟨rfl, hR, hK⟩
          have HR2 := hide hR
          have HK2 := hide (HK.out.trans hK (fun k hk => Or.inl hk))
          clear hR hK HPut HR HK
          go_wp2
          go_roundw
          case rel => exact ⟨j + 1, by omega, by go_num, HR2.out, HK2.out⟩
          case measure => simp [intOf]; omega
        · obtain rfl : j = k := by omega
          go_wp2
          go_ret
          exact ⟨rfl, HR.out, HK.out⟩
    · rw [mayB_no hm] at HMay e1
      have e2 : stored S a (k : Int) v = S := by simp [stored, e1]
      rw [e1, e2]
      have HP := hide h
      clear h hw e1 e2 hm
      go_enter Tryz.func66, Tryz.ntmps66
      go_wp2_with fail
      refine (HW2.out _).mono ?_
      rintro e w' ⟨rfl, rfl⟩
      go_wp2_with fail
      refine HMay.out.mono ?_
      rintro e w' ⟨rfl, rfl⟩
      clear HMay HW2
      go_wp2
      go_ret
      exact ⟨rfl, HP.out, Kept.refl _ _⟩
  · have e1 : numOk S a n 2 = false := by simp [numOk, hw]
    have e2 : stored S a n v = S := by simp [stored, e1]
    rw [e1, e2]
    have HW2 : Hid (∀ w, Calls Tryz.prog 91 #[.int .i64 n] w fun e w' => e = .returned (.bool false) ∧ w' = w) := fun w => by
      have := HW.out w
      rwa [decide_eq_false hw] at this
    have HP := hide h
    clear HW h hw e1 e2
    go_enter Tryz.func66, Tryz.ntmps66
    go_wp2_with fail
    refine (HW2.out _).mono ?_
    rintro e w' ⟨rfl, rfl⟩
    go_wp2_with fail
    go_ret
    exact ⟨rfl, HP.out, Kept.refl _ _⟩

set_option maxHeartbeats 1600000 in
theorem rwrite_any (m : Nat) (S : Mm) (F : Nat → Prop) (a0 : Nat) (a : Option Addr) (len cap : Nat) (bs : List Int) (w : World) (h : RM w m S F) (ha : a0 ≤ 18446744073709551615) (r : Rd w a len cap bs)
    (hsep : 0 < len → ∀ x, a = some x → ¬ F x.block) :
    Calls Tryz.prog 94 #[.pointer (some ⟨m, 0, none⟩), .int .u64 (a0 : Int), .slice a len cap] w fun e w' =>
      e = .returned (.bool (manyOk S a0 len 2)) ∧ RM w' m (if manyOk S a0 len 2 = true then S.lay a0 bs else S) F ∧ Kept F w w' := by
  have hle0 := r.le
  have hmx := r.max
  have hbl := r.length
  have HMay := hide (rmay_any m S F a0 len 2 w h ha (by omega) and_2)
  by_cases hle : len ≤ 65536
  · have hle' : decide ((65536 : Int) < (len : Int)) = false := by simp; omega
    by_cases hm : Mayp S a0 len 2
    · have e1 : manyOk S a0 len 2 = true := by simp [manyOk, hle, mayB_yes hm]
      rw [mayB_yes hm] at HMay
      rw [e1, if_pos rfl]
      have HM := hide hm
      have HP := hide h
      have HRd := hide r
      have HS := hide hsep
      have hbd : 0 < len → a0 + len ≤ 140737488355328 := fun h9 => hm.bd h.good and_2 (by omega)
      have HBd := hide hbd
      clear h hm r hsep e1 hbd
      go_enter Tryz.func94, Tryz.ntmps94
      go_wp2_with fail
      refine HMay.out.mono ?_
      rintro e w' ⟨rfl, rfl⟩
      clear HMay
      go_wp2
      go_loopw [7] (fun i wr => ∃ j : Nat, j ≤ len ∧ i = .int .i64 (j : Int) ∧ RM wr m (S.lay a0 (bs.take j)) F ∧ Kept F w' wr) (fun i _ => len - (intOf i).toNat)
      case atStart => exact ⟨0, by omega, rfl, by rw [List.take_zero, Mm.lay_nil]; exact HP.out, Kept.refl _ _⟩
      case round =>
        obtain ⟨j, hj, rfl, hR, hK⟩ := hrel
        have HR := hide hR
        have HK := hide hK
        clear hR hK
        by_cases hlt : j < len
        · have hbd := HBd.out (by omega)
          have hr2 := HK.out.rd HRd.out HS.out
          obtain ⟨b, o, hae, hc⟩ := hr2.addr (by omega)
          have hcj := hc j hlt
          have hyb := hr2.bytes.at j
          obtain ⟨y, hy⟩ : ∃ y, y = bs[j]?.getD 0 := ⟨_, rfl⟩
          rw [List.getD_eq_getElem?_getD, ← hy] at hcj
          rw [← hy] at hyb
          subst hae
          obtain ⟨A, hA⟩ : ∃ A : Nat, A = a0 + j := ⟨_, rfl⟩
          have hA' : (a0 : Int) + (j : Int) = (A : Int) := by omega
          have HPut := hide (mrput_any m (S.lay a0 (bs.take j)) F A y wr HR.out (by omega) hyb (HM.out.mapped and_2 (i := A / 4096) (by omega) (by omega) (by omega)))
          have HE : Hid ((S.lay a0 (bs.take j)).lay A [y] = S.lay a0 (bs.take (j + 1))) := by
            show _ = _
            have e2 : (bs.take j).length = j := by simp; omega
            have e3 := Mm.lay_more S a0 (bs.take j) [y]
            rw [e2, ← hA] at e3
            rw [e3, hy, ← take_snoc bs j (by omega)]
          rw [HE.out] at HPut
          clear hA HE hr2 hc hy
          go_wp2_with fail
          refine HPut.out.mono ?_
          rintro e W ⟨rfl, hR, hK⟩
          have HR2 := hide hR
          have HK2 := hide (HK.out.trans hK (fun k hk => Or.inl hk))
          clear hR hK HPut HR HK
          go_wp2
          go_roundw
          case rel => exact ⟨j + 1, by omega, by go_num, HR2.out, HK2.out⟩
          case measure => simp [intOf]; omega
        · obtain rfl : j = len := by omega
          have HR2 : Hid (RM wr m (S.lay a0 bs) F) := by
            have h9 := HR.out
            rwa [List.take_of_length_le (by omega)] at h9
          clear HR
          go_wp2
          go_ret
          exact ⟨rfl, HR2.out, HK.out⟩
    · have e1 : manyOk S a0 len 2 = false := by simp [manyOk, mayB_no hm]
      rw [mayB_no hm] at HMay
      rw [e1, if_neg (by decide)]
      have HP := hide h
      clear h hm r hsep e1
      go_enter Tryz.func94, Tryz.ntmps94
      go_wp2_with fail
      refine HMay.out.mono ?_
      rintro e w' ⟨rfl, rfl⟩
      clear HMay
      go_wp2
      go_ret
      exact ⟨rfl, HP.out, Kept.refl _ _⟩
  · have e1 : manyOk S a0 len 2 = false := by simp [manyOk, hle]
    rw [e1, if_neg (by decide)]
    have HP := hide h
    clear h r hsep e1 HMay
    go_enter Tryz.func94, Tryz.ntmps94
    go_wp2_with fail
    go_ret
    exact ⟨rfl, HP.out, Kept.refl _ _⟩

theorem Mm.read_succ (S : Mm) (a n : Nat) : S.read a (n + 1) = S.read a n ++ [S.byte (a + n)] := by
  simp [Mm.read, List.range_succ]

set_option maxHeartbeats 1600000 in
theorem rread_any (m : Nat) (S : Mm) (F : Nat → Prop) (a n : Nat) (w : World) (h : RM w m S F) (ha : a ≤ 18446744073709551615) (hn : n ≤ 18446744073709551615) :
    Calls Tryz.prog 21 #[.pointer (some ⟨m, 0, none⟩), .int .u64 (a : Int), .int .u64 (n : Int)] w fun e w' =>
      (∃ b l c, e = .returned (.tuple #[.slice b l c, .bool (manyOk S a n 4)]) ∧ Rd w' b l c (if manyOk S a n 4 = true then S.read a n else [])) ∧ Below w.heap.size w w' := by
  have HMay := hide (rmay_any m S F a n 4 w h ha hn and_4)
  by_cases hle : n ≤ 65536
  · have hle' : decide ((65536 : Int) < (n : Int)) = false := by simp; omega
    by_cases hm : Mayp S a n 4
    · have e1 : manyOk S a n 4 = true := by simp [manyOk, hle, mayB_yes hm]
      rw [mayB_yes hm] at HMay
      rw [e1, if_pos rfl]
      have HM := hide hm
      have HP := hide h
      have HBd := hide (show 0 < n → a + n ≤ 140737488355328 from fun h9 => hm.bd h.good and_4 (by omega))
      have HGd := hide h.good
      obtain ⟨i0, hi, hz0, hz1, hz2⟩ := info_parts Tryz.info8
      clear h hm e1
      go_enter Tryz.func21, Tryz.ntmps21
      go_wp2_with fail
      refine HMay.out.mono ?_
      rintro e w' ⟨rfl, rfl⟩
      clear HMay
      go_wp2
      go_loopw [8, 9] (fun v i wr => ∃ (k : Nat) (v0 : Value), k ≤ n ∧ v0 = v ∧ i = .int .u64 (k : Int) ∧ Hid (wr.ownsRow w'.heap.size 5 1 v0 k ((S.read a k).map (Value.int .u8))) ∧ Hid (Below w'.heap.size w' wr)) (fun _ i _ => n - (intOf i).toNat)
      case atStart => exact ⟨0, _, by omega, rfl, rfl, World.ownsRow_nil _ _ _ _, Below.refl _ _⟩
      case round =>
        obtain ⟨k, v0, hk, rfl, rfl, HO, HB⟩ := hrel
        by_cases hlt : k < n
        · have hbd := HBd.out (by omega)
          have hsz : w'.heap.size ≤ wr.heap.size := HB.out.size
          have HLT := hide HO.out.lt
          obtain ⟨A, hA⟩ : ∃ A : Nat, A = a + k := ⟨_, rfl⟩
          have hA' : (a : Int) + (k : Int) = (A : Int) := by omega
          have hbb := HGd.out.byte A
          have HGt := hide (mrget_any m S F A wr (HP.out.below HB.out) (by omega) (HM.out.mapped and_4 (i := A / 4096) (by omega) (by omega) (by omega)))
          have HS : Hid (S.read a (k + 1) = S.read a k ++ [S.byte A]) := by show _ = _; rw [Mm.read_succ, hA]
          clear hA
          generalize S.byte A = y at *
          go_wp2_with fail
          refine HGt.out.mono ?_
          rintro e wr ⟨rfl, rfl⟩
          clear HGt
          go_wp2_with (at_builtin; refine wpList_append_own _ rfl _ _ 24 rfl w'.heap.size 5 i0 (.int .u8 0) 1 1 Tryz.underlying24 hi hz0 hz1 hz2 rfl (by decide) _ _ _ rfl (HO.out.alloc _) ⟨wr.heap.size, 0, none⟩ 1 1 [.int .u8 y] rfl rfl ?d1 ?d2 ?d3 ?d4 ?d5 ?_)
          case d1 =>
            intro j u hj
            match j, hj with
            | 0, hj => simp at hj; subst hj; simp [Addr.add]
          case d2 => intro u hu; simp at hu; subst hu; rfl
          case d3 => unfold maxLen; omega
          case d4 => omega
          case d5 => simp; omega
          · intro v' w1 hown' hgrow _
            have R : Hid (w1.ownsRow w'.heap.size 5 1 v' (k + 1) ((S.read a (k + 1)).map (Value.int .u8))) := by
              rw [HS.out]; simpa using hide hown'
            have B1 : Hid (Below w'.heap.size w' w1) := hide ((HB.out.alloc hsz _).grown hgrow (by simp; omega) (fun j hj => (HLT.out j hj).1))
            clear hown' hgrow HO HB HLT HS
            go_wp2
            go_roundw
            case rel => exact ⟨k + 1, v', by omega, rfl, by go_num, R.out, B1.out⟩
            case measure => simp [intOf]; omega
        · obtain rfl : k = n := by omega
          have hr := Rd.own HO.out (Mm.read_bytes HGd.out a k)
          obtain ⟨b, c, rfl, hr⟩ := hr
          have HR := hide hr
          clear hr HO
          go_wp2
          go_ret2
          exact ⟨⟨b, k, c, rfl, HR.out⟩, HB.out⟩
    · have e1 : manyOk S a n 4 = false := by simp [manyOk, mayB_no hm]
      rw [mayB_no hm] at HMay
      rw [e1, if_neg (by decide)]
      clear h hm e1
      go_enter Tryz.func21, Tryz.ntmps21
      go_wp2_with fail
      refine HMay.out.mono ?_
      rintro e w' ⟨rfl, rfl⟩
      go_wp2
      go_ret2
      exact ⟨⟨none, 0, 0, rfl, Rd.nothing _⟩, Below.refl _ _⟩
  · have e1 : manyOk S a n 4 = false := by simp [manyOk, hle]
    rw [e1, if_neg (by decide)]
    clear h e1 HMay
    go_enter Tryz.func21, Tryz.ntmps21
    go_wp2_with fail
    go_ret2
    exact ⟨⟨none, 0, 0, rfl, Rd.nothing _⟩, Below.refl _ _⟩

end Go.Proofs.YtgjfelkbblbjfaaGreatDoor

/- The contract of the document's Map. -/
namespace Go.Proofs.YtgjfelkbblbjfaaGreatDoor
open Go.RowKit Go.Maps
set_option linter.unusedVariables false
set_option maxRecDepth 100000

/-- A page more: its node and its bytes are new. -/
theorem RMx.more {V V' : World} {m b : Nat} {pb db : Nat → Nat} {S : Mm} {F : Nat → Prop} (h : RMx V m b pb db S F) {i P D : Nat} {p : Int} (h0 : S.perm i = 0) (hp : 1 ≤ p ∧ p ≤ 7) (hi : i < 34359738368) (hc : S.count + 1 ≤ 65536)
    (hP : ¬ F P) (hD : ¬ F D) (hPD : P ≠ D) {cs : List Int} (hcs : cs.length ≤ 4096) (hb : Bytes cs)
    (hmap : MapAt V' b (S.count + 1) (upd (fun j => if S.perm j = 0 then none else some (.pointer (some ⟨pb j, 0, none⟩))) i (.pointer (some ⟨P, 0, none⟩))))
    (hnode : V'.heap[P]? = some (.cells #[.int .i64 p, .slice (some ⟨D, 0, none⟩) 4096 4096] 89 (0, 0)))
    {L : List Value} (hL : V'.heap[D]? = some (.cells L.toArray 5 (0, 0))) (hLl : L.length = 4096) (hLb : ∀ j, j < 4096 → L[j]? = some (.int .u8 (cs.getD j 0)))
    (hK : Kept (fun k => k = b) V V') :
    RMx V' m b (fun j => if j = i then P else pb j) (fun j => if j = i then D else db j) ((S.mapped i 1 p).lay (i * 4096) cs) (fun k => F k ∨ k = P ∨ k = D) := by
  have same : ∀ k, F k → k ≠ b → V'.heap[k]? = V.heap[k]? := fun k hF hne => hK.block k (h.flt k hF) hne
  have hpe : ∀ j, ((S.mapped i 1 p).lay (i * 4096) cs).perm j = if j = i then p else S.perm j := fun j => by
    simp only [Mm.mapped, Mm.lay]
    by_cases hji : j = i
    · rw [if_pos hji, if_pos (by omega)]
    · rw [if_neg hji, if_neg (by omega)]
  have hby : ∀ j k, k < 4096 → ((S.mapped i 1 p).lay (i * 4096) cs).byte (j * 4096 + k) = if j = i then cs.getD k 0 else S.byte (j * 4096 + k) := fun j k hk => by
    simp only [Mm.mapped, Mm.lay]
    have e : (j * 4096 + k) / 4096 = j := by omega
    rw [e]
    by_cases hji : j = i
    · subst hji
      rw [if_pos rfl]
      by_cases hkc : k < cs.length
      · rw [if_pos (by omega), show j * 4096 + k - j * 4096 = k by omega]
      · rw [if_neg (by omega), if_pos (by omega), List.getD_eq_getElem?_getD, List.getElem?_eq_none (by omega)]; rfl
    · rw [if_neg hji, if_neg (by omega), if_neg (by omega)]
  refine ⟨(same m h.fm h.mb).trans h.head, hmap.congr (fun j _ => ?_), (h.good.mapped i 1 hp hc (by omega)).lay _ hb, ?_, ?_, ?_, Or.inl h.fm, Or.inl h.fb, ?_, ?_, ?_⟩
  · unfold upd
    rw [hpe j]
    by_cases hji : j = i
    · have hp0 : p ≠ 0 := by omega
      rw [if_pos hji, if_pos hji, if_neg hp0, if_pos hji]
    · rw [if_neg hji, if_neg hji, if_neg hji]
  · intro j hj
    rw [hpe j] at hj ⊢
    by_cases hji : j = i
    · simp only [if_pos hji]; exact hnode
    · simp only [if_neg hji] at hj ⊢
      exact (same _ (h.fp j hj) (h.pbb hj)).trans (h.node j hj)
  · intro j hj
    rw [hpe j] at hj
    by_cases hji : j = i
    · simp only [if_pos hji]
      exact ⟨L, hL, hLl, fun k hk => by rw [hLb k hk, hby j k hk, if_pos hji]⟩
    · simp only [if_neg hji] at hj ⊢
      obtain ⟨cs', h1, h2, h3⟩ := h.page j hj
      exact ⟨cs', (same _ (h.fd j hj) (h.dbb hj)).trans h1, h2, fun k hk => by rw [h3 k hk, hby j k hk, if_neg hji]⟩
  · intro j k hj hk he
    rw [hpe] at hj hk
    by_cases hji : j = i
    · by_cases hki : k = i
      · rw [hji, hki]
      · simp only [if_pos hji, if_neg hki] at he hk
        exact absurd (he ▸ h.fd k hk) hD
    · by_cases hki : k = i
      · simp only [if_neg hji, if_pos hki] at he hj
        exact absurd (he ▸ h.fd j hj) hD
      · simp only [if_neg hji, if_neg hki] at he hj hk
        exact h.apart j k hj hk he
  · intro j hj
    rw [hpe] at hj
    by_cases hji : j = i
    · simp [hji]
    · simp only [if_neg hji] at hj ⊢
      exact Or.inl (h.fp j hj)
  · intro j hj
    rw [hpe] at hj
    by_cases hji : j = i
    · simp [hji]
    · simp only [if_neg hji] at hj ⊢
      exact Or.inl (h.fd j hj)
  · rintro k (hk | rfl | rfl)
    · exact Nat.lt_of_lt_of_le (h.flt k hk) hK.size
    · exact (Array.getElem?_eq_some_iff.1 hnode).1
    · exact (Array.getElem?_eq_some_iff.1 hL).1

/-- The store of a page more. -/
theorem RMx.step {W : World} {m b : Nat} {pb db : Nat → Nat} {T : Mm} {F : Nat → Prop} (h : RMx W m b pb db T F) {i P D : Nat} {p : Int} (h0 : T.perm i = 0) (hp : 1 ≤ p ∧ p ≤ 7) (hi : i < 34359738368) (hc : T.count + 1 ≤ 65536)
    (hP : ¬ F P) (hD : ¬ F D) (hPD : P ≠ D) {cs : List Int} (hcs : cs.length ≤ 4096) (hb : Bytes cs)
    (hnode : W.heap[P]? = some (.cells #[.int .i64 p, .slice (some ⟨D, 0, none⟩) 4096 4096] 89 (0, 0)))
    {L : List Value} (hL : W.heap[D]? = some (.cells L.toArray 5 (0, 0))) (hLl : L.length = 4096) (hLb : ∀ j, j < 4096 → L[j]? = some (.int .u8 (cs.getD j 0))) :
    ∃ V, (Instr.mapUpdate 80 (.map (some b)) (.int .u64 (i : Int)) (.pointer (some ⟨P, 0, none⟩))).run Tryz.prog W = .ok () V ∧ RM V m ((T.mapped i 1 p).lay (i * 4096) cs) (fun k => F k ∨ k = P ∨ k = D) ∧ Kept (fun k => k = b) W V := by
  obtain ⟨V, hrun, hm2, hgr, hsz⟩ := h.map.store (t := 80) Tryz.underlying80 (by unfold maxLen; omega) i (by omega) (.pointer (some ⟨P, 0, none⟩))
  rw [if_pos h0] at hm2
  simp only [Option.isSome_none, Bool.false_eq_true, if_false] at hm2
  have hK : Kept (fun k => k = b) W V := Kept.of_grown hgr (fun k hk => (Option.some.inj hk).symm)
  have hPb : P ≠ b := fun e => hP (by rw [e]; exact h.fb)
  have hDb : D ≠ b := fun e => hD (by rw [e]; exact h.fb)
  refine ⟨V, hrun, ⟨b, _, _, h.more h0 hp hi hc hP hD hPD hcs hb hm2 ?_ (L := L) ?_ hLl hLb hK⟩, hK⟩
  · rw [hK.block P (Array.getElem?_eq_some_iff.1 hnode).1 hPb]; exact hnode
  · rw [hK.block D (Array.getElem?_eq_some_iff.1 hL).1 hDb]; exact hL

theorem addr_add (b o n : Nat) : (⟨b, o, none⟩ : Addr).add n = ⟨b, o + n, none⟩ := by unfold Addr.add; split <;> simp_all

theorem lay_in (S : Mm) (a : Nat) (bs : List Int) (x : Nat) (h1 : a ≤ x) (h2 : x < a + bs.length) : (S.lay a bs).byte x = bs[x - a]?.getD 0 := by
  simp only [Mm.lay]; rw [if_pos ⟨h1, h2⟩, List.getD_eq_getElem?_getD]
theorem lay_out (S : Mm) (a : Nat) (bs : List Int) (x : Nat) (h : ¬ (a ≤ x ∧ x < a + bs.length)) : (S.lay a bs).byte x = S.byte x := by
  simp only [Mm.lay]; rw [if_neg h]
theorem mapped_in (S : Mm) (f n : Nat) (p : Int) (x : Nat) (h : f ≤ x / 4096 ∧ x / 4096 < f + n) : (S.mapped f n p).byte x = 0 := by
  simp only [Mm.mapped]; rw [if_pos h]
theorem mapped_out (S : Mm) (f n : Nat) (p : Int) (x : Nat) (h : ¬ (f ≤ x / 4096 ∧ x / 4096 < f + n)) : (S.mapped f n p).byte x = S.byte x := by
  simp only [Mm.mapped]; rw [if_neg h]

set_option maxRecDepth 20000 in
/-- So much of the bytes as the first k pages take. -/
theorem Mm.mapped_more (S : Mm) (f k : Nat) (p : Int) (bs : List Int) :
    (((S.mapped f k p).lay (f * 4096) (bs.take (k * 4096))).mapped (f + k) 1 p).lay ((f + k) * 4096) ((bs.drop (k * 4096)).take 4096) = (S.mapped f (k + 1) p).lay (f * 4096) (bs.take ((k + 1) * 4096)) :=
  Mm.ext (fun i => by
      have := congrArg (fun T : Mm => T.perm i) (Mm.mapped_succ S f k p)
      simp only [Mm.mapped, Mm.lay] at this ⊢
      exact this)
    (fun x => by
      have l1 : ((bs.drop (k * 4096)).take 4096).length = min 4096 (bs.length - k * 4096) := by simp
      have l2 : (bs.take (k * 4096)).length = min (k * 4096) bs.length := by simp
      have l3 : (bs.take ((k + 1) * 4096)).length = min ((k + 1) * 4096) bs.length := by simp
      by_cases h1 : (f + k) * 4096 ≤ x ∧ x < (f + k) * 4096 + min 4096 (bs.length - k * 4096)
      · rw [lay_in _ _ _ _ h1.1 (by rw [l1]; exact h1.2), lay_in _ _ _ _ (by omega) (by rw [l3]; omega)]
        rw [List.getElem?_take, if_pos (by omega), List.getElem?_drop, List.getElem?_take, if_pos (by omega)]
        congr 2; omega
      · rw [lay_out _ _ _ _ (by rw [l1]; exact h1)]
        by_cases h2 : f + k ≤ x / 4096 ∧ x / 4096 < f + k + 1
        · rw [mapped_in _ _ _ _ _ h2, lay_out _ _ _ _ (by rw [l3]; omega), mapped_in _ _ _ _ _ (by omega)]
        · rw [mapped_out _ _ _ _ _ h2]
          by_cases h3 : f * 4096 ≤ x ∧ x < f * 4096 + min (k * 4096) bs.length
          · rw [lay_in _ _ _ _ h3.1 (by rw [l2]; exact h3.2), lay_in _ _ _ _ h3.1 (by rw [l3]; omega), List.getElem?_take, if_pos (by omega), List.getElem?_take, if_pos (by omega)]
          · rw [lay_out _ _ _ _ (by rw [l2]; exact h3), lay_out _ _ _ _ (by rw [l3]; omega)]
            by_cases h4 : f ≤ x / 4096 ∧ x / 4096 < f + k
            · rw [mapped_in _ _ _ _ _ h4, mapped_in _ _ _ _ _ (by omega)]
            · rw [mapped_out _ _ _ _ _ h4, mapped_out _ _ _ _ _ (by omega)])
    (by simp [Mm.mapped, Mm.lay]; omega)

end Go.Proofs.YtgjfelkbblbjfaaGreatDoor
