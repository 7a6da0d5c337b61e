/- Contracts of package mem's may and spare, and of the document's May. -/
import Derived.Test.YtggmeopohpbmlaaMemSmall
namespace Go.Proofs.Ytggmeopohpbmlaa
open Go.RowKit Go.Maps
set_option linter.unusedVariables false

/-- Whether the pages of all n bytes from a on have p. -/
def Mayp (S : Mm) (a n : Nat) (p : Int) : Prop := n = 0 ∨ ∀ i, a / 4096 ≤ i → i ≤ (a + n - 1) / 4096 → bits .and .i64 (S.perm i) p ≠ 0
noncomputable def mayB (S : Mm) (a n : Nat) (p : Int) : Bool := @decide (Mayp S a n p) (Classical.propDecidable _)
theorem mayB_yes {S : Mm} {a n : Nat} {p : Int} (h : Mayp S a n p) : mayB S a n p = true := @decide_eq_true _ (Classical.propDecidable _) h
theorem mayB_no {S : Mm} {a n : Nat} {p : Int} (h : ¬ Mayp S a n p) : mayB S a n p = false := @decide_eq_false _ (Classical.propDecidable _) h
theorem mayB_iff {S : Mm} {a n : Nat} {p : Int} : mayB S a n p = true ↔ Mayp S a n p :=
  ⟨fun h => Classical.byContradiction (fun hn => by rw [mayB_no hn] at h; cases h), mayB_yes⟩

theorem Mm.Good.far {S : Mm} (h : S.Good) {a n : Nat} {p : Int} (hn : n ≠ 0) (hp : bits .and .i64 0 p = 0) (hf : 140737488355328 < a + n) : ¬ Mayp S a n p := by
  rintro (h1 | h1)
  · exact hn h1
  · refine h1 ((a + n - 1) / 4096) (by omega) (Nat.le_refl _) ?_
    rw [h.top _ (by omega)]
    exact hp

theorem Mayp.bd {S : Mm} (hg : S.Good) {a n : Nat} {p : Int} (hp : bits .and .i64 0 p = 0) (h : Mayp S a n p) (hn : n ≠ 0) : a + n ≤ 140737488355328 := by
  apply Nat.le_of_not_lt; intro hf
  exact hg.far hn hp hf h

theorem Mayp.mapped {S : Mm} {a n : Nat} {p : Int} (hp : bits .and .i64 0 p = 0) (h : Mayp S a n p) {i : Nat} (h1 : a / 4096 ≤ i) (h2 : i * 4096 < a + n) (hn : n ≠ 0) : S.perm i ≠ 0 := by
  rcases h with h | h
  · exact absurd h hn
  · intro e
    have := h i h1 (by omega)
    rw [e] at this
    exact this hp

set_option maxHeartbeats 800000 in
theorem may_any (m : Nat) (S : Mm) (F : Nat → Prop) (a n : Nat) (p : Int) (w : World) (h : PM w m S F) (ha : a ≤ 18446744073709551615) (hn : n ≤ 18446744073709551615) (hp : bits .and .i64 0 p = 0) :
    Calls Try.prog 37 #[.pointer (some ⟨m, 0, none⟩), .int .u64 (a : Int), .int .u64 (n : Int), .int .i64 p] w fun e w' => e = .returned (.bool (mayB S a n p)) ∧ w' = w := by
  by_cases h0 : n = 0
  · rw [mayB_yes (Or.inl h0)]
    subst h0
    go_enter Try.func37, Try.ntmps37
    go_wp2
    go_ret
    exact ⟨rfl, rfl⟩
  by_cases h1 : 140737488355328 < a + n
  · rw [mayB_no (h.good.far h0 hp h1)]
    by_cases h2 : 140737488355328 < a
    · go_enter Try.func37, Try.ntmps37
      go_wp2
      go_ret
      exact ⟨rfl, rfl⟩
    · go_enter Try.func37, Try.ntmps37
      go_wp2
      go_ret
      exact ⟨rfl, rfl⟩
  · obtain ⟨b, dt, h⟩ := h
    have hc := h.cell
    have HP := hide h
    have hf0 := field0
    clear h
    obtain ⟨l, hl⟩ : ∃ l, l = (a + n - 1) / 4096 := ⟨_, rfl⟩
    have hl' : ((l : Nat) : Int) = ((a : Int) + (n : Int) - 1) / 4096 := by omega
    have HL := hide hl
    obtain ⟨f, hf⟩ : ∃ f, f = a / 4096 := ⟨_, rfl⟩
    have hf' : (a : Int) / 4096 = (f : Int) := by omega
    have HF := hide hf
    have hfl : f ≤ l := by omega
    have hll : l ≤ 34359738368 := by omega
    clear hf hl
    have hMay : Hid (Mayp S a n p ↔ ∀ i, f ≤ i → i ≤ l → bits .and .i64 (S.perm i) p ≠ 0) := by
      unfold Mayp
      rw [← HL.out, ← HF.out]
      exact ⟨fun h => h.resolve_left h0, Or.inr⟩
    go_enter Try.func37, Try.ntmps37
    go_wp2
    go_loop [10] (fun v => ∃ k : Nat, f ≤ k ∧ k ≤ l + 1 ∧ v = .int .u64 (k : Int) ∧ ∀ j, f ≤ j → j < k → bits .and .i64 (S.perm j) p ≠ 0) (fun v => l + 1 - (intOf v).toNat)
    case atStart => exact ⟨f, Nat.le_refl _, by omega, rfl, fun j h1 h2 => by omega⟩
    case round =>
      obtain ⟨k, hk1, hk2, rfl, hall⟩ := hrel
      have HA := hide hall
      clear hall
      by_cases hlt : k ≤ l
      · have hr := HP.out.look k (by omega)
        simp only [pv] at hr
        obtain ⟨q, hq⟩ : ∃ q, q = S.perm k := ⟨_, rfl⟩
        rw [← hq] at hr
        have HQ := hide hq
        clear hq
        by_cases hz : bits .and .i64 q p = 0
        · have hno : Hid (¬ Mayp S a n p) := fun hm => hMay.out.1 hm k hk1 hlt (by rw [← HQ.out]; exact hz)
          go_wp2
          go_ret
          exact ⟨ret_bool (mayB_no hno.out).symm, rfl⟩
        · have hz' : (bits .and .i64 q p == 0) = false := by simpa using hz
          have HZ := hide hz
          clear hz
          go_wp2
          go_round
          case rel =>
            refine ⟨k + 1, by omega, by omega, by go_num, fun j h1 h2 => ?_⟩
            by_cases hjk : j = k
            · subst hjk; rw [← HQ.out]; exact HZ.out
            · exact HA.out j h1 (by omega)
          case measure => simp [intOf]; omega
      · have hyes : Hid (Mayp S a n p) := hMay.out.2 (fun i h1 h2 => HA.out i h1 (by omega))
        go_wp2
        go_ret
        exact ⟨ret_bool (mayB_yes hyes.out).symm, rfl⟩

/-- Whether n more pages may be, and none of those from f on is. -/
def Sparep (S : Mm) (f n : Nat) : Prop := S.count + n ≤ 65536 ∧ ∀ i, f ≤ i → i < f + n → S.perm i = 0
noncomputable def spareB (S : Mm) (f n : Nat) : Bool := @decide (Sparep S f n) (Classical.propDecidable _)
theorem spareB_yes {S : Mm} {f n : Nat} (h : Sparep S f n) : spareB S f n = true := @decide_eq_true _ (Classical.propDecidable _) h
theorem spareB_no {S : Mm} {f n : Nat} (h : ¬ Sparep S f n) : spareB S f n = false := @decide_eq_false _ (Classical.propDecidable _) h

theorem dsl_slice (d : Option Nat) : ∃ a l c, dsl d = .slice a l c := by
  cases d with
  | none => exact ⟨_, _, _, rfl⟩
  | some g => exact ⟨_, _, _, rfl⟩

theorem PMx.below {w w' : World} {m b : Nat} {dt : Nat → Option Nat} {S : Mm} {F : Nat → Prop} (h : PMx w m b dt S F) (hb : Below w.heap.size w w') : PMx w' m b dt S F :=
  h.kept (kept_of_below hb (fun _ => False)) (fun _ _ h => h)

set_option maxHeartbeats 800000 in
theorem spare_any (m : Nat) (S : Mm) (F : Nat → Prop) (f n : Nat) (w : World) (h : PM w m S F) (hf : f + n ≤ 34359738368) :
    Calls Try.prog 30 #[.pointer (some ⟨m, 0, none⟩), .int .u64 (f : Int), .int .u64 (n : Int)] w fun e w' => e = .returned (.bool (spareB S f n)) ∧ Below w.heap.size w w' := by
  obtain ⟨b, dt, h⟩ := h
  have hc := h.cell
  have hl := h.map.len Try.underlying53 3
  have hg := h.good.count
  have HP := hide h
  have hlt0 := h.flt m h.fm
  clear h
  by_cases h1 : S.count + n ≤ 65536
  · have h1' : decide (65536 - (S.count : Int) < (n : Int)) = false := by simp; omega
    go_enter Try.func30, Try.ntmps30
    go_wp2
    go_loopw [20] (fun v wr => ∃ k : Nat, k ≤ n ∧ v = .int .u64 (k : Int) ∧ (∀ j, f ≤ j → j < f + k → S.perm j = 0) ∧ Below w.heap.size w wr) (fun v _ => n - (intOf v).toNat)
    case atStart => exact ⟨0, by omega, rfl, fun j h1 h2 => by omega, Below.refl _ _⟩
    case round =>
      obtain ⟨k, hk2, rfl, hall, hbel⟩ := hrel
      have HA := hide hall
      have HB := hide hbel
      have HR := hide (HP.out.below hbel)
      clear hall hbel
      by_cases hlt : k < n
      · have hc2 := HR.out.cell
        have hr := HR.out.lookOk (f + k) (by omega)
        simp only [pv] at hr
        rw [show ((f + k : Nat) : Int) = (f : Int) + (k : Int) by omega] at hr
        obtain ⟨q, hq⟩ : ∃ q, q = S.perm (f + k) := ⟨_, rfl⟩
        rw [← hq] at hr
        have HQ := hide hq
        clear hq hc hl
        obtain ⟨da, dl, dc, hdv⟩ := dsl_slice (dt (f + k))
        rw [hdv] at hr
        clear hdv
        by_cases hz : q = 0
        · have hz' : decide (q ≠ 0) = false := by simp [hz]
          rw [hz'] at hr
          have HZ := hide hz
          clear hz hz'
          go_wp2
          go_roundw
          case rel =>
            refine ⟨k + 1, by omega, by go_num, fun j h1 h2 => ?_, ?_⟩
            · by_cases hjk : j = f + k
              · subst hjk; rw [← HQ.out]; exact HZ.out
              · exact HA.out j h1 (by omega)
            · exact HB.out.alloc HB.out.size _
          case measure => simp [intOf]; omega
        · have hz' : decide (q ≠ 0) = true := by simp [hz]
          rw [hz'] at hr
          have hno : Hid (¬ Sparep S f n) := fun hm => hz (by rw [HQ.out]; exact hm.2 (f + k) (by omega) (by omega))
          clear hz hz'
          go_wp2
          go_ret
          refine ⟨ret_bool (spareB_no hno.out).symm, ?_⟩
          exact HB.out.alloc HB.out.size _
      · have hyes : Hid (Sparep S f n) := ⟨h1, fun i h1 h2 => HA.out i h1 (by omega)⟩
        go_wp2
        go_ret
        exact ⟨ret_bool (spareB_yes hyes.out).symm, HB.out⟩
  · rw [spareB_no (fun h => h1 h.1)]
    go_enter Try.func30, Try.ntmps30
    go_wp2
    go_ret
    exact ⟨rfl, Below.refl _ _⟩

end Go.Proofs.Ytggmeopohpbmlaa
