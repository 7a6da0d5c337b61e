/- What a word is decoded as, in one; its text is read as it. -/
import Derived.Test.YtcghekkhbiomgaaGreatDoorAsmParse
import Derived.Test.YtcghekkhbiomgaaGreatDoorInstDecs
import Derived.Test.YtcghekkhbiomgaaGreatDoorInstRefDecs
import Derived.Test.YtcghekkhbiomgaaGreatDoorInstForth
namespace Go.Proofs.YtcghekkhbiomgaaGreatDoor
open Go.RowKit Go.Maps
set_option linter.unusedVariables false
set_option maxRecDepth 100000

def opx (x : Int) : Nat := ((List.range 66).find? fun k => decide (1 ≤ k) && decide (Mt k x)).getD 0
theorem opx_is (x : Int) : IsOp x (opx x) := by
  unfold opx
  cases h : (List.range 66).find? fun k => decide (1 ≤ k) && decide (Mt k x) with
  | none =>
    left
    refine ⟨rfl, fun j h1 h2 h3 => ?_⟩
    rw [List.find?_eq_none] at h
    have := h j (by simp; exact h2)
    simp [h1, h3] at this
  | some k =>
    right
    have h1 := List.find?_some h
    have h2 := List.mem_of_find?_eq_some h
    simp at h1 h2
    exact ⟨h1.1, h2, h1.2⟩
/-- What a word is decoded as; its text. -/
def decN (x : Int) : Option (Nat × Ns) := if opx x = 0 then none else some (opx x, ⟨rdO (fmo (opx x)) x, r1O (fmo (opx x)) x, r2O (fmo (opx x)) x, imO (fmo (opx x)) x⟩)
def dtx (x : Int) : List UInt8 := match decN x with
  | none => [63]
  | some (k, m) => tx k m

theorem dcd_any (x : Int) (w : World) (h0 : 0 ≤ x) (h1 : x ≤ 4294967295) (hL : Laid w) :
    Calls Tryz.prog 38 #[.int .u32 x] w fun e w' => e = .returned (prsV (decN x)) ∧ Below w.heap.size w w' := by
  have ho := opx_is x
  unfold decN
  by_cases h : opx x = 0
  · rw [if_pos h]
    rw [h] at ho
    exact dec_none x w h0 h1 ho hL
  · rw [if_neg h]
    rcases ho with ⟨h2, _⟩ | ⟨h2, h3, h4⟩
    · exact absurd h2 h
    · exact dec_some x (opx x) w h0 h1 h2 h3 h4 hL
theorem rdcd_any (x : Int) (w : World) (h0 : 0 ≤ x) (h1 : x ≤ 4294967295) :
    Calls Tryz.prog 11 #[.int .u32 x] w fun e w' => e = .returned (prsV (decN x)) ∧ Below w.heap.size w w' := by
  have ho := opx_is x
  unfold decN
  by_cases h : opx x = 0
  · rw [if_pos h]
    rw [h] at ho
    exact rdec_none x w h0 h1 ho
  · rw [if_neg h]
    rcases ho with ⟨h2, _⟩ | ⟨h2, h3, h4⟩
    · exact absurd h2 h
    · exact rdec_some x (opx x) w h0 h1 h2 h3 h4

theorem decN_some {x : Int} (h0 : 0 ≤ x) (h1 : x ≤ 4294967295) {k : Nat} {m : Ns} (h : decN x = some (k, m)) :
    1 ≤ k ∧ k < 66 ∧ Can k m ∧ okN k m = true ∧ (k ≠ 63 → encW k m.d m.s m.t m.i = x) := by
  have ho := opx_is x
  unfold decN at h
  split at h
  · cases h
  · rename_i hz
    rcases ho with ⟨h2, _⟩ | ⟨hk, hk', hM⟩
    · exact absurd h2 hz
    · simp only [Option.some.injEq, Prod.mk.injEq] at h
      obtain ⟨rfl, rfl⟩ := h
      generalize opx x = o at *
      have hfo := fmo_of hk hk'
      have hc : Can o ⟨rdO (fmo o) x, r1O (fmo o) x, r2O (fmo o) x, imO (fmo o) x⟩ := by
        refine ⟨fun hh => ?_, fun hh => ?_, fun hh => ?_, fun hh => ?_⟩
        · dsimp only; unfold rdO; rw [hh]; rfl
        · dsimp only; unfold r1O; rw [hh]; rfl
        · dsimp only; unfold r2O; rw [hh]; rfl
        · dsimp only
          have hs : shb x = 0 := shb_no (by rw [← hM.1, ← hfo]; rcases hh with e | e <;> rw [e] <;> decide)
          unfold imO
          rw [hs]
          rcases hh with e | e <;> rw [e] <;> simp [getOf]
      refine ⟨hk, hk', hc, ?_⟩
      by_cases h63 : o < 63
      · obtain ⟨hi, hr, hx⟩ := forth hk h63 h0 h1 hM
        have es := enc_sum hk h63 hi hr
        rw [← hfo] at es hx
        exact ⟨es.1, fun _ => by rw [es.2, hx]⟩
      · have h6 := n_dec o hk' (by omega)
        have e : ∀ r0 r1 r2 im, encOk o r0 r1 r2 im = true := fun r0 r1 r2 im => by unfold encOk; rw [knw_k hk hk', h6]; rfl
        refine ⟨e _ _ _ _, fun hne => ?_⟩
        unfold encW
        rw [e, if_pos rfl, if_pos h6]
        rcases (show o = 64 ∨ o = 65 by omega) with rfl | rfl
        · rw [(mt_64 h0).1 hM]; decide +kernel
        · rw [(mt_65 h0).1 hM]; decide +kernel
theorem bds_fit {m : Ns} (h : (0 ≤ m.d ∧ m.d < 32) ∧ (0 ≤ m.s ∧ m.s < 32) ∧ (0 ≤ m.t ∧ m.t < 32) ∧ (-1048576 ≤ m.i ∧ m.i ≤ 1048575)) : m.Fit := by
  obtain ⟨h1, h2, h3, h4⟩ := h
  exact ⟨by omega, by omega, by omega, by omega⟩
theorem decN_fit {x : Int} (h0 : 0 ≤ x) (h1 : x ≤ 4294967295) {k : Nat} {m : Ns} (h : decN x = some (k, m)) : m.Fit := by
  obtain ⟨_, _, hc, ho, _⟩ := decN_some h0 h1 h
  exact bds_fit (ok_bds ho hc)
/-- What is told of a word is read as it. -/
theorem decN_prs {x : Int} (h0 : 0 ≤ x) (h1 : x ≤ 4294967295) {k : Nat} {m : Ns} (h : decN x = some (k, m)) : prsA (tx k m) = some (k, m) := by
  obtain ⟨h2, h3, hc, ho, _⟩ := decN_some h0 h1 h
  exact prsA_of h2 h3 hc ho
theorem tx_zero : tx 0 ⟨0, 0, 0, 0⟩ = [63] := by unfold tx; rw [if_neg (by decide)]
theorem prsA_fit {l : List UInt8} {k : Nat} {m : Ns} (h : prsA l = some (k, m)) : m.Fit := by
  obtain ⟨_, _, hc, ho, _⟩ := prsA_some h
  exact bds_fit (ok_bds ho hc)

end Go.Proofs.YtcghekkhbiomgaaGreatDoor
