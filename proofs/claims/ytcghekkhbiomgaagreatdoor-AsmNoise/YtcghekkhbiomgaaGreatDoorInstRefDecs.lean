/- The document's Decode: one contract. -/
import Derived.Test.YtcghekkhbiomgaaGreatDoorInstRefDec
import Derived.Test.YtcghekkhbiomgaaGreatDoorInstRefCo
import Derived.Test.YtcghekkhbiomgaaGreatDoorInstForth
namespace Go.Proofs.YtcghekkhbiomgaaGreatDoor
open Go.RowKit
set_option linter.unusedVariables false
set_option maxRecDepth 100000
set_option linter.unusedSimpArgs false

theorem and_28799 {x : Int} (h0 : 0 ≤ x) (h1 : x ≤ 4294967295) : bits .and .u32 x 28799 = x % 128 + x / 4096 % 8 * 4096 := by
  obtain ⟨y, rfl⟩ := Int.eq_ofNat_of_zero_le h0
  have := (bits_nat .u32 32 (by decide) wraps_u32 y 28799 (by omega) (by omega)).1
  rw [show ((28799 : Nat) : Int) = 28799 from rfl] at this
  rw [this, show (28799 : Nat) = ((2 ^ 7 - 1) * 2 ^ 0) ||| ((2 ^ 3 - 1) * 2 ^ 12) by decide, take_two _ _ _ (by decide), take_one, take_one]
  simp [fld]
theorem and_127 {x : Int} (h0 : 0 ≤ x) (h1 : x ≤ 4294967295) : bits .and .u32 x 127 = x % 128 := by
  have := bits_mask .u32 32 (by decide) wraps_u32 7 (by omega) x h0 (by omega)
  simpa using this

theorem mt_63 {x : Int} : Mt 63 x ↔ x % 128 + x / 4096 % 8 * 4096 = 15 := by
  have a : (x % 128 + x / 4096 % 8 * 4096 = 15) ↔ (cd x = 15 ∧ f3 x = 0) := by rw [cd_is, f3_is]; omega
  rw [a]
  unfold Mt
  rw [show cd (wd 63) = 15 by decide +kernel, show ke2 (wd 63) = 0 by decide +kernel, show ke3 (wd 63) = 0 by decide +kernel]
  constructor
  · rintro ⟨h, h2, h3⟩
    refine ⟨h.symm, ?_⟩
    unfold ke2 at h2
    rw [← h, if_neg (by decide)] at h2
    exact h2.symm
  · rintro ⟨h, h2⟩
    refine ⟨h.symm, ?_, ?_⟩
    · unfold ke2; rw [h, if_neg (by decide), h2]
    · unfold ke3 upp shb; rw [h, h2]; rfl
theorem mt_64 {x : Int} (h0 : 0 ≤ x) : Mt 64 x ↔ x = 115 := by
  unfold Mt
  rw [show cd (wd 64) = 115 by decide +kernel, show ke2 (wd 64) = 0 by decide +kernel, show ke3 (wd 64) = 0 by decide +kernel]
  constructor
  · rintro ⟨h, h2, h3⟩
    unfold ke3 at h3
    rw [← h, if_neg (by decide), if_pos rfl] at h3
    rw [cd_is] at h
    omega
  · rintro rfl
    decide +kernel
theorem mt_65 {x : Int} (h0 : 0 ≤ x) : Mt 65 x ↔ x = 1048691 := by
  unfold Mt
  rw [show cd (wd 65) = 115 by decide +kernel, show ke2 (wd 65) = 0 by decide +kernel, show ke3 (wd 65) = 8192 by decide +kernel]
  constructor
  · rintro ⟨h, h2, h3⟩
    unfold ke3 at h3
    rw [← h, if_neg (by decide), if_pos rfl] at h3
    rw [cd_is] at h
    omega
  · rintro rfl
    decide +kernel

theorem co_is0 : ∀ k, k < 63 → (1 ≤ k → co0 k = cd (wd k)) := by decide +kernel
theorem co_is1 : ∀ k, k < 63 → (1 ≤ k → (fmo ((k : Nat) : Int) ≤ 3 → co1 k = f3 (wd k))) := by decide +kernel
theorem co_is2 : ∀ k, k < 63 → (1 ≤ k → (fmo ((k : Nat) : Int) = 0 ∨ shb (wd k) = 5 → co2 k = wd k / 33554432)) := by decide +kernel
theorem co_is3 : ∀ k, k < 63 → (1 ≤ k → (shb (wd k) = 6 → co2 k = wd k / 67108864)) := by decide +kernel
theorem sh_is6 : ∀ k, k < 63 → (decide (28 ≤ ((k : Nat) : Int)) && decide (((k : Nat) : Int) ≤ 30)) = decide (shb (wd k) = 6) := by decide +kernel
theorem sh_is5 : ∀ k, k < 63 → (decide (42 ≤ ((k : Nat) : Int)) && decide (((k : Nat) : Int) ≤ 44)) = decide (shb (wd k) = 5) := by decide +kernel

/-- When the document's code of an operation meets a word. -/
theorem meets {k : Nat} (hk : 1 ≤ k) (hk' : k < 63) (x : Int) :
    (x % 128 = co0 k ∧ (fmo k ≤ 3 → f3 x = co1 k) ∧ (fmo k = 0 ∨ shb (wd k) = 5 → x / 33554432 = co2 k) ∧ (shb (wd k) = 6 → x / 67108864 = co2 k)) ↔ Mt k x := by
  have hn : fmc (cd (wd k)) ≠ 6 := fun h => by have := (tab_n k (by omega) hk).1 h; omega
  have e0 := co_is0 k hk' hk
  have e1 := co_is1 k hk' hk
  have e2 := co_is2 k hk' hk
  have e3 := co_is3 k hk' hk
  have hf := fmo_k hk (show k < 66 by omega)
  unfold Mt
  rw [key_iff hn, ← hf, cd_is x, e0]
  exact ⟨fun ⟨a, b, c, d⟩ => ⟨a, fun h => (b h).trans (e1 h), fun h => (c h).trans (e2 h), fun h => (d h).trans (e3 h)⟩, fun ⟨a, b, c, d⟩ => ⟨a, fun h => (b h).trans (e1 h).symm, fun h => (c h).trans (e2 h).symm, fun h => (d h).trans (e3 h).symm⟩⟩

theorem fldz (x : Int) (f n : Nat) : fld x f n 0 = x / 2 ^ f % 2 ^ n := by unfold fld; simp

theorem rdV_is {o : Nat} (ho : 1 ≤ o) (ho' : o < 63) {x : Int} (hM : Mt o x) :
    rdV (fmo o) (shb (wd o)) o (x / 2 ^ 7 % 32) (x / 2 ^ 15 % 32) (x / 2 ^ 20 % 32) (x / 2 ^ 20 % 2 ^ 6) (fun f => getOf f x) = inst o (rdO (fmo o) x) (r1O (fmo o) x) (r2O (fmo o) x) (imO (fmo o) x) := by
  have hn : fmc (cd (wd o)) ≠ 6 := fun h => by have := (tab_n o (by omega) ho).1 h; omega
  obtain ⟨hcd, hf3, _, _⟩ := (key_iff hn).1 hM
  have hf := fmo_k ho (show o < 66 by omega)
  have hs : fmo o ≠ 1 → shb x = 0 ∧ shb (wd o) = 0 := fun h => ⟨shb_no (by rw [hcd, ← hf]; exact h), shb_no (by rw [← hf]; exact h)⟩
  unfold rdV rdO r1O r2O imO
  rw [← hf] at hn hf3
  rcases (show fmo o = 0 ∨ fmo o = 1 ∨ fmo o = 2 ∨ fmo o = 3 ∨ fmo o = 4 ∨ fmo o = 5 by have := fmc_bd (cd (wd o)); rw [← hf] at this; omega) with h | h | h | h | h | h
  · obtain ⟨a, b⟩ := hs (by omega)
    rw [a, h]
    simp [hasD, has1, has2, getOf]
  · rw [shb_eq hcd (hf3 (by omega)), h]
    simp [hasD, has1, has2]
  all_goals
    obtain ⟨a, b⟩ := hs (by omega)
    rw [a, h]
    simp [hasD, has1, has2]

theorem rdec_low (x : Int) (o : Nat) (R : Value) (b : Bool) (w : World) (h0 : 0 ≤ x) (h1 : x ≤ 4294967295) (ho : IsOp x o) (ho' : o < 63) (hR0 : o = 0 → R = inst 0 0 0 0 0 ∧ b = false)
    (hR1 : o ≠ 0 → R = inst o (rdO (fmo o) x) (r1O (fmo o) x) (r2O (fmo o) x) (imO (fmo o) x) ∧ b = true) :
    Calls Tryz.prog 11 #[.int .u32 x] w fun e w' => e = .returned (.tuple #[R, .bool b]) ∧ Below w.heap.size w w' := by
  have no : ∀ k, 63 ≤ k → k < 66 → ¬ Mt k x := fun k hk hk' hm => by
    rcases ho with ⟨_, hn⟩ | ⟨h, _, hm'⟩
    · exact hn k (by omega) hk' hm
    · have := Mt_one h (by omega) (by omega) hk' hm' hm
      omega
  have t1 : (x == 115) = false := by simpa using fun e => no 64 (by decide) (by decide) ((mt_64 h0).2 e)
  have t2 : (x == 1048691) = false := by simpa using fun e => no 65 (by decide) (by decide) ((mt_65 h0).2 e)
  have t3 : (bits .and .u32 x 28799 == 15) = false := by
    rw [and_28799 h0 h1]
    simpa using fun e => no 63 (by decide) (by decide) (mt_63.2 e)
  have B := fun hi lo f n w (a : lo = ((f : Nat) : Int)) (b : hi - lo + 1 = ((n : Nat) : Int)) c d => bits_any x hi lo f n w h0 h1 a b c d
  simp only [fldz] at B
  have u5 : x / 2 ^ 25 % 2 ^ 7 = x / 33554432 := by simp; omega
  have u6 : x / 2 ^ 26 % 2 ^ 6 = x / 67108864 := by simp; omega
  have ef : x / 2 ^ 12 % 2 ^ 3 = f3 x := rfl
  have p5 : (2 : Int) ^ 5 = 32 := by decide
  refine rdec_loop x (x % 128) (f3 x) (x / 2 ^ 7 % 32) (x / 2 ^ 15 % 32) (x / 2 ^ 20 % 32) (x / 33554432) (x / 67108864) (x / 2 ^ 20 % 2 ^ 6) (fun f => getOf f x) o R b w h0 h1 t1 t2 t3 (and_127 h0 h1) (f3_bd x) (by omega) (by omega) (by omega) (by omega) (by omega) (by simp; omega)
    (hide fun w => by have := B 14 12 12 3 w (by decide) (by decide) (by decide) (by decide); rwa [ef] at this)
    (hide fun w => by have := B 11 7 7 5 w (by decide) (by decide) (by decide) (by decide); rwa [p5] at this)
    (hide fun w => by have := B 19 15 15 5 w (by decide) (by decide) (by decide) (by decide); rwa [p5] at this)
    (hide fun w => by have := B 24 20 20 5 w (by decide) (by decide) (by decide) (by decide); rwa [p5] at this)
    (hide fun w => by have := B 31 25 25 7 w (by decide) (by decide) (by decide) (by decide); rwa [u5] at this)
    (hide fun w => by have := B 31 26 26 6 w (by decide) (by decide) (by decide) (by decide); rwa [u6] at this)
    (hide fun w => B 25 20 20 6 w (by decide) (by decide) (by decide) (by decide))
    (hide fun k hk hk' w => co_any hk hk' w) (hide fun k w => rform_any k w)
    (hide fun k hk w => by have := shift6_any k w; rwa [sh_is6 k hk] at this) (hide fun k hk w => by have := shift5_any k w; rwa [sh_is5 k hk] at this)
    (hide fun f w => rget_any f x w h0 h1) (hide fun k hk hk' => ?_) (hide (by rcases ho with ⟨h, _⟩ | ⟨h, _, _⟩ <;> omega)) (hide hR0) (hide fun h => ?_)
  · rw [meets hk hk' x]
    rcases ho with ⟨h, hn⟩ | ⟨h, _, hm⟩
    · exact ⟨fun hm => absurd hm (hn k hk (by omega)), fun e => by omega⟩
    · exact ⟨fun hm' => Mt_one hk (by omega) h (by omega) hm' hm, fun e => by rw [e]; exact hm⟩
  · rcases ho with ⟨h', hn⟩ | ⟨h', _, hm⟩
    · exact absurd h' h
    · rw [rdV_is h' ho' hm]
      exact hR1 h

theorem rdec_none (x : Int) (w : World) (h0 : 0 ≤ x) (h1 : x ≤ 4294967295) (ho : IsOp x 0) :
    Calls Tryz.prog 11 #[.int .u32 x] w fun e w' => e = .returned (.tuple #[inst 0 0 0 0 0, .bool false]) ∧ Below w.heap.size w w' :=
  rdec_low x 0 _ _ w h0 h1 ho (by decide) (fun _ => ⟨rfl, rfl⟩) (fun h => absurd rfl h)

theorem n_dec : ∀ k, k < 66 → (63 ≤ k → fmo ((k : Nat) : Int) = 6) := by decide +kernel
theorem rdec_some (x : Int) (o : Nat) (w : World) (h0 : 0 ≤ x) (h1 : x ≤ 4294967295) (ho : 1 ≤ o) (ho' : o < 66) (hM : Mt o x) :
    Calls Tryz.prog 11 #[.int .u32 x] w fun e w' => e = .returned (.tuple #[inst o (rdO (fmo o) x) (r1O (fmo o) x) (r2O (fmo o) x) (imO (fmo o) x), .bool true]) ∧ Below w.heap.size w w' := by
  by_cases h : o < 63
  · exact rdec_low x o _ _ w h0 h1 (Or.inr ⟨ho, ho', hM⟩) h (fun h => by omega) (fun _ => ⟨rfl, rfl⟩)
  · have hf := n_dec o ho' (by omega)
    have hs : shb x = 0 := shb_no (by rw [← hM.1, ← fmo_k ho ho', hf]; decide)
    have e : inst o (rdO (fmo o) x) (r1O (fmo o) x) (r2O (fmo o) x) (imO (fmo o) x) = inst o 0 0 0 0 := by
      unfold rdO r1O r2O imO
      rw [hf, hs]
      simp [hasD, has1, has2, getOf]
    rw [e]
    rcases (show o = 63 ∨ o = 64 ∨ o = 65 by omega) with rfl | rfl | rfl
    · have hx := mt_63.1 hM
      refine rdec_63 x w h0 h1 ?_ ?_ ((and_28799 h0 h1).trans hx)
      · have : x ≠ 115 := by omega
        simpa using this
      · have : x ≠ 1048691 := by omega
        simpa using this
    · obtain rfl := (mt_64 h0).1 hM
      exact rdec_64 w
    · obtain rfl := (mt_65 h0).1 hM
      exact rdec_65 w

end Go.Proofs.YtcghekkhbiomgaaGreatDoor
