/- The contract of package mem's get. -/
import Derived.Test.YtggmeopohpbmlaaMemPut
namespace Go.Proofs.Ytggmeopohpbmlaa
open Go.RowKit Go.Maps
set_option linter.unusedVariables false

/-- The n bytes from a on. -/
def Mm.read (S : Mm) (a n : Nat) : List Int := (List.range n).map fun j => S.byte (a + j)
theorem Mm.read_length (S : Mm) (a n : Nat) : (S.read a n).length = n := by simp [Mm.read]
theorem Mm.read_at (S : Mm) (a n j : Nat) (h : j < n) : (S.read a n)[j]? = some (S.byte (a + j)) := by simp [Mm.read, h]
theorem Mm.read_bytes {S : Mm} (h : S.Good) (a n : Nat) : Bytes (S.read a n) := fun x hx => by
  simp [Mm.read] at hx
  obtain ⟨j, _, rfl⟩ := hx
  exact h.byte _

/-- A row whose first k cells are the bytes from a on, the others those of row. -/
def Filled (R row : List Value) (S : Mm) (a k : Nat) : Prop := R.length = row.length ∧ ∀ j, R[j]? = if j < k then some (.int .u8 (S.byte (a + j))) else row[j]?

theorem Filled.zero (row : List Value) (S : Mm) (a : Nat) : Filled row row S a 0 := ⟨rfl, fun j => by simp⟩

theorem Filled.splice {R row : List Value} {S : Mm} {a k n : Nat} (h : Filled R row S a k) (hk : k + n ≤ row.length) {X : List Value} (hX : X = (S.read (a + k) n).map (Value.int .u8)) : Filled (Go.splice R k X) row S a (k + n) := by
  have hl : X.length = n := by rw [hX]; simp [Mm.read_length]
  have hR := h.1
  refine ⟨by rw [length_splice _ _ _ (by omega)]; exact hR, fun j => ?_⟩
  rw [splice_get _ _ _ (by omega), hl]
  by_cases h1 : k ≤ j ∧ j < k + n
  · rw [if_pos h1, if_pos (by omega), hX, List.getElem?_map, Mm.read_at _ _ _ _ (by omega)]
    simp
    congr 1; omega
  · rw [if_neg h1, h.2 j]
    by_cases h2 : j < k
    · rw [if_pos h2, if_pos (by omega)]
    · rw [if_neg h2, if_neg (by omega)]

theorem Filled.skip {R row : List Value} {S : Mm} {a k n : Nat} (h : Filled R row S a k) (hz : ∀ j, k ≤ j → j < k + n → row[j]? = some (.int .u8 0)) (hb : ∀ j, k ≤ j → j < k + n → S.byte (a + j) = 0) : Filled R row S a (k + n) := by
  refine ⟨h.1, fun j => ?_⟩
  rw [h.2 j]
  by_cases h2 : j < k
  · rw [if_pos h2, if_pos (by omega)]
  · rw [if_neg h2]
    by_cases h3 : j < k + n
    · rw [if_pos h3, hz j (by omega) h3, hb j (by omega) h3]
    · rw [if_neg h3]

theorem Page.cellsAt {w : World} {g i : Nat} {S : Mm} (h : Page w g S i) (off n : Nat) (hn : off + n ≤ 4096) {A : Nat} (hA : A = i * 4096 + off) :
    ∀ j v, ((S.read A n).map (Value.int .u8))[j]? = some v → w.cell? ((⟨g, off, none⟩ : Addr).add j) = some v := by
  obtain ⟨cs, h1, h2, h3⟩ := h
  intro j v hv
  have e : (⟨g, off, none⟩ : Addr).add j = ⟨g, off + j, none⟩ := by unfold Addr.add; split <;> simp_all
  rw [e, cell_of_row _ _ _ _ _ _ h1]
  have hj : j < n := by
    apply Nat.lt_of_not_le; intro h9
    rw [List.getElem?_eq_none (by simp [Mm.read_length]; omega)] at hv
    cases hv
  rw [List.getElem?_map, Mm.read_at _ _ _ _ hj] at hv
  simp at hv
  subst hv
  have := h3 (off + j) (by omega)
  rw [show i * 4096 + (off + j) = A + j by omega] at this
  simpa using this

set_option maxHeartbeats 3200000 in
theorem get_fills (m : Nat) (S : Mm) (F : Nat → Prop) (a0 O len cap : Nat) (t : TypeId) (row : List Value) (w : World) (h : PM w m S F) (ha : a0 ≤ 18446744073709551615)
    (hO : w.heap[O]? = some (.cells row.toArray t (0, 0))) (hF : ¬ F O) (hlc : len ≤ cap) (hcm : cap ≤ 9223372036854775807) (hrow : len ≤ row.length) (hz : ∀ j, j < len → row[j]? = some (.int .u8 0))
    (hpg : ∀ i, a0 / 4096 ≤ i → i * 4096 < a0 + len → 0 < len → S.perm i ≠ 0) :
    Calls Try.prog 39 #[.pointer (some ⟨m, 0, none⟩), .int .u64 (a0 : Int), .slice (some ⟨O, 0, none⟩) len cap] w fun e w' =>
      e = .returned (.tuple #[]) ∧ (∃ R : List Value, w'.heap[O]? = some (.cells R.toArray t (0, 0)) ∧ Filled R row S a0 len) ∧ Kept (fun k => k = O) w w' := by
  have HM := hide h
  have HO := hide hO
  have HF := hide hF
  have HZ := hide hz
  have HG := hide hpg
  clear h hO hF hz hpg
  go_enter Try.func39, Try.ntmps39
  go_wp2
  go_loopw [1, 2] (fun va vb wr => ∃ (k L A c' : Nat) (a' : Option Addr) (R : List Value), k + L = len ∧ A = a0 + k ∧ va = .int .u64 (A : Int) ∧ vb = .slice a' L c' ∧ (0 < L → a' = some ⟨O, k, none⟩) ∧ L ≤ c' ∧ c' ≤ 9223372036854775807 ∧
      wr.heap[O]? = some (.cells R.toArray t (0, 0)) ∧ Filled R row S a0 k ∧ Kept (fun k => k = O) w wr) (fun _ vb _ => slen vb)
  case atStart => exact ⟨0, len, a0, cap, _, row, by omega, by omega, rfl, rfl, fun _ => rfl, hlc, hcm, HO.out, Filled.zero _ _ _, Kept.refl _ _⟩
  case round =>
    obtain ⟨k, L, A, c', a', R, hkL, hA, rfl, rfl, ha', hLc, hc9, hR, hfi, hK⟩ := hrel
    have HR := hide hR
    have HFi := hide hfi
    have HK := hide hK
    clear hR hfi hK
    by_cases hL : L = 0
    · subst hL
      go_wp2
      go_end0
      obtain rfl : k = len := by omega
      exact ⟨rfl, ⟨R, HR.out, HFi.out⟩, HK.out⟩
    · obtain rfl := ha' (by omega)
      clear ha'
      have hperm : S.perm (A / 4096) ≠ 0 := HG.out _ (by omega) (by omega) (by omega)
      obtain ⟨b, dt, hX⟩ := HM.out.kept HK.out (fun k hk e => by subst e; exact HF.out hk)
      obtain ⟨i, hi⟩ : ∃ i, i = A / 4096 := ⟨_, rfl⟩
      obtain ⟨off, hoff⟩ : ∃ off, off = A % 4096 := ⟨_, rfl⟩
      have hi' : (A : Int) / 4096 = (i : Int) := by omega
      have ho' : (A : Int) % 4096 = (off : Int) := by omega
      have ho4 : off < 4096 := by omega
      have hA2 : A = i * 4096 + off := by omega
      have hiL : i < 34359738368 := by
        have h1 := hX.good.top i
        have h2 : S.perm i ≠ 0 := by rw [hi]; exact hperm
        apply Nat.lt_of_not_le; intro h3
        exact h2 (h1 h3)
      have hc := hX.cell
      have hlk := hX.look i (by omega)
      rw [← hi] at hperm
      simp only [pv] at hlk
      obtain ⟨q, hq⟩ : ∃ q, q = S.perm i := ⟨_, rfl⟩
      rw [← hq] at hlk
      have hAb : A < 140737488355328 := by omega
      have HX := hide hX
      have HI := hide hi
      have HOf := hide hoff
      have HA := hide hA
      have HA2 := hide hA2
      have HPe := hide hperm
      clear hX hi hoff hA hA2 hperm hq
      have hn0 := neqNil0
      have hn1 := neqNil1
      have hf1 := field1
      obtain ⟨n, hn⟩ : ∃ n, n = Nat.min L (4096 - off) := ⟨_, rfl⟩
      have hnL : n ≤ L := by rw [hn]; exact Nat.min_le_left _ _
      have hn4 : off + n ≤ 4096 := by have : n ≤ 4096 - off := by rw [hn]; exact Nat.min_le_right _ _
                                      omega
      have hn00 : 0 < n := by rw [hn]; exact Nat.lt_min.2 ⟨by omega, by omega⟩
      have HN := hide hn
      clear hn
      have hif : (if 4096 - (off : Int) < (L : Int) then 4096 - (off : Int) else (L : Int)) = (n : Int) := by
        have h9 : n = min L (4096 - off) := HN.out
        split <;> omega
      cases hd : dt i with
      | none =>
        have HD := hide hd
        rw [hd] at hlk
        simp only [dsl] at hlk
        clear hd
        go_upto_region 6 with fail
        obtain ⟨R6, hR6⟩ : ∃ R6, R6 = R := ⟨_, rfl⟩
        have HR6 : Hid (wr.heap[O]? = some (.cells R6.toArray t (0, 0))) := by rw [hR6]; exact HR.out
        have HF6 : Hid (Filled R6 row S a0 (k + n)) := by
          rw [hR6]
          refine HFi.out.skip (fun j h1 h2 => HZ.out j (by omega)) (fun j h1 h2 => ?_)
          have h9 := HX.out.noughts i HPe.out HD.out (off + (j - k)) (by omega)
          rw [show i * 4096 + (off + (j - k)) = a0 + j by have := HA.out; have := HA2.out; omega] at h9
          exact h9
        have HK6 := HK
        clear hR6 HX HR HFi HK HM hlk hc hif
        by_cases hcn : c' = n
        · subst hcn
          go_wp2
          go_roundw
          case rel =>
            have hz9 : L - c' = 0 := by omega
            refine ⟨k + c', L - c', A + c', 0, some ⟨O, k, none⟩, R6, by omega, by rw [HA.out]; omega, by go_num, by rw [hz9], fun h => ?_, by omega, by omega, HR6.out, HF6.out, HK6.out⟩
            rw [hz9] at h
            exact absurd h (Nat.lt_irrefl _)
          case measure => simp [slen]; omega
        · go_wp2
          go_roundw
          case rel => exact ⟨k + n, L - n, A + n, c' - n, some ⟨O, k + n, none⟩, R6, by omega, by rw [HA.out]; omega, by go_num, by go_num, fun _ => rfl, by omega, by omega, HR6.out, HF6.out, HK6.out⟩
          case measure => simp [slen]; omega
      | some g =>
        have HD := hide hd
        rw [hd] at hlk
        simp only [dsl] at hlk
        clear hd
        go_upto_region 5 with fail
        rw [ho']
        obtain ⟨X, hX⟩ : ∃ X, X = (S.read A n).map (Value.int .u8) := ⟨_, rfl⟩
        have HXl : Hid (X.length = n) := by rw [hX]; simp [Hid, Mm.read_length]
        have HSrc : Hid (∀ j v, X[j]? = some v → wr.cell? ((⟨g, off, none⟩ : Addr).add j) = some v) := by rw [hX]; exact (HX.out.page i g HD.out).cellsAt off n hn4 HA2.out
        have HOne : Hid (∀ v ∈ X, v.oneCell' = true) := by rw [hX]; exact ints_oneCell _ _
        have HX1 := hide hX
        have HMin : Hid (n = Nat.min (4096 - off) n) := (Nat.min_eq_right (by omega)).symm
        have HRl : Hid (k + X.length ≤ R.length) := by rw [HXl.out, HFi.out.1]; show k + n ≤ _; omega
        clear hX hif HX HM hlk hc
        have hnc : n ≤ c' := by omega
        have h4o : (off : Int) ≤ 4096 := by omega
        have h4n : ¬ 4096 = off := by omega
        go_region_law (refine step_copy_kept rfl (.tmp 32) (.tmp 35) 30 30 rfl 5 Try.underlying30 Try.size8 (some ⟨O, k, none⟩) (some ⟨g, off, none⟩) n c' (4096 - off) (4096 - off) (by simp [Act.eval, Act.put]) (by simp [Act.eval, Act.put]) O k R t HR.out X n HXl.out HMin.out (fun _ => ⟨rfl, _, rfl, HSrc.out⟩) HRl.out HOne.out ?_; intro w6 HG6 HKr)
        obtain ⟨R6, hR6⟩ : ∃ R6, R6 = Go.splice R k X := ⟨_, rfl⟩
        have HR6 : Hid (w6.heap[O]? = some (.cells R6.toArray t (0, 0))) := by rw [hR6]; exact HG6.out
        have HF6 : Hid (Filled R6 row S a0 (k + n)) := by
          rw [hR6]
          exact HFi.out.splice (by omega) (by rw [HX1.out, HA.out])
        have HK6 : Hid (Kept (fun k => k = O) w w6) := HK.out.drew.trans HKr.out (fun k hk => Or.inl hk)
        clear hR6 HR HFi HK HX1 HG6 HKr HSrc HXl HOne HRl HMin
        by_cases hcn : c' = n
        · subst hcn
          go_wp2
          go_roundw
          case rel =>
            have hz9 : L - c' = 0 := by omega
            refine ⟨k + c', L - c', A + c', 0, some ⟨O, k, none⟩, R6, by omega, by rw [HA.out]; omega, by go_num, by rw [hz9], fun h => ?_, by omega, by omega, HR6.out, HF6.out, HK6.out⟩
            rw [hz9] at h
            exact absurd h (Nat.lt_irrefl _)
          case measure => simp [slen]; omega
        · go_wp2
          go_roundw
          case rel => exact ⟨k + n, L - n, A + n, c' - n, some ⟨O, k + n, none⟩, R6, by omega, by rw [HA.out]; omega, by go_num, by go_num, fun _ => rfl, by omega, by omega, HR6.out, HF6.out, HK6.out⟩
          case measure => simp [slen]; omega

end Go.Proofs.Ytggmeopohpbmlaa
