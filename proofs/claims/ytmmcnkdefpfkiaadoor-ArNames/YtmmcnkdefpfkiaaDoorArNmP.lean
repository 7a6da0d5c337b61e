/- What is written is read alike by both readers; names of letters with one byte of any kind among them: plain facts. -/
import Derived.Test.YtmmcnkdefpfkiaaDoorArDocP
import Derived.Test.YtmmcnkdefpfkiaaDoorArFull
namespace Go.Proofs.YtmmcnkdefpfkiaaDoor
set_option linter.unusedVariables false
set_option maxRecDepth 100000
set_option maxRecDepth 20000
set_option linter.unusedSimpArgs false

def DgL (F : T8) : Prop := hdB 47 F = [] → digO 15 (F.drop 1) = digO 10 (F.drop 1)
theorem putG_lim {s : ArS} {F d : T8} (h : DgL F) : putG 15 s F d = putG 10 s F d := by
  unfold putG
  have e : nmG 15 s.lg F = nmG 10 s.lg F := by
    unfold nmG nmQ
    by_cases h0 : hdB 47 F = []
    · rw [if_pos h0, if_pos h0, h h0]
    · rw [if_neg h0, if_neg h0]
  rw [e]
theorem arF_lim (g : Lg) : ∀ (l : List Mb) (s : ArS), (∀ m ∈ l, (fld g m.n).length ≤ 16 ∧ m.b.length ≤ 1000000000 ∧ DgL (padR 16 (fld g m.n))) → arF 15 s (msP g l) = arF 10 s (msP g l)
  | [], s, _ => rfl
  | m :: l, s, h => by
    obtain ⟨h1, h2, h3⟩ := h m (by simp)
    have e : msP g (m :: l) = wP (fld g m.n) m.b ++ msP g l := by simp [msP]
    rw [e, arF_wP s _ _ _ h1 h2, arF_wP s _ _ _ h1 h2, putG_lim h3]
    congr 1
    funext t
    exact arF_lim g l t (fun x hx => h x (List.mem_cons_of_mem _ hx))
theorem arR_lim (ms : List Mb) (ht : tot ms ≤ 100000000) (h : ∀ m ∈ ms, DgL (padR 16 (fld (lgA ms) m.n))) : arR 15 (wA ms []) = arR 10 (wA ms []) := by
  have hlg := lgA_lg ms
  have hb : ∀ m ∈ ms, (fld (lgA ms) m.n).length ≤ 16 ∧ m.b.length ≤ 1000000000 ∧ DgL (padR 16 (fld (lgA ms) m.n)) := fun m hm => by
    refine ⟨fld_len ms m hm ht, ?_, h m hm⟩
    obtain ⟨j, hj⟩ := List.mem_iff_getElem?.1 hm
    have h1 := tot_take ms j m hj
    have h2 := tot_le ms (j + 1)
    omega
  rw [arR_eq, arR_eq]
  split
  · have e : (wA ms []).drop 8 = lgP (lgA ms) ++ msP (lgA ms) ms := rfl
    rw [e]
    unfold lgP
    split
    · rw [List.nil_append]; exact arF_lim _ ms s0 hb
    · rw [arF_wP s0 _ _ _ (by decide) (by omega), arF_wP s0 _ _ _ (by decide) (by omega)]
      have e2 : putG 15 s0 (padR 16 [47, 47]) (lgA ms).lg = putG 10 s0 (padR 16 [47, 47]) (lgA ms).lg := by
        have e1 : lgF (padR 16 [47, 47]) = true := by decide
        have e0 : idF (padR 16 [47, 47]) = false := by decide
        unfold putG
        rw [e0, e1]
        rfl
      rw [e2]
      congr 1
      funext t
      exact arF_lim _ ms t hb
  · rfl
theorem dgl_fld (ms : List Mb) (ht : tot ms ≤ 1000000) (m : Mb) (h1 : 1 ≤ m.n.length) (h2 : m.n.head? = some 47 → m.n = [47]) : DgL (padR 16 (fld (lgA ms) m.n)) := by
  have hlg := lgA_lg ms
  intro h0
  cases ho : (lgA ms).at_ m.n with
  | none =>
    have ef : fld (lgA ms) m.n = m.n ++ [47] := by unfold fld; rw [ho]
    rw [ef] at h0 ⊢
    cases hn : m.n with
    | nil => rw [hn] at h1; simp at h1
    | cons c r =>
      by_cases hc : c = 47
      · have h3 := h2 (by rw [hn, hc]; rfl)
        rw [hn] at h3
        rw [h3]
        decide
      · rw [hn] at h0
        unfold padR at h0
        simp [hdB, hc] at h0
  | some o =>
    obtain ⟨pre, post, hp, hpl⟩ := lgA_at ms _ _ ho
    have ef : fld (lgA ms) m.n = 47 :: Lib.decDigits o := by unfold fld; rw [ho]
    have hol : o ≤ 1000000 := by have := congrArg List.length hp; simp at this; omega
    have hd := dec_len10 o (by omega)
    rw [ef]
    have e : (padR 16 (47 :: Lib.decDigits o)).drop 1 = Lib.decDigits o ++ List.replicate (16 - (47 :: Lib.decDigits o).length) 32 := by simp [padR]
    rw [e, dig_dec o 15 _ (by omega), dig_dec o 10 _ hd]

/-- Letters, round and round. -/
def ltrs (k : Nat) : T8 := (List.range k).map (fun i => UInt8.ofNat (97 + i % 26))
theorem ltrs_len (k : Nat) : (ltrs k).length = k := by simp [ltrs]
theorem ltrs_at (k i : Nat) (h : i < k) : (ltrs k)[i]? = some (UInt8.ofNat (97 + i % 26)) := by simp [ltrs, h]
theorem ltr_nat (i : Nat) : (UInt8.ofNat (97 + i % 26)).toNat = 97 + i % 26 := by
  have : i % 26 < 26 := Nat.mod_lt _ (by decide)
  simp [UInt8.toNat_ofNat]
  omega
/-- .. with one byte in the middle. -/
def nmC (k : Nat) (c : UInt8) : T8 := (ltrs k).set (k / 2) c
theorem nmC_len (k : Nat) (c : UInt8) : (nmC k c).length = k := by simp [nmC, ltrs_len]
theorem nmC_head (k : Nat) (c : UInt8) (hk : 1 ≤ k) : (nmC k c).head? = some 47 → nmC k c = [47] := by
  intro h
  by_cases h1 : k = 1
  · subst h1
    have e : nmC 1 c = [c] := rfl
    rw [e] at h ⊢
    simp at h
    rw [h]
  · exfalso
    have e : (nmC k c)[0]? = some (UInt8.ofNat (97 + 0 % 26)) := by
      unfold nmC
      rw [List.getElem?_set_ne (by omega), ltrs_at k 0 (by omega)]
    rw [List.head?_eq_getElem?, e] at h
    simp at h
theorem nmC_ok (k : Nat) (c : UInt8) (h1 : 1 ≤ k) (h2 : k ≤ 200) (hc : badC c = false) : okN (nmC k c) = true := by
  have hb : (nmC k c).any badC = false := by
    rw [List.any_eq_false]
    intro x hx
    unfold nmC at hx
    rcases List.mem_or_eq_of_mem_set hx with h | h
    · obtain ⟨i, _, rfl⟩ := List.mem_map.1 h
      have := ltr_nat i
      have h26 : i % 26 < 26 := Nat.mod_lt _ (by decide)
      generalize UInt8.ofNat (97 + i % 26) = y at *
      unfold badC
      have n0 : y ≠ 0 := fun e => by rw [e] at this; simp at this; omega
      have n1 : y ≠ 47 := fun e => by rw [e] at this; simp at this; omega
      have n2 : y ≠ 10 := fun e => by rw [e] at this; simp at this; omega
      simp [n0, n1, n2]
    · rw [h, hc]; simp
  unfold okN
  rw [hb, nmC_len, decide_eq_true h1, decide_eq_true h2]
  rfl
/-- The law's members. -/
def nmMs (nm : T8) (tw : Bool) : List Mb := if tw = true then [⟨nm, [1]⟩, mM, ⟨nm, [1]⟩] else [⟨nm, [1]⟩]
theorem nmMs_tot (nm : T8) (tw : Bool) (h : nm.length ≤ 210) : tot (nmMs nm tw) ≤ 1000 := by
  unfold nmMs
  split <;> simp [tot, mM] <;> omega
theorem nmMs_mem (nm : T8) (tw : Bool) : ∀ m ∈ nmMs nm tw, m.n = nm ∨ m.n = [109] := by
  unfold nmMs
  split
  · intro m hm
    simp [mM] at hm
    rcases hm with rfl | rfl | rfl <;> simp
  · intro m hm
    simp at hm
    subst hm
    exact .inl rfl
theorem names_lim (k : Nat) (c : UInt8) (tw : Bool) (h1 : 1 ≤ k) (h2 : k ≤ 210) : arR 15 (wA (nmMs (nmC k c) tw) []) = arR 10 (wA (nmMs (nmC k c) tw) []) := by
  have ht := nmMs_tot (nmC k c) tw (by rw [nmC_len]; omega)
  refine arR_lim _ (by omega) (fun m hm => dgl_fld _ (by omega) m ?_ ?_)
  · rcases nmMs_mem _ _ m hm with h | h
    · rw [h, nmC_len]; exact h1
    · rw [h]; decide
  · rcases nmMs_mem _ _ m hm with h | h
    · rw [h]; exact nmC_head k c h1
    · rw [h]; intro h; simp at h
theorem names_read (k : Nat) (c : UInt8) (tw : Bool) (h1 : 1 ≤ k) (h2 : k ≤ 200) (hc : badC c = false) : ∃ t, arR 15 (wA (nmMs (nmC k c) tw) []) = some t ∧ t.ms = nmMs (nmC k c) tw := by
  have ht := nmMs_tot (nmC k c) tw (by rw [nmC_len]; omega)
  have hl := wA_len (nmMs (nmC k c) tw) [] (by omega) (by simp)
  have hok : (nmMs (nmC k c) tw).all okm = true := List.all_eq_true.2 (fun m hm => by
    unfold okm
    rcases nmMs_mem _ _ m hm with h | h
    · rw [h]; exact nmC_ok k c h1 h2 hc
    · rw [h]; exact mM_ok)
  obtain ⟨t, e1, e2, _⟩ := arR_wA (nmMs (nmC k c) tw) [] (by omega) (by unfold nmMs; split <;> simp) hok (by simp) hl
  exact ⟨t, e1, e2⟩

end Go.Proofs.YtmmcnkdefpfkiaaDoor
