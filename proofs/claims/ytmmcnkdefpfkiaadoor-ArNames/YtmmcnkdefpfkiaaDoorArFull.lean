/- More than a hundred members are not read back; an archive of one member that is too long isn't either: plain facts. -/
import Derived.Test.YtmmcnkdefpfkiaaDoorArBackW
namespace Go.Proofs.YtmmcnkdefpfkiaaDoor
set_option linter.unusedVariables false
set_option maxRecDepth 100000
set_option maxRecDepth 20000
set_option linter.unusedSimpArgs false

theorem put_full {s : ArS} {f d : T8} {n : T8} (h : putG 15 { s with ms := [] } f d = some { s with ms := [⟨n, d⟩], bg := true }) (h100 : 100 ≤ s.ms.length) : putG 15 s f d = none := by
  unfold putG at h ⊢
  split at h
  · split at h
    · cases h
    · injection h with h
      have := congrArg ArS.ms h
      simp at this
  · rename_i h1
    rw [if_neg h1]
    split at h
    · split at h
      · cases h
      · injection h with h
        have := congrArg ArS.ms h
        simp at this
    · rename_i h2
      rw [if_neg h2]
      cases hn : nmG 15 s.lg f with
      | none => rfl
      | some x =>
        simp only [Option.bind_some]
        rw [if_neg (by omega)]

theorem arF_full (ms : List Mb) (ht : tot ms ≤ 100000000) : ∀ (l : List Mb) (s : ArS), (∀ m ∈ l, m ∈ ms ∧ okN m.n = true ∧ m.b.length ≤ 1000000000) → s.lg = (lgA ms).lg → s.ms.length ≤ 100 → 100 < s.ms.length + l.length → arF 15 s (msP (lgA ms) l) = none
  | [], s, _, _, h1, h2 => by simp at h2; omega
  | m :: l, s, h, hlg, h1, h2 => by
    obtain ⟨g1, g2, g3⟩ := h m (by simp)
    have e : msP (lgA ms) (m :: l) = wP (fld (lgA ms) m.n) m.b ++ msP (lgA ms) l := by simp [msP]
    rw [e, arF_wP s _ _ _ (fld_len ms m g1 ht) g3]
    by_cases hlt : s.ms.length < 100
    · rw [nm_fld ms m g1 g2 ht s hlg m.b hlt]
      exact arF_full ms ht l { s with ms := s.ms ++ [⟨m.n, m.b⟩], bg := true } (fun x hx => h x (List.mem_cons_of_mem _ hx)) hlg (by simp; omega) (by simp at h2 ⊢; omega)
    · have hp := nm_fld ms m g1 g2 ht { s with ms := [] } hlg m.b (by simp)
      rw [put_full hp (by omega)]
      rfl

def mM : Mb := ⟨[109], []⟩
theorem mM_ok : okN [109] = true := by decide
theorem mm_all (k : Nat) : ∀ m ∈ List.replicate k mM, m ∈ List.replicate k mM ∧ okN m.n = true ∧ m.b.length ≤ 1000000000 := fun m hm => by
  have := List.eq_of_mem_replicate hm
  refine ⟨hm, ?_, ?_⟩ <;> subst this
  · exact mM_ok
  · decide
theorem mm_okm (k : Nat) : (List.replicate k mM).all okm = true := List.all_eq_true.2 (fun m hm => (mm_all k m hm).2.1)
theorem mm_tot (k : Nat) : tot (List.replicate k mM) = 71 * k := by
  induction k with
  | zero => rfl
  | succ k ih => rw [List.replicate_succ, tot, ih]; simp [mM]; omega
theorem lgA_short (ms : List Mb) (h : ∀ m ∈ ms, m.n.length ≤ 15) : lgA ms = Lg.nil := by
  have : ∀ (l : List Mb), (∀ m ∈ l, m.n.length ≤ 15) → l.foldl (fun s m => lgStep s m.n) Lg.nil = Lg.nil := fun l => by
    induction l with
    | nil => intro _; rfl
    | cons a l ih =>
      intro h
      have e : lgStep Lg.nil a.n = Lg.nil := by unfold lgStep; rw [if_pos (.inr (h a (by simp)))]
      simp only [List.foldl_cons, e]
      exact ih (fun m hm => h m (List.mem_cons_of_mem _ hm))
  exact this ms h
theorem mm_lg (k : Nat) : lgA (List.replicate k mM) = Lg.nil := lgA_short _ (fun m hm => by rw [List.eq_of_mem_replicate hm]; decide)
/-- So many members of one letter: read back up to a hundred. -/
theorem mm_read (k : Nat) (hk : k ≤ 200) : if k ≤ 100 then ∃ t, arR 15 (wA (List.replicate k mM) []) = some t ∧ t.ms.length = k else arR 15 (wA (List.replicate k mM) []) = none := by
  have ht : tot (List.replicate k mM) ≤ 100000 := by rw [mm_tot]; omega
  have hl := wA_len (List.replicate k mM) [] ht (by simp)
  split
  · rename_i h
    obtain ⟨t, h1, h2, _⟩ := arR_wA (List.replicate k mM) [] (by omega) (by simpa using h) (mm_okm k) (by simp) hl
    exact ⟨t, h1, by rw [h2]; simp⟩
  · rename_i h
    rw [arR_eq, if_pos ⟨hl, rfl⟩]
    have e : (wA (List.replicate k mM) []).drop 8 = msP (lgA (List.replicate k mM)) (List.replicate k mM) := by
      have e1 : lgP (lgA (List.replicate k mM)) = [] := by rw [mm_lg]; rfl
      show idP [] ++ (lgP _ ++ _) = _
      rw [e1]
      rfl
    rw [e]
    exact arF_full _ (by omega) _ s0 (mm_all k) (by rw [mm_lg]; rfl) (by decide) (by show 100 < 0 + _; simp; omega)

/-- One member of so many noughts. -/
def zM (N : Nat) : List Mb := [⟨[109], List.replicate N 0⟩]
theorem zM_len (N : Nat) (hN : N ≤ 2000000) (h2 : N % 2 = 0) : (wA (zM N) []).length = N + 68 := by
  have hlg : lgA (zM N) = Lg.nil := lgA_short _ (fun m hm => by simp [zM] at hm; subst hm; simp)
  have e1 : lgP (lgA (zM N)) = [] := by rw [hlg]; rfl
  have e2 : msP (lgA (zM N)) (zM N) = wP (fld Lg.nil [109]) (List.replicate N 0) := by rw [hlg]; simp [msP, zM]
  have hf : (fld Lg.nil [109]).length ≤ 16 := by decide
  have h3 := hdT_len (fld Lg.nil [109]) (List.replicate N (0 : UInt8)).length hf (by simp; omega)
  unfold wA
  rw [e1, e2]
  have h4 : magc.length = 8 := rfl
  have h5 : (idP []).length = 0 := rfl
  unfold wP
  have h6 : oddT (List.replicate N (0 : UInt8)) = [] := by unfold oddT; rw [List.length_replicate, if_neg (by omega)]
  rw [h6]
  simp only [List.length_append, List.length_replicate, List.length_nil] at h3 ⊢
  omega
theorem zM_read (N : Nat) (hN : N ≤ 2000000) (h2 : N % 2 = 0) : if N + 68 ≤ 1048576 then ∃ t, arR 15 (wA (zM N) []) = some t else arR 15 (wA (zM N) []) = none := by
  have hl := zM_len N hN h2
  split
  · rename_i h
    have ht : tot (zM N) = N + 71 := by simp [zM, tot]; omega
    obtain ⟨t, h1, _⟩ := arR_wA (zM N) [] (by omega) (by simp [zM]) (by simp [zM, okm, mM_ok]) (by simp) (by omega)
    exact ⟨t, h1⟩
  · rw [arR_eq, if_neg (fun h => by omega)]

end Go.Proofs.YtmmcnkdefpfkiaaDoor
