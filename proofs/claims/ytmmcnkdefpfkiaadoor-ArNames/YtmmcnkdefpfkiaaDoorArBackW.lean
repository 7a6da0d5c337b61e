/- ArBack's whole walk: for any members and any index it answers true. -/
import Derived.Test.YtmmcnkdefpfkiaaDoorArBk
import Derived.Test.YtmmcnkdefpfkiaaDoorArKnown
namespace Go.Proofs.YtmmcnkdefpfkiaaDoor
open Go.RowKit Go.Maps
set_option linter.unusedVariables false
set_option maxRecDepth 100000
set_option maxRecDepth 20000
set_option linter.unusedSimpArgs false

theorem tot_lt : ∀ (ms : List Mb), ms.all ltm = true → tot ms ≤ ms.length * 520
  | [], _ => by simp [tot]
  | m :: l, h => by
    simp only [List.all_cons, Bool.and_eq_true] at h
    have h1 := tot_lt l h.2
    have h2 := h.1
    simp [ltm] at h2
    simp [tot]
    omega
theorem wA_len (ms : List Mb) (idx : T8) (ht : tot ms ≤ 100000) (hi : idx.length ≤ 1000) : (wA ms idx).length ≤ 1048576 := by
  have h1 := lgA_lg ms
  have h2 := msP_len (lgA ms) ms (fun x hx => fld_len ms x hx (by omega)) (by omega)
  have h3 : (idP idx).length ≤ idx.length + 61 := by
    unfold idP
    split
    · simp
    · exact wP_len _ _ (by decide) (by omega)
  have h4 : (lgP (lgA ms)).length ≤ (lgA ms).lg.length + 61 := by
    unfold lgP
    split
    · simp
    · exact wP_len _ _ (by decide) (by omega)
  have h5 : magc.length = 8 := rfl
  unfold wA
  simp only [List.length_append]
  omega

theorem rwrite_txt (a : Option Addr) (cap : Nat) (ms : List Mb) (ai : Option Addr) (ci : Nat) (idx : T8) (u : World) (r : Rmb u a ms.length cap ms) (ri : Rt u ai ci idx) (ht : tot ms ≤ 100000000) (hti : idx.length ≤ 100000000) :
    Calls Tryd.prog 7 #[.slice a ms.length cap, .slice ai idx.length ci] u fun e w' => ∃ a4 c4, e = .returned (.slice a4 (wA ms idx).length c4) ∧ Below u.heap.size u w' ∧ Sem.run Tryd.prog (convert 24 9 (.slice a4 (wA ms idx).length c4)) w' = .ok (.string (str (wA ms idx))) w' := by
  refine (rwrite_any a cap ms ai ci idx u r ri ht hti).mono ?_
  rintro e w' ⟨v4, rfl, hbx4⟩
  obtain ⟨a4, c4, rfl, hr4⟩ := hbx4.rt
  exact ⟨a4, c4, rfl, hbx4.bel, Rt.txt hr4 _ rfl⟩



end Go.Proofs.YtmmcnkdefpfkiaaDoor
