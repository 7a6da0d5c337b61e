/- The names of an archive's parts by a list, as the document's Write has them: plain facts. -/
import Derived.Test.YtmmcnkdefpfkiaaDoorArMemb
import Derived.Test.YtmmcnkdefpfkiaaDoorTxtRow
namespace Go.Proofs.YtmmcnkdefpfkiaaDoor
open Go.RowKit Go.Maps
set_option linter.unusedVariables false
set_option maxRecDepth 100000
set_option maxRecDepth 20000
set_option linter.unusedSimpArgs false

/-- What has a place among the long names is long, and a name of the members. -/
def LgIn (s : Lg) (done : List Mb) : Prop := ∀ t o, s.at_ t = some o → 15 < t.length ∧ ∃ m ∈ done, m.n = t
theorem lgStep_in (s : Lg) (done : List Mb) (x : Mb) (h : LgIn s done) : LgIn (lgStep s x.n) (done ++ [x]) := by
  have up : ∀ t o, s.at_ t = some o → 15 < t.length ∧ ∃ m ∈ done ++ [x], m.n = t := fun t o ho => by
    obtain ⟨h1, m, hm, h2⟩ := h t o ho
    exact ⟨h1, m, List.mem_append_left _ hm, h2⟩
  unfold lgStep
  split
  · exact up
  · rename_i hc
    intro t o ho
    simp only at ho
    split at ho
    · rename_i he
      subst he
      exact ⟨Nat.lt_of_not_le (fun hle => hc (.inr hle)), x, by simp, rfl⟩
    · exact up t o ho
theorem lgA_in (ms : List Mb) : LgIn (lgA ms) ms := by
  have : ∀ (l : List Mb) (s : Lg) (done : List Mb), LgIn s done → LgIn (l.foldl (fun s m => lgStep s m.n) s) (done ++ l) := by
    intro l
    induction l with
    | nil => intro s d h; simpa using h
    | cons a l ih =>
      intro s d h
      have := ih (lgStep s a.n) (d ++ [a]) (lgStep_in s d a h)
      simpa using this
  have := this ms Lg.nil [] (fun t o ho => by cases ho)
  simpa [lgA] using this
/-- The parts' names, one a member. -/
def nmF (l : List Mb) : List T8 := l.map (fun m => fld (lgA l) m.n)
theorem nmF_len (l : List Mb) : (nmF l).length = l.length := by simp [nmF]
theorem fld_keep (ms : List Mb) (n : T8) (m : Mb) (hm : m ∈ ms) : fld (lgStep (lgA ms) n) m.n = fld (lgA ms) m.n := by
  unfold lgStep
  split
  · rfl
  · rename_i hc
    have hne : m.n ≠ n := fun e => by
      subst e
      cases h : (lgA ms).at_ m.n with
      | none => exact hc (.inr ((lgA_ok ms).short m hm h))
      | some o => exact hc (.inl (by rw [h]; rfl))
    unfold fld
    simp only
    rw [if_neg hne]
theorem nmF_step (l : List Mb) (k : Nat) (x : Mb) (hx : l[k]? = some x) : nmF (l.take (k + 1)) = nmF (l.take k) ++ [fld (lgA (l.take (k + 1))) x.n] := by
  have e : l.take (k + 1) = l.take k ++ [x] := by rw [List.take_add_one, hx]; rfl
  have es := lgA_take l k x hx
  unfold nmF
  rw [es, e, List.map_append]
  congr 1
  exact List.map_congr_left (fun m hm => fld_keep _ _ m hm)
theorem nm_short (l : List Mb) (k : Nat) (x : Mb) (hx : l[k]? = some x) (h : x.n.length ≤ 15) : lgA (l.take (k + 1)) = lgA (l.take k) ∧ fld (lgA (l.take (k + 1))) x.n = x.n ++ [47] := by
  have es := lgA_take l k x hx
  have e2 : lgStep (lgA (l.take k)) x.n = lgA (l.take k) := by unfold lgStep; rw [if_pos (.inr h)]
  rw [e2] at es
  refine ⟨es, ?_⟩
  rw [es]
  unfold fld
  cases ho : (lgA (l.take k)).at_ x.n with
  | none => rfl
  | some o => exact absurd h (Nat.not_le_of_lt ((lgA_in _ _ _ ho).1))
theorem nm_seen (l : List Mb) (k j : Nat) (x y : Mb) (hx : l[k]? = some x) (h : 15 < x.n.length) (hj : j < k) (hy : l[j]? = some y) (he : y.n = x.n) : lgA (l.take (k + 1)) = lgA (l.take k) ∧ (nmF (l.take k))[j]? = some (fld (lgA (l.take (k + 1))) x.n) := by
  have es := lgA_take l k x hx
  have hjt : (l.take k)[j]? = some y := by rw [List.getElem?_take_of_lt hj]; exact hy
  have e2 : lgStep (lgA (l.take k)) x.n = lgA (l.take k) := by
    unfold lgStep
    rw [if_pos]
    cases ho : (lgA (l.take k)).at_ x.n with
    | none =>
      rw [← he] at ho
      have := (lgA_ok (l.take k)).short y (List.mem_of_getElem? hjt) ho
      rw [he] at this
      omega
    | some o => exact .inl rfl
  rw [e2] at es
  refine ⟨es, ?_⟩
  rw [es]
  unfold nmF
  rw [List.getElem?_map, hjt, ← he]
  rfl
theorem nm_new (l : List Mb) (k : Nat) (x : Mb) (hx : l[k]? = some x) (h : 15 < x.n.length) (hn : ∀ j y, j < k → l[j]? = some y → y.n ≠ x.n) : (lgA (l.take (k + 1))).lg = (lgA (l.take k)).lg ++ (x.n ++ [47, 10]) ∧ fld (lgA (l.take (k + 1))) x.n = [47] ++ Lib.decDigits (lgA (l.take k)).lg.length := by
  have es := lgA_take l k x hx
  have h0 : (lgA (l.take k)).at_ x.n = none := by
    cases ho : (lgA (l.take k)).at_ x.n with
    | none => rfl
    | some o =>
      obtain ⟨_, m, hm, hmn⟩ := lgA_in _ _ _ ho
      obtain ⟨j, hj⟩ := List.mem_iff_getElem?.1 hm
      have hjk : j < k := by
        rcases Nat.lt_or_ge j k with h1 | h1
        · exact h1
        · rw [List.getElem?_take_eq_none h1] at hj; cases hj
      rw [List.getElem?_take_of_lt hjk] at hj
      exact absurd hmn (hn j m hjk hj)
  rw [es]
  unfold lgStep
  rw [if_neg (fun hc => hc.elim (fun hc => by rw [h0] at hc; cases hc) (fun hc => by omega))]
  refine ⟨rfl, ?_⟩
  unfold fld
  simp

end Go.Proofs.YtmmcnkdefpfkiaaDoor
