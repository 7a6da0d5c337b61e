/- What was written is read back: plain facts on archives. -/
import Derived.Test.YtmmcnkdefpfkiaaDoorArMay
import Derived.Test.YtmmcnkdefpfkiaaDoorArOrd
import Derived.Test.YtmmcnkdefpfkiaaDoorArMeet
namespace Go.Proofs.YtmmcnkdefpfkiaaDoor
set_option linter.unusedVariables false
set_option maxRecDepth 100000
set_option maxRecDepth 20000
set_option linter.unusedSimpArgs false

theorem dv_app (l : T8) (c : UInt8) : dv (l ++ [c]) = dv l * 10 + (c.toNat - 48) := by simp [dv]
theorem dv_dec (n : Nat) : dv (Lib.decDigits n) = n := by
  induction n using Nat.strongRecOn with
  | _ n ih =>
    by_cases h : n < 10
    · rw [Lib.decDigits_one h]
      simp [dv]
      omega
    · rw [Lib.decDigits, dif_neg h, dv_app, ih (n / 10) (by omega)]
      have : n % 10 < 10 := Nat.mod_lt _ (by decide)
      simp
      omega
theorem dec_pos (n : Nat) : 0 < (Lib.decDigits n).length := by
  by_cases h : n < 10
  · rw [Lib.decDigits_one h]; simp
  · rw [Lib.decDigits, dif_neg h]; simp
theorem dig_dec (n lim k : Nat) (hl : (Lib.decDigits n).length ≤ lim) : digO lim (Lib.decDigits n ++ List.replicate k 32) = some n := by
  obtain ⟨h1, h2⟩ := dig_of (k := k) (dec_isD n)
  unfold digO
  rw [h1, h2, if_pos ⟨spc_rep k, dec_pos n, hl⟩, dv_dec]

theorem pt_wP (f d r : T8) (hf : f.length ≤ 16) (hd : d.length ≤ 1000000000) : ptG (wP f d ++ r) = some (padR 16 f, d, r) := by
  have hl := hdT_len f d.length hf hd
  have hp := padR_len 16 f hf
  have hdl := dec_len10 d.length hd
  have h10 := padR_len 10 (Lib.decDigits d.length) hdl
  have hm : mid32.length = 32 := rfl
  have d48 : (hdT f d.length).drop 48 = padR 10 (Lib.decDigits d.length) ++ [96, 10] := by
    unfold hdT
    rw [← List.append_assoc, List.drop_left' (by rw [List.length_append, hp, hm])]
  have hs : digO 10 (((hdT f d.length).drop 48).take 10) = some d.length := by
    rw [d48, List.take_left' h10]
    exact dig_dec _ _ _ hdl
  have he : ((hdT f d.length).drop 58).take 2 = [96, 10] := by
    have : (hdT f d.length).drop 58 = ((hdT f d.length).drop 48).drop 10 := by rw [List.drop_drop]
    rw [this, d48, List.drop_left' h10]
    rfl
  have h16 : (hdT f d.length).take 16 = padR 16 f := by
    unfold hdT
    rw [List.take_left' hp]
  by_cases ho : d.length % 2 = 1
  · have hw : wP f d ++ r = hdT f d.length ++ (d ++ (10 :: r)) := by unfold wP oddT; rw [if_pos ho]; simp
    generalize hdT f d.length = h60 at *
    have e1 : (h60 ++ (d ++ 10 :: r)).length = 60 + (d.length + (r.length + 1)) := by simp [hl]
    have e2 : ((h60 ++ (d ++ 10 :: r)).drop 58).take 2 = (h60.drop 58).take 2 := by
      rw [List.drop_append_of_le_length (by omega), List.take_append_of_le_length (by simp; omega)]
    have e3 : ((h60 ++ (d ++ 10 :: r)).drop 48).take 10 = (h60.drop 48).take 10 := by
      rw [List.drop_append_of_le_length (by omega), List.take_append_of_le_length (by simp; omega)]
    have e4 : (h60 ++ (d ++ 10 :: r)).drop (60 + d.length) = 10 :: r := by
      rw [← hl, List.drop_append, List.drop_of_length_le (by omega), List.nil_append, Nat.add_sub_cancel_left, List.drop_left]
    have e5 : (h60 ++ (d ++ 10 :: r)).take 16 = h60.take 16 := List.take_append_of_le_length (by omega)
    have e6 : ((h60 ++ (d ++ 10 :: r)).drop 60).take d.length = d := by
      rw [← hl, List.drop_left, List.take_left]
    rw [hw]
    unfold ptG
    rw [if_pos ⟨by omega, by rw [e2]; exact he⟩, e3, hs]
    simp only [Option.bind_some]
    rw [if_pos (by omega), e4, e5, e6]
    unfold bhO
    rw [if_pos ⟨ho, by simp⟩, if_pos (show (10 :: r).head? = some 10 from rfl), h16]
    rfl
  · have hw : wP f d ++ r = hdT f d.length ++ (d ++ r) := by unfold wP oddT; rw [if_neg ho]; simp
    rw [hw, pt_head _ hl he d (by omega) hs r, h16]
theorem arF_wP (s : ArS) (f d r : T8) (hf : f.length ≤ 16) (hd : d.length ≤ 1000000000) (lim : Nat) : arF lim s (wP f d ++ r) = (putG lim s (padR 16 f) d).bind (fun t => arF lim t r) := by
  have hl := hdT_len f d.length hf hd
  rw [arF_step lim s _ (fun e => by have := congrArg List.length e; simp [wP, hl] at this), pt_wP f d r hf hd]
  rfl

/-- A name among the long names, at its place. -/
def LgAt (s : Lg) : Prop := ∀ t o, s.at_ t = some o → ∃ pre post, s.lg = pre ++ (t ++ 47 :: 10 :: post) ∧ pre.length = o
theorem lgStep_at (s : Lg) (n : T8) (h : LgAt s) : LgAt (lgStep s n) := by
  unfold lgStep
  split
  · exact h
  · intro t o ho
    simp only at ho ⊢
    split at ho
    · rename_i he
      subst he
      cases ho
      exact ⟨s.lg, [], by simp, rfl⟩
    · obtain ⟨pre, post, h1, h2⟩ := h t o ho
      exact ⟨pre, post ++ (n ++ [47, 10]), by rw [h1]; simp, h2⟩
theorem lgA_at (ms : List Mb) : LgAt (lgA ms) := by
  have : ∀ (l : List Mb) (s : Lg), LgAt s → LgAt (l.foldl (fun s m => lgStep s m.n) s) := by
    intro l
    induction l with
    | nil => intro s h; exact h
    | cons a l ih => intro s h; exact ih _ (lgStep_at s a.n h)
  exact this ms Lg.nil (fun t o ho => by cases ho)

theorem ok_not {n : T8} (h : okN n = true) : (47 : UInt8) ∉ n ∧ 1 ≤ n.length := by
  unfold okN at h
  simp at h
  refine ⟨fun hm => ?_, h.1.1⟩
  have := h.2 47 hm
  simp [badC] at this
theorem head_no {n r : T8} (h1 : 1 ≤ n.length) (h : (47 : UInt8) ∉ n) : ∃ c t, n ++ r = c :: t ∧ c ≠ 47 := by
  cases n with
  | nil => simp at h1
  | cons c t => exact ⟨c, t ++ r, rfl, fun e => h (by simp [e])⟩

theorem nm_fld (l : List Mb) (m : Mb) (hm : m ∈ l) (hok : okN m.n = true) (ht : tot l ≤ 100000000) (s : ArS) (hlg : s.lg = (lgA l).lg) (d : T8) (hlen : s.ms.length < 100) : putG 15 s (padR 16 (fld (lgA l) m.n)) d = some { s with ms := s.ms ++ [⟨m.n, d⟩], bg := true } := by
  obtain ⟨h47, h1⟩ := ok_not hok
  have hfl := fld_len l m hm ht
  have key : ∀ f : T8, idF f = false → lgF f = false → nmG 15 s.lg f = some m.n → putG 15 s f d = some { s with ms := s.ms ++ [⟨m.n, d⟩], bg := true } := fun f e1 e2 e3 => by
    unfold putG
    rw [e1, e2, e3]
    simp [hlen]
  cases ho : (lgA l).at_ m.n with
  | none =>
    have ef : fld (lgA l) m.n = m.n ++ [47] := by unfold fld; rw [ho]
    rw [ef]
    rw [ef] at hfl
    have e : padR 16 (m.n ++ [47]) = m.n ++ 47 :: List.replicate (16 - (m.n ++ [47]).length) 32 := by simp [padR]
    rw [e]
    generalize 16 - (m.n ++ [47]).length = q
    obtain ⟨c, t, hc, hne⟩ := head_no (r := 47 :: List.replicate q 32) h1 h47
    obtain ⟨hh, htl⟩ := hdB_app (List.replicate q 32) h47
    refine key _ ?_ ?_ ?_
    · rw [hc]; simp [idF, hne]
    · rw [hc]; simp [lgF, hne]
    · unfold nmG nmQ
      rw [hh, htl, if_neg (fun e => by rw [e] at h1; simp at h1), if_pos ⟨by simp, spc_rep q⟩]
      simp [hok]
  | some o =>
    obtain ⟨pre, post, hp, hpl⟩ := lgA_at l _ _ ho
    have ef : fld (lgA l) m.n = 47 :: Lib.decDigits o := by unfold fld; rw [ho]
    rw [ef]
    rw [ef] at hfl
    have e : padR 16 (47 :: Lib.decDigits o) = 47 :: (Lib.decDigits o ++ List.replicate (16 - (47 :: Lib.decDigits o).length) 32) := by simp [padR]
    rw [e]
    generalize 16 - (47 :: Lib.decDigits o).length = q
    have hdl : (Lib.decDigits o).length ≤ 15 := by simp at hfl; omega
    have hdp := dec_pos o
    have hdd := dec_isD o
    have hdg := dig_dec o 15 q hdl
    have hlk : lkO s.lg o = some m.n := by
      unfold lkO
      rw [hlg, hp, if_pos (by simp; omega), ← hpl, List.drop_left]
      exact upE_app post h47
    cases hD : Lib.decDigits o with
    | nil => rw [hD] at hdp; simp at hdp
    | cons c t =>
      rw [hD] at hdd hdg
      obtain ⟨n1, n2⟩ := isD_ne (hdd c (by simp))
      refine key _ ?_ ?_ ?_
      · simp [idF, spc, n1]
      · simp [lgF, n2]
      · unfold nmG nmQ
        rw [if_pos (by simp [hdB]), List.drop_one, List.tail_cons, hdg]
        simp [hlk, hok]

theorem arF_ms (ms : List Mb) (ht : tot ms ≤ 100000000) : ∀ (l : List Mb) (s : ArS), (∀ m ∈ l, m ∈ ms ∧ okN m.n = true ∧ m.b.length ≤ 1000000000) → s.lg = (lgA ms).lg → s.ms.length + l.length ≤ 100 → ∃ t, arF 15 s (msP (lgA ms) l) = some t ∧ t.ms = s.ms ++ l ∧ t.ix = s.ix
  | [], s, _, _, _ => ⟨s, rfl, by simp, rfl⟩
  | m :: l, s, h, hlg, hn => by
    obtain ⟨h1, h2, h3⟩ := h m (by simp)
    have hp := nm_fld ms m h1 h2 ht s hlg m.b (by simp at hn; omega)
    obtain ⟨t, e1, e2, e3⟩ := arF_ms ms ht l { s with ms := s.ms ++ [⟨m.n, m.b⟩], bg := true } (fun x hx => h x (List.mem_cons_of_mem _ hx)) hlg (by simp at hn ⊢; omega)
    have e : msP (lgA ms) (m :: l) = wP (fld (lgA ms) m.n) m.b ++ msP (lgA ms) l := by simp [msP]
    refine ⟨t, ?_, ?_, e3⟩
    · rw [e, arF_wP s _ _ _ (fld_len ms m h1 ht) h3, hp]
      exact e1
    · rw [e2]; simp

theorem arF_lg (s : ArS) (lg r : T8) (hl : lg.length ≤ 1000000000) (h1 : s.hl = false) (h2 : s.ms = []) (h0 : lg ≠ []) : arF 15 s (wP [47, 47] lg ++ r) = arF 15 { s with lg := lg, hl := true, bg := true } r := by
  rw [arF_wP s _ _ _ (by decide) hl]
  have e1 : idF (padR 16 [47, 47]) = false := by decide
  have e2 : lgF (padR 16 [47, 47]) = true := by decide
  unfold putG
  rw [e1, e2, h1, h2]
  rfl
theorem arF_ix (idx r : T8) (hl : idx.length ≤ 1000000000) : arF 15 s0 (wP [47] idx ++ r) = arF 15 { s0 with ix := idx, bg := true } r := by
  rw [arF_wP s0 _ _ _ (by decide) hl]
  have e1 : idF (padR 16 [47]) = true := by decide
  unfold putG
  rw [e1]
  rfl
theorem arR_wA (ms : List Mb) (idx : T8) (ht : tot ms ≤ 100000000) (hn : ms.length ≤ 100) (hok : ms.all okm = true) (hi : idx.length ≤ 100000000) (hl : (wA ms idx).length ≤ 1048576) : ∃ t, arR 15 (wA ms idx) = some t ∧ t.ms = ms ∧ t.ix = idx := by
  have hall : ∀ m ∈ ms, m ∈ ms ∧ okN m.n = true ∧ m.b.length ≤ 1000000000 := fun m hm => by
    refine ⟨hm, List.all_eq_true.1 hok m hm, ?_⟩
    obtain ⟨j, hj⟩ := List.mem_iff_getElem?.1 hm
    have h1 := tot_take ms j m hj
    have h2 := tot_le ms (j + 1)
    omega
  have hlg := lgA_lg ms
  rw [arR_eq, if_pos ⟨hl, rfl⟩]
  have e : (wA ms idx).drop 8 = idP idx ++ (lgP (lgA ms) ++ msP (lgA ms) ms) := rfl
  rw [e]
  have two : ∀ s : ArS, s.hl = false → s.ms = [] → s.lg = [] → ∃ t, arF 15 s (lgP (lgA ms) ++ msP (lgA ms) ms) = some t ∧ t.ms = ms ∧ t.ix = s.ix := fun s h1 h2 h3 => by
    by_cases h0 : (lgA ms).lg = []
    · have e2 : lgP (lgA ms) = [] := by unfold lgP; rw [if_pos h0]
      rw [e2, List.nil_append]
      obtain ⟨t, g1, g2, g3⟩ := arF_ms ms ht ms s hall (by rw [h3, h0]) (by rw [h2]; simpa using hn)
      exact ⟨t, g1, by rw [g2, h2]; rfl, g3⟩
    · have e2 : lgP (lgA ms) = wP [47, 47] (lgA ms).lg := by unfold lgP; rw [if_neg h0]
      rw [e2, arF_lg s _ _ (by omega) h1 h2 h0]
      obtain ⟨t, g1, g2, g3⟩ := arF_ms ms ht ms { s with lg := (lgA ms).lg, hl := true, bg := true } hall rfl (by show s.ms.length + _ ≤ _; rw [h2]; simpa using hn)
      exact ⟨t, g1, by rw [g2]; show s.ms ++ ms = ms; rw [h2]; rfl, g3⟩
  by_cases h0 : idx = []
  · have e1 : idP idx = [] := by unfold idP; rw [if_pos h0]
    rw [e1, List.nil_append]
    obtain ⟨t, g1, g2, g3⟩ := two s0 rfl rfl rfl
    exact ⟨t, g1, g2, by rw [g3, h0]; rfl⟩
  · have e1 : idP idx = wP [47] idx := by unfold idP; rw [if_neg h0]
    rw [e1, arF_ix idx _ (by omega)]
    obtain ⟨t, g1, g2, g3⟩ := two { s0 with ix := idx, bg := true } rfl rfl rfl
    exact ⟨t, g1, g2, g3⟩

end Go.Proofs.YtmmcnkdefpfkiaaDoor
