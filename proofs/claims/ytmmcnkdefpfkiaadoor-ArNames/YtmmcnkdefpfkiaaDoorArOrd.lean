/- Heads of members as the laws make them; an archive of such parts, read part by part; bytes behind bytes. -/
import Derived.Test.YtmmcnkdefpfkiaaDoorArKnown
namespace Go.Proofs.YtmmcnkdefpfkiaaDoor
open Go.RowKit Go.Maps
set_option linter.unusedVariables false
set_option maxRecDepth 100000
set_option maxRecDepth 20000
set_option linter.unusedSimpArgs false

def hT (nm sz : T8) : T8 := padR 16 nm ++ (List.replicate 32 32 ++ (padR 10 sz ++ [96, 10]))
def ab4 : T8 := [97, 98, 47, 10]
/-- The part of each kind. -/
def oB (k : Nat) : T8 := if k = 0 then hT [47] [48] else if k = 1 then hT [47, 47] [52] ++ ab4 else if k = 2 then hT [109, 47] [48] else hT [47, 48] [48]
def oS (s : ArS) (k : Nat) : Option ArS :=
  if k = 0 then (if s.bg = true then none else some { s with ix := [], bg := true })
  else if k = 1 then (if s.hl = true ∨ 0 < s.ms.length then none else some { s with lg := ab4, hl := true, bg := true })
  else if k = 2 then (if s.ms.length < 100 then some { s with ms := s.ms ++ [⟨[109], []⟩], bg := true } else none)
  else ((lkO s.lg 0).bind okO).bind (fun n => if s.ms.length < 100 then some { s with ms := s.ms ++ [⟨n, []⟩], bg := true } else none)
theorem pt_head (h60 : T8) (hl : h60.length = 60) (he : (h60.drop 58).take 2 = [96, 10]) (d : T8) (hd : d.length % 2 = 0) (hs : digO 10 ((h60.drop 48).take 10) = some d.length) (r : T8) : ptG (h60 ++ (d ++ r)) = some (h60.take 16, d, r) := by
  have e1 : (h60 ++ (d ++ r)).length = 60 + (d.length + r.length) := by simp [hl]
  have e2 : ((h60 ++ (d ++ r)).drop 58).take 2 = (h60.drop 58).take 2 := by
    rw [List.drop_append_of_le_length (by omega), List.take_append_of_le_length (by simp; omega)]
  have e3 : ((h60 ++ (d ++ r)).drop 48).take 10 = (h60.drop 48).take 10 := by
    rw [List.drop_append_of_le_length (by omega), List.take_append_of_le_length (by simp; omega)]
  have e4 : (h60 ++ (d ++ r)).drop (60 + d.length) = r := by
    rw [← hl, List.drop_append, List.drop_of_length_le (by omega), List.nil_append, Nat.add_sub_cancel_left, List.drop_left]
  have e5 : (h60 ++ (d ++ r)).take 16 = h60.take 16 := List.take_append_of_le_length (by omega)
  have e6 : ((h60 ++ (d ++ r)).drop 60).take d.length = d := by
    rw [← hl, List.drop_left, List.take_left]
  unfold ptG
  rw [if_pos ⟨by omega, by rw [e2]; exact he⟩, e3, hs]
  simp only [Option.bind_some]
  rw [if_pos (by omega), e4, e5, e6]
  unfold bhO
  rw [if_neg (fun h => by omega)]
  rfl
theorem put_0 (s : ArS) : putG 15 s ((hT [47] [48]).take 16) [] = oS s 0 := by
  unfold putG
  rw [show idF ((hT [47] [48]).take 16) = true by kernel_rfl]
  rfl
theorem put_1 (s : ArS) : putG 15 s ((hT [47, 47] [52]).take 16) ab4 = oS s 1 := by
  unfold putG
  rw [show idF ((hT [47, 47] [52]).take 16) = false by kernel_rfl, show lgF ((hT [47, 47] [52]).take 16) = true by kernel_rfl]
  rfl
theorem nm_2 (lg : T8) : nmG 15 lg ((hT [109, 47] [48]).take 16) = some [109] := by
  have e : nmQ 15 lg ((hT [109, 47] [48]).take 16) = some [109] := by
    unfold nmQ
    rw [show hdB 47 ((hT [109, 47] [48]).take 16) = [109] by kernel_rfl, if_neg (show ¬ ([109] : T8) = [] by decide), if_pos (And.intro (show (47 : UInt8) ∈ (hT [109, 47] [48]).take 16 by decide) (show spc (tlB 47 ((hT [109, 47] [48]).take 16)) = true by kernel_rfl))]
  unfold nmG
  rw [e]
  rfl
theorem nm_3 (lg : T8) : nmG 15 lg ((hT [47, 48] [48]).take 16) = (lkO lg 0).bind okO := by
  have e : nmQ 15 lg ((hT [47, 48] [48]).take 16) = lkO lg 0 := by
    unfold nmQ
    rw [show hdB 47 ((hT [47, 48] [48]).take 16) = [] by kernel_rfl, if_pos rfl, show digO 15 (((hT [47, 48] [48]).take 16).drop 1) = some 0 by kernel_rfl]
    rfl
  unfold nmG
  rw [e]
  rfl
theorem put_2 (s : ArS) : putG 15 s ((hT [109, 47] [48]).take 16) [] = oS s 2 := by
  unfold putG
  rw [show idF ((hT [109, 47] [48]).take 16) = false by kernel_rfl, show lgF ((hT [109, 47] [48]).take 16) = false by kernel_rfl, nm_2]
  rfl
theorem put_3 (s : ArS) : putG 15 s ((hT [47, 48] [48]).take 16) [] = oS s 3 := by
  unfold putG
  rw [show idF ((hT [47, 48] [48]).take 16) = false by kernel_rfl, show lgF ((hT [47, 48] [48]).take 16) = false by kernel_rfl, nm_3]
  rfl
theorem arF_ord (s : ArS) (k : Nat) (r : T8) : arF 15 s (oB k ++ r) = (oS s k).bind (fun t => arF 15 t r) := by
  have key : ∀ (h d : T8), h.length = 60 → (h.drop 58).take 2 = [96, 10] → d.length % 2 = 0 → digO 10 ((h.drop 48).take 10) = some d.length → arF 15 s (h ++ (d ++ r)) = (putG 15 s (h.take 16) d).bind (fun t => arF 15 t r) := fun h d h1 h2 h3 h4 => by
    rw [arF_step 15 s _ (fun e => by have := congrArg List.length e; simp [h1] at this), pt_head h h1 h2 d h3 h4 r]
    rfl
  unfold oB
  by_cases k0 : k = 0
  · subst k0
    have := key (hT [47] [48]) [] (by kernel_rfl) (by kernel_rfl) rfl (by kernel_rfl)
    rw [put_0] at this
    simpa using this
  · rw [if_neg k0]
    by_cases k1 : k = 1
    · subst k1
      have := key (hT [47, 47] [52]) ab4 (by kernel_rfl) (by kernel_rfl) rfl (by kernel_rfl)
      rw [put_1] at this
      simpa [List.append_assoc] using this
    · rw [if_neg k1]
      by_cases k2 : k = 2
      · subst k2
        have := key (hT [109, 47] [48]) [] (by kernel_rfl) (by kernel_rfl) rfl (by kernel_rfl)
        rw [put_2] at this
        simpa using this
      · have e3 : oS s k = oS s 3 := by unfold oS; rw [if_neg k0, if_neg k1, if_neg k2, if_neg (by decide), if_neg (by decide), if_neg (by decide)]
        rw [if_neg k2, e3]
        have := key (hT [47, 48] [48]) [] (by kernel_rfl) (by kernel_rfl) rfl (by kernel_rfl)
        rw [put_3] at this
        simpa using this

/-- What is known of the parts so far. -/
def OrI (bs : T8) (i : Nat) (ok : Bool) (mem : Nat) (lg : Bool) : Prop :=
  mem ≤ i ∧ if ok = true then ∃ s : ArS, (∀ r, arF 15 s0 (bs ++ r) = arF 15 s r) ∧ s.ms.length = mem ∧ s.hl = lg ∧ s.bg = decide (0 < i) ∧ s.lg = (if lg = true then ab4 else []) else ∀ r, arF 15 s0 (bs ++ r) = none
theorem OrI.start : OrI [] 0 true 0 false := ⟨Nat.le_refl _, s0, fun r => rfl, rfl, rfl, rfl, rfl⟩
theorem OrI.bad {bs : T8} {i : Nat} {mem : Nat} {lg : Bool} (h : OrI bs i false mem lg) (k mem' : Nat) (lg' : Bool) (hm : mem' ≤ i + 1) : OrI (bs ++ oB k) (i + 1) false mem' lg' :=
  ⟨hm, fun r => by rw [List.append_assoc]; exact h.2 _⟩
theorem OrI.stop {bs : T8} {i : Nat} {ok : Bool} {mem : Nat} {lg : Bool} (h : OrI bs i ok mem lg) : (ok = true → ∃ s, arF 15 s0 bs = some s ∧ s.ms.length = mem) ∧ (ok = false → arF 15 s0 bs = none) := by
  refine ⟨fun e => ?_, fun e => ?_⟩
  · subst e
    obtain ⟨s, h1, h2, _⟩ := h.2
    have := h1 []
    rw [List.append_nil] at this
    exact ⟨s, this, h2⟩
  · subst e
    have := h.2 []
    rw [List.append_nil] at this
    exact this
theorem OrI.k0 {bs : T8} {i : Nat} {ok : Bool} {mem : Nat} {lg : Bool} (h : OrI bs i ok mem lg) : OrI (bs ++ oB 0) (i + 1) (ok && decide (i = 0)) mem lg := by
  cases ok with
  | false => exact h.bad 0 mem lg (by have := h.1; omega)
  | true =>
    obtain ⟨hm, s, h1, h2, h3, h4, h5⟩ := h
    have hstep : ∀ r, arF 15 s0 (bs ++ oB 0 ++ r) = (oS s 0).bind (fun t => arF 15 t r) := fun r => by rw [List.append_assoc, h1, arF_ord]
    by_cases hi : i = 0
    · subst hi
      refine ⟨by omega, ?_⟩
      rw [decide_eq_true rfl]
      have hb : s.bg = false := h4
      have e : oS s 0 = some { s with ix := [], bg := true } := by unfold oS; rw [if_pos rfl, hb]; rfl
      exact ⟨{ s with ix := [], bg := true }, fun r => by rw [hstep, e]; rfl, h2, h3, rfl, h5⟩
    · refine ⟨by omega, ?_⟩
      rw [decide_eq_false hi]
      have hb : s.bg = true := by rw [h4]; exact decide_eq_true (by omega)
      have e : oS s 0 = none := by unfold oS; rw [if_pos rfl, hb]; rfl
      exact fun r => by rw [hstep, e]; rfl
theorem OrI.k1 {bs : T8} {i : Nat} {ok : Bool} {mem : Nat} {lg : Bool} (h : OrI bs i ok mem lg) : OrI (bs ++ oB 1) (i + 1) (ok && !lg && decide (mem = 0)) mem true := by
  cases ok with
  | false => exact h.bad 1 mem true (by have := h.1; omega)
  | true =>
    obtain ⟨hm, s, h1, h2, h3, h4, h5⟩ := h
    have hstep : ∀ r, arF 15 s0 (bs ++ oB 1 ++ r) = (oS s 1).bind (fun t => arF 15 t r) := fun r => by rw [List.append_assoc, h1, arF_ord]
    refine ⟨by omega, ?_⟩
    by_cases hc : lg = false ∧ mem = 0
    · obtain ⟨rfl, rfl⟩ := hc
      have e : oS s 1 = some { s with lg := ab4, hl := true, bg := true } := by
        unfold oS
        rw [if_neg (by decide), if_pos rfl, if_neg (fun h => h.elim (fun h => by rw [h3] at h; cases h) (fun h => by omega))]
      exact ⟨{ s with lg := ab4, hl := true, bg := true }, fun r => by rw [hstep, e]; rfl, h2, rfl, (decide_eq_true (Nat.succ_pos i)).symm, rfl⟩
    · have e : oS s 1 = none := by
        unfold oS
        rw [if_neg (by decide), if_pos rfl, if_pos]
        rw [h3, h2]
        cases lg
        · exact .inr (Nat.pos_of_ne_zero (fun e => hc ⟨rfl, e⟩))
        · exact .inl rfl
      have hf : (true && !lg && decide (mem = 0)) = false := by
        cases lg
        · simp; exact fun e => hc ⟨rfl, e⟩
        · rfl
      rw [hf]
      exact fun r => by rw [hstep, e]; rfl
theorem OrI.k2 {bs : T8} {i : Nat} {ok : Bool} {mem : Nat} {lg : Bool} (h : OrI bs i ok mem lg) (hi : i < 90) : OrI (bs ++ oB 2) (i + 1) ok (mem + 1) lg := by
  cases ok with
  | false => exact h.bad 2 (mem + 1) lg (by have := h.1; omega)
  | true =>
    obtain ⟨hm, s, h1, h2, h3, h4, h5⟩ := h
    have e : oS s 2 = some { s with ms := s.ms ++ [⟨[109], []⟩], bg := true } := by unfold oS; rw [if_neg (by decide), if_neg (by decide), if_pos rfl, if_pos (by omega)]
    exact ⟨by omega, { s with ms := s.ms ++ [⟨[109], []⟩], bg := true }, fun r => by rw [List.append_assoc, h1, arF_ord, e]; rfl, by simp [h2], h3, (decide_eq_true (Nat.succ_pos i)).symm, h5⟩
theorem OrI.k3 {bs : T8} {i : Nat} {ok : Bool} {mem : Nat} {lg : Bool} (h : OrI bs i ok mem lg) (hi : i < 90) : OrI (bs ++ oB 3) (i + 1) (ok && lg) (mem + 1) lg := by
  cases ok with
  | false => exact h.bad 3 (mem + 1) lg (by have := h.1; omega)
  | true =>
    obtain ⟨hm, s, h1, h2, h3, h4, h5⟩ := h
    cases lg with
    | true =>
      have e : oS s 3 = some { s with ms := s.ms ++ [⟨[97, 98], []⟩], bg := true } := by
        unfold oS
        rw [if_neg (by decide), if_neg (by decide), if_neg (by decide), h5, if_pos rfl, show (lkO ab4 0).bind okO = some [97, 98] by kernel_rfl]
        simp only [Option.bind_some]
        rw [if_pos (by omega)]
      exact ⟨by omega, { s with ms := s.ms ++ [⟨[97, 98], []⟩], bg := true }, fun r => by rw [List.append_assoc, h1, arF_ord, e]; rfl, by simp [h2], h3, (decide_eq_true (Nat.succ_pos i)).symm, h5⟩
    | false =>
      have e : oS s 3 = none := by
        unfold oS
        rw [if_neg (by decide), if_neg (by decide), if_neg (by decide), h5, if_neg (by decide)]
        rfl
      exact ⟨by omega, fun r => by rw [List.append_assoc, h1, arF_ord, e]; rfl⟩

end Go.Proofs.YtmmcnkdefpfkiaaDoor
