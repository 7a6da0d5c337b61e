/- An archive read as the document does (a place's digits at most ten): plain facts, and what the reader has made. -/
import Derived.Test.YtmmcnkdefpfkiaaDoorArDoc
import Derived.Test.YtmmcnkdefpfkiaaDoorArBackW
namespace Go.Proofs.YtmmcnkdefpfkiaaDoor
open Go.RowKit
set_option linter.unusedVariables false
set_option maxRecDepth 100000
set_option maxRecDepth 20000
set_option linter.unusedSimpArgs false

theorem ptG_yes {r q : T8} {n : Nat} (h60 : 60 ≤ r.length) (he : (r.drop 58).take 2 = [96, 10]) (hs : digO 10 ((r.drop 48).take 10) = some n) (hn : n ≤ r.length - 60) (hb : bhO n (r.drop (60 + n)) = some q) : ptG r = some (r.take 16, (r.drop 60).take n, q) := by
  unfold ptG
  rw [if_pos ⟨h60, he⟩, hs]
  simp only [Option.bind_some]
  rw [if_pos hn, hb]
  rfl
theorem ptG_no1 {r : T8} (h : ¬ (60 ≤ r.length ∧ (r.drop 58).take 2 = [96, 10])) : ptG r = none := by unfold ptG; rw [if_neg h]
theorem ptG_no2 {r : T8} (h : digO 10 ((r.drop 48).take 10) = none) : ptG r = none := by
  unfold ptG
  split
  · rw [h]; rfl
  · rfl
theorem ptG_no3 {r : T8} {n : Nat} (hs : digO 10 ((r.drop 48).take 10) = some n) (hn : ¬ n ≤ r.length - 60) : ptG r = none := by
  unfold ptG
  split
  · rw [hs]; simp only [Option.bind_some]; rw [if_neg hn]
  · rfl
theorem ptG_no4 {r : T8} {n : Nat} (hs : digO 10 ((r.drop 48).take 10) = some n) (hb : bhO n (r.drop (60 + n)) = none) : ptG r = none := by
  unfold ptG
  split
  · rw [hs]; simp only [Option.bind_some, hb]; split <;> rfl
  · rfl
theorem arF_pt {lim : Nat} {s : ArS} {r : T8} (hr : r ≠ []) (h : ptG r = none) : arF lim s r = none := by rw [arF_step lim s r hr, h]; rfl
theorem arF_put {lim : Nat} {s : ArS} {r f d q : T8} (hr : r ≠ []) (h : ptG r = some (f, d, q)) (hp : putG lim s f d = none) : arF lim s r = none := by rw [arF_step lim s r hr, h]; simp only [Option.bind_some, hp]; rfl
theorem arF_go {lim : Nat} {s t : ArS} {r f d q : T8} (hr : r ≠ []) (h : ptG r = some (f, d, q)) (hp : putG lim s f d = some t) : arF lim s r = arF lim t q := by rw [arF_step lim s r hr, h]; simp only [Option.bind_some, hp]
theorem two_at {l : T8} {m : Nat} {c d : UInt8} (h0 : l[m]? = some c) (h1 : l[m + 1]? = some d) : (l.drop m).take 2 = [c, d] := by
  have e : l.drop m = c :: l.drop (m + 1) := by
    obtain ⟨h, rfl⟩ := List.getElem?_eq_some_iff.1 h0
    exact List.drop_eq_getElem_cons h
  have e2 : l.drop (m + 1) = d :: l.drop (m + 2) := by
    obtain ⟨h, rfl⟩ := List.getElem?_eq_some_iff.1 h1
    exact List.drop_eq_getElem_cons h
  rw [e, e2]
  rfl
theorem ext_drop (l : T8) (i : Nat) : (str l).extract i (str l).size = str (l.drop i) := by
  rw [Lib.extract_mk]
  congr 2
  rw [List.take_of_length_le (by rw [List.length_drop, str_size]; omega)]
theorem ext_take (l : T8) (i : Nat) : (str l).extract 0 i = str (l.take i) := by
  rw [Lib.extract_mk]; simp
/-! What a part's name means, by the place k of its first slash. -/
theorem hd_at {F : T8} {k : Nat} (h0 : (47 : UInt8) ∉ F.take k) (h1 : F[k]? = some 47) : hdB 47 F = F.take k ∧ tlB 47 F = F.drop (k + 1) := by
  have e : F = F.take k ++ 47 :: F.drop (k + 1) := by
    obtain ⟨h, h2⟩ := List.getElem?_eq_some_iff.1 h1
    rw [← h2, ← List.drop_eq_getElem_cons h, List.take_append_drop]
  have := hdB_app (F.drop (k + 1)) h0
  rw [← e] at this
  exact this
theorem fst_at {F : T8} {k : Nat} (h0 : (47 : UInt8) ∉ F.take k) (hk : 0 < k) : idF F = false ∧ lgF F = false := by
  cases F with
  | nil => exact ⟨rfl, rfl⟩
  | cons c r =>
    have hc : c ≠ 47 := fun e => h0 (by cases k with | zero => omega | succ k => simp [e])
    constructor
    · simp [idF, hc]
    · cases r <;> simp [lgF, hc]
theorem put_none16 {s : ArS} {F D : T8} (h16 : F.length = 16) (h0 : (47 : UInt8) ∉ F) : putG 10 s F D = none := by
  obtain ⟨h1, h2⟩ := fst_at (F := F) (k := 16) (fun h => h0 (List.mem_of_mem_take h)) (by decide)
  obtain ⟨h3, _⟩ := hdB_no h0
  unfold putG nmG nmQ
  rw [h1, h2, if_neg Bool.false_ne_true, if_neg Bool.false_ne_true, h3, if_neg (fun e => by rw [e] at h16; simp at h16), if_neg (fun h => h0 h.1)]
  rfl
theorem put_id {s : ArS} {F D : T8} (h : idF F = true) : putG 10 s F D = if s.bg = true then none else some { s with ix := D, bg := true } := by unfold putG; rw [if_pos h]
theorem put_lg {s : ArS} {F D : T8} (h : idF F = false) (h2 : lgF F = true) : putG 10 s F D = if s.hl = true ∨ 0 < s.ms.length then none else some { s with lg := D, hl := true, bg := true } := by unfold putG; rw [if_neg (by rw [h]; simp), if_pos h2]
def putN (s : ArS) (D : T8) (N : T8) : Option ArS := if okN N = true ∧ s.ms.length < 100 then some { s with ms := s.ms ++ [⟨N, D⟩], bg := true } else none
theorem put_nm {s : ArS} {F D : T8} (h : idF F = false) (h2 : lgF F = false) : putG 10 s F D = (nmQ 10 s.lg F).bind (putN s D) := by
  unfold putG nmG putN
  rw [if_neg (by rw [h]; simp), if_neg (by rw [h2]; simp)]
  cases nmQ 10 s.lg F with
  | none => rfl
  | some N =>
    simp only [Option.bind_some]
    by_cases h1 : okN N = true
    · rw [if_pos h1]
      simp only [Option.bind_some]
      by_cases h3 : s.ms.length < 100
      · rw [if_pos h3, if_pos ⟨h1, h3⟩]
      · rw [if_neg h3, if_neg (fun h => h3 h.2)]
    · rw [if_neg h1, if_neg (fun h => h1 h.1)]
      rfl
theorem put_short {s : ArS} {F D : T8} {k : Nat} (h0 : (47 : UInt8) ∉ F.take k) (h1 : F[k]? = some 47) (hk : 0 < k) : putG 10 s F D = if spc (F.drop (k + 1)) = true then putN s D (F.take k) else none := by
  obtain ⟨e1, e2⟩ := fst_at h0 hk
  obtain ⟨e3, e4⟩ := hd_at h0 h1
  have hkl : k < F.length := (List.getElem?_eq_some_iff.1 h1).1
  have hne : ¬ F.take k = [] := fun e => by
    have h9 : (F.take k).length = 0 := by rw [e]; rfl
    rw [List.length_take] at h9
    omega
  rw [put_nm e1 e2]
  unfold nmQ
  rw [e3, e4, if_neg hne]
  have hm : (47 : UInt8) ∈ F := List.mem_of_getElem? h1
  split
  · rename_i h; rw [if_pos h.2]; rfl
  · rename_i h; rw [if_neg (fun h2 => h ⟨hm, h2⟩)]; rfl
theorem put_long {s : ArS} {F D : T8} (h1 : F[0]? = some 47) (e1 : idF F = false) (e2 : lgF F = false) : putG 10 s F D = ((digO 10 (F.drop 1)).bind (lkO s.lg)).bind (putN s D) := by
  obtain ⟨e3, e4⟩ := hd_at (F := F) (k := 0) (by simp) h1
  rw [put_nm e1 e2]
  unfold nmQ
  rw [e3, if_pos (by simp)]
theorem id_at {F : T8} (h1 : F[0]? = some 47) : idF F = spc (F.drop 1) := by
  cases F with
  | nil => simp at h1
  | cons c r => simp at h1; subst h1; simp [idF]
theorem lg_at {F : T8} {c : UInt8} (h1 : F[0]? = some 47) (h2 : F[1]? = some c) : lgF F = (decide (c = 47) && spc (F.drop 2)) := by
  cases F with
  | nil => simp at h1
  | cons d r =>
    cases r with
    | nil => simp at h2
    | cons e r =>
      simp at h1 h2
      subst h1 h2
      simp [lgF]
/-! What stands ahead of a slash and a LF, place by place. -/
theorem up_yes {l : T8} {e : Nat} (h0 : l[e]? = some 47) (h1 : l[e + 1]? = some 10) : upE (l.drop e) = some [] := by
  obtain ⟨h, h2⟩ := List.getElem?_eq_some_iff.1 h0
  obtain ⟨h3, h4⟩ := List.getElem?_eq_some_iff.1 h1
  rw [List.drop_eq_getElem_cons h, List.drop_eq_getElem_cons h3, h2, h4]
  unfold upE
  rw [if_pos ⟨rfl, rfl⟩]
theorem up_no {l : T8} {e : Nat} (h : l.length ≤ e + 1) : upE (l.drop e) = none := by
  cases hd : l.drop e with
  | nil => rfl
  | cons a r =>
    cases r with
    | nil => rfl
    | cons b r => have := congrArg List.length hd; simp at this; omega
theorem up_step {l : T8} {e : Nat} {a b : UInt8} (h0 : l[e]? = some a) (h1 : l[e + 1]? = some b) (hn : ¬ (a = 47 ∧ b = 10)) : upE (l.drop e) = (upE (l.drop (e + 1))).map (a :: ·) := by
  obtain ⟨h, h2⟩ := List.getElem?_eq_some_iff.1 h0
  obtain ⟨h3, h4⟩ := List.getElem?_eq_some_iff.1 h1
  rw [List.drop_eq_getElem_cons h, List.drop_eq_getElem_cons h3, h2, h4, upE, if_neg hn]
/-- From o on, up to e none was met. -/
def UpI (l : T8) (o e : Nat) : Prop := upE (l.drop o) = (upE (l.drop e)).map ((l.drop o).take (e - o) ++ ·)
theorem UpI.zero (l : T8) (o : Nat) : UpI l o o := by
  unfold UpI
  rw [Nat.sub_self, List.take_zero]
  cases upE (l.drop o) <;> rfl
theorem UpI.next {l : T8} {o e : Nat} {a b : UInt8} (h : UpI l o e) (ho : o ≤ e) (h0 : l[e]? = some a) (h1 : l[e + 1]? = some b) (hn : ¬ (a = 47 ∧ b = 10)) : UpI l o (e + 1) := by
  unfold UpI at *
  rw [h, up_step h0 h1 hn, Option.map_map]
  congr 1
  funext x
  have e2 : (l.drop o).take (e + 1 - o) = (l.drop o).take (e - o) ++ [a] := by
    rw [show e + 1 - o = (e - o) + 1 by omega, List.take_add_one, List.getElem?_drop, show o + (e - o) = e by omega, h0]
    rfl
  simp [e2]
theorem UpI.yes {l : T8} {o e : Nat} (h : UpI l o e) (ho : o < l.length) (h0 : l[e]? = some 47) (h1 : l[e + 1]? = some 10) : lkO l o = some ((l.drop o).take (e - o)) := by
  unfold lkO
  rw [if_pos ho, h, up_yes h0 h1]
  simp
theorem UpI.no {l : T8} {o e : Nat} (h : UpI l o e) (he : l.length ≤ e + 1) : lkO l o = none := by
  unfold lkO
  rw [h, up_no he]
  split <;> rfl

/-- What the document's reader has made since w. -/
structure DR (w wr : World) (s : ArS) (vl vi vg : Value) : Prop where
  ms : OM wr w.heap.size vl s.ms
  ix : wr.ownsRow w.heap.size 5 1 vi s.ix.length (cs8 s.ix)
  lg : wr.ownsRow w.heap.size 5 1 vg s.lg.length (cs8 s.lg)
  bel : Below w.heap.size w wr
theorem DR.on {w wr wx : World} {s : ArS} {vl vi vg : Value} (h : DR w wr s vl vi vg) (hb : Below wr.heap.size wr wx) : DR w wx s vl vi vg :=
  ⟨h.ms.below hb, rowKept (B0 := w.heap.size) h.ix hb, rowKept (B0 := w.heap.size) h.lg hb, h.bel.trans (hb.mono h.bel.size)⟩

end Go.Proofs.YtmmcnkdefpfkiaaDoor
