/- A byte put behind bytes of the call's own, and what they were before; an index plainly read back. -/
import Derived.Test.YteknmlcgdjoccaaArmKnown
import Derived.ArgAppend
namespace Go.Proofs.Yteknmlcgdjoccaa
open Go.RowKit Go.Maps
set_option linter.unusedVariables false
set_option maxRecDepth 20000
set_option linter.unusedSimpArgs false

theorem wpList_pb_keep {w W : World} {ops : Array Oper} {rest : List Oper} {o : Oper} {a : Act} {Q : Exit → Act → World → Prop} (hgd : o.guard = none) (s x : Operand)
    (ho : o.op = .call { callee := .builtin .append, args := #[s, x], argTypes := #[22, 22] }) (v : Value) (l : T8) (y : UInt8) (c : Nat) (ad : Addr) (hs : a.eval s = v) (hx : a.eval x = .slice (some ad) 1 c)
    (hP : PB w W v l) (h0 : 0 < l.length) (rd : Rt W (some ad) c [y]) (hl : l.length ≤ 10000000000)
    (h : ∀ v' w', (∃ a' c', v' = .slice a' (l.length + 1) c' ∧ Rt w' a' c' (l ++ [y])) → (∀ a0 c0, v = .slice a0 l.length c0 → Rt w' a0 c0 l) → Below w.heap.size w w' → OthT 5 W w' → wpList Try.prog ops Q rest (a.put o.dst v') w') : wpList Try.prog ops Q (o :: rest) a W := by
  obtain ⟨i0, hi, hz0, hz1, hz2⟩ := info_parts Try.info8
  have hlc := cs8_len l
  rcases hP.own.2 with ⟨_, h2⟩ | ⟨g, cap, cur, rfl, hb, hheap, hn, hm, hcs, ht⟩
  · omega
  have hcell : ∀ (j : Nat) (u : Value), (cs8 l)[j]? = some u → W.cell? ⟨g, 0 + j, none⟩ = some u := fun j u hu => by
    have := hP.own.cells (g := g) rfl j u hu
    rwa [addN] at this
  have hsz : cur.size = cap := by omega
  refine wpList_append_arg W hgd s x 22 ho 5 i0 (.int .u8 0) 1 1 Try.underlying22 hi hz0 hz1 hz2 rfl (by decide) g 0 l.length cap (cs8 l) hs (by omega) hcell ad 1 c (cs8 [y]) hx rfl (cells_of rd ad rfl) (cs8_one [y]) ?_ (by unfold maxLen; omega) (by omega) ?_ ?_
  · intro hr j hj
    have hj0 : j = 0 := by simpa [cs8, nI] using hj
    subst hj0
    have hlt : 0 + l.length * 1 + 0 < cur.size := by omega
    refine ⟨?_, ?_⟩
    · rw [cell_of_row _ _ _ _ _ (0, 0) hheap]
      simp [hlt]
      omega
    · unfold World.frozen?
      rw [hheap]
      rfl
  · intro hr
    have e0 : W.setCells g (0 + l.length * 1) (cs8 [y]) = W.setCell ⟨g, l.length, none⟩ (.int .u8 (y.toNat : Int)) := by
      rw [Nat.zero_add, Nat.mul_one]
      rfl
    rw [e0]
    have hold : ∀ (j : Nat), j < l.length → (W.setCell ⟨g, l.length, none⟩ (.int .u8 (y.toNat : Int))).cell? ⟨g, j, none⟩ = some (.int .u8 ((nI l).getD j 0)) := fun j hj => by
      rw [World.cell?_setCell_other _ _ _ _ (by intro e; simp only [Addr.mk.injEq] at e; omega)]
      have := hcell j (.int .u8 ((nI l).getD j 0)) (by simp [cs8, nI, hj])
      rwa [Nat.zero_add] at this
    have hnew : (W.setCell ⟨g, l.length, none⟩ (.int .u8 (y.toNat : Int))).cell? ⟨g, l.length, none⟩ = some (.int .u8 (y.toNat : Int)) := by
      have hlt : l.length < cur.size := by omega
      have hc0 : W.cell? ⟨g, l.length, none⟩ = some cur[l.length] := by
        rw [cell_of_row _ _ _ _ _ (0, 0) hheap]
        simp [hlt]
      exact World.cell?_setCell_same _ _ _ hc0
    refine h _ _ ⟨_, _, rfl, ⟨by rw [nI_len], ?_, by unfold maxLen at hm; omega, nI_bytes _, (fun e => by cases e), fun q hq i hi => ?_⟩⟩ (fun a0 c0 he => ?_) ?_ (OthT.set hheap _ _)
    · rw [List.length_append]; exact hr
    · cases hq
      rw [addN, Nat.zero_add]
      rw [List.length_append] at hi
      have hi' : i < l.length + 1 := hi
      by_cases hil : i < l.length
      · rw [hold i hil]
        simp [nI, List.getD, hil, List.getElem?_append_left]
      · obtain rfl : i = l.length := by omega
        rw [hnew]
        simp [nI, List.getD]
    · cases he
      refine ⟨by rw [nI_len], hn, by unfold maxLen at hm; omega, nI_bytes _, (fun e => by cases e), fun q hq i hi => ?_⟩
      cases hq
      rw [addN, Nat.zero_add]
      exact hold i hi
    · exact hP.bel.setCell (p := ⟨g, l.length, none⟩) hb _
  · intro hr v' w' hown hg
    have hB : Below W.heap.size W w' := (Below.refl _ _).grown hg (Nat.le_refl _) (fun k hk => by cases hk)
    have hown' : w'.ownsRow W.heap.size 5 1 v' (l ++ [y]).length (cs8 (l ++ [y])) := by
      rw [cs8_app, List.length_append]
      exact hown
    obtain ⟨a', c', e', r'⟩ := Rd.own hown' (nI_bytes _)
    refine h v' w' ⟨a', c', ?_, ?_⟩ (fun a0 c0 he => ?_) (hP.bel.trans (hB.mono hP.bel.size)) (OthT.below hB)
    · rw [e', List.length_append]; rfl
    · exact r'
    · obtain ⟨a1, c1, e1, r1⟩ := hP.rt
      rw [he] at e1
      cases e1
      exact Rd.below r1 hB

/-! Entries' names, read back. -/
/-- Names that may be. -/
def ixG (l : List En) : Prop := ∀ e ∈ l, (0 : UInt8) ∉ e.nm
theorem ixN_cons (e : En) (l : List En) : ixN (e :: l) = e.nm ++ (0 :: ixN l) := by simp [ixN]
theorem nmsO_ix : ∀ (l : List En) (x : T8), ixG l → nmsO l.length (ixN l ++ x) = if x = [] then some (l.map En.nm) else none
  | [], x, _ => by
    show nmsO 0 x = _
    unfold nmsO
    rfl
  | e :: l, x, hg => by
    have h0 := hg e (by simp)
    have ih := nmsO_ix l x (fun y hy => hg y (List.mem_cons_of_mem _ hy))
    have e1 : ixN (e :: l) ++ x = e.nm ++ 0 :: (ixN l ++ x) := by rw [ixN_cons]; simp
    rw [e1, List.length_cons]
    unfold nmsO
    rw [if_pos (by simp), nmO_app _ h0]
    have e2 : (e.nm ++ 0 :: (ixN l ++ x)).drop (e.nm.length + 1) = ixN l ++ x := by
      rw [List.drop_append, List.drop_of_length_le (by omega)]
      simp
    rw [e2, ih]
    split
    · simp
    · rfl
theorem nmsO_last : ∀ (l : List En), l ≠ [] → ixG l → nmsO l.length (ixN l).dropLast = none
  | [], h, _ => absurd rfl h
  | [e], _, hg => by
    have h0 := hg e (by simp)
    have e1 : (ixN [e]).dropLast = e.nm := by rw [ixN_cons]; show (e.nm ++ [0]).dropLast = e.nm; exact List.dropLast_concat
    rw [e1]
    show nmsO 1 e.nm = none
    unfold nmsO
    rw [if_neg h0]
  | e :: f :: l, _, hg => by
    have h0 := hg e (by simp)
    have ih := nmsO_last (f :: l) (by simp) (fun y hy => hg y (List.mem_cons_of_mem _ hy))
    have hne : ixN (f :: l) ≠ [] := by rw [ixN_cons]; simp
    have e1 : (ixN (e :: f :: l)).dropLast = e.nm ++ 0 :: (ixN (f :: l)).dropLast := by
      rw [ixN_cons, List.dropLast_append_of_ne_nil (by simp), List.dropLast_cons_of_ne_nil hne]
    rw [e1, List.length_cons]
    unfold nmsO
    rw [if_pos (by simp), nmO_app _ h0]
    have e2 : (e.nm ++ 0 :: (ixN (f :: l)).dropLast).drop (e.nm.length + 1) = (ixN (f :: l)).dropLast := by
      rw [List.drop_append, List.drop_of_length_le (by omega)]
      simp
    rw [e2, ih]
    rfl
theorem be4_nb (n : Nat) (h : n < 4294967296) (r : T8) : nb4 (be4 n ++ r) = n := by
  have h1 := by8_nat ((n : Int) / 16777216)
  have h2 := by8_nat ((n : Int) / 65536)
  have h3 := by8_nat ((n : Int) / 256)
  have h4 := by8_nat (n : Int)
  show (by8 ((n : Int) / 16777216)).toNat * 16777216 + (by8 ((n : Int) / 65536)).toNat * 65536 + (by8 ((n : Int) / 256)).toNat * 256 + (by8 (n : Int)).toNat = n
  omega
theorem nbO_ix (l : List En) (r : T8) : nbO l.length (ixM l ++ r) = nmsO l.length r := by
  have h := ixM_len l
  unfold nbO
  rw [if_pos (by rw [List.length_append]; omega), List.drop_append, List.drop_of_length_le (by omega), h]
  simp [Nat.mul_comm]
theorem ixO_any (l : List En) (hl : l.length ≤ 2000) (r : T8) (count : Int) : ixO (be4 l.length ++ (ixM l ++ r)) count = if 0 < l.length ∧ count < 1 then none else nmsO l.length r := by
  have hb := be4_nb l.length (by omega) (ixM l ++ r)
  have hlen : (be4 l.length ++ (ixM l ++ r)).length = 4 + (ixM l ++ r).length := by rw [List.length_append, be4_len]
  unfold ixO
  rw [if_neg (fun e => by have := congrArg List.length e; rw [hlen] at this; simp at this), if_neg (by omega), hb]
  have e4 : (be4 (l.length : Int) ++ (ixM l ++ r)).drop 4 = ixM l ++ r := rfl
  rw [e4, nbO_ix]
  by_cases hc : 0 < l.length ∧ count < 1
  · rw [if_pos (.inr hc), if_pos hc]
  · rw [if_neg (fun h => h.elim (fun h => by omega) hc), if_neg hc]
theorem ix_yes (l : List En) (hl : l.length ≤ 2000) (hg : ixG l) (count : Int) : ixO (ixB l) count = if 0 < l.length ∧ count < 1 then none else some (l.map En.nm) := by
  have := ixO_any l hl (ixN l) count
  have h2 := nmsO_ix l [] hg
  rw [List.append_nil, if_pos rfl] at h2
  unfold ixB
  rw [this, h2]
theorem ix_more (l : List En) (hl : l.length ≤ 2000) (hg : ixG l) (count : Int) : ixO (ixB l ++ [0]) count = none := by
  have := ixO_any l hl (ixN l ++ [0]) count
  have h2 := nmsO_ix l [0] hg
  rw [if_neg (by simp)] at h2
  have e : ixB l ++ [0] = be4 l.length ++ (ixM l ++ (ixN l ++ [0])) := by unfold ixB; simp
  rw [e, this, h2]
  split <;> rfl
theorem ix_less (l : List En) (hl : l.length ≤ 2000) (hg : ixG l) (count : Int) : ixO (ixB l).dropLast count = none := by
  by_cases h0 : l = []
  · subst h0
    have e : (ixB []).dropLast = [0, 0, 0] := by decide
    rw [e]
    unfold ixO
    rw [if_neg (by simp), if_pos (by decide)]
  · have hne : ixN l ≠ [] := by
      cases l with
      | nil => exact absurd rfl h0
      | cons e l => rw [ixN_cons]; simp
    have e : (ixB l).dropLast = be4 l.length ++ (ixM l ++ (ixN l).dropLast) := by
      unfold ixB
      rw [List.dropLast_append_of_ne_nil (by simp [hne]), List.dropLast_append_of_ne_nil hne]
    rw [e, ixO_any l hl, nmsO_last l h0 hg]
    split <;> rfl

end Go.Proofs.Yteknmlcgdjoccaa
