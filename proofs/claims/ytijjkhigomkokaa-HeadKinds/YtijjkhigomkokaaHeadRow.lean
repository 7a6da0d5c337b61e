/- Bytes of a text, with other bytes appended: a row whose cells are told, whether it was made anew or had room. -/
import Derived.Test.YtijjkhigomkokaaHeadSpoiltW
import Derived.ArgAppend
import Derived.Laws.IdiomCopy
namespace Go.Proofs.Ytijjkhigomkokaa
open Go.RowKit
set_option linter.unusedVariables false
set_option linter.unusedSimpArgs false

structure CR (w : World) (B g cap n : Nat) (bs : List Int) : Prop where
  lo : B ≤ g
  length : bs.length = n
  le : n ≤ cap
  max : cap ≤ 9223372036854775807
  bytes : Bytes bs
  cell : ∀ i, i < n → w.cell? ⟨g, i, none⟩ = some (.int .u8 (bs.getD i 0))
  free : ∀ i, i < n → w.frozen? ⟨g, i, none⟩ = false

theorem add_lit0 (g j : Nat) : (⟨g, 0, none⟩ : Addr).add j = ⟨g, j, none⟩ := by unfold Addr.add; split <;> simp_all

theorem CR.rd {w : World} {B g cap n : Nat} {bs : List Int} (h : CR w B g cap n bs) : Rd w (some ⟨g, 0, none⟩) n cap bs :=
  ⟨h.length, h.le, h.max, h.bytes, (fun h => by cases h), fun x hx i hi => by cases hx; rw [add_lit0]; exact h.cell i hi⟩

theorem CR.below {w w' : World} {B g cap n : Nat} {bs : List Int} (h : CR w B g cap n bs) (hb : Below w.heap.size w w') : CR w' B g cap n bs := by
  refine ⟨h.lo, h.length, h.le, h.max, h.bytes, fun i hi => ?_, fun i hi => ?_⟩
  · rw [hb.cell (World.block_lt_of_cell? w _ (h.cell i hi))]; exact h.cell i hi
  · have hlt := World.block_lt_of_cell? w _ (h.cell i hi)
    rw [World.frozen?_of_block (hb.block g hlt)]; exact h.free i hi

theorem CR.own {w : World} {B n : Nat} {v : Value} {bs : List Int} (h : w.ownsRow B 5 1 v n (bs.map (Value.int .u8))) (hb : Bytes bs) (hn : 0 < n) : ∃ g cap, v = .slice (some ⟨g, 0, none⟩) n cap ∧ CR w B g cap n bs := by
  have hl : bs.length = n := by simpa using h.1
  obtain ⟨a, cap, hv, hr⟩ := Rd.own h hb
  rcases h.2 with ⟨_, h3⟩ | ⟨g, c, cur, h3, h4, _⟩
  · omega
  · subst h3
    cases hv
    refine ⟨g, _, rfl, h4, hl, hr.le, hr.max, hb, fun i hi => ?_, fun i hi => ?_⟩
    · have := hr.cell _ rfl i hi
      rwa [add_lit0] at this
    · exact h.frozenAt i

theorem CR.set {w : World} {B g cap n : Nat} {bs : List Int} (h : CR w B g cap n bs) (p : Nat) (q : Int) (hp : p < n) (hq : 0 ≤ q ∧ q ≤ 255) : CR (w.setCell ⟨g, p, none⟩ (.int .u8 q)) B g cap n (bs.set p q) := by
  have hl := h.length
  refine ⟨h.lo, by simp [hl], h.le, h.max, fun z hz => ?_, fun i hi => ?_, fun i hi => ?_⟩
  · rcases List.mem_or_eq_of_mem_set hz with h1 | h1
    · exact h.bytes z h1
    · rw [h1]; exact hq
  · by_cases hip : i = p
    · subst hip
      have e : (w.setCells g i [.int .u8 q]).cell? ⟨g, i + 0, none⟩ = some (.int .u8 q) := World.cell?_setCells_in g [.int .u8 q] i w (fun j hj => by
        have : j = 0 := by simpa using hj
        subst this
        rw [Nat.add_zero, h.cell i hi]; rfl) 0 (by simp)
      rw [Nat.add_zero] at e
      have e2 : (bs.set i q).getD i 0 = q := by simp [hl, hi]
      rw [e2]
      exact e
    · have e : (w.setCells g p [.int .u8 q]).cell? ⟨g, i, none⟩ = w.cell? ⟨g, i, none⟩ := World.cell?_setCells_out g [.int .u8 q] p w ⟨g, i, none⟩ (fun _ _ => by simp; omega)
      have e2 : (bs.set p q).getD i 0 = bs.getD i 0 := by simp [List.getElem?_set_ne (Ne.symm hip)]
      rw [e2, ← h.cell i hi]
      exact e
  · have e : (w.setCells g p [.int .u8 q]).frozen? ⟨g, i, none⟩ = w.frozen? ⟨g, i, none⟩ := World.frozen?_setCells g _ _ _ _
    rw [← h.free i hi]
    exact e

theorem below_cells {B b : Nat} {a : World} (hb : B ≤ b) : ∀ (vs : List Value) (o : Nat) (w : World), Below B a w → Below B a (w.setCells b o vs)
  | [], _, _, h => h
  | v :: r, o, w, h => below_cells hb r (o + 1) _ (h.setCell hb v)

theorem wpList_append_mark (w : World) {ops : Array Oper} {rest : List Oper} {o : Oper} {a : Act} {Q : Exit → Act → World → Prop} (hgd : o.guard = none) (s x : Operand)
    (ho : o.op = .call { callee := .builtin .append, args := #[s, x], argTypes := #[22, 22] })
    (i : TypeInfo) (hi : Try.prog.info? 5 = some i) (hz : i.zero = some (.int .u8 0)) (hsize : i.size = 1) (hby : i.bytes = 1)
    (B g n cap : Nat) (cur : Array Value) (L : List Int) (hs : a.eval s = .slice (some ⟨g, 0, none⟩) n cap) (hg : w.heap[g]? = some (.cells cur 5 (cap, cap + 1))) (hcur : cur.size = cap) (htake : cur.toList.take n = L.map (Value.int .u8))
    (hL : L.length = n) (hLb : Bytes L) (hn0 : n ≤ cap) (hn1 : n ≤ 1000) (hpos : 0 < n) (hcm : cap ≤ 9223372036854775807) (hB : B ≤ g)
    (a1 : Option Addr) (l1 c1 : Nat) (bs : List Int) (hx : a.eval x = .slice a1 l1 c1) (r : Rd w a1 l1 c1 bs) (hl : l1 ≤ 1000)
    (h : ∀ g' cap' w', CR w' B g' cap' (n + l1) (L ++ bs) → Below B w w' → wpList Try.prog ops Q rest (a.put o.dst (.slice (some ⟨g', 0, none⟩) (n + l1) cap')) w') : wpList Try.prog ops Q (o :: rest) a w := by
  have hgl : g < w.heap.size := by
    rcases Nat.lt_or_ge g w.heap.size with h5 | h5
    · exact h5
    · rw [Array.getElem?_eq_none h5] at hg; cases hg
  have hcel : ∀ j, j < cap → (w.cell? ⟨g, j, none⟩).isSome = true ∧ w.frozen? ⟨g, j, none⟩ = false := by
    intro j hj
    refine ⟨?_, ?_⟩
    · rw [cell_of_row _ _ j _ _ (cap, cap + 1) hg]
      simp [show j < cur.size by omega]
    · simp [World.frozen?, hg]
      omega
  have hold : ∀ j, j < n → w.cell? ⟨g, j, none⟩ = some (.int .u8 (L.getD j 0)) := by
    intro j hj
    rw [cell_of_row _ _ j _ _ (cap, cap + 1) hg]
    have h1 : (cur.toList.take n)[j]? = (L.map (Value.int .u8))[j]? := by rw [htake]
    rw [List.getElem?_take, if_pos hj] at h1
    rw [← Array.getElem?_toList, h1]
    simp [show j < L.length by omega]
  have hbl := r.length
  by_cases h0 : l1 = 0
  · subst h0
    obtain rfl : bs = [] := List.eq_nil_of_length_eq_zero hbl
    have hrun : (Builtin.append_ #[22, 22] o.type #[.slice (some ⟨g, 0, none⟩) n cap, .slice a1 0 c1]).run Try.prog w = .ok (.slice (some ⟨g, 0, none⟩) n cap) w := by
      cases a1 <;> simp [Builtin.append_, run_underlying Try.underlying22, sizeOf, typeInfo, hi, Builtin.lenOf, Builtin.firstCells, loadCells, loadCellsFrom, hsize, hn0, storeCells]
    refine wpList_plain hgd fun K hK => ?_
    unfold Oper.wp execOp
    simp only [ho, resolve, invoke, builtin, Sem.run_bind, Sem.run_pure, Result.andThen_ok, List.map_toArray, List.map_cons, List.map_nil, hs, hx, hrun]
    refine hK _ _ (h g cap w ⟨hB, by simpa using hL, hn0, hcm, by simpa using hLb, fun j hj => ?_, fun j hj => (hcel j (by omega)).2⟩ (Below.refl _ _))
    simpa using hold j hj
  · obtain ⟨b1, o1, rfl, hc1⟩ := r.addr (by omega)
    refine wpList_append_arg w hgd s x 22 ho 5 i (.int .u8 0) 1 1 Try.underlying22 hi hz hsize hby rfl (by decide) g 0 n cap (L.map (Value.int .u8)) hs (by simp [hL]) ?c1 ⟨b1, o1, none⟩ l1 c1 (bs.map (Value.int .u8)) hx (by simp [hbl]) (r.cells _ rfl) (ints_oneCell _ _) ?c2 (by unfold maxLen; omega) (by omega) ?c3 ?c4
    case c1 =>
      intro j u hj
      have hjl : j < n := by
        rcases Nat.lt_or_ge j n with h5 | h5
        · exact h5
        · rw [List.getElem?_eq_none (by simp [hL]; exact h5)] at hj; cases hj
      rw [Nat.zero_add, hold j hjl]
      simp [show j < L.length by omega] at hj
      subst hj
      simp [show j < L.length by omega]
    case c2 =>
      intro hroom j hj
      have := hcel (n + j) (by simp [hbl] at hj; omega)
      simpa using this
    case c3 =>
      intro hroom
      refine h g cap _ ⟨hB, by simp [hL, hbl], hroom, hcm, hLb.append r.bytes, fun j hj => ?_, fun j hj => ?_⟩ (below_cells hB _ _ _ (Below.refl _ _))
      · by_cases hjn : j < n
        · rw [World.cell?_setCells_out g _ _ w ⟨g, j, none⟩ (fun _ _ => by simp; omega), hold j hjn]
          simp [hL, hjn, List.getElem?_append_left]
        · obtain ⟨k, rfl⟩ : ∃ k, j = n + k := ⟨j - n, by omega⟩
          have e := World.cell?_setCells_in g (bs.map (Value.int .u8)) (0 + n * 1) w (fun k hk => by
            have := hcel (n + k) (by simp [hbl] at hk; omega)
            simpa using this.1) k (by simp [hbl]; omega)
          rw [show 0 + n * 1 + k = n + k by omega] at e
          rw [e]
          simp [← hL, List.getElem?_append_right, show k < bs.length by omega]
      · rw [World.frozen?_setCells]
        exact (hcel j (by omega)).2
    case c4 =>
      intro hfull v' w' hown hgrow
      rw [← List.map_append] at hown
      obtain ⟨g', cap', rfl, hcr⟩ := CR.own (ownsRow_mono hown (B := B) (by omega)) (hLb.append r.bytes) (by omega)
      exact h g' cap' w' hcr ((Below.refl _ _).grown hgrow (by omega) (by intro k hk; cases hk))

end Go.Proofs.Ytijjkhigomkokaa
