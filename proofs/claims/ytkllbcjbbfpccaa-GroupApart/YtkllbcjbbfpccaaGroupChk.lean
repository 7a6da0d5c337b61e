/- The contract of group.Check: does a number stand in two groups? By a map. -/
import Derived.Test.YtkllbcjbbfpccaaGroupOne
import Derived.Test.YtkllbcjbbfpccaaIntMap
import Derived.Deep.LoopGhost
namespace Go.Proofs.Ytkllbcjbbfpccaa
open Go.RowKit Go.Maps
set_option linter.unusedVariables false
set_option linter.unusedSimpArgs false

/-- What is told of groups. -/
def GrC (L : List (List Int)) (e : Ending) : Prop := (grTwo L ∧ e = .returned (.int .i64 34)) ∨ (¬ grTwo L ∧ e = .returned (.int .i64 0))

theorem zeroInt (w : World) : (zeroValue 3).run Try.prog w = .ok (.int .i64 0) w := by kernel_rfl

/-- The map behind i groups and the numbers m of the next one. -/
structure GrP (w wr : World) (b : Nat) (L : List (List Int)) (i : Nat) (m : List Int) : Prop where
  map : ∃ N f, N ≤ 1000 * i + m.length ∧ MapI wr b N f ∧
    (∀ x, f x = none → x ∉ m ∧ ∀ k m', k < i → L[k]? = some m' → x ∉ m') ∧
    (∀ x v, f x = some v → (v = .int .i64 (i : Int) ∧ x ∈ m) ∨ ∃ (k : Nat) (m' : List Int), k < i ∧ v = .int .i64 (k : Int) ∧ L[k]? = some m' ∧ x ∈ m')
  bel : Below w.heap.size w wr
  gb : w.heap.size ≤ b
/-- None of m's numbers stands in an earlier group. -/
def GrI (L : List (List Int)) (i : Nat) (m : List Int) : Prop := ∀ x ∈ m, ∀ k m', k < i → L[k]? = some m' → x ∉ m'

theorem GrP.next {w wr : World} {b : Nat} {L : List (List Int)} {i : Nat} {m : List Int} (h : GrP w wr b L i m) (hm : L[i]? = some m) (hl : m.length ≤ 1000) : GrP w wr b L (i + 1) [] := by
  obtain ⟨N, f, h1, h2, h3, h4⟩ := h.map
  refine ⟨⟨N, f, by simp; omega, h2, fun x hx => ⟨by simp, fun k m' hk hm' => ?_⟩, fun x v hv => .inr ?_⟩, h.bel, h.gb⟩
  · rcases (show k < i ∨ k = i by omega) with h5 | h5
    · exact (h3 x hx).2 k m' h5 hm'
    · subst h5
      rw [hm] at hm'
      cases hm'
      exact (h3 x hx).1
  · rcases h4 x v hv with ⟨h5, h6⟩ | ⟨k, m', h5, h6, h7, h8⟩
    · exact ⟨i, m, by omega, h5, hm, h6⟩
    · exact ⟨k, m', by omega, h6, h7, h8⟩

/-- The number x is looked up, and put down. -/
theorem GrP.step {w wr : World} {b : Nat} {L : List (List Int)} {i : Nat} {m : List Int} (h : GrP w wr b L i m) (hI : GrI L i m) (hi : i ≤ 1000) (hm : m.length ≤ 1000) (x : Int) (hx : inI x) :
    (∃ k : Nat, k ≤ 1000 ∧ k ≠ i ∧ (∃ m', k < i ∧ L[k]? = some m' ∧ x ∈ m') ∧ Sem.run Try.prog (Instr.lookup 52 (.map (some b)) (.int .i64 x) true) wr = .ok (.tuple #[.int .i64 (k : Int), .bool true]) wr) ∨
    (GrI L i (m ++ [x]) ∧ ∃ V, Sem.run Try.prog (Instr.mapUpdate 52 (.map (some b)) (.int .i64 x) (.int .i64 (i : Int))) wr = .ok () V ∧ GrP w V b L i (m ++ [x]) ∧
      (Sem.run Try.prog (Instr.lookup 52 (.map (some b)) (.int .i64 x) true) wr = .ok (.tuple #[.int .i64 (i : Int), .bool true]) wr ∨
       Sem.run Try.prog (Instr.lookup 52 (.map (some b)) (.int .i64 x) true) wr = .ok (.tuple #[.int .i64 0, .bool false]) wr)) := by
  obtain ⟨N, f, h1, h2, h3, h4⟩ := h.map
  have hlk := h2.lookOk (t := 52) (e := 3) Try.underlying52 (zeroInt wr) x hx
  obtain ⟨V, hst, hmV, hgV, hzV⟩ := h2.store (t := 52) (e := 3) Try.underlying52 (by unfold maxLen; omega) x hx (.int .i64 (i : Int))
  have hP : GrP w V b L i (m ++ [x]) := by
    refine ⟨⟨_, _, ?_, hmV, fun y hy => ?_, fun y v hv => ?_⟩, h.bel.grown hgV h.bel.size (fun j hj => by cases hj; exact h.gb), h.gb⟩
    · rw [List.length_append]
      simp only [List.length_cons, List.length_nil]
      split <;> omega
    · unfold updI at hy
      split at hy
      · cases hy
      · rename_i hne
        have := h3 y hy
        exact ⟨by simp [this.1, hne], this.2⟩
    · unfold updI at hv
      split at hv
      · rename_i he
        cases hv
        exact .inl ⟨rfl, by simp [he]⟩
      · rcases h4 y v hv with ⟨h5, h6⟩ | h5
        · exact .inl ⟨h5, by simp [h6]⟩
        · exact .inr h5
  have hII : (∀ k m', k < i → L[k]? = some m' → x ∉ m') → GrI L i (m ++ [x]) := fun hq y hy => by
    rcases List.mem_append.1 hy with h5 | h5
    · exact hI y h5
    · rw [List.mem_singleton.1 h5]
      exact hq
  cases hf : f x with
  | none =>
    rw [hf] at hlk
    exact .inr ⟨hII (h3 x hf).2, V, hst, hP, .inr hlk⟩
  | some v =>
    rw [hf] at hlk
    rcases h4 x v hf with ⟨h5, h6⟩ | ⟨k, m', h5, h6, h7, h8⟩
    · subst h5
      exact .inr ⟨hII (hI x h6), V, hst, hP, .inl hlk⟩
    · subst h6
      exact .inl ⟨k, by omega, by omega, ⟨m', h5, h7, h8⟩, hlk⟩

set_option maxHeartbeats 6400000 in
set_option maxRecDepth 20000 in
theorem grcheck_any (a : Option Addr) (n cap : Nat) (L : List (List Int)) (w : World) (r : Rii w a n cap L) (hn : n ≤ 1000) (hL : ∀ m ∈ L, m.length ≤ 1000) :
    Calls Try.prog 13 #[.slice a n cap] w fun e w' => GrC L e ∧ Below w.heap.size w w' := by
  have hmm := @run_makeMap Try.prog
  have hl := r.length
  have hle := r.le
  have hmx := r.max
  have HR := hide r
  have HLL := hide hL
  have M0 : Hid (GrP w (w.alloc (.map #[] 0)) w.heap.size L 0 []) := ⟨⟨0, _, by omega, MapI.made w, fun x _ => ⟨by simp, fun k m' hk => by omega⟩, fun x v hv => by cases hv⟩, (Below.refl _ _).alloc (Nat.le_refl _) _, Nat.le_refl _⟩
  clear r hL
  go_enter Try.func13, Try.ntmps13
  go_upto_region 3 with fail
  clear hmm
  obtain ⟨b, hb⟩ : ∃ b, w.heap.size = b := ⟨_, rfl⟩
  have M1 : Hid (GrP w (w.alloc (.map #[] 0)) b L 0 []) := by rw [← hb]; exact M0
  obtain ⟨W0, hW0⟩ : ∃ W0, w.alloc (.map #[] 0) = W0 := ⟨_, rfl⟩
  rw [hW0] at M1 ⊢
  rw [hb]
  clear hW0 M0 hb
  go_wp2
  go_loopg [13] n (fun gg iv wr => ∃ i : Nat, i ≤ n ∧ gg = n - i ∧ iv = .int .i64 (i : Int) ∧ Hid (GrP w wr b L i []) ∧ Hid (¬ grTwo (L.take i)))
  case atStart => exact ⟨0, by omega, rfl, rfl, M1, by show ¬ grTwo (L.take 0); rw [List.take_zero]; exact grTwo_nil⟩
  case round =>
    obtain ⟨i, hi, rfl, rfl, S, HN⟩ := hrel
    clear M1
    by_cases hlt : i < n
    · have hlt' : (i : Int) < (n : Int) := by omega
      obtain ⟨m, hm⟩ : ∃ m, L[i]? = some m := ⟨_, List.getElem?_eq_getElem (by omega)⟩
      obtain ⟨b2, o2, rfl, hc⟩ := Rii.addr HR.out (by omega)
      obtain ⟨a', c', hc1, rm⟩ := hc i m hm
      have HC1 := hide hc1
      have HRM := hide rm
      have hml := HLL.out m (List.mem_of_getElem? hm)
      have hrl := rm.row.le
      have hrx := rm.row.max
      have c1 : wr.cell? ⟨b2, o2 + i, none⟩ = some (.slice a' m.length c') := by
        rw [S.out.bel.cell (World.block_lt_of_cell? w _ hc1)]
        exact hc1
      have HM := hide hm
      clear hc hc1 rm hm
      go_upto_region 6 with fail
      clear c1
      obtain ⟨q, hq⟩ : ∃ q, m.length = q := ⟨_, rfl⟩
      have HQ := hide hq
      rw [hq] at hml hrl ⊢
      clear hq
      have S0 : Hid (GrP w wr b L i (m.take 0)) := S
      go_loopg [20] q (fun gg jv wi => ∃ j : Nat, j ≤ q ∧ gg = q - j ∧ jv = .int .i64 (j : Int) ∧ Hid (GrP w wi b L i (m.take j)) ∧ Hid (GrI L i (m.take j)))
      case atStart => exact ⟨0, by omega, rfl, rfl, S0, fun x hx => by simp at hx⟩
      case round =>
        obtain ⟨j, hj, rfl, rfl, T, HI⟩ := hrel
        clear S0 S
        by_cases hlj : j < q
        · have hlj' : (j : Int) < (q : Int) := by omega
          obtain ⟨x, hx⟩ : ∃ x, m[j]? = some x := ⟨_, List.getElem?_eq_getElem (by have := HQ.out; omega)⟩
          obtain ⟨b3, o3, rfl, hc⟩ := (HRM.out.below T.out.bel).addr (by have := HQ.out; omega)
          have c3 := hc j x hx
          have hxf := HRM.out.fit x (List.mem_of_getElem? hx)
          have et : m.take j ++ [x] = m.take (j + 1) := by rw [List.take_add_one, hx]; rfl
          have st := T.out.step HI.out (by omega) (by rw [List.length_take]; omega) x hxf
          rw [et] at st
          have HXM := hide (List.mem_of_getElem? hx)
          clear hc hx et
          rcases st with ⟨k, hk, hki, hk2, hlk⟩ | ⟨hI2, V, hst, hP2, hlk⟩
          · have HTW : Hid (grTwo L) := by
              obtain ⟨m', h5, h6, h7⟩ := hk2
              exact ⟨i, k, x, h5, ⟨m, HM.out, HXM.out⟩, ⟨m', h6, h7⟩⟩
            have BF := hide T.out.bel
            have hki' : ((k : Int) != (i : Int)) = true := by simp; omega
            clear hk2 T HI HXM
            go_wp2
            go_ret
            exact ⟨.inl ⟨HTW.out, rfl⟩, BF.out⟩
          · have P2 := hide hP2
            have I2 := hide hI2
            clear hP2 hI2 T HI HXM
            rcases hlk with hlk | hlk
            · go_wp2
              go_roundg (q - (j + 1))
              case measure => omega
              case rel => exact ⟨j + 1, by omega, rfl, by go_num, P2, I2⟩
            · go_wp2
              go_roundg (q - (j + 1))
              case measure => omega
              case rel => exact ⟨j + 1, by omega, rfl, by go_num, P2, I2⟩
        · obtain rfl : j = q := by omega
          have T2 := T.out
          have I2 := HI.out
          have hq := HQ.out
          rw [List.take_of_length_le (by omega)] at T2 I2
          have N2 : Hid (¬ grTwo (L.take (i + 1))) := fun h => by
            obtain ⟨x, hx, k, m', hk, hm', hxm⟩ := (grTwo_take L i m HM.out HN.out).1 h
            exact I2 x hx k m' hk hm' hxm
          have S2 := hide (T2.next HM.out (by omega))
          clear T2 I2 T HI hq
          go_wp2
          go_roundg (n - (i + 1))
          case measure => omega
          case rel => exact ⟨i + 1, by omega, rfl, by go_num, S2, N2⟩
    · obtain rfl : i = n := by omega
      have hN := HN.out
      rw [List.take_of_length_le (by omega)] at hN
      have HN2 := hide hN
      have BF := hide S.out.bel
      clear hN HN S
      go_wp2
      go_ret
      exact ⟨.inr ⟨HN2.out, rfl⟩, BF.out⟩

end Go.Proofs.Ytkllbcjbbfpccaa
