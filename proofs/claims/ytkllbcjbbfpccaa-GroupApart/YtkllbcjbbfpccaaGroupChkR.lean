/- The contract of the document's GroupCheck: does a number stand in two groups? By four loops. -/
import Derived.Test.YtkllbcjbbfpccaaGroupChk
namespace Go.Proofs.Ytkllbcjbbfpccaa
open Go.RowKit Go.Maps
set_option linter.unusedVariables false
set_option linter.unusedSimpArgs false

/-- Cells of the groups as they lie in a later world. -/
theorem Rii.cells {w W : World} {b o n cap : Nat} {L : List (List Int)} (r : Rii w (some ⟨b, o, none⟩) n cap L) (hb : Below w.heap.size w W) (i : Nat) (m : List Int) (hm : L[i]? = some m) :
    ∃ a' c', m.length ≤ 9223372036854775807 ∧ (∀ W, Below w.heap.size w W → W.cell? ⟨b, o + i, none⟩ = some (.slice a' m.length c')) ∧ Ri w a' m.length c' m := by
  have hl := r.length
  have hi : i < L.length := (List.getElem?_eq_some_iff.1 hm).1
  obtain ⟨b', o', e, hc⟩ := r.addr (by omega)
  cases e
  obtain ⟨a', c', h1, h2⟩ := hc i m hm
  refine ⟨a', c', by have := h2.row.le; have := h2.row.max; omega, fun W hW => ?_, h2⟩
  rw [hW.cell (World.block_lt_of_cell? w _ h1)]
  exact h1
theorem Ri.cellAt {w : World} {a : Option Addr} {n cap : Nat} {m : List Int} (r : Ri w a n cap m) (j : Nat) (x : Int) (hx : m[j]? = some x) :
    ∃ b o, a = some ⟨b, o, none⟩ ∧ ∀ W, Below w.heap.size w W → W.cell? ⟨b, o + j, none⟩ = some (.int .i64 x) := by
  have hl := r.length
  have hj : j < m.length := (List.getElem?_eq_some_iff.1 hx).1
  obtain ⟨b, o, h1, h2⟩ := r.addr (by omega)
  refine ⟨b, o, h1, fun W hW => ?_⟩
  rw [hW.cell (World.block_lt_of_cell? w _ (h2 j x hx))]
  exact h2 j x hx

/-- m's first numbers are not in q's. -/
def GrD (m q : List Int) : Prop := ∀ x ∈ m, x ∉ q

set_option maxHeartbeats 6400000 in
set_option maxRecDepth 20000 in
theorem rgrcheck_any (a : Option Addr) (n cap : Nat) (L : List (List Int)) (w : World) (r : Rii w a n cap L) :
    Calls Try.prog 14 #[.slice a n cap] w fun e w' => GrC L e ∧ Below w.heap.size w w' := by
  have hl := r.length
  have hle := r.le
  have hmx := r.max
  have HR := hide r
  clear r
  go_enter Try.func14, Try.ntmps14
  go_wp2
  go_loopg [3] n (fun gg iv wr => ∃ i : Nat, i ≤ n ∧ gg = n - i ∧ iv = .int .i64 (i : Int) ∧ Hid (Below w.heap.size w wr) ∧ Hid (¬ grTwo (L.take i)))
  case atStart => exact ⟨0, by omega, rfl, rfl, Below.refl _ _, by show ¬ grTwo (L.take 0); rw [List.take_zero]; exact grTwo_nil⟩
  case round =>
    obtain ⟨i, hi, rfl, rfl, B, HN⟩ := hrel
    by_cases hlt : i < n
    · have hlt' : (i : Int) < (n : Int) := by omega
      obtain ⟨m, hm⟩ : ∃ m, L[i]? = some m := ⟨_, List.getElem?_eq_getElem (by omega)⟩
      obtain ⟨b2, o2, rfl, _⟩ := Rii.addr HR.out (by omega)
      obtain ⟨a', c', hml, hc, rm⟩ := HR.out.cells B.out i m hm
      have HC := hide hc
      have HRM := hide rm
      have HM := hide hm
      clear hc rm hm
      obtain ⟨q, hq⟩ : ∃ q, m.length = q := ⟨_, rfl⟩
      have HQ := hide hq
      rw [hq] at hml HC HRM
      clear hq
      go_upto_region 5 with fail
      go_loopg [4] i (fun gg kv wr => ∃ k : Nat, k ≤ i ∧ gg = i - k ∧ kv = .int .i64 (k : Int) ∧ Hid (Below w.heap.size w wr) ∧ Hid (∀ k' m', k' < k → L[k']? = some m' → GrD m m'))
      case atStart => exact ⟨0, by omega, rfl, rfl, B, fun k' m' hk => by omega⟩
      case round =>
        obtain ⟨k, hk, rfl, rfl, B2, H2⟩ := hrel
        clear B
        by_cases hlk : k < i
        · have hlk' : (k : Int) < (i : Int) := by omega
          have hlkn' : (k : Int) < (n : Int) := by omega
          obtain ⟨mk, hmk⟩ : ∃ m, L[k]? = some m := ⟨_, List.getElem?_eq_getElem (by omega)⟩
          obtain ⟨ak, ck, hmkl, hck, rmk⟩ := HR.out.cells B2.out k mk hmk
          have HCK := hide hck
          have HRMK := hide rmk
          have HMK := hide hmk
          clear hck rmk hmk
          obtain ⟨p, hp⟩ : ∃ p, mk.length = p := ⟨_, rfl⟩
          have HP := hide hp
          rw [hp] at hmkl HCK HRMK
          clear hp
          go_upto_region 8 with fail
          go_loopg [5] q (fun gg jv wr => ∃ j : Nat, j ≤ q ∧ gg = q - j ∧ jv = .int .i64 (j : Int) ∧ Hid (Below w.heap.size w wr) ∧ Hid (GrD (m.take j) mk))
          case atStart => exact ⟨0, by omega, rfl, rfl, B2, fun x hx => by simp at hx⟩
          case round =>
            obtain ⟨j, hj, rfl, rfl, B3, H3⟩ := hrel
            clear B2
            have d1 := HC.out _ B3.out
            by_cases hlj : j < q
            · have hlj' : (j : Int) < (q : Int) := by omega
              obtain ⟨x, hx⟩ : ∃ x, m[j]? = some x := ⟨_, List.getElem?_eq_getElem (by have := HQ.out; omega)⟩
              obtain ⟨bx, ox, rfl, hcx⟩ := HRM.out.cellAt j x hx
              have HCX := hide hcx
              have HX := hide hx
              clear hcx hx
              go_upto_region 11 with fail
              clear d1
              go_loopg [6] p (fun gg cv wr => ∃ c : Nat, c ≤ p ∧ gg = p - c ∧ cv = .int .i64 (c : Int) ∧ Hid (Below w.heap.size w wr) ∧ Hid (x ∉ mk.take c))
              case atStart => exact ⟨0, by omega, rfl, rfl, B3, by show x ∉ mk.take 0; simp⟩
              case round =>
                obtain ⟨c, hc, rfl, rfl, B4, H4⟩ := hrel
                clear B3
                have d1 := HC.out _ B4.out
                have d2 := HCK.out _ B4.out
                have d3 := HCX.out _ B4.out
                by_cases hlc : c < p
                · have hlc' : (c : Int) < (p : Int) := by omega
                  obtain ⟨y, hy⟩ : ∃ y, mk[c]? = some y := ⟨_, List.getElem?_eq_getElem (by have := HP.out; omega)⟩
                  obtain ⟨by', oy, rfl, hcy⟩ := HRMK.out.cellAt c y hy
                  have d4 := hcy _ B4.out
                  have HY := hide hy
                  have HB5 := hide (fun q => B4.out.trans ((bel_drewS wr q).mono B4.out.size))
                  clear hcy hy
                  go_upto_region 13 with fail
                  by_cases hxy : x = y
                  · subst hxy
                    have HTW : Hid (grTwo L) := ⟨i, k, x, hlk, ⟨m, HM.out, List.mem_of_getElem? HX.out⟩, ⟨mk, HMK.out, List.mem_of_getElem? HY.out⟩⟩
                    have ex : (x == x) = true := by simp
                    clear H4 H3 H2 HN
                    go_quiet (fail)
                    clear d1 d2 d3 d4
                    go_wp2
                    go_ret
                    exact ⟨.inl ⟨HTW.out, rfl⟩, HB5.out _⟩
                  · have ex : (x == y) = false := by simp [hxy]
                    have H5 : Hid (x ∉ mk.take (c + 1)) := by
                      show x ∉ mk.take (c + 1)
                      rw [List.take_add_one, HY.out]
                      have := H4.out
                      simp [this, hxy]
                    clear H4
                    go_quiet (fail)
                    clear d1 d2 d3 d4
                    go_wp2
                    go_roundg (p - (c + 1))
                    case measure => omega
                    case rel => exact ⟨c + 1, by omega, rfl, by go_num, HB5.out _, H5⟩
                · obtain rfl : c = p := by omega
                  have h4 := H4.out
                  rw [List.take_of_length_le (by have := HP.out; omega)] at h4
                  have H5 : Hid (GrD (m.take (j + 1)) mk) := fun z hz => by
                    rw [List.take_add_one, HX.out] at hz
                    rcases List.mem_append.1 hz with h5 | h5
                    · exact H3.out z h5
                    · rw [List.mem_singleton.1 h5]; exact h4
                  clear h4 H4
                  go_wp2
                  go_roundg (q - (j + 1))
                  case measure => omega
                  case rel => exact ⟨j + 1, by omega, rfl, by go_num, B4, H5⟩
            · obtain rfl : j = q := by omega
              have h3 := H3.out
              rw [List.take_of_length_le (by have := HQ.out; omega)] at h3
              have H5 : Hid (∀ k' m', k' < k + 1 → L[k']? = some m' → GrD m m') := fun k' m' hk' hm' => by
                rcases (show k' < k ∨ k' = k by omega) with h5 | h5
                · exact H2.out k' m' h5 hm'
                · subst h5
                  rw [HMK.out] at hm'
                  cases hm'
                  exact h3
              clear h3 H3
              go_wp2
              go_roundg (i - (k + 1))
              case measure => omega
              case rel => exact ⟨k + 1, by omega, rfl, by go_num, B3, H5⟩
        · obtain rfl : k = i := by omega
          have N2 : Hid (¬ grTwo (L.take (k + 1))) := fun h => by
            obtain ⟨x, hx, k', m', hk', hm', hxm⟩ := (grTwo_take L k m HM.out HN.out).1 h
            exact H2.out k' m' hk' hm' x hx hxm
          clear H2
          go_wp2
          go_roundg (n - (k + 1))
          case measure => omega
          case rel => exact ⟨k + 1, by omega, rfl, by go_num, B2, N2⟩
    · obtain rfl : i = n := by omega
      have hN := HN.out
      rw [List.take_of_length_le (by omega)] at hN
      have HN2 := hide hN
      have BF := hide B.out
      clear hN HN B
      go_wp2
      go_ret
      exact ⟨.inr ⟨HN2.out, rfl⟩, BF.out⟩

end Go.Proofs.Ytkllbcjbbfpccaa
