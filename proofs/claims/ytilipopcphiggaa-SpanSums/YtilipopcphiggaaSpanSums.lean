/- The statement SpanSums holds: for any list of numbers and any place the law returns true, and its arguments read afterwards as before. No condition. -/
import Derived.Test.YtilipopcphiggaaRows
import Derived.WalkKit
import Derived.ProofKit
import Derived.OpenShut
import Derived.ShutString
import Derived.ChangeOld
import Derived.Below
import Derived.Test.YtilipopcphiggaaSpanSum
namespace Go.Proofs.Ytilipopcphiggaa.spanSums
open Go.ChangeShapes Go.WideShapes Go.ChangeAt Go.RowKit
open Go.ChangeMaps (open_string shut_string)
set_option linter.unusedVariables false

theorem own : ownKnob Try.prog.godebug = none := by kernel_rfl
theorem laidOut : laidOutB Try.prog = true := by kernel_rfl

/-! ### STEP 1: THE WALK: the Go text returns true, AND WRITES NOTHING THAT WAS THERE: 'Below w.heap.size w w'' (Derived/Below.lean: '.refl', '.alloc', '.drew', '.setCell' at a new block, '.trans'). Open each 'IsRow' by 'rcases' AHEAD of 'go_enter'; part every test ahead of the walk. -/
set_option maxHeartbeats 3200000 in
set_option linter.unusedSimpArgs false in
theorem walk (a0 : Option Addr) (len0 cap0 : Nat) (z0 : List Int) (a1 : Int) (w : World) (w0 : IsRow .u64 w a0 len0 cap0 z0) (w1 : (Lit.int .u8 a1).wf = true) :
    Calls Try.prog 7 #[.slice a0 len0 cap0, .int .u8 a1] w fun e w' => e = .returned (.bool true) ∧ Below w.heap.size w w' := by
  obtain ⟨q0, q1⟩ := bounds_u8 w1
  have r := w0.rn (top := 18446744073709551615) (by decide) (fun n hn => bounds_u64 hn)
  generalize z0.take len0 = xs at r
  clear w0 w1
  have hle := r.le
  have hmx := r.max
  by_cases h5 : 12 < len0
  · go_enter Try.func7, Try.ntmps7
    go_wp2_with fail
    refine (known_any _).mono ?_
    rintro e w1 ⟨rfl, hb⟩
    go_wp2
    go_ret
    exact ⟨rfl, hb⟩
  · obtain ⟨i0, hi, hz0, hz1, hz2⟩ := info_parts Try.info64
    have R0 := hide r
    have hnn : Hid (∀ x ∈ xs, 0 ≤ x) := fun x hx => (r.fit x hx).1
    have hxl := r.length
    clear r
    go_enter Try.func7, Try.ntmps7
    go_wp2_with fail
    refine (known_any _).mono ?_
    rintro e w1 ⟨rfl, hb⟩
    have R1 := hide (R0.out.below hb)
    have B1 := hide hb
    clear hb R0
    go_wp2_with fail
    refine (add_any _ _ _ xs _ R1.out).mono ?_
    rintro e W ⟨rfl, hW⟩
    rw [hW]
    clear hW W
    go_wp2
    go_loopw [7, 8] (fun u i wr => ∃ k : Nat, k ≤ len0 ∧ i = .int .i64 ((k : Int) - 1) ∧ wr.ownsRow w1.heap.size 22 1 u (len0 - k) ((xs.drop k).reverse.map (Value.int .u64)) ∧ Below w1.heap.size w1 wr) (fun _ i _ => (intOf i + 1).toNat)
    case atStart => exact ⟨len0, Nat.le_refl _, rfl, by rw [List.drop_eq_nil_of_le (by omega)]; exact ⟨by simp, .inl ⟨rfl, by omega⟩⟩, Below.refl _ _⟩
    case round =>
      obtain ⟨k, hk, rfl, hown, hbel⟩ := hrel
      by_cases hlt : k = 0
      · subst hlt
        have e0 : ((0 : Nat) : Int) - 1 = -1 := rfl
        rw [e0]
        rw [List.drop_zero, Nat.sub_zero] at hown
        obtain ⟨ab, cb, rfl, RB⟩ := Rn.own (k := .u64) (top := 18446744073709551615) hown (by intro x hx; exact R1.out.fit x (by simpa using hx)) (by decide)
        have R2 := hide (R1.out.below hbel)
        have B2 : Hid (Below w.heap.size w wr) := B1.out.trans (hbel.mono B1.out.size)
        have cb := hide (add_any _ _ _ xs.reverse _ RB)
        rw [sumOf_reverse, sumOk_reverse] at cb
        have sb := sumOf_bd hnn.out
        clear hown hbel e0 RB R1 B1
        by_cases hl0 : len0 = 0
        · subst hl0
          have em : a1 % ((0 : Nat) + 1 : Int) = 0 := by omega
          obtain rfl : xs = [] := List.eq_nil_of_length_eq_zero hxl
          have e1 : sumOf [] = 0 := rfl
          have e2 : sumOk [] = true := rfl
          have e3 : sumOf [0, 0] = 0 := rfl
          have e4 : sumOk [0, 0] = true := rfl
          have c0 := fun (W : World) (x : Option Addr) (c : Nat) (hc : c ≤ 9223372036854775807) (h : x = none → c = 0) => add_any x 0 c [] W (Rn.empty .u64 (by decide) W x c hc h)
          have cc := fun W : World => add_any _ 2 2 [0, 0] _ (Rn.lit .u64 18446744073709551615 22 W [0, 0] (by intro y hy; simp at hy; omega) (by decide) (by simp))
          rw [e1, e2] at c0 cb
          rw [e3, e4] at cc
          rw [e1, e2]
          clear e1 e2 e3 e4
          have c0 := hide c0
          have cc := hide cc
          have hn := R2.out.nil
          cases a0 with
          | none =>
            have hc0 := hn rfl
            subst hc0
            go_wp2_with fail
            refine (cb.out).mono ?_
            rintro e W ⟨rfl, hW⟩
            rw [hW]
            clear hW W
            go_wp2_with fail
            refine (c0.out _ _ _ (by omega) (fun _ => rfl)).mono ?_
            rintro e W ⟨rfl, hW⟩
            rw [hW]
            clear hW W
            go_wp2_with fail
            refine (c0.out _ _ _ (by omega) (fun _ => rfl)).mono ?_
            rintro e W ⟨rfl, hW⟩
            rw [hW]
            clear hW W
            go_wp2_with fail
            refine (cc.out _).mono ?_
            rintro e W ⟨rfl, hW⟩
            have B3 : Hid (Below w.heap.size w W) := by rw [hW]; exact B2.out.alloc B2.out.size _
            clear hW
            go_wp2
            go_ret
            exact ⟨rfl, B3.out⟩
          | some x =>
            clear hn
            go_wp2_with fail
            refine (cb.out).mono ?_
            rintro e W ⟨rfl, hW⟩
            rw [hW]
            clear hW W
            go_wp2_with fail
            refine (c0.out _ _ _ (by omega) (fun h => by cases h)).mono ?_
            rintro e W ⟨rfl, hW⟩
            rw [hW]
            clear hW W
            go_wp2_with fail
            refine (c0.out _ _ _ (by omega) (fun h => by cases h)).mono ?_
            rintro e W ⟨rfl, hW⟩
            rw [hW]
            clear hW W
            go_wp2_with fail
            refine (cc.out _).mono ?_
            rintro e W ⟨rfl, hW⟩
            have B3 : Hid (Below w.heap.size w W) := by rw [hW]; exact B2.out.alloc B2.out.size _
            clear hW
            go_wp2
            go_ret
            exact ⟨rfl, B3.out⟩
        · obtain ⟨b, o, rfl, hc⟩ := R2.out.addr (by omega)
          obtain ⟨j, hj⟩ := Int.eq_ofNat_of_zero_le (Int.emod_nonneg a1 (show ((len0 : Int) + 1) ≠ 0 by omega))
          have hj1 := Int.emod_lt_of_pos a1 (show 0 < (len0 : Int) + 1 by omega)
          rw [hj] at hj1
          have ca := hide (add_any _ _ _ _ _ (R2.out.head j (by omega)))
          have H := hide (sum_parts xs hnn.out j)
          have sa := sumOf_bd (l := xs.take j) fun x hx => hnn.out x (List.mem_of_mem_take hx)
          have sd := sumOf_bd (l := xs.drop j) fun x hx => hnn.out x (List.mem_of_mem_drop hx)
          have cc := hide (fun W : World => add_any _ 2 2 [sumOf (xs.take j), sumOf (xs.drop j)] _ (Rn.lit .u64 18446744073709551615 22 W [sumOf (xs.take j), sumOf (xs.drop j)] (by intro y hy; simp only [List.mem_cons, List.not_mem_nil, or_false] at hy; omega) (by decide) (by simp)))
          clear hc
          by_cases hcj : cap0 = j
          · have hd : Hid (xs.drop j = []) := List.drop_eq_nil_of_le (by omega)
            have ct := hide (fun (W : World) (x : Option Addr) (h : x ≠ none) => add_any x 0 0 [] W (Rn.empty .u64 (by decide) W x 0 (by decide) (fun h' => absurd h' h)))
            rw [← hd.out] at ct
            subst hcj
            go_wp2_with fail
            refine (cb.out).mono ?_
            rintro e W ⟨rfl, hW⟩
            rw [hW]
            clear hW W
            go_wp2_with fail
            refine (ca.out).mono ?_
            rintro e W ⟨rfl, hW⟩
            rw [hW]
            clear hW W
            go_wp2_with fail
            refine (ct.out _ _ (by simp)).mono ?_
            rintro e W ⟨rfl, hW⟩
            rw [hW]
            clear hW W
            go_wp2_with fail
            refine (cc.out _).mono ?_
            rintro e W ⟨rfl, hW⟩
            have B3 : Hid (Below w.heap.size w W) := by rw [hW]; exact B2.out.alloc B2.out.size _
            clear hW
            obtain ⟨H1, H2⟩ := H.out
            have sc := sumOf_bd (l := [sumOf (xs.take cap0), sumOf (xs.drop cap0)]) (by intro y hy; simp only [List.mem_cons, List.not_mem_nil, or_false] at hy; omega)
            clear H ca cb cc ct hd hnn R2 B2
            generalize sumOk [sumOf (xs.take cap0), sumOf (xs.drop cap0)] = zo at *
            generalize sumOf [sumOf (xs.take cap0), sumOf (xs.drop cap0)] = zv at *
            generalize sumOk (xs.take cap0) = xo at *
            generalize sumOk (xs.drop cap0) = yo at *
            generalize sumOf (xs.take cap0) = xv at *
            generalize sumOf (xs.drop cap0) = yv at *
            generalize sumOk xs = so at *
            generalize sumOf xs = sv at *
            cases xo <;> cases yo <;> cases zo <;> simp only [Bool.and_true, Bool.and_false, Bool.true_and, Bool.false_and] at H1 <;> subst H1
            all_goals first | (obtain rfl := H2 rfl) | clear H2
            all_goals go_wp2
            all_goals go_ret
            all_goals exact ⟨ret_bool (by simp), B3.out⟩
          · have ct := hide (add_any _ _ _ _ _ (R2.out.tail j (by omega)))
            go_wp2_with fail
            refine cb.out.mono ?_
            rintro e W ⟨rfl, hW⟩
            rw [hW]
            clear hW W
            go_wp2_with fail
            refine ca.out.mono ?_
            rintro e W ⟨rfl, hW⟩
            rw [hW]
            clear hW W
            go_wp2_with fail
            refine ct.out.mono ?_
            rintro e W ⟨rfl, hW⟩
            rw [hW]
            clear hW W
            go_wp2_with fail
            refine (cc.out _).mono ?_
            rintro e W ⟨rfl, hW⟩
            have B3 : Hid (Below w.heap.size w W) := by rw [hW]; exact B2.out.alloc B2.out.size _
            clear hW
            obtain ⟨H1, H2⟩ := H.out
            have sc := sumOf_bd (l := [sumOf (xs.take j), sumOf (xs.drop j)]) (by intro y hy; simp only [List.mem_cons, List.not_mem_nil, or_false] at hy; omega)
            clear H ca cb cc ct hnn R2 B2
            generalize sumOk [sumOf (xs.take j), sumOf (xs.drop j)] = zo at *
            generalize sumOf [sumOf (xs.take j), sumOf (xs.drop j)] = zv at *
            generalize sumOk (xs.take j) = xo at *
            generalize sumOk (xs.drop j) = yo at *
            generalize sumOf (xs.take j) = xv at *
            generalize sumOf (xs.drop j) = yv at *
            generalize sumOk xs = so at *
            generalize sumOf xs = sv at *
            cases xo <;> cases yo <;> cases zo <;> simp only [Bool.and_true, Bool.and_false, Bool.true_and, Bool.false_and] at H1 <;> subst H1
            all_goals first | (obtain rfl := H2 rfl) | clear H2
            all_goals go_wp2
            all_goals go_ret
            all_goals exact ⟨ret_bool (by simp), B3.out⟩
      · obtain ⟨j, rfl⟩ : ∃ j, k = j + 1 := ⟨k - 1, by omega⟩
        have ej : ((j + 1 : Nat) : Int) - 1 = j := by omega
        rw [ej]
        clear ej hlt
        have RR := R1.out.below hbel
        obtain ⟨b, o, rfl, hc⟩ := RR.addr (by omega)
        obtain ⟨y, hy⟩ : ∃ y, y = xs[j]?.getD 0 := ⟨_, rfl⟩
        have hcell : wr.cell? ⟨b, o + j, none⟩ = some (.int .u64 y) := by rw [hc j (by omega), hy]; simp
        have hxb := RR.at j
        rw [← hy] at hxb
        have HD : Hid ((xs.drop j).reverse = (xs.drop (j + 1)).reverse ++ [y]) := by rw [hy]; exact drop_reverse_succ xs j (by omega)
        have hsz := hbel.size
        have HO2 := hide hown
        have HB2 := hide hbel
        have HLT := hide hown.lt
        clear hown hbel hc RR hy
        go_wp2_with (at_builtin; refine wpList_append_own _ rfl _ _ 23 rfl w1.heap.size 22 i0 (.int .u64 0) 1 8 Try.underlying23 hi hz0 hz1 hz2 rfl (by decide) _ _ _ rfl (HO2.out.alloc _) ⟨wr.heap.size, 0, none⟩ 1 1 [.int .u64 y] rfl rfl ?c1 ?c2 ?c3 ?c4 ?c5 ?_)
        case c1 =>
          intro i u hj
          match i, hj with
          | 0, hj => simp at hj; subst hj; simp [Addr.add]
        case c2 => intro u hu; simp at hu; subst hu; rfl
        case c3 => unfold maxLen; omega
        case c4 => omega
        case c5 => simp; omega
        · intro v' w2 hown' hgrow _
          have R : w2.ownsRow w1.heap.size 22 1 v' (len0 - j) ((xs.drop j).reverse.map (Value.int .u64)) := by
            have e : len0 - (j + 1) + 1 = len0 - j := by omega
            rw [HD.out, ← e]; simpa using hown'
          have B : Below w1.heap.size w1 w2 := (HB2.out.alloc (by omega) _).grown hgrow (by simp; omega) (fun j hj => (HLT.out j hj).1)
          have HR := hide R
          have HBB := hide B
          clear hown' hgrow HO2 HB2 HLT R B
          go_wp2
          go_roundw
          case rel => exact ⟨j, by omega, by go_num, HR.out, HBB.out⟩
          case measure => simp [intOf]

/-! ### THE ROW's STEP: WRITTEN OUT: LEAVE IT -/
set_option maxRecDepth 100000 in
theorem lifted (os : Os) (started : os.Started) (H : Type) (enc : TypeId × Value → H) :
    ReturnsInHanded {} Try.checked os 7 .any (Rows.spanSumsSpec.pre6 enc Try.prog Try.f7 Rows.spanSumsRow.domain false) (Rows.spanSumsSpec.post enc Try.prog Try.f7 false true false false) := by
  refine returnsInHanded_of_change (C := Try.checked) own started (by kernel_rfl) Try.func7
    (ChangeSpec.witness6 (enc := enc) (C := Try.checked) false ⟨#[], #[.slice none 0 0, .int .u8 0], []⟩ 8 (by kernel_rfl) (by kernel_rfl) (by kernel_rfl) (by kernel_rfl)) ?_
  intro W base args ds gs before hval0 hW hcnd _
  have hval : ∀ (j : Nat) t v, Try.f7.params[j]? = some t → args[j]? = some v → Value.okWide Try.prog W .any base t v := hval0
  have hW' := hW
  obtain ⟨p, q, hA0, hV, rfl, hfz, hnd⟩ := hW
  have hA : DataW.TrodAll enc Try.prog W 0 (fun _ => true) true Try.f7.params.toList args.toList ds p := hA0
  rw [Try.params7] at hA hval
  obtain ⟨v0, vs0, d0, ds0, p0, q0, hargs, rfl, rfl, h0, r0⟩ := trodAll_cons hA
  obtain ⟨v1, vs1, d1, ds1, p1, q1, rfl, rfl, rfl, h1, r1⟩ := trodAll_cons r0
  obtain ⟨rfl, rfl, rfl⟩ := trodAll_nil r1
  obtain rfl : args = #[v0, v1] := by cases args; simp_all
  obtain ⟨rfl, rfl⟩ := trodVars_none hV
  obtain ⟨a0, len0, cap0, rfl⟩ := okWide_slice Try.underlying23 (hval 0 23 v0 rfl rfl)
  have k0 := h0
  have lt0 : ∀ x ∈ p0, x.block < W.heap.size := by obtain ⟨m, hm⟩ := k0; exact DataW.trod_lt m _ _ _ hm
  obtain ⟨z0, w0⟩ : ∃ zs, IsRow .u64 W a0 len0 cap0 zs := by
    obtain ⟨fuel, hf⟩ := h0
    rcases open_ints Try.underlying23 Try.underlying22 (by kernel_rfl) hf with ⟨hcs, _⟩ | ⟨x, l, c, zs, hcs, _, hl, hm, hz, _, hcell, hwz⟩
    · simp [Value.cells] at hcs
      obtain ⟨rfl, rfl, rfl⟩ := hcs
      exact ⟨[], .inl ⟨rfl, rfl, rfl, rfl⟩⟩
    · simp [Value.cells] at hcs
      obtain ⟨rfl, rfl, rfl⟩ := hcs
      exact ⟨zs, .inr ⟨_, rfl, hl, hm, by simpa using hz, hcell, hwz⟩⟩
  obtain ⟨a1, rfl, rfl, rfl, w1⟩ := open_int Try.underlying5 (hval 1 5 v1 rfl rfl) h1
  clear hA0 hval0
  refine (walk a0 len0 cap0 z0 a1 W w0 w1).mono fun e W' ⟨he, bel⟩ => ?_
  subst he
  exact ⟨_, rfl, _, _, _, [], _, [], hW', trodAll_mk1 (shut_bool Try.underlying4 _), (trodAll_cons_mk (Below.trod laidOut (by kernel_rfl) (of_decide_eq_true (by kernel_rfl)) k0 bel lt0) (trodAll_cons_mk (shut_int Try.underlying5 w1) trodAll_mk0)), rfl, bel.frame _, fun h => by cases h⟩

theorem over : Rows.spanSumsRow.holds Try.pinned (OpenSpec.ofChange Rows.spanSumsSpec) :=
  OpenClaim.holds_of_wide 7 Try.f7 rfl rfl rfl rfl rfl rfl rfl ⟨rfl, rfl, rfl, rfl, rfl⟩ rfl rfl rfl rfl rfl (by kernel_rfl) Try.func7 (by kernel_rfl)
    (of_decide_eq_true (by kernel_rfl)) (by unfold Func.isWrapper; first | (rw [if_pos (by decide +kernel)]; kernel_rfl) | (rw [if_neg (by decide +kernel)]; exact ⟨rfl, rfl⟩))
    (fun os started H enc _ => lifted os started H enc)

/-- ████ THE STATEMENT ████ -/
theorem proved : Rows.SpanSumsSaid := over
#print axioms proved
end Go.Proofs.Ytilipopcphiggaa.spanSums
namespace Go.Proofs.Ytilipopcphiggaa
theorem spanSums_holds : Rows.SpanSumsSaid := spanSums.proved
end Go.Proofs.Ytilipopcphiggaa
