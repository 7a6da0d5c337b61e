/- strings.ContainsAny at the three bytes that a name may not have, whatever the name's bytes are. -/
import Derived.Test.YtmmcnkdefpfkiaaDoorArName
import Derived.Laws.Runes
import Derived.Laws.RangeAny
import Derived.Laws.RangeString
import Derived.Lib.DecodeN
import Derived.Lib.IndexAny
import Derived.Deep.LoopGhost
import Derived.WalkMore
import Derived.Lib.OthersKept
namespace Go.Proofs.YtmmcnkdefpfkiaaDoor
open Go.RowKit
set_option linter.unusedVariables false
set_option maxRecDepth 100000
set_option maxRecDepth 20000
set_option linter.unusedSimpArgs false

abbrev bad3 : ByteArray := ⟨#[0, 47, 10]⟩
theorem bad3_contains (c : UInt8) : bad3.data.toList.contains c = badC c := by
  show [0, 47, 10].contains c = _
  simp [badC, Bool.or_assoc]
theorem any_index (n : T8) : decide (0 ≤ Lib.indexAny n bad3.data.toList) = n.any badC := by
  induction n with
  | nil => rfl
  | cons b l ih =>
    have hg := Lib.indexAny_ge bad3.data.toList l
    unfold Lib.indexAny
    rw [bad3_contains, List.any_cons, ← ih]
    cases badC b
    · simp only [Bool.false_eq_true, if_false, Bool.false_or]
      by_cases h : Lib.indexAny l bad3.data.toList = -1
      · rw [h]; rfl
      · have h1 : (Lib.indexAny l bad3.data.toList == -1) = false := by simpa using h
        rw [h1]
        simp only [Bool.false_eq_true, if_false]
        rw [decide_eq_true (show (0 : Int) ≤ Lib.indexAny l bad3.data.toList + 1 by omega), decide_eq_true (show (0 : Int) ≤ Lib.indexAny l bad3.data.toList by omega)]
    · rfl

theorem bel_iter (w : World) (s : ByteArray) (p : Nat) : Below w.heap.size w (w.iter s p) := (Below.refl _ _).alloc (Nat.le_refl _) _

theorem bel_at {w wx : World} (h : Below w.heap.size w wx) (s : ByteArray) (p : Nat) : Below w.heap.size w (wx.iterAt w.heap.size s p) :=
  ⟨h.os, h.tape, h.output, by show _ ≤ (wx.heap.setIfInBounds _ _).size; rw [Array.size_setIfInBounds]; exact h.size, fun i hi => by
    show (wx.heap.setIfInBounds w.heap.size _)[i]? = _
    rw [Array.getElem?_setIfInBounds_ne (by omega)]
    exact h.block i hi⟩

theorem valid_any (r : Int) (w : World) (h : (0 ≤ r ∧ r < 55296) ∨ (57343 < r ∧ r ≤ 1114111)) : Calls Tryd.prog 75 #[.int .i32 r] w fun e w' => e = .returned (.bool true) ∧ w' = w := by
  rcases h with ⟨h0, h1⟩ | ⟨h0, h1⟩
  · go_enter Tryd.func75, Tryd.ntmps75
    go_wp2
    go_ret
    exact ⟨rfl, rfl⟩
  · have h2 : ¬ r < 55296 := by omega
    have h3 : 0 ≤ r := by omega
    go_enter Tryd.func75, Tryd.ntmps75
    go_wp2
    go_ret
    exact ⟨rfl, rfl⟩

theorem rune_err (w : World) : Calls Tryd.prog 59 #[.string bad3, .int .i32 65533] w fun e w' => e = .returned (.int .i64 (-1)) ∧ Below w.heap.size w w' := by
  go_enter Tryd.func59, Tryd.ntmps59
  go_wp2_with fail
  go_loopg [5, 6] 3 (fun g _ _ wx => ∃ i : Nat, i + g = 3 ∧ wx = w.iter bad3 i)
  case atStart => exact ⟨0, rfl, rfl⟩
  case round =>
    obtain ⟨i, hig, rfl⟩ := hrel
    cases gk with
    | zero =>
      obtain rfl : i = 3 := by omega
      have hnx := fun ty => run_next_end (P := Tryd.prog) w bad3 3 ty (by decide)
      go_wp2
      go_ret
      exact ⟨rfl, bel_iter _ _ _⟩
    | succ g =>
      rcases (show i = 0 ∨ i = 1 ∨ i = 2 by omega) with rfl | rfl | rfl
      · have hnx := fun ty => run_next_ascii (P := Tryd.prog) w bad3 0 ty (by decide) (by decide)
        have e : (bad3[0]'(by decide)).toNat = 0 := by decide
        rw [e] at hnx
        go_wp2
        go_roundg g
        case measure => omega
        case rel => exact ⟨1, by omega, rfl⟩
      · have hnx := fun ty => run_next_ascii (P := Tryd.prog) w bad3 1 ty (by decide) (by decide)
        have e : (bad3[1]'(by decide)).toNat = 47 := by decide
        rw [e] at hnx
        go_wp2
        go_roundg g
        case measure => omega
        case rel => exact ⟨2, by omega, rfl⟩
      · have hnx := fun ty => run_next_ascii (P := Tryd.prog) w bad3 2 ty (by decide) (by decide)
        have e : (bad3[2]'(by decide)).toNat = 10 := by decide
        rw [e] at hnx
        go_wp2
        go_roundg g
        case measure => omega
        case rel => exact ⟨3, by omega, rfl⟩

theorem idx_hi (k : Nat) (c : UInt8) (hc : 128 ≤ c.toNat) : Lib.indexByte (bad3.extract k 3).data.toList c = -1 := by
  have h : ∀ l : T8, (∀ b ∈ l, b.toNat < 128) → Lib.indexByte l c = -1 := fun l => by
    induction l with
    | nil => intro _; rfl
    | cons b l ih =>
      intro h
      have hb : (b == c) = false := by
        rw [beq_eq_false_iff_ne]
        rintro rfl
        have := h b (by simp)
        omega
      unfold Lib.indexByte
      rw [hb, ih (fun x hx => h x (List.mem_cons_of_mem _ hx))]
      rfl
  refine h _ (fun b hb => ?_)
  have hm := mem_extract hb
  have : ∀ b ∈ ([0, 47, 10] : T8), b.toNat < 128 := by decide
  exact this b hm

theorem enc_cases (r : Int) (hv : Utf8.valid r = true) (h128 : 128 ≤ r) : (∃ a b : UInt8, Utf8.encode r = ⟨#[a, b]⟩ ∧ 128 ≤ b.toNat) ∨ (∃ a b c : UInt8, Utf8.encode r = ⟨#[a, b, c]⟩ ∧ 128 ≤ c.toNat) ∨ (∃ a b c d : UInt8, Utf8.encode r = ⟨#[a, b, c, d]⟩) := by
  have hc : ¬ r.toNat < 128 := by omega
  unfold Utf8.encode
  simp only [hv, if_true, hc, if_false]
  split
  · refine .inl ⟨_, _, rfl, ?_⟩
    simp; omega
  · split
    · refine .inr (.inl ⟨_, _, _, rfl, ?_⟩)
      simp; omega
    · exact .inr (.inr ⟨_, _, _, _, rfl⟩)

theorem u8_ne (k : Nat) (hk : k < 128) (c : UInt8) (hc : 128 ≤ c.toNat) : ((k : Int) == (c.toNat : Int)) = false := by
  rw [beq_eq_false_iff_ne]
  omega

set_option maxHeartbeats 4000000 in
theorem rune_no (r : Int) (w : World) (h128 : 128 ≤ r) (hv : (0 ≤ r ∧ r < 55296) ∨ (57343 < r ∧ r ≤ 1114111)) (hne : r ≠ 65533) : Calls Tryd.prog 59 #[.string bad3, .int .i32 r] w fun e w' => e = .returned (.int .i64 (-1)) ∧ Below w.heap.size w w' := by
  have hvalid : Utf8.valid r = true := by rw [validRune_eq]; unfold validRune; exact decide_eq_true hv
  have hcase := enc_cases r hvalid h128
  have HV := hide (valid_any r w hv)
  have h1 : ¬ r < 128 := by omega
  have h2 : (r == 65533) = false := by simpa using hne
  have h0 : 0 ≤ r := by omega
  have hcs : Sem.run Tryd.prog (convert 21 9 (.int .i32 r)) w = .ok (.string (Utf8.encode r)) w := run_convert_int_string w _ _ _ _ (by kernel_rfl) Tryd.underlying9
  clear hv hvalid
  rcases hcase with ⟨a, b, hE, hb⟩ | ⟨a, b, c, hE, hc⟩ | ⟨a, b, c, d, hE⟩
  · rw [hE] at hcs
    have hq : ((((bad3[1]'(by decide)).toNat : Nat) : Int) != (((⟨#[a, b]⟩ : ByteArray)[1]'(by show 1 < 2; omega)).toNat : Int)) = true := by
      have h3 := u8_ne 47 (by decide) b hb
      show (((47 : Nat) : Int) != (b.toNat : Int)) = true
      simp only [bne, h3]; rfl
    have HI := hide (fun u : World => Tryd.strings_IndexByte (bad3.extract 2 3) (b.toNat : Int) u)
    have hii := idx_hi 2 b hb
    have hback : (b.toNat : Int).toNat.toUInt8 = b := by simp
    rw [hback, hii] at HI
    have HJ : Hid (∀ u : World, Calls Tryd.prog 74 #[.string (bad3.extract 2 3), .int .u8 (((⟨#[a, b]⟩ : ByteArray)[1]'(by show 1 < 2; omega)).toNat : Int)] u fun e w' => e = .returned (.int .i64 (-1)) ∧ w' = u) := HI.out
    have hw2x : IntKind.i64.wrap 2 = 2 := by decide
    have hw3 : IntKind.i64.wrap 3 = 3 := by decide
    clear hE hii hback
    go_enter Tryd.func59, Tryd.ntmps59
    go_wp2_with fail
    refine HV.out.mono ?_
    rintro e w' ⟨rfl, rfl⟩
    go_wp2_with fail
    go_step3
    go_wp2_with fail
    go_loopg [9] 0 (fun g i9 wx => i9 = .int .i64 1 ∧ wx = w')
    case atStart => exact ⟨rfl, rfl⟩
    case round =>
      obtain ⟨rfl, rfl⟩ := hrel
      go_wp2_with fail
      go_step3
      go_wp2_with fail
      go_quiet (fail)
      go_wp2_with fail
      go_quiet (first
        | (go_at_call 74; exact (HJ.out _).mono (fun _ _ h => ⟨h.1, _, h.2⟩)))
      go_wp2_with fail
      simp only [Exit.noGoto_ret, Exit.inBlock, Exit.then]
      go_ret
      exact ⟨rfl, bel_drewN _ _⟩
  · rw [hE] at hcs
    have hq : ((((bad3[2]'(by decide)).toNat : Nat) : Int) != (((⟨#[a, b, c]⟩ : ByteArray)[2]'(by show 2 < 3; omega)).toNat : Int)) = true := by
      have h3 := u8_ne 10 (by decide) c hc
      show (((10 : Nat) : Int) != (c.toNat : Int)) = true
      simp only [bne, h3]; rfl
    have HI := hide (fun u : World => Tryd.strings_IndexByte (bad3.extract 3 3) (c.toNat : Int) u)
    have hii := idx_hi 3 c hc
    have hback : (c.toNat : Int).toNat.toUInt8 = c := by simp
    rw [hback, hii] at HI
    have HJ : Hid (∀ u : World, Calls Tryd.prog 74 #[.string (bad3.extract 3 3), .int .u8 (((⟨#[a, b, c]⟩ : ByteArray)[2]'(by show 2 < 3; omega)).toNat : Int)] u fun e w' => e = .returned (.int .i64 (-1)) ∧ w' = u) := HI.out
    have hw2x : IntKind.i64.wrap 2 = 2 := by decide
    have hw3 : IntKind.i64.wrap 3 = 3 := by decide
    clear hE hii hback
    go_enter Tryd.func59, Tryd.ntmps59
    go_wp2_with fail
    refine HV.out.mono ?_
    rintro e w' ⟨rfl, rfl⟩
    go_wp2_with fail
    go_step3
    go_wp2_with fail
    go_loopg [9] 0 (fun g i9 wx => i9 = .int .i64 2 ∧ wx = w')
    case atStart => exact ⟨rfl, rfl⟩
    case round =>
      obtain ⟨rfl, rfl⟩ := hrel
      go_wp2_with fail
      go_step3
      go_wp2_with fail
      go_quiet (fail)
      go_wp2_with fail
      go_quiet (first
        | (go_at_call 74; exact (HJ.out _).mono (fun _ _ h => ⟨h.1, _, h.2⟩)))
      go_wp2_with fail
      simp only [Exit.noGoto_ret, Exit.inBlock, Exit.then]
      go_ret
      exact ⟨rfl, bel_drewN _ _⟩
  · rw [hE] at hcs
    clear hE
    go_enter Tryd.func59, Tryd.ntmps59
    go_wp2_with fail
    refine HV.out.mono ?_
    rintro e w' ⟨rfl, rfl⟩
    go_wp2_with fail
    go_step3
    go_wp2_with fail
    go_loopg [9] 0 (fun g i9 wx => i9 = .int .i64 3 ∧ wx = w')
    case atStart => exact ⟨rfl, rfl⟩
    case round =>
      obtain ⟨rfl, rfl⟩ := hrel
      go_wp2_with fail
      rw [Exit.noGoto_ret]
      go_ret
      exact ⟨rfl, Below.refl _ _⟩

theorem rune_hi (r : Int) (w : World) (h128 : 128 ≤ r) (hv : (0 ≤ r ∧ r < 55296) ∨ (57343 < r ∧ r ≤ 1114111)) : Calls Tryd.prog 59 #[.string bad3, .int .i32 r] w fun e w' => e = .returned (.int .i64 (-1)) ∧ Below w.heap.size w w' := by
  by_cases h : r = 65533
  · subst h; exact rune_err w
  · exact rune_no r w h128 hv h

/-! What is decoded where a byte is no ASCII byte. -/
theorem dec_hi (n : T8) (i : Nat) (x : UInt8) (hx : n[i]? = some x) (h128 : 128 ≤ x.toNat) :
    128 ≤ (Utf8.decode (str n) i).1 ∧ 1 ≤ (Utf8.decode (str n) i).2 ∧ i + (Utf8.decode (str n) i).2 ≤ n.length ∧ (∀ j b, i ≤ j → j < i + (Utf8.decode (str n) i).2 → n[j]? = some b → 128 ≤ b.toNat) ∧
    ((0 ≤ ((Utf8.decode (str n) i).1 : Int) ∧ ((Utf8.decode (str n) i).1 : Int) < 55296) ∨ (57343 < ((Utf8.decode (str n) i).1 : Int) ∧ ((Utf8.decode (str n) i).1 : Int) ≤ 1114111)) := by
  have hi : i < n.length := (List.getElem?_eq_some_iff.1 hx).1
  have hsz := str_size n
  have hget : ∀ j, j < n.length → n[j]? = some ((str n).get! j) := fun j hj => by
    rw [List.getElem?_eq_getElem hj]
    have : (str n).get! j = n[j] := by simp [ByteArray.get!, hj]
    rw [this]
  have h0 : (str n).get! i = x := by
    have := hget i hi
    rw [hx] at this
    exact (Option.some.inj this).symm
  have hd := Lib.decode_at (str n) i
  rw [hsz, h0] at hd
  have hb : ∀ k, ((str n).get! k).toNat < 256 := fun k => ((str n).get! k).toNat_lt
  have b1 := hb (i + 1)
  have b2 := hb (i + 2)
  have b3 := hb (i + 3)
  have b0 : x.toNat < 256 := x.toNat_lt
  have key : 128 ≤ (Utf8.decode (str n) i).1 ∧ 1 ≤ (Utf8.decode (str n) i).2 ∧ (Utf8.decode (str n) i).2 ≤ n.length - i ∧ (2 ≤ (Utf8.decode (str n) i).2 → 128 ≤ ((str n).get! (i + 1)).toNat) ∧ (3 ≤ (Utf8.decode (str n) i).2 → 128 ≤ ((str n).get! (i + 2)).toNat) ∧ (4 ≤ (Utf8.decode (str n) i).2 → 128 ≤ ((str n).get! (i + 3)).toNat) ∧ (Utf8.decode (str n) i).2 ≤ 4 ∧ ((Utf8.decode (str n) i).1 < 55296 ∨ (57343 < (Utf8.decode (str n) i).1 ∧ (Utf8.decode (str n) i).1 ≤ 1114111)) := by
    rw [hd]
    generalize ((str n).get! (i + 1)).toNat = y1 at *
    generalize ((str n).get! (i + 2)).toNat = y2 at *
    generalize ((str n).get! (i + 3)).toNat = y3 at *
    have hN : 1 ≤ n.length - i := by omega
    generalize n.length - i = N at *
    generalize x.toNat = y0 at *
    clear hd
    unfold Lib.decodeN
    repeat' split
    all_goals (simp only; omega)
  obtain ⟨k1, k2, k3, k4, k5, k6, k7, k8⟩ := key
  refine ⟨k1, k2, by omega, fun j b hj1 hj2 hjb => ?_, ?_⟩
  · have hj : j < n.length := (List.getElem?_eq_some_iff.1 hjb).1
    have hg := hget j hj
    rw [hjb] at hg
    obtain rfl := Option.some.inj hg
    rcases (show j = i ∨ j = i + 1 ∨ j = i + 2 ∨ j = i + 3 by omega) with rfl | rfl | rfl | rfl
    · rw [h0]; exact h128
    · exact k4 (by omega)
    · exact k5 (by omega)
    · exact k6 (by omega)
  · rcases k8 with h | ⟨h, h'⟩
    · exact .inl ⟨by omega, by omega⟩
    · exact .inr ⟨by omega, by omega⟩

/-- None so far. -/
def NoB (n : T8) (i : Nat) : Prop := ∀ j b, j < i → n[j]? = some b → badC b = false
theorem NoB.all {n : T8} (h : NoB n n.length) : n.any badC = false := by
  rw [List.any_eq_false]
  intro b hb
  obtain ⟨j, hj, rfl⟩ := List.getElem_of_mem hb
  have := h j _ hj (List.getElem?_eq_getElem hj)
  simp [this]
theorem badC_hi {b : UInt8} (h : 128 ≤ b.toNat) : badC b = false := by
  unfold badC
  simp
  refine ⟨⟨?_, ?_⟩, ?_⟩ <;> (rintro rfl; simp at h)

set_option maxHeartbeats 8000000 in
theorem index_short (n : T8) (w : World) (h8 : n.length ≤ 8) : Calls Tryd.prog 44 #[.string (str n), .string bad3] w fun e w' => (∃ v, e = .returned (.int .i64 v) ∧ decide (0 ≤ v) = n.any badC) ∧ Below w.heap.size w w' := by
  have hsz := str_size n
  have h8z : decide ((8 : Int) < (n.length : Int)) = false := decide_eq_false (by omega)
  have HS := hide (fun (u : World) => Tryd.strings_shouldUseASCIISet (n.length : Int) u)
  rw [h8z] at HS
  have HGET : Hid (∀ i (h : i < (str n).size), n[i]? = some ((str n)[i]'h)) := fun i h => by
    rw [List.getElem?_eq_getElem (by rw [← hsz]; exact h)]
    rfl
  generalize hSn : str n = S at *
  go_enter Tryd.func44, Tryd.ntmps44
  go_wp2_with fail
  refine (HS.out _).mono ?_
  rintro e w' ⟨rfl, rfl⟩
  go_wp2_with fail
  go_loopg [9, 10] n.length (fun g _ _ wx => ∃ i : Nat, i ≤ n.length ∧ g = n.length - i ∧ Hid (wx.heap[w'.heap.size]? = some (.stringIter S i)) ∧ Hid (Below w'.heap.size w' wx) ∧ Hid (NoB n i))
  case atStart => exact ⟨0, by omega, rfl, World.iter_heap w' S 0, bel_iter w' S 0, fun j b hj _ => by omega⟩
  case round =>
    obtain ⟨i, hi, rfl, HIT, HB, HN⟩ := hrel
    by_cases hlt : i < n.length
    · have hltS : i < S.size := by rw [hsz]; exact hlt
      obtain ⟨x, hx⟩ : ∃ x : UInt8, n[i]? = some x := ⟨_, List.getElem?_eq_getElem hlt⟩
      have hSx : S[i]'hltS = x := by
        have := HGET.out i hltS
        rw [hx] at this
        exact (Option.some.inj this).symm
      have HX := hide hx
      by_cases h128 : x.toNat < 128
      · have hnx := fun ty => Lib.run_next_ascii_at (P := Tryd.prog) wr w'.heap.size S i ty HIT.out hltS (by rw [hSx]; exact h128)
        rw [hSx] at hnx
        have HB2 := hide (bel_at HB.out S (i + 1))
        have HIT2 := hide (Lib.iterAt_heap wr w'.heap.size S i (i + 1) HIT.out)
        have HR := hide (fun u : World => Tryd.strings_IndexRune_ascii bad3 (x.toNat : Int) u (by omega) (by omega))
        have hback : (x.toNat : Int).toNat.toUInt8 = x := by simp
        rw [hback] at HR
        have hcon := Lib.contains_iff_indexByte bad3.data.toList x
        rw [bad3_contains] at hcon
        generalize hW2 : wr.iterAt w'.heap.size S (i + 1) = w2 at *
        clear hx hSx hltS hW2 hback
        cases hbx : badC x
        · rw [hbx] at hcon
          generalize Lib.indexByte bad3.data.toList x = V at *
          have hlt0 : ¬ ((0 : Int) ≤ V) := of_decide_eq_false hcon.symm
          clear hcon
          go_wp2_with fail
          refine (HR.out _).mono ?_
          rintro e w3 ⟨rfl, rfl⟩
          go_wp2_with fail
          go_roundg (n.length - (i + 1))
          case measure => omega
          case rel =>
            refine ⟨i + 1, by omega, rfl, HIT2.out, HB2.out, fun j b hj hjb => ?_⟩
            by_cases e : j = i
            · subst e
              rw [HX.out] at hjb
              cases hjb
              exact hbx
            · exact HN.out j b (by omega) hjb
        · rw [hbx] at hcon
          generalize Lib.indexByte bad3.data.toList x = V at *
          have hlt0 : (0 : Int) ≤ V := of_decide_eq_true hcon.symm
          clear hcon
          go_wp2_with fail
          refine (HR.out _).mono ?_
          rintro e w3 ⟨rfl, rfl⟩
          go_wp2_with fail
          go_ret
          refine ⟨⟨_, rfl, ?_⟩, HB2.out⟩
          have hany : n.any badC = true := List.any_eq_true.2 ⟨x, List.mem_of_getElem? HX.out, hbx⟩
          rw [hany]
          exact decide_eq_true (by omega)
      · obtain ⟨d1, d2, d3, d4, d5⟩ := dec_hi n i x hx (by omega)
        rw [hSn] at d1 d2 d3 d4 d5
        have hnx := fun ty => Lib.run_next_any_at (P := Tryd.prog) wr w'.heap.size S i ty HIT.out hltS
        have HB2 := hide (bel_at HB.out S (i + (Utf8.decode S i).2))
        have HIT2 := hide (Lib.iterAt_heap wr w'.heap.size S i (i + (Utf8.decode S i).2) HIT.out)
        have HR := hide (fun u : World => rune_hi ((Utf8.decode S i).1 : Int) u (by omega) d5)
        have HD4 := hide d4
        generalize (Utf8.decode S i).1 = R at *
        generalize (Utf8.decode S i).2 = D at *
        generalize hW2 : wr.iterAt w'.heap.size S (i + D) = w2 at *
        clear hx hSx hltS hW2 d4 d5
        go_wp2_with fail
        refine (HR.out _).mono ?_
        rintro e w3 ⟨rfl, hb3⟩
        have hlt2 : w'.heap.size < w2.heap.size := (Array.getElem?_eq_some_iff.1 HIT2.out).1
        have HIT3 := hide ((hb3.block _ hlt2).trans HIT2.out)
        have HB3 := hide (HB2.out.trans (hb3.mono (Nat.le_of_lt hlt2)))
        clear hb3 HR
        go_wp2_with fail
        go_roundg (n.length - (i + D))
        case measure => omega
        case rel =>
          refine ⟨i + D, by omega, rfl, HIT3.out, HB3.out, fun j b hj hjb => ?_⟩
          by_cases e : j < i
          · exact HN.out j b e hjb
          · exact badC_hi (HD4.out j b (by omega) hj hjb)
    · obtain rfl : i = n.length := by omega
      have hnx := fun ty => Lib.run_next_end_at (P := Tryd.prog) wr w'.heap.size S n.length ty HIT.out (by rw [hsz]; omega)
      go_wp2_with fail
      go_ret
      refine ⟨⟨_, rfl, ?_⟩, HB.out⟩
      rw [HN.out.all]
      rfl

theorem Tryd.zero256 : ∀ w, (zeroValue 70).run Tryd.prog w = .ok (.agg (Array.replicate 256 (.bool false))) w := fun w => by kernel_rfl

theorem conAny : ConAny := by
  intro n w hn
  have HI : Hid (Calls Tryd.prog 44 #[.string (str n), .string bad3] w fun e w' => (∃ v, e = .returned (.int .i64 v) ∧ decide (0 ≤ v) = n.any badC) ∧ Below w.heap.size w w') := by
    by_cases h8 : n.length ≤ 8
    · exact index_short n w h8
    · refine (Tryd.strings_IndexAny_long Tryd.zero256 (str n) bad3 w (by decide) (by rw [str_size]; omega) (by rw [str_size]; omega) (by decide) ?_).mono ?_
      · intro j b hb
        have : ∀ b ∈ ([0, 47, 10] : T8), b.toNat < 128 := by decide
        exact this b (List.mem_of_getElem? hb)
      · rintro e w' ⟨rfl, rfl⟩
        rw [str_list]
        exact ⟨⟨_, rfl, any_index n⟩, ((Below.refl _ _).alloc (Nat.le_refl _) _).alloc (by simp) _⟩
  generalize str n = S at *
  go_enter Tryd.func35, Tryd.ntmps35
  go_wp2_with fail
  refine HI.out.mono ?_
  rintro e w' ⟨⟨v, rfl, hv⟩, hb⟩
  have HB := hide hb
  have HV := hide hv
  clear hb hv HI
  go_wp2_with fail
  go_ret
  exact ⟨by rw [← HV.out]; rfl, HB.out⟩

end Go.Proofs.YtmmcnkdefpfkiaaDoor
