/- What an object defines: contracts of armap.defines and armap.Defines. -/
import Derived.Test.YteknmlcgdjoccaaArmSort
import Derived.Test.YteknmlcgdjoccaaStrMap
import Derived.Deep.LoopGhost
import Derived.Deep.AppendLies
import Derived.Deep.DeepCutAuto
namespace Go.Proofs.Yteknmlcgdjoccaa
open Go.RowKit Go.Maps
set_option linter.unusedVariables false
set_option maxRecDepth 20000
set_option linter.unusedSimpArgs false

/-- Does that symbol define its name? -/
def dfB (s : Sm) : Bool := (s.bd == 1 || s.bd == 2) && (s.se != 0)
/-- The names that symbols define, each once. -/
def dfStep (N : List T8) (s : Sm) : List T8 := if dfB s = true ∧ s.nm ∉ N then N ++ [s.nm] else N
def dfN (l : List Sm) : List T8 := l.foldl dfStep []
theorem dfN_take (l : List Sm) (k : Nat) (s : Sm) (h : l[k]? = some s) : dfN (l.take (k + 1)) = dfStep (dfN (l.take k)) s := by
  unfold dfN
  rw [List.take_add_one, h, List.foldl_append]
  rfl
theorem dfN_len (l : List Sm) : (dfN l).length ≤ l.length := by
  have : ∀ (l : List Sm) (N : List T8), (l.foldl dfStep N).length ≤ N.length + l.length := by
    intro l
    induction l with
    | nil => intro N; simp
    | cons a l ih =>
      intro N
      have h1 := ih (dfStep N a)
      have h2 : (dfStep N a).length ≤ N.length + 1 := by unfold dfStep; split <;> simp
      simp only [List.foldl_cons, List.length_cons]
      omega
  simpa [dfN] using this l []
def smV (s : Sm) : Value := .agg #[.string (str s.nm), .int .i64 s.bd, .int .i64 s.ty, .int .i64 s.se, .int .u64 (s.va : Int), .int .u64 (s.sz : Int)]
def tdL (N : List T8) (t : T8) : Option Value := if t ∈ N then some (.agg #[]) else none

set_option maxHeartbeats 1600000 in
theorem defines_any (s : Sm) (w : World) : Calls Try.prog 19 #[.agg #[.string (str s.nm), .int .i64 s.bd, .int .i64 s.ty, .int .i64 s.se, .int .u64 (s.va : Int), .int .u64 (s.sz : Int)]] w fun e w' => e = .returned (.bool (dfB s)) ∧ Below w.heap.size w w' := by
  generalize hS : str s.nm = S at *
  have he : dfB s = ((s.bd == 1 || s.bd == 2) && (s.se != 0)) := rfl
  rw [he]
  clear he
  generalize s.bd = bd at *
  generalize s.se = se at *
  go_enter Try.func19, Try.ntmps19
  go_wp2
  all_goals go_ret
  all_goals refine ⟨ret_bool ?_, (Below.refl _ _).alloc (Nat.le_refl _) _⟩
  all_goals simp_all

/-- Names so far: their row, the map that has them. -/
structure DfS (w wx : World) (v : Value) (N : List T8) : Prop where
  row : wx.ownsRow w.heap.size 9 1 v N.length (csT N)
  map : MapS wx (w.heap.size + 1) N.length (tdL N)
  bel : Below w.heap.size w wx
theorem DfS.below {w wx wy : World} {v : Value} {N : List T8} (h : DfS w wx v N) (hb : Below wx.heap.size wx wy) : DfS w wy v N :=
  ⟨rowKept (B0 := 0) h.row hb, h.map.kept (hb.block _ h.map.lt), h.bel.trans (hb.mono h.bel.size)⟩
theorem zeroE (w : World) : (zeroValue 57).run Try.prog w = .ok (.agg #[]) w := by kernel_rfl

set_option maxHeartbeats 8000000 in
theorem dfn_any (vs vg : Value) (a : Option Addr) (n cap : Nat) (l : List Sm) (w : World) (r : Rm w a n cap l) (hn : n ≤ 1000000) (hnm : ∀ s ∈ l, s.nm.length ≤ 1000000) :
    Calls Try.prog 12 #[.agg #[vs, .slice a n cap, vg]] w fun e w' => ∃ v, e = .returned v ∧ w'.ownsRow w.heap.size 9 1 v (dfN l).length (csT (srt (dfN l))) ∧ Below w.heap.size w w' := by
  obtain ⟨i0, hi, hz0, hz1, hz2⟩ := info_parts Try.infoStr
  have hmm := @run_makeMap Try.prog
  have hl := r.length
  have hle := r.le
  have hmx := r.max
  have HR := hide r
  have HNM := hide hnm
  clear r hnm
  go_enter Try.func12, Try.ntmps12
  go_upto_region 3 with fail
  have hOb : Hid (((w.alloc (.cells #[vs, .slice a n cap, vg] 46)).alloc (.map #[] 0)).cell? ⟨w.heap.size, 1, none⟩ = some (.slice a n cap)) := by
    have b1 : Below (w.alloc (.cells #[vs, .slice a n cap, vg] 46)).heap.size (w.alloc (.cells #[vs, .slice a n cap, vg] 46)) ((w.alloc (.cells #[vs, .slice a n cap, vg] 46)).alloc (.map #[] 0)) := (Below.refl _ _).alloc (Nat.le_refl _) _
    have h1 := heap_alloc_new w (.cells #[vs, .slice a n cap, vg] 46)
    have h2 := (b1.block w.heap.size (by simp)).trans h1
    show _ = _
    rw [cell_of_row _ _ 1 _ _ (0, 0) h2]
    rfl
  have hD0 : Hid (DfS w ((w.alloc (.cells #[vs, .slice a n cap, vg] 46)).alloc (.map #[] 0)) (.slice none 0 0) (dfN (l.take 0))) := by
    have hm := MapS.made (w.alloc (.cells #[vs, .slice a n cap, vg] 46))
    have e : (w.alloc (.cells #[vs, .slice a n cap, vg] 46)).heap.size = w.heap.size + 1 := by simp
    rw [e] at hm
    exact ⟨World.ownsRow_nil _ _ _ _, hm.congr (fun _ _ => rfl), ((Below.refl _ _).alloc (Nat.le_refl _) _).alloc (by simp) _⟩
  generalize (w.alloc (.cells #[vs, .slice a n cap, vg] 46)).alloc (.map #[] 0) = W0 at *
  have c0 := hOb.out
  go_wp2_with fail
  go_loopg [3, 6, 7, 8, 13] n (fun gg v s6 s7 s8 i wr => ∃ k : Nat, k ≤ n ∧ gg = n - k ∧ i = .int .i64 (k : Int) ∧ Hid (DfS w wr v (dfN (l.take k))))
  case atStart => exact ⟨0, by omega, rfl, rfl, hD0⟩
  case round =>
    obtain ⟨k, hk, rfl, rfl, HD⟩ := hrel
    clear hD0 hOb c0
    by_cases hlt : k < n
    · have hlt' : (k : Int) < (n : Int) := by omega
      obtain ⟨t, ht⟩ : ∃ t, l[k]? = some t := ⟨_, List.getElem?_eq_getElem (by omega)⟩
      have hnt := HNM.out t (List.mem_of_getElem? ht)
      obtain ⟨b2, o2, rfl, hc⟩ := Rm.addr (Rr.below HR.out HD.out.bel) (by omega)
      obtain ⟨c0, c1, c2, c3, c4, c5⟩ := hc k t ht
      have HT := hide (dfN_take l k t ht)
      have hNl := dfN_len (l.take k)
      rw [List.length_take] at hNl
      have hDF := fun W => hide (defines_any t W)
      have hmlt := HD.out.map.lt
      obtain ⟨nm, bd0, ty, se, va, sz⟩ := t
      simp only at c0 c1 c2 c3 c4 c5 hnt hDF
      obtain ⟨bd, hbd⟩ : ∃ bd, dfB ⟨nm, bd0, ty, se, va, sz⟩ = bd := ⟨_, rfl⟩
      have HBD := hide hbd
      rw [hbd] at hDF
      clear hbd
      generalize hN : dfN (l.take k) = N at *
      clear hN
      go_upto_region 6 with fail
      have HD4 := hide (HD.out.below ((Below.refl _ _).alloc (Nat.le_refl _) (.cells #[.string (str nm), .int .i64 bd0, .int .i64 ty, .int .i64 se, .int .u64 (va : Int), .int .u64 (sz : Int)] 42)))
      have hB4 : smC.Blk 42 (wr.alloc (.cells #[.string (str nm), .int .i64 bd0, .int .i64 ty, .int .i64 se, .int .u64 (va : Int), .int .u64 (sz : Int)] 42)) wr.heap.size ⟨nm, bd0, ty, se, va, sz⟩ := heap_alloc_new wr _
      have hgw : wr.heap.size < (wr.alloc (.cells #[.string (str nm), .int .i64 bd0, .int .i64 ty, .int .i64 se, .int .u64 (va : Int), .int .u64 (sz : Int)] 42)).heap.size := by simp
      generalize wr.alloc (.cells #[.string (str nm), .int .i64 bd0, .int .i64 ty, .int .i64 se, .int .u64 (va : Int), .int .u64 (sz : Int)] 42) = W4 at *
      have HB4 := hide hB4
      have d0 : W4.cell? ⟨wr.heap.size, 0, none⟩ = some (.string (str nm)) := hB4.cell 0
      have hlk := HD4.out.map.lookOk (t := 56) (e := 57) Try.underlying56 (zeroE W4) nm (by omega)
      clear c0 c1 c2 c3 c4 c5 HD hB4 ht
      obtain ⟨ag, hag⟩ : ∃ ag : Bool, decide (nm ∈ N) = ag := ⟨_, rfl⟩
      have hlk2 : Sem.run Try.prog (Instr.lookup 56 (.map (some (w.heap.size + 1))) (.string (str nm)) true) W4 = .ok (.tuple #[.agg #[], .bool ag]) W4 := by
        rw [← hag]
        unfold tdL at hlk
        by_cases hm : nm ∈ N
        · rw [if_pos hm] at hlk
          rw [decide_eq_true hm]
          exact hlk
        · rw [if_neg hm] at hlk
          rw [decide_eq_false hm]
          exact hlk
      have HAG := hide hag
      clear hlk hag
      generalize hSX : str nm = SX at *
      go_upto_region 7 with fail
      have HD5 := hide (HD4.out.below ((Below.refl _ _).alloc (Nat.le_refl _) (.cells #[] 57)))
      have hB5 := HB4.out.kept ((Below.refl _ _).alloc (Nat.le_refl _) (.cells #[] 57))
      have hg5 : wr.heap.size < (W4.alloc (.cells #[] 57)).heap.size := by simp; omega
      generalize W4.alloc (.cells #[] 57) = W5 at *
      have e0 : W5.cell? ⟨wr.heap.size, 0, none⟩ = some (.string (str nm)) := hB5.cell 0
      have e1 : W5.cell? ⟨wr.heap.size, 1, none⟩ = some (.int .i64 bd0) := hB5.cell 1
      have e2 : W5.cell? ⟨wr.heap.size, 2, none⟩ = some (.int .i64 ty) := hB5.cell 2
      have e3 : W5.cell? ⟨wr.heap.size, 3, none⟩ = some (.int .i64 se) := hB5.cell 3
      have e4 : W5.cell? ⟨wr.heap.size, 4, none⟩ = some (.int .u64 (va : Int)) := hB5.cell 4
      have e5 : W5.cell? ⟨wr.heap.size, 5, none⟩ = some (.int .u64 (sz : Int)) := hB5.cell 5
      have HB5 := hide hB5
      rw [hSX] at e0
      have hDF5 := hDF W5
      clear hB5 HB4 HD4 hlk2 d0 hDF hgw
      cases ag with
      | true =>
        have HE : Hid (dfN (l.take (k + 1)) = N) := by
          show _ = _
          rw [HT.out]
          unfold dfStep
          rw [if_neg (fun h => h.2 (of_decide_eq_true HAG.out))]
        clear hDF5 HBD HAG HT HB5
        go_wp2_with fail
        go_roundg (n - (k + 1))
        case measure => omega
        case rel => exact ⟨k + 1, by omega, rfl, by go_num, by rw [HE.out]; exact HD5.out⟩
      | false =>
        go_wp2_with fail
        refine hDF5.out.mono ?_
        rintro e W6 ⟨rfl, hb6⟩
        have HD6 := hide (HD5.out.below hb6)
        have hB6 := HB5.out.kept hb6
        have hg6 : wr.heap.size < W6.heap.size := Nat.lt_of_lt_of_le hg5 hb6.size
        have f0 : W6.cell? ⟨wr.heap.size, 0, none⟩ = some (.string (str nm)) := hB6.cell 0
        rw [hSX] at f0
        have HB6 := hide hB6
        clear hb6 hB6 HD5 HB5 e0 e1 e2 e3 e4 e5 hDF5
        cases bd with
        | false =>
          have HE : Hid (dfN (l.take (k + 1)) = N) := by
            show _ = _
            rw [HT.out]
            unfold dfStep
            rw [if_neg (fun h => by have := HBD.out.symm.trans h.1; cases this)]
          clear HBD HAG HT HB6
          go_wp2_with fail
          go_roundg (n - (k + 1))
          case measure => omega
          case rel => exact ⟨k + 1, by omega, rfl, by go_num, by rw [HE.out]; exact HD6.out⟩
        | true =>
          have hni : nm ∉ N := of_decide_eq_false HAG.out
          have HE : Hid (dfN (l.take (k + 1)) = N ++ [nm]) := by
            show _ = _
            rw [HT.out]
            unfold dfStep
            rw [if_pos ⟨HBD.out, hni⟩]
          obtain ⟨W7, hst, hm7, hg7, hz7⟩ := HD6.out.map.store (t := 56) (e := 57) Try.underlying56 (by unfold maxLen; omega) nm (by omega) (.agg #[])
          have e8 : (if (tdL N nm).isSome = true then N.length else N.length + 1) = N.length + 1 := by unfold tdL; rw [if_neg hni]; rfl
          rw [e8] at hm7
          have HR7 := hide (HD6.out.row.kept hg7 (.inr (fun e => by obtain ⟨c1, f1, q1⟩ := Lib.ownsRow_kind HD6.out.row _ e; exact HD6.out.map.noCells q1)))
          have HM7 := hide (show MapS W7 (w.heap.size + 1) (N.length + 1) (tdL (N ++ [nm])) from hm7.congr (fun x _ => by unfold updS tdL; by_cases hx : x = nm <;> simp [hx]))
          have hw6 := HD6.out.bel.size
          have HB7 := hide (HD6.out.bel.grown hg7 hw6 (fun k hk => by cases hk; omega))
          have f7 : W7.cell? ⟨wr.heap.size, 0, none⟩ = some (.string SX) := (hg7.cell_far ⟨wr.heap.size, 0, none⟩ hg6 (by simp; omega)).trans f0
          rw [hSX] at hst
          have hst2 : Sem.run Try.prog (Instr.mapUpdate 56 (.map (some (w.heap.size + 1))) (.string SX) (.agg #[])) W6 = .ok () W7 := hst
          have hw7 := HB7.out.size
          clear hz7 hst hm7 hg7 e8 HD6 HB6 HT HBD HAG
          go_upto_region 9 with fail
          clear hst2 f0
          go_wp2_with (at_builtin; refine wpList_append_own _ rfl _ _ 31 rfl w.heap.size 9 i0 (.string ⟨#[]⟩) 1 16 Try.underlying31 hi hz0 hz1 hz2 rfl (by decide) _ _ _ rfl (HR7.out.alloc _) ⟨W7.heap.size, 0, none⟩ 1 1 [.string SX] rfl rfl (World.news_of_block (cs := #[.string SX]) (t := 9) (fr := (0, 0)) (heap_alloc_new W7 _)) (by simp [Value.oneCell']) (by unfold maxLen; omega) (by omega) (by simp; omega) ?_; intro v9 W9 hown9 hgrow9 _; refine Hid.out ?_)
          refine hide ?_
          have HD9 : Hid (DfS w W9 v9 (N ++ [nm])) := by
            refine ⟨?_, ?_, ?_⟩
            · have e : csT (N ++ [nm]) = csT N ++ [.string SX] := by simp [csT, hSX]
              rw [e, List.length_append]
              exact hown9
            · rw [List.length_append]
              refine (HM7.out.kept (((Below.refl _ _).alloc (Nat.le_refl _) (.cells #[.string SX] 9)).block _ HM7.out.lt)).kept (hgrow9.block _ (by have := HM7.out.lt; simp; omega) (fun e => ?_))
              obtain ⟨c1, f1, q1⟩ := Lib.ownsRow_kind HR7.out _ e.symm
              exact HM7.out.noCells q1
            · exact (HB7.out.alloc hw7 _).grown hgrow9 (by simp; omega) (fun j hj => (HR7.out.lt j hj).1)
          clear hown9 hgrow9 HR7 HM7 HB7
          go_wp2_with fail
          go_roundg (n - (k + 1))
          case measure => omega
          case rel => exact ⟨k + 1, by omega, rfl, by go_num, by rw [HE.out]; exact HD9.out⟩
    · obtain rfl : k = n := by omega
      have HE : Hid (dfN (l.take k) = dfN l) := by show _ = _; rw [List.take_of_length_le (by omega)]
      have hNl := dfN_len l
      have HD2 : Hid (DfS w wr u3 (dfN l)) := by have := HD.out; rw [HE.out] at this; exact this
      have HS := hide (sort_any w.heap.size u3 (dfN l) wr HD2.out.row HD2.out.bel.size (by omega))
      have HB2 := hide HD2.out.bel
      clear HD HE HD2
      go_wp2_with fail
      refine HS.out.mono ?_
      rintro e w' ⟨rfl, hr, hb⟩
      have HR2 := hide hr
      have HB3 := hide (HB2.out.trans hb)
      clear hr hb HS
      go_wp2_with fail
      go_ret
      exact ⟨_, rfl, HR2.out, HB3.out⟩

end Go.Proofs.Yteknmlcgdjoccaa
