/- The long names of members: the contract of longNames. -/
import Derived.Test.YtmmcnkdefpfkiaaDoorArPart
import Derived.Test.YtmmcnkdefpfkiaaDoorStrMap
namespace Go.Proofs.YtmmcnkdefpfkiaaDoor
open Go.RowKit Go.Maps
set_option linter.unusedVariables false
set_option maxRecDepth 100000
set_option maxRecDepth 20000
set_option linter.unusedSimpArgs false

structure Lg where
  lg : T8
  at_ : T8 → Option Nat
def Lg.nil : Lg := ⟨[], fun _ => none⟩
def lgStep (s : Lg) (n : T8) : Lg := if (s.at_ n).isSome = true ∨ n.length ≤ 15 then s else ⟨s.lg ++ (n ++ [47, 10]), fun t => if t = n then some s.lg.length else s.at_ t⟩
def lgA (ms : List Mb) : Lg := ms.foldl (fun s m => lgStep s m.n) Lg.nil
def tot : List Mb → Nat
  | [] => 0
  | m :: l => m.n.length + m.b.length + 70 + tot l
theorem tot_app (l m : List Mb) : tot (l ++ m) = tot l + tot m := by
  induction l with
  | nil => simp [tot]
  | cons a l ih => simp [tot, ih]; omega
theorem tot_take (l : List Mb) (k : Nat) (m : Mb) (h : l[k]? = some m) : tot (l.take (k + 1)) = tot (l.take k) + (m.n.length + m.b.length + 70) := by
  rw [List.take_add_one, h, tot_app]
  simp [tot]
theorem tot_le (l : List Mb) (k : Nat) : tot (l.take k) ≤ tot l := by
  conv => rhs; rw [← List.take_append_drop k l, tot_app]
  omega
theorem lgA_take (l : List Mb) (k : Nat) (m : Mb) (h : l[k]? = some m) : lgA (l.take (k + 1)) = lgStep (lgA (l.take k)) m.n := by
  unfold lgA
  rw [List.take_add_one, h, List.foldl_append]
  rfl
theorem lgA_lg : ∀ (l : List Mb), (lgA l).lg.length ≤ tot l := by
  intro l
  have : ∀ (l : List Mb) (s : Lg), (l.foldl (fun s m => lgStep s m.n) s).lg.length ≤ s.lg.length + tot l := by
    intro l
    induction l with
    | nil => intro s; simp [tot]
    | cons a l ih =>
      intro s
      have h1 := ih (lgStep s a.n)
      have h2 : (lgStep s a.n).lg.length ≤ s.lg.length + (a.n.length + 2) := by unfold lgStep; split <;> simp
      simp only [List.foldl_cons, tot]
      omega
  have := this l Lg.nil
  simpa [lgA, Lg.nil] using this
def mpL (s : Lg) (t : T8) : Option Value := (s.at_ t).map (fun (o : Nat) => Value.int .i64 (o : Int))

/-- The long names so far. -/
structure LSt (w0 wx : World) (vl : Value) (m k : Nat) (s : Lg) : Prop where
  row : wx.ownsRow w0.heap.size 5 1 vl s.lg.length (cs8 s.lg)
  map : MapS wx m k (mpL s)
  bel : Below w0.heap.size w0 wx
  hm : w0.heap.size ≤ m
theorem LSt.below {w0 wx wy : World} {vl : Value} {m k : Nat} {s : Lg} (h : LSt w0 wx vl m k s) (hb : Below wx.heap.size wx wy) : LSt w0 wy vl m k s :=
  ⟨rowKept (B0 := 0) h.row hb, h.map.kept (hb.block _ h.map.lt), h.bel.trans (hb.mono h.bel.size), h.hm⟩
theorem zero64 (w : World) : (zeroValue 3).run Tryd.prog w = .ok (.int .i64 0) w := by kernel_rfl
theorem strCells_cs8 (l : T8) : Lib.strCells (str l) = cs8 l := by simp [Lib.strCells, cs8, nI, Function.comp_def]

set_option maxHeartbeats 8000000 in
theorem long_any (a : Option Addr) (cap : Nat) (ms : List Mb) (w : World) (r : Rmb w a ms.length cap ms) (hr : tot ms ≤ 100000000) :
    Calls Tryd.prog 18 #[.slice a ms.length cap] w fun e w' => ∃ vl m k, e = .returned (.tuple #[vl, .map (some m)]) ∧ LSt w w' vl m k (lgA ms) := by
  obtain ⟨i8, hi8, hz80, hz81, hz82⟩ := info_parts Tryd.info8
  have hmm := @run_makeMap Tryd.prog
  have hle := r.le
  have hmx := r.max
  have HR := hide r
  have HRM := hide hr
  clear r hr
  go_enter Tryd.func18, Tryd.ntmps18
  go_wp2_with fail
  have HS0 : Hid (LSt w (w.alloc (.map #[] 0)) (.slice none 0 0) w.heap.size 0 (lgA (ms.take 0))) :=
    ⟨World.ownsRow_nil _ _ _ _, (MapS.made w).congr (fun _ _ => rfl), (Below.refl _ _).alloc (Nat.le_refl _) _, Nat.le_refl _⟩
  go_loopg [4, 13] ms.length (fun g t4 i wr => ∃ (j k : Nat), j ≤ ms.length ∧ g = ms.length - j ∧ i = .int .i64 (j : Int) ∧ k ≤ j ∧ Hid (LSt w wr t4 w.heap.size k (lgA (ms.take j))))
  case atStart => exact ⟨0, 0, by omega, rfl, rfl, by omega, HS0.out⟩
  case round =>
    obtain ⟨j, k, hj, rfl, rfl, hk, HS⟩ := hrel
    by_cases hlt : j < ms.length
    · obtain ⟨b, o, rfl, hat⟩ := (HR.out.below HS.out.bel).addr (by omega)
      obtain ⟨x, hx⟩ : ∃ x, ms[j]? = some x := ⟨_, List.getElem?_eq_getElem hlt⟩
      obtain ⟨a', c', hc0, hc1, _⟩ := hat j x hx
      have ht := tot_take ms j x hx
      have ht2 := tot_le ms (j + 1)
      have ht3 := HRM.out
      have hlg := lgA_lg (ms.take j)
      have hxl : x.n.length ≤ 100000000 := by omega
      have hll : (lgA (ms.take j)).lg.length + x.n.length + 2 ≤ 100000000 := by omega
      have HT := hide (lgA_take ms j x hx)
      have hjk : j ≤ 100000000 := by
        have : ∀ l : List Mb, l.length ≤ tot l := fun l => by
          induction l with
          | nil => simp
          | cons a l ih => simp [tot]; omega
        have := this ms
        omega
      clear hat hx ht ht2 ht3 hlg
      generalize hsg : lgA (ms.take j) = sg at *
      have hlt' : (j : Int) < (ms.length : Int) := by omega
      go_upto_region 6 with fail
      have HS4 := hide (HS.out.below ((Below.refl _ _).alloc (Nat.le_refl _) (.cells #[.string (str x.n), .slice a' x.b.length c'] 26)))
      have cN := cell_of_row (wr.alloc (.cells #[.string (str x.n), .slice a' x.b.length c'] 26)) wr.heap.size 0 _ _ (0, 0) (heap_alloc_new wr _)
      have cN0 : (wr.alloc (.cells #[.string (str x.n), .slice a' x.b.length c'] 26)).cell? ⟨wr.heap.size, 0, none⟩ = some (.string (str x.n)) := cN
      have hgw : wr.heap.size < (wr.alloc (.cells #[.string (str x.n), .slice a' x.b.length c'] 26)).heap.size := by simp
      have hw0 := HS4.out.bel.size
      have hmw := HS.out.map.lt
      generalize hW4 : wr.alloc (.cells #[.string (str x.n), .slice a' x.b.length c'] 26) = W4 at *
      clear cN hc0 hc1 hW4
      have hlk := HS4.out.map.lookOk (t := 43) (e := 3) Tryd.underlying43 (zero64 W4) x.n (by omega)
      have hnm := str_size x.n
      have hcs := strCells_cs8 x.n
      cases hf : sg.at_ x.n with
      | some q =>
        have e1 : mpL sg x.n = some (.int .i64 (q : Int)) := by unfold mpL; rw [hf]; rfl
        rw [e1] at hlk
        have HE : Hid (lgA (ms.take (j + 1)) = sg) := by show _ = _; rw [HT.out]; unfold lgStep; rw [if_pos (.inl (by rw [hf]; rfl))]
        have hlk2 : Sem.run Tryd.prog (Instr.lookup 43 (.map (some w.heap.size)) (.string (str x.n)) true) W4 = .ok (.tuple #[.int .i64 (q : Int), .bool true]) W4 := hlk
        generalize str x.n = SX at *
        clear hlk e1 hf
        go_wp2_with fail
        go_roundg (ms.length - (j + 1))
        case measure => omega
        case rel => exact ⟨j + 1, k, by omega, rfl, by go_num, by omega, by rw [HE.out]; exact HS4.out⟩
      | none =>
        have e1 : mpL sg x.n = none := by unfold mpL; rw [hf]; rfl
        rw [e1] at hlk
        have hlk2 : Sem.run Tryd.prog (Instr.lookup 43 (.map (some w.heap.size)) (.string (str x.n)) true) W4 = .ok (.tuple #[.int .i64 0, .bool false]) W4 := hlk
        clear hlk
        by_cases h15 : x.n.length ≤ 15
        · have HE : Hid (lgA (ms.take (j + 1)) = sg) := by show _ = _; rw [HT.out]; unfold lgStep; rw [if_pos (.inr h15)]
          have hd15 : decide ((x.n.length : Int) ≤ 15) = true := decide_eq_true (by omega)
          generalize str x.n = SX at *
          clear e1 hf
          go_wp2_with fail
          go_roundg (ms.length - (j + 1))
          case measure => omega
          case rel => exact ⟨j + 1, k, by omega, rfl, by go_num, by omega, by rw [HE.out]; exact HS4.out⟩
        · have HE : Hid (lgA (ms.take (j + 1)) = ⟨sg.lg ++ (x.n ++ [47, 10]), fun t => if t = x.n then some sg.lg.length else sg.at_ t⟩) := by
            show _ = _
            rw [HT.out]
            unfold lgStep
            rw [if_neg (fun h => h.elim (fun h => by rw [hf] at h; cases h) h15)]
          have hd15 : decide ((x.n.length : Int) ≤ 15) = false := decide_eq_false (by omega)
          obtain ⟨W5, hst, hm5, hg5, hz5⟩ := HS4.out.map.store (t := 43) (e := 3) Tryd.underlying43 (by unfold maxLen; omega) x.n (by omega) (.int .i64 (sg.lg.length : Int))
          have e2 : (if (mpL sg x.n).isSome = true then k else k + 1) = k + 1 := by rw [e1]; rfl
          rw [e2] at hm5
          have HR5 := hide (HS4.out.row.kept hg5 (.inr (fun e => by obtain ⟨c1, f1, q1⟩ := Lib.ownsRow_kind HS4.out.row _ e; exact HS4.out.map.noCells q1)))
          have HM5 := hide (show MapS W5 w.heap.size (k + 1) (mpL ⟨sg.lg ++ (x.n ++ [47, 10]), fun t => if t = x.n then some sg.lg.length else sg.at_ t⟩) from hm5.congr (fun t _ => by unfold updS mpL; simp only; split <;> rfl))
          have HB5 := hide (HS4.out.bel.grown hg5 hw0 (fun k hk => by cases hk; exact Nat.le_refl _))
          have cN5 : W5.cell? ⟨wr.heap.size, 0, none⟩ = some (.string (str x.n)) := (hg5.cell_far ⟨wr.heap.size, 0, none⟩ hgw (by simp; omega)).trans cN0
          have hst2 : Sem.run Tryd.prog (Instr.mapUpdate 43 (.map (some w.heap.size)) (.string (str x.n)) (.int .i64 (sg.lg.length : Int))) W4 = .ok () W5 := hst
          have hw5 := HB5.out.size
          obtain ⟨av, cv, rfl, hvr⟩ := Rd.own HS4.out.row (nI_bytes _)
          have hvle := hvr.le
          have hvmx := hvr.max
          generalize str x.n = SX at *
          clear hst hm5 hg5 e1 e2 hf hvr
          go_upto_region 9 with fail
          clear hlk2 hst2
          go_wp2_with (at_builtin; refine Lib.wpList_append_own_string _ rfl _ _ 24 9 rfl w.heap.size 5 i8 Tryd.underlying24 Tryd.underlying9 hi8 hz80 hz81 hz82 _ _ _ rfl HR5.out SX rfl (by unfold maxLen; omega) (by omega) (by omega) ?_; intro v6 W6 r6 g6 n6; refine Hid.out ?_)
          refine hide ?_
          have R6 := hide r6
          have HB6 := hide (HB5.out.grown g6 hw5 (fun k hk => row_ge HR5.out hk))
          have HM6 := hide (HM5.out.kept (g6.block _ HM5.out.lt (fun e => by obtain ⟨c1, f1, q1⟩ := Lib.ownsRow_kind HR5.out _ e.symm; exact HM5.out.noCells q1)))
          have hw6 := HB6.out.size
          clear r6 g6 n6 HR5 HM5 HB5
          have hs2 : (⟨#[47, 10]⟩ : ByteArray).size = 2 := rfl
          go_upto_region 10 with fail
          go_wp2_with (at_builtin; refine Lib.wpList_append_own_string _ rfl _ _ 24 9 rfl w.heap.size 5 i8 Tryd.underlying24 Tryd.underlying9 hi8 hz80 hz81 hz82 _ _ _ rfl R6.out ⟨#[47, 10]⟩ rfl (by unfold maxLen; omega) (by omega) (by omega) ?_; intro v7 W7 r7 g7 n7; refine Hid.out ?_)
          refine hide ?_
          have HS7 : Hid (LSt w W7 v7 w.heap.size (k + 1) ⟨sg.lg ++ (x.n ++ [47, 10]), fun t => if t = x.n then some sg.lg.length else sg.at_ t⟩) := by
            refine ⟨?_, HM6.out.kept (g7.block _ HM6.out.lt (fun e => by obtain ⟨c1, f1, q1⟩ := Lib.ownsRow_kind R6.out _ e.symm; exact HM6.out.noCells q1)), HB6.out.grown g7 hw6 (fun k hk => row_ge R6.out hk), Nat.le_refl _⟩
            show W7.ownsRow _ _ _ _ (sg.lg ++ (x.n ++ [47, 10])).length (cs8 (sg.lg ++ (x.n ++ [47, 10])))
            rw [cs8_app, cs8_app, List.length_append, List.length_append, ← hcs, ← List.append_assoc, ← hnm, ← Nat.add_assoc]
            exact r7
          clear r7 g7 n7 R6 HM6 HB6
          go_wp2_with fail
          go_roundg (ms.length - (j + 1))
          case measure => omega
          case rel => exact ⟨j + 1, k + 1, by omega, rfl, by go_num, by omega, by rw [HE.out]; exact HS7.out⟩
    · obtain rfl : j = ms.length := by omega
      have HE : Hid (lgA (ms.take ms.length) = lgA ms) := by show _ = _; rw [List.take_length]
      go_wp2_with fail
      go_ret2
      exact ⟨_, _, _, rfl, by rw [← HE.out]; exact HS.out⟩

end Go.Proofs.YtmmcnkdefpfkiaaDoor
