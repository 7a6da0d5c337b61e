/- The contracts of asm's appendText, Text: an instruction's text. -/
import Derived.Test.YtcghekkhbiomgaaGreatDoorAsmFill
import Derived.Test.YtcghekkhbiomgaaGreatDoorInstRefName
import Derived.Deep.RegionHeld3
import Derived.Deep.AppendLies
import Derived.Laws.BytesArg
namespace Go.Proofs.YtcghekkhbiomgaaGreatDoor
open Go.RowKit Go.Maps
set_option linter.unusedVariables false
set_option maxRecDepth 100000

theorem LaidA.tabB {w : World} (h : LaidA w) {B : Nat} (hB : 10 ≤ B) : Lib.TabBelow Tryz.prog B w "internal/strconv.uint64pow10" .u64 Lib.pow10Tab := fun w' hb => (h.below hb hB).tab
theorem nmo_str (op : Int) : nmo op = str (nml op) := by
  unfold nmo nml
  split <;> rfl
theorem strCells_str (l : List UInt8) : Lib.strCells (str l) = Lib.byteCells l := by simp [Lib.strCells, Lib.byteCells]
theorem nml_len : ∀ k, k < 66 → (namesL.getD k []).length ≤ 10 := by decide +kernel
theorem nml_le (op : Int) : (nml op).length ≤ 10 := by
  unfold nml
  split
  · rename_i h
    have : 0 < op ∧ op < 66 := by simpa [knw] using h
    exact nml_len _ (by omega)
  · decide
theorem pat_len (op : Int) : (pat op).length ≤ 64 := by
  unfold pat patF
  repeat' split
  all_goals decide
theorem str_empty (l : List UInt8) : (str l).toList.isEmpty = decide (l = []) := by
  cases l with
  | nil => decide +kernel
  | cons c r =>
    have := str_some (s := str (c :: r)) (fun e => by
      have := congrArg (fun s => s.data.toList) e
      simp at this)
    rw [this]; simp
theorem nml_ne {op : Int} (h : knw op = true) : nml op ≠ [] := by
  have hr : 0 < op ∧ op < 66 := by simpa [knw] using h
  unfold nml
  rw [if_pos h]
  exact ((names_no op.toNat (by omega)).2.2 (by omega)).1

theorem cells_at {W : World} {b : Nat} {cs : Array Value} {t : TypeId} {fz : Nat × Nat} (h : W.heap[b]? = some (.cells cs t fz)) (k : Nat) (v : Value) (hv : cs[k]? = some v) : W.cell? ⟨b, k, none⟩ = some v := (cell_of_row _ _ k _ t fz h).trans hv
theorem Row.grown {B : Nat} {w W : World} {v : Value} {l : List UInt8} (h : Row B w v l) (o : Obj) (hB : B ≤ w.heap.size) (hg : (w.alloc o).grownBy W v.ownBlock) : Lib.OthersKept 5 none (w.alloc o) W ∧ Below B w W :=
  ⟨(Lib.OthersKept.refl _ _ _).grown hg (fun g hg => by
      obtain ⟨c0, fz, hcc⟩ := h.tag g hg
      exact ⟨c0, fz, by rw [Below.heap_alloc _ _ _ (World.ownsRow.lt h _ hg).2]; exact hcc⟩),
    ((Below.refl B w).alloc hB _).grown hg (by simp; omega) (fun g hg => (World.ownsRow.lt h _ hg).1)⟩

theorem row_snoc {B : Nat} {W : World} {v : Value} {l : List UInt8} {c : UInt8} (h : W.ownsRow B 5 1 v (l.length + 1) (Lib.byteCells l ++ [.int .u8 c.toNat])) : Row B W v (l ++ [c]) := by
  unfold Row
  rw [← cells_snoc, List.length_append]
  exact h
theorem Row.grown' {B : Nat} {w W : World} {v : Value} {l : List UInt8} (h : Row B w v l) {o : Obj} (hg : (w.alloc o).drew.grownBy W v.ownBlock) (hB : B ≤ w.heap.size) : Lib.OthersKept 5 none w W ∧ Below B w W := by
  have hg' : (w.alloc o).grownBy W v.ownBlock := ⟨hg.os, hg.tape, hg.output, hg.size, hg.block⟩
  have := Row.grown h o hB hg'
  exact ⟨((Lib.OthersKept.refl _ _ _).alloc o).trans this.1, this.2⟩

set_option maxHeartbeats 3200000 in
theorem atx_any (B : Nat) (l : List UInt8) (op : Int) (m : Ns) (sv : Value) (w : World) (hm : m.Fit) (hl : l.length ≤ 10000000) (hown : Row B w sv l) (hB : B ≤ w.heap.size) (hB' : 10 ≤ B) (hL : LaidA w) :
    Calls Tryz.prog 19 #[sv, inst op m.d m.s m.t m.i] w fun e w' => ∃ v', e = .returned v' ∧ Row B w' v' (l ++ tx op m) ∧ Below B w w' := by
  obtain ⟨i0, hi, hz0, hz1, hz2⟩ := info_parts infoByte
  have HN : Hid (∀ w, Laid w → Calls Tryz.prog 40 #[.int .i64 op] w fun e w' => e = .returned (.string (str (nml op))) ∧ w' = w) := hide (fun w h => by rw [← nmo_str]; exact name_any op w h)
  have HP := hide (fun w h => pat_any op w h)
  have HO := hide hown
  have HL := hide hL
  have HF : Hid (∀ l sv w, l.length ≤ 100000000 → Row B w sv l → B ≤ w.heap.size → Lib.TabBelow Tryz.prog B w "internal/strconv.uint64pow10" .u64 Lib.pow10Tab →
    Calls Tryz.prog 41 #[sv, .string (str (pat op)), inst op m.d m.s m.t m.i] w fun e w' => ∃ v', e = .returned v' ∧ Row B w' v' (l ++ fil m (pat op)) ∧ Below B w w' ∧ Lib.OthersKept 5 none w w') := hide (fun l sv w h1 h2 h3 h4 => fill_any B l (pat op) op m sv w hm (pat_len op) h1 h2 h3 h4)
  have nl := nml_le op
  clear hown hL
  by_cases hk : knw op = true
  · have hne := str_empty (nml op)
    rw [decide_eq_false (nml_ne hk)] at hne
    have hT : tx op m = nml op ++ (if pat op = [] then [] else 32 :: fil m (pat op)) := by unfold tx; rw [if_pos hk]
    have HS := hide (strCells_str (nml op))
    have HZ := hide (str_size (nml op))
    have HE := hide (str_empty (pat op))
    rw [hT]
    generalize nml op = nl0 at *
    generalize str nl0 = ns at *
    clear hT hk
    unfold inst at HF
    unfold inst
    by_cases hp : pat op = []
    · rw [if_pos hp, List.append_nil]
      have HP' : Hid (∀ w, Laid w → Calls Tryz.prog 32 #[.int .i64 op] w fun e w' => e = .returned (.string ⟨#[]⟩) ∧ w' = w) := by rw [hp] at HP; exact HP
      clear HF HE HP hp
      go_enter Tryz.func19, Tryz.ntmps19
      go_wp2_with fail
      refine (HN.out _ (HL.out.laid.alloc _)).mono ?_
      rintro e W ⟨rfl, hW⟩
      rw [hW]
      clear hW W HN
      go_wp2_with (at_builtin; refine Lib.wpList_append_own_string _ rfl _ _ 35 9 rfl B 5 i0 Tryz.underlying35 Tryz.underlying9 hi hz0 hz1 hz2 _ _ _ rfl (HO.out.alloc _) _ rfl (by unfold maxLen; rw [HZ.out]; omega) (by rw [HZ.out]; omega) (by simp; omega) ?_; intro v1 W1 r1 g1 n1; refine Hid.out ?_)
      refine Lib.hid ?_
      obtain ⟨k1, b1⟩ := Row.grown HO.out _ hB g1
      have hx := k1 w.heap.size _ (heap_alloc_new w _) (by simp) (by intro c fz h; simp at h)
      have HR : Hid (Row B W1 v1 (l ++ nl0)) := by
        rw [HS.out, HZ.out, cells_app, ← List.length_append] at r1
        exact r1
      have q0 : W1.cell? ⟨w.heap.size, 0, none⟩ = some (.int .i64 op) := cells_at hx 0 _ rfl
      have HB := hide b1
      have HL1 := hide (HL.out.below b1 hB')
      clear k1 hx r1 b1 g1 n1 HO HL
      go_wp2_with fail
      refine (HP'.out _ HL1.out.laid).mono ?_
      rintro e W ⟨rfl, hW⟩
      rw [hW]
      clear hW W HP'
      go_wp2
      go_ret
      exact ⟨_, rfl, HR.out, HB.out⟩
    · rw [if_neg hp]
      rw [decide_eq_false hp] at HE
      generalize fil m (pat op) = ft at *
      generalize str (pat op) = ps at *
      go_enter Tryz.func19, Tryz.ntmps19
      go_wp2_with fail
      refine (HN.out _ (HL.out.laid.alloc _)).mono ?_
      rintro e W ⟨rfl, hW⟩
      rw [hW]
      clear hW W HN
      go_wp2_with (at_builtin; refine Lib.wpList_append_own_string _ rfl _ _ 35 9 rfl B 5 i0 Tryz.underlying35 Tryz.underlying9 hi hz0 hz1 hz2 _ _ _ rfl (HO.out.alloc _) _ rfl (by unfold maxLen; rw [HZ.out]; omega) (by rw [HZ.out]; omega) (by simp; omega) ?_; intro v1 W1 r1 g1 n1; refine Hid.out ?_)
      refine Lib.hid ?_
      obtain ⟨k1, b1⟩ := Row.grown HO.out _ hB g1
      have hx := k1 w.heap.size _ (heap_alloc_new w _) (by simp) (by intro c fz h; simp at h)
      have r1' : Row B W1 v1 (l ++ nl0) := by
        rw [HS.out, HZ.out, cells_app, ← List.length_append] at r1
        exact r1
      have hzz := b1.size
      have hlt : w.heap.size < W1.heap.size := by have := g1.size; simp at this; omega
      have q0 : W1.cell? ⟨w.heap.size, 0, none⟩ = some (.int .i64 op) := cells_at hx 0 _ rfl
      have q1 : W1.cell? ⟨w.heap.size, 1, none⟩ = some (.int .i64 m.d) := cells_at hx 1 _ rfl
      have q2 : W1.cell? ⟨w.heap.size, 2, none⟩ = some (.int .i64 m.s) := cells_at hx 2 _ rfl
      have q3 : W1.cell? ⟨w.heap.size, 3, none⟩ = some (.int .i64 m.t) := cells_at hx 3 _ rfl
      have q4 : W1.cell? ⟨w.heap.size, 4, none⟩ = some (.int .i64 m.i) := cells_at hx 4 _ rfl
      obtain ⟨l1, hl1⟩ : ∃ l1, l1 = l ++ nl0 := ⟨_, rfl⟩
      have hl1n : l1.length ≤ 10000010 := by rw [hl1, List.length_append]; omega
      rw [← hl1] at r1'
      have HL1e := hide hl1
      clear hl1
      have ag : v1.ownBlock ≠ some w.heap.size := fun e => by
        obtain ⟨c0, fz, hcc⟩ := r1'.tag _ e
        rw [hx] at hcc
        simp at hcc
      have HX := hide hx
      have HR := hide r1'
      have HB := hide b1
      have HL1 := hide (HL.out.below b1 hB')
      clear k1 hx r1 r1' b1 g1 n1 HO HL
      go_wp2_with fail
      refine (HP.out _ HL1.out.laid).mono ?_
      rintro e W ⟨rfl, hW⟩
      rw [hW]
      clear hW W HP
      have hE := HE.out
      go_wp2_with fail
      go_region_held3 (fun w' => w'.cell? ⟨w.heap.size, 0, none⟩ = some (.int .i64 op) ∧ w'.cell? ⟨w.heap.size, 1, none⟩ = some (.int .i64 m.d) ∧ w'.cell? ⟨w.heap.size, 2, none⟩ = some (.int .i64 m.s) ∧ w'.cell? ⟨w.heap.size, 3, none⟩ = some (.int .i64 m.t) ∧ w'.cell? ⟨w.heap.size, 4, none⟩ = some (.int .i64 m.i))
        (first
          | go_keep
          | exact ⟨cells_at HX3.out 0 _ rfl, cells_at HX3.out 1 _ rfl, cells_at HX3.out 2 _ rfl, cells_at HX3.out 3 _ rfl, cells_at HX3.out 4 _ rfl⟩
          | (go_split_ands
             refine ⟨?_, ?_, ?_, ?_, ?_⟩
             · (rw [hgrow.cell_far _ (by simp; omega) (Ne.symm ag)]; assumption)
             · (rw [hgrow.cell_far _ (by simp; omega) (Ne.symm ag)]; assumption)
             · (rw [hgrow.cell_far _ (by simp; omega) (Ne.symm ag)]; assumption)
             · (rw [hgrow.cell_far _ (by simp; omega) (Ne.symm ag)]; assumption)
             · (rw [hgrow.cell_far _ (by simp; omega) (Ne.symm ag)]; assumption)))
        ((first
          | (refine step_append_lies _ (by rfl) _ _ _ (by rfl) B 5 i0 _ 1 1 Tryz.underlying35 hi hz0 hz1 hz2 rfl (by omega) v1 _ _ (by rfl) ((World.ownsRow.alloc HR.out _).drew) ⟨W1.heap.size, 0, none⟩ 1 1 [.int .u8 32] (by rfl) (by rfl) (World.news_of_block (cs := #[.int .u8 32]) (t := 5) (fr := (0, 0)) (heap_alloc_new W1 _)) (by simp [Value.oneCell']) (by omega) (by unfold maxLen; omega) (by omega) (by simp; omega) (W1.heap.size + 1) (by simp) ?_; intro gg cap W2 hown2 hgrow hat hlt2; have HX2 := hide ((HR.out.grown' hgrow (by omega)).1 _ _ HX.out (by simp) (by intro c fz h; simp at h)))
          | (go_at_call 41; refine (HF.out (l1 ++ [32]) _ W2 (by simp; omega) (row_snoc hown2) (by have := hgrow.size; simp at this ⊢; omega) ((HL1.out.below (HR.out.grown' hgrow (by omega)).2 hB').tabB hB')).mono ?_; rintro e W3 ⟨v3, rfl, r3, b3, k3⟩; have HX3 := hide (k3 _ _ HX2.out (by simp) (by intro c fz h; simp at h)); clear k3)))
      have b2 := (HR.out.grown' hgrow (by omega)).2
      have HR3 : Hid (Row B W3 v3 (l ++ (nl0 ++ 32 :: ft))) := by
        have e : l ++ (nl0 ++ 32 :: ft) = l1 ++ [32] ++ ft := by rw [HL1e.out]; simp
        rw [e]; exact r3
      have HB3 := hide (HB.out.trans (b2.trans b3))
      clear b2 r3 b3 hown2 hgrow hat hlt2 HX2 HX3 HX
      go_wp2
      go_ret
      exact ⟨_, rfl, HR3.out, HB3.out⟩
  · have hk' : knw op = false := by simpa using hk
    have hT : tx op m = [63] := by unfold tx; rw [if_neg hk]
    have hn : nml op = [] := by unfold nml; rw [if_neg hk]
    rw [hT]
    rw [hn] at HN
    have HN' : Hid (∀ w, Laid w → Calls Tryz.prog 40 #[.int .i64 op] w fun e w' => e = .returned (.string ⟨#[]⟩) ∧ w' = w) := HN
    clear HN HF HP hT hn hk hk' nl
    unfold inst
    go_enter Tryz.func19, Tryz.ntmps19
    go_wp2_with fail
    refine (HN'.out _ (HL.out.laid.alloc _)).mono ?_
    rintro e W ⟨rfl, hW⟩
    rw [hW]
    clear hW W HN'
    go_wp2_with (at_builtin; refine Lib.wpList_append_own_string _ rfl _ _ 35 9 rfl B 5 i0 Tryz.underlying35 Tryz.underlying9 hi hz0 hz1 hz2 _ _ _ rfl (HO.out.alloc _) ⟨#[63]⟩ rfl (show l.length + 1 ≤ maxLen by unfold maxLen; omega) (show l.length + 1 ≤ 140737488355328 by omega) (by simp; omega) ?_; intro v1 W1 r1 g1 n1; refine Hid.out ?_)
    refine Lib.hid ?_
    have b1 := (Row.grown HO.out _ hB g1).2
    have HR : Hid (Row B W1 v1 (l ++ [63])) := row_snoc r1
    have HB := hide b1
    clear r1 b1 g1 n1
    go_wp2
    go_ret
    exact ⟨_, rfl, HR.out, HB.out⟩

/-- A row of bytes as a text. -/
theorem Row.str {B : Nat} {W : World} {v : Value} {l : List UInt8} (h : Row B W v l) : ∃ a len cap, v = .slice a len cap ∧ (convert 35 9 (.slice a len cap)).run Tryz.prog W = .ok (.string (str l)) W := by
  rcases h.2 with ⟨rfl, h0⟩ | ⟨g, cap, cur, rfl, _, _, _, _, _, _⟩
  · obtain rfl : l = [] := List.eq_nil_of_length_eq_zero h0
    exact ⟨none, 0, 0, rfl, run_convert_bytes_nil W 35 5 Tryz.underlying35 Tryz.underlying5 0 0 9 Tryz.underlying9⟩
  · exact ⟨_, _, cap, rfl, run_convert_bytes_back (P := Tryz.prog) W 35 9 5 ⟨g, 0, none⟩ cap l Tryz.underlying35 Tryz.underlying5 Tryz.underlying9 (fun j hj => World.ownsRow.cells h (g := g) rfl j _ (by simp [Lib.byteCells, hj]))⟩

theorem text_any (op : Int) (m : Ns) (w : World) (hm : m.Fit) (hL : LaidA w) :
    Calls Tryz.prog 9 #[inst op m.d m.s m.t m.i] w fun e w' => e = .returned (.string (str (tx op m))) ∧ Below w.heap.size w w' := by
  have HT := hide (fun w' hB hL' => atx_any w.heap.size [] op m (.slice none 0 0) w' hm (by simp) (World.ownsRow_nil _ _ _ _) hB hL.size hL')
  rw [List.nil_append] at HT
  have HL := hide hL
  clear hL
  generalize tx op m = l at *
  unfold inst at HT
  unfold inst
  go_enter Tryz.func9, Tryz.ntmps9
  go_wp2_with fail
  refine (HT.out _ (by simp) (HL.out.alloc _)).mono ?_
  rintro e W1 ⟨v1, rfl, r1, b1⟩
  obtain ⟨aa, len, cap, rfl, hcv⟩ := r1.str
  have HB := hide (((Below.refl _ w).alloc (Nat.le_refl _) _).trans b1)
  clear r1 b1 HT HL
  go_wp2
  go_ret
  exact ⟨rfl, HB.out⟩

end Go.Proofs.YtcghekkhbiomgaaGreatDoor
