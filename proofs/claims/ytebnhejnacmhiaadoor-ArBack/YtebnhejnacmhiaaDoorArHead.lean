/- The law's head of a member; bytes put behind bytes; the law ArOrder, walked. -/
import Derived.Test.YtebnhejnacmhiaaDoorArOrd
namespace Go.Proofs.YtebnhejnacmhiaaDoor
open Go.RowKit Go.Maps
set_option linter.unusedVariables false
set_option maxRecDepth 100000
set_option maxRecDepth 20000
set_option linter.unusedSimpArgs false

def sp60 : T8 := List.replicate 60 32
def hL1 (nm : T8) : T8 := sp60.take 0 ++ (nm ++ sp60.drop (0 + nm.length))
def hL2 (nm sz : T8) : T8 := (hL1 nm).take 48 ++ (sz ++ (hL1 nm).drop (48 + sz.length))

set_option maxHeartbeats 4000000 in
theorem head_any (nm sz : T8) (w : World) (hn : nm.length ≤ 16) (hs : sz.length ≤ 10) (he : ((hL2 nm sz).set 58 96).set 59 10 = hT nm sz) (h1 : (hL1 nm).length = 60) (h2 : (hL2 nm sz).length = 60) (h3 : (hT nm sz).length = 60) :
    Calls Tryd.prog 15 #[.string (str nm), .string (str sz)] w fun e w' => e = .returned (.slice (some ⟨w.heap.size, 0, none⟩) 60 60) ∧ Rt w' (some ⟨w.heap.size, 0, none⟩) 60 (hT nm sz) ∧ Below w.heap.size w w' := by
  have hkc : Sem.run Tryd.prog (convert 23 23 (.slice (some ⟨w.heap.size, 0, none⟩) 60 60)) (w.alloc (.cells #[.int .u8 32, .int .u8 32, .int .u8 32, .int .u8 32, .int .u8 32, .int .u8 32, .int .u8 32, .int .u8 32, .int .u8 32, .int .u8 32, .int .u8 32, .int .u8 32, .int .u8 32, .int .u8 32, .int .u8 32, .int .u8 32, .int .u8 32, .int .u8 32, .int .u8 32, .int .u8 32, .int .u8 32, .int .u8 32, .int .u8 32, .int .u8 32, .int .u8 32, .int .u8 32, .int .u8 32, .int .u8 32, .int .u8 32, .int .u8 32, .int .u8 32, .int .u8 32, .int .u8 32, .int .u8 32, .int .u8 32, .int .u8 32, .int .u8 32, .int .u8 32, .int .u8 32, .int .u8 32, .int .u8 32, .int .u8 32, .int .u8 32, .int .u8 32, .int .u8 32, .int .u8 32, .int .u8 32, .int .u8 32, .int .u8 32, .int .u8 32, .int .u8 32, .int .u8 32, .int .u8 32, .int .u8 32, .int .u8 32, .int .u8 32, .int .u8 32, .int .u8 32, .int .u8 32, .int .u8 32] 5)) = .ok (.slice (some ⟨w.heap.size, 0, none⟩) 60 60) (w.alloc (.cells #[.int .u8 32, .int .u8 32, .int .u8 32, .int .u8 32, .int .u8 32, .int .u8 32, .int .u8 32, .int .u8 32, .int .u8 32, .int .u8 32, .int .u8 32, .int .u8 32, .int .u8 32, .int .u8 32, .int .u8 32, .int .u8 32, .int .u8 32, .int .u8 32, .int .u8 32, .int .u8 32, .int .u8 32, .int .u8 32, .int .u8 32, .int .u8 32, .int .u8 32, .int .u8 32, .int .u8 32, .int .u8 32, .int .u8 32, .int .u8 32, .int .u8 32, .int .u8 32, .int .u8 32, .int .u8 32, .int .u8 32, .int .u8 32, .int .u8 32, .int .u8 32, .int .u8 32, .int .u8 32, .int .u8 32, .int .u8 32, .int .u8 32, .int .u8 32, .int .u8 32, .int .u8 32, .int .u8 32, .int .u8 32, .int .u8 32, .int .u8 32, .int .u8 32, .int .u8 32, .int .u8 32, .int .u8 32, .int .u8 32, .int .u8 32, .int .u8 32, .int .u8 32, .int .u8 32, .int .u8 32] 5 (60, 61))) :=
    Lib.run_convert_bytes_const (P := Tryd.prog) w 23 5 _ 60 60 Tryd.underlying23 Tryd.underlying5
  have H1 : Hid ((w.alloc (.cells #[.int .u8 32, .int .u8 32, .int .u8 32, .int .u8 32, .int .u8 32, .int .u8 32, .int .u8 32, .int .u8 32, .int .u8 32, .int .u8 32, .int .u8 32, .int .u8 32, .int .u8 32, .int .u8 32, .int .u8 32, .int .u8 32, .int .u8 32, .int .u8 32, .int .u8 32, .int .u8 32, .int .u8 32, .int .u8 32, .int .u8 32, .int .u8 32, .int .u8 32, .int .u8 32, .int .u8 32, .int .u8 32, .int .u8 32, .int .u8 32, .int .u8 32, .int .u8 32, .int .u8 32, .int .u8 32, .int .u8 32, .int .u8 32, .int .u8 32, .int .u8 32, .int .u8 32, .int .u8 32, .int .u8 32, .int .u8 32, .int .u8 32, .int .u8 32, .int .u8 32, .int .u8 32, .int .u8 32, .int .u8 32, .int .u8 32, .int .u8 32, .int .u8 32, .int .u8 32, .int .u8 32, .int .u8 32, .int .u8 32, .int .u8 32, .int .u8 32, .int .u8 32, .int .u8 32, .int .u8 32] 5 (60, 61))).heap[w.heap.size]? = some (.cells (cs8 sp60).toArray 5 (60, 61))) := heap_alloc_new w _
  have HB1 : Hid (Below w.heap.size w (w.alloc (.cells #[.int .u8 32, .int .u8 32, .int .u8 32, .int .u8 32, .int .u8 32, .int .u8 32, .int .u8 32, .int .u8 32, .int .u8 32, .int .u8 32, .int .u8 32, .int .u8 32, .int .u8 32, .int .u8 32, .int .u8 32, .int .u8 32, .int .u8 32, .int .u8 32, .int .u8 32, .int .u8 32, .int .u8 32, .int .u8 32, .int .u8 32, .int .u8 32, .int .u8 32, .int .u8 32, .int .u8 32, .int .u8 32, .int .u8 32, .int .u8 32, .int .u8 32, .int .u8 32, .int .u8 32, .int .u8 32, .int .u8 32, .int .u8 32, .int .u8 32, .int .u8 32, .int .u8 32, .int .u8 32, .int .u8 32, .int .u8 32, .int .u8 32, .int .u8 32, .int .u8 32, .int .u8 32, .int .u8 32, .int .u8 32, .int .u8 32, .int .u8 32, .int .u8 32, .int .u8 32, .int .u8 32, .int .u8 32, .int .u8 32, .int .u8 32, .int .u8 32, .int .u8 32, .int .u8 32, .int .u8 32] 5 (60, 61)))) := (Below.refl _ _).alloc (Nat.le_refl _) _
  have hl60 : sp60.length = 60 := rfl
  go_enter Tryd.func15, Tryd.ntmps15
  go_upto_region 2 with fail
  generalize hW1 : w.alloc (.cells #[.int .u8 32, .int .u8 32, .int .u8 32, .int .u8 32, .int .u8 32, .int .u8 32, .int .u8 32, .int .u8 32, .int .u8 32, .int .u8 32, .int .u8 32, .int .u8 32, .int .u8 32, .int .u8 32, .int .u8 32, .int .u8 32, .int .u8 32, .int .u8 32, .int .u8 32, .int .u8 32, .int .u8 32, .int .u8 32, .int .u8 32, .int .u8 32, .int .u8 32, .int .u8 32, .int .u8 32, .int .u8 32, .int .u8 32, .int .u8 32, .int .u8 32, .int .u8 32, .int .u8 32, .int .u8 32, .int .u8 32, .int .u8 32, .int .u8 32, .int .u8 32, .int .u8 32, .int .u8 32, .int .u8 32, .int .u8 32, .int .u8 32, .int .u8 32, .int .u8 32, .int .u8 32, .int .u8 32, .int .u8 32, .int .u8 32, .int .u8 32, .int .u8 32, .int .u8 32, .int .u8 32, .int .u8 32, .int .u8 32, .int .u8 32, .int .u8 32, .int .u8 32, .int .u8 32, .int .u8 32] 5 (60, 61)) = w1 at *
  clear hW1 hkc
  obtain ⟨w2, hc2, g2, r2⟩ := copy_txt (n := 16) (c := 60) H1.out 0 nm (by omega) (by omega) (.inl (by omega)) 3
  have g2' : w2.heap[w.heap.size]? = some (.cells (cs8 (hL1 nm)).toArray 5 (60, 61)) := g2
  obtain ⟨w3, hc3, g3, r3⟩ := copy_txt (n := 10) (c := 12) g2' 48 sz (by omega) (by omega) (.inl (by omega)) 3
  have g3' : w3.heap[w.heap.size]? = some (.cells (cs8 (hL2 nm sz)).toArray 5 (60, 61)) := g3
  have HB2 := HB1.out.grown r2 HB1.out.size (fun k hk => by cases hk; exact Nat.le_refl _)
  have HB3 := hide (HB2.grown r3 HB2.size (fun k hk => by cases hk; exact Nat.le_refl _))
  have c58 : w3.cell? ⟨w.heap.size, 58, none⟩ = some (.int .u8 ((nI (hL2 nm sz)).getD 58 0)) := by
    rw [cell_of_row _ _ 58 _ _ (60, 61) g3']
    simp [cs8, nI, h2]
  have c59 : w3.cell? ⟨w.heap.size, 59, none⟩ = some (.int .u8 ((nI (hL2 nm sz)).getD 59 0)) := by
    rw [cell_of_row _ _ 59 _ _ (60, 61) g3']
    simp [cs8, nI, h2]
  have f58 : w3.frozen? ⟨w.heap.size, 58, none⟩ = false := by unfold World.frozen?; rw [g3']; rfl
  have f59 : w3.frozen? ⟨w.heap.size, 59, none⟩ = false := by unfold World.frozen?; rw [g3']; rfl
  have HG : Hid (((w3.setCell ⟨w.heap.size, 58, none⟩ (.int .u8 96)).setCell ⟨w.heap.size, 59, none⟩ (.int .u8 10)).heap[w.heap.size]? = some (.cells (cs8 (hT nm sz)).toArray 5 (60, 61))) := by
    show _ = _
    have := hset_fr (hset_fr g3' 58 (.int .u8 96)) 59 (.int .u8 10)
    rw [this, ← he]
    simp [cs8, nI]
  have HB5 : Hid (Below w.heap.size w ((w3.setCell ⟨w.heap.size, 58, none⟩ (.int .u8 96)).setCell ⟨w.heap.size, 59, none⟩ (.int .u8 10))) := (HB3.out.setCell (p := ⟨w.heap.size, 58, none⟩) (Nat.le_refl _) _).setCell (p := ⟨w.heap.size, 59, none⟩) (Nat.le_refl _) _
  generalize (nI (hL2 nm sz)).getD 58 0 = X58 at *
  generalize (nI (hL2 nm sz)).getD 59 0 = X59 at *
  generalize str nm = SN at *
  generalize str sz = SZ at *
  clear g2 g3 g2' g3' r2 r3 HB2 H1 HB1 HB3
  go_wp2_with fail
  go_ret
  refine ⟨rfl, ?_, HB5.out⟩
  have := blkRt HG.out (by omega)
  rw [h3] at this
  exact this

/-- Bytes put behind bytes. -/
theorem wpList_bx {w0 w : World} {ops : Array Oper} {rest : List Oper} {o : Oper} {a : Act} {Q : Exit → Act → World → Prop} (hgd : o.guard = none) (s x : Operand)
    (ho : o.op = .call { callee := .builtin .append, args := #[s, x], argTypes := #[23, 23] }) (v : Value) (l d : T8) (c : Nat) (ad : Addr) (hs : a.eval s = v) (hx : a.eval x = .slice (some ad) d.length c)
    (hB : Bx w0 w v l) (rd : Rt w (some ad) c d) (hd : 0 < d.length) (hl : l.length + d.length ≤ 10000000000)
    (h : ∀ v' w', w'.ownsRow w0.heap.size 5 1 v' (l ++ d).length (cs8 (l ++ d)) → Below w0.heap.size w0 w' → wpList Tryd.prog ops Q rest (a.put o.dst v') w') : wpList Tryd.prog ops Q (o :: rest) a w := by
  obtain ⟨i0, hi, hz0, hz1, hz2⟩ := info_parts Tryd.info8
  have l1 := cs8_len l
  have l2 := cs8_len d
  have hsz := hB.bel.size
  rcases hB.row with ⟨y, rfl, hy, hyb⟩ | hown
  · refine wpList_append_grows w hgd s x 23 ho 5 i0 (.int .u8 0) 1 1 Tryd.underlying23 hi hz0 hz1 hz2 rfl (by decide) (some y) l.length l.length (cs8 l) hs (by intro h; cases h) (by omega) (by intro b hb; cases hb; exact cells_of hy y rfl) ad d.length c (cs8 d) hx (by omega) (cells_of rd ad rfl) (cs8_one d) (by omega) (by unfold maxLen; omega) (by omega) ?_
    intro v' w' hown hg
    refine h v' w' ?_ (hB.bel.grown hg hsz (fun k hk => by cases hk))
    rw [cs8_app, List.length_append]
    exact row_low hown hsz
  · refine wpList_append_own_at w hgd s x 23 ho w0.heap.size 5 i0 (.int .u8 0) 1 1 Tryd.underlying23 hi hz0 hz1 hz2 rfl (by decide) v l.length (cs8 l) hs hown ad d.length c (cs8 d) hx (by omega) (cells_of rd ad rfl) (cs8_one d) (by unfold maxLen; omega) (by omega) hsz ?_
    intro v' w' hown' hg _ _
    refine h v' w' ?_ (hB.bel.grown hg hsz (fun k hk => row_ge hown hk))
    rw [cs8_app, List.length_append]
    exact hown'

end Go.Proofs.YtebnhejnacmhiaaDoor
