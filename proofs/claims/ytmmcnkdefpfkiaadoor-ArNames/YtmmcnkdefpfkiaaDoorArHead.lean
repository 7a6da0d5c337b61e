/- The law's head of a member; bytes put behind bytes; the law ArOrder, walked. -/
import Derived.Test.YtmmcnkdefpfkiaaDoorArOrd
namespace Go.Proofs.YtmmcnkdefpfkiaaDoor
open Go.RowKit Go.Maps
set_option linter.unusedVariables false
set_option maxRecDepth 100000
set_option maxRecDepth 20000
set_option linter.unusedSimpArgs false

def sp60 : T8 := List.replicate 60 32
def hL1 (nm : T8) : T8 := sp60.take 0 ++ (nm ++ sp60.drop (0 + nm.length))
def hL2 (nm sz : T8) : T8 := (hL1 nm).take 48 ++ (sz ++ (hL1 nm).drop (48 + sz.length))



/-- Bytes put behind bytes. -/
theorem wpList_bx {w0 w : World} {ops : Array Oper} {rest : List Oper} {o : Oper} {a : Act} {Q : Exit → Act → World → Prop} (hgd : o.guard = none) (s x : Operand)
    (ho : o.op = .call { callee := .builtin .append, args := #[s, x], argTypes := #[24, 24] }) (v : Value) (l d : T8) (c : Nat) (ad : Addr) (hs : a.eval s = v) (hx : a.eval x = .slice (some ad) d.length c)
    (hB : Bx w0 w v l) (rd : Rt w (some ad) c d) (hd : 0 < d.length) (hl : l.length + d.length ≤ 10000000000)
    (h : ∀ v' w', w'.ownsRow w0.heap.size 5 1 v' (l ++ d).length (cs8 (l ++ d)) → Below w0.heap.size w0 w' → wpList Tryd.prog ops Q rest (a.put o.dst v') w') : wpList Tryd.prog ops Q (o :: rest) a w := by
  obtain ⟨i0, hi, hz0, hz1, hz2⟩ := info_parts Tryd.info8
  have l1 := cs8_len l
  have l2 := cs8_len d
  have hsz := hB.bel.size
  rcases hB.row with ⟨y, rfl, hy, hyb⟩ | hown
  · refine wpList_append_grows w hgd s x 24 ho 5 i0 (.int .u8 0) 1 1 Tryd.underlying24 hi hz0 hz1 hz2 rfl (by decide) (some y) l.length l.length (cs8 l) hs (by intro h; cases h) (by omega) (by intro b hb; cases hb; exact cells_of hy y rfl) ad d.length c (cs8 d) hx (by omega) (cells_of rd ad rfl) (cs8_one d) (by omega) (by unfold maxLen; omega) (by omega) ?_
    intro v' w' hown hg
    refine h v' w' ?_ (hB.bel.grown hg hsz (fun k hk => by cases hk))
    rw [cs8_app, List.length_append]
    exact row_low hown hsz
  · refine wpList_append_own_at w hgd s x 24 ho w0.heap.size 5 i0 (.int .u8 0) 1 1 Tryd.underlying24 hi hz0 hz1 hz2 rfl (by decide) v l.length (cs8 l) hs hown ad d.length c (cs8 d) hx (by omega) (cells_of rd ad rfl) (cs8_one d) (by unfold maxLen; omega) (by omega) hsz ?_
    intro v' w' hown' hg _ _
    refine h v' w' ?_ (hB.bel.grown hg hsz (fun k hk => row_ge hown hk))
    rw [cs8_app, List.length_append]
    exact hown'

end Go.Proofs.YtmmcnkdefpfkiaaDoor
