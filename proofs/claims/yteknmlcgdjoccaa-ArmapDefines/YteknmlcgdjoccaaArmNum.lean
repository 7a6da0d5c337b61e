/- Numbers of four bytes, the highest first, put behind bytes: contracts of armap.appendNumber and of the document's put. -/
import Derived.Test.YteknmlcgdjoccaaBts
import Derived.Deep.DeepCutAuto
import Derived.Deep.AppendLies
import Derived.Lib.AppendStr
namespace Go.Proofs.Yteknmlcgdjoccaa
open Go.RowKit
set_option linter.unusedVariables false
set_option maxRecDepth 20000
set_option linter.unusedSimpArgs false

/-- The lowest byte of a number. -/
def by8 (x : Int) : UInt8 := UInt8.ofNat (x % 256).toNat
theorem by8_nat (x : Int) : ((by8 x).toNat : Int) = x % 256 := by
  unfold by8
  simp
  omega
/-- The lowest four bytes, the highest first. -/
def be4 (n : Int) : T8 := [by8 (n / 16777216), by8 (n / 65536), by8 (n / 256), by8 n]
theorem be4_len (n : Int) : (be4 n).length = 4 := rfl
theorem be4_cs (n : Int) : cs8 (be4 n) = [.int .u8 (n / 16777216 % 256), .int .u8 (n / 65536 % 256), .int .u8 (n / 256 % 256), .int .u8 (n % 256)] := by
  simp [be4, cs8, nI, by8_nat]

/-- Bytes of the call's own so far. -/
structure PB (w W : World) (v : Value) (l : T8) : Prop where
  bel : Below w.heap.size w W
  own : W.ownsRow w.heap.size 5 1 v l.length (cs8 l)
theorem PB.nil (w : World) : PB w w (.slice none 0 0) [] := ⟨Below.refl _ _, World.ownsRow_nil _ _ _ _⟩
theorem PB.on {w W W' : World} {v : Value} {l : T8} (h : PB w W v l) (hb : Below W.heap.size W W') : PB w W' v l := ⟨h.bel.trans (hb.mono h.bel.size), rowKept (B0 := 0) h.own hb⟩
theorem PB.rt {w W : World} {v : Value} {l : T8} (h : PB w W v l) : ∃ a c, v = .slice a l.length c ∧ Rt W a c l := Rd.own h.own (nI_bytes l)

set_option maxHeartbeats 3200000 in
theorem apn_any (w W : World) (v : Value) (l : T8) (n : Int) (h : PB w W v l) (hl : l.length ≤ 1000000000) (h0 : -9223372036854775808 ≤ n) (h1 : n ≤ 9223372036854775807) :
    Calls Try.prog 14 #[v, .int .i64 n] W fun e w' => ∃ v', e = .returned v' ∧ PB w w' v' (l ++ be4 n) := by
  obtain ⟨i0, hi, hz0, hz1, hz2⟩ := info_parts Try.info8
  have O := hide h.own
  have B := hide h.bel
  have zb := h.bel.size
  have hb := be4_cs n
  have hn := hide (World.news_of_block (cs := #[.int .u8 (n / 16777216 % 256), .int .u8 (n / 65536 % 256), .int .u8 (n / 256 % 256), .int .u8 (n % 256)]) (t := 5) (fr := (0, 0)) (heap_alloc_new W _))
  have HE : Hid (∀ (W2 : World) (v2 : Value), W2.ownsRow w.heap.size 5 1 v2 (l.length + 4) (cs8 l ++ [.int .u8 (n / 16777216 % 256), .int .u8 (n / 65536 % 256), .int .u8 (n / 256 % 256), .int .u8 (n % 256)]) → W2.ownsRow w.heap.size 5 1 v2 (l ++ be4 n).length (cs8 (l ++ be4 n))) := fun W2 v2 h2 => by
    rw [cs8_app, hb, List.length_append]
    exact h2
  generalize cs8 l = xs at *
  generalize l.length = len at *
  clear hb h
  go_enter Try.func14, Try.ntmps14
  go_wp2_with (at_builtin; refine wpList_append_own _ rfl _ _ 22 rfl w.heap.size 5 i0 (.int .u8 0) 1 1 Try.underlying22 hi hz0 hz1 hz2 rfl (by decide) v _ _ rfl (O.out.alloc _) ⟨W.heap.size, 0, none⟩ 4 4 _ rfl rfl hn.out (by simp [Value.oneCell']) (by unfold maxLen; omega) (by omega) (by simp; omega) ?_)
  intro v2 W2 hown2 hgrow2 _
  have O2 := hide (HE.out _ _ hown2)
  have B2 := hide ((B.out.alloc zb _).grown hgrow2 (by simp; omega) (fun j hj => (O.out.lt j hj).1))
  clear hown2 hgrow2 O B hn HE
  go_wp2
  go_ret
  exact ⟨_, rfl, B2.out, O2.out⟩

set_option maxHeartbeats 3200000 in
theorem rput18_any (w W : World) (v : Value) (l : T8) (n : Int) (h : PB w W v l) (hl : l.length ≤ 1000000000) (h0 : -9223372036854775808 ≤ n) (h1 : n ≤ 9223372036854775807) :
    Calls Try.prog 15 #[v, .int .i64 n] W fun e w' => ∃ v', e = .returned v' ∧ PB w w' v' (l ++ be4 n) := by
  obtain ⟨i0, hi, hz0, hz1, hz2⟩ := info_parts Try.info8
  have O := hide h.own
  have B := hide h.bel
  have zb := h.bel.size
  have hb := be4_cs n
  have hn := hide (World.news_of_block (cs := #[.int .u8 (n / 16777216 % 256), .int .u8 (n / 65536 % 256), .int .u8 (n / 256 % 256), .int .u8 (n % 256)]) (t := 5) (fr := (0, 0)) (heap_alloc_new W _))
  have HE : Hid (∀ (W2 : World) (v2 : Value), W2.ownsRow w.heap.size 5 1 v2 (l.length + 4) (cs8 l ++ [.int .u8 (n / 16777216 % 256), .int .u8 (n / 65536 % 256), .int .u8 (n / 256 % 256), .int .u8 (n % 256)]) → W2.ownsRow w.heap.size 5 1 v2 (l ++ be4 n).length (cs8 (l ++ be4 n))) := fun W2 v2 h2 => by
    rw [cs8_app, hb, List.length_append]
    exact h2
  generalize cs8 l = xs at *
  generalize l.length = len at *
  clear hb h
  go_enter Try.func15, Try.ntmps15
  go_wp2_with (at_builtin; refine wpList_append_own _ rfl _ _ 22 rfl w.heap.size 5 i0 (.int .u8 0) 1 1 Try.underlying22 hi hz0 hz1 hz2 rfl (by decide) v _ _ rfl (O.out.alloc _) ⟨W.heap.size, 0, none⟩ 4 4 _ rfl rfl hn.out (by simp [Value.oneCell']) (by unfold maxLen; omega) (by omega) (by simp; omega) ?_)
  intro v2 W2 hown2 hgrow2 _
  have O2 := hide (HE.out _ _ hown2)
  have B2 := hide ((B.out.alloc zb _).grown hgrow2 (by simp; omega) (fun j hj => (O.out.lt j hj).1))
  clear hown2 hgrow2 O B hn HE
  go_wp2
  go_ret
  exact ⟨_, rfl, B2.out, O2.out⟩

/-- A text, or bytes, behind them: the walk's steps. -/
theorem strCells_b8 (l : T8) : Lib.strCells (str l) = cs8 l := by simp [Lib.strCells, cs8, nI, Function.comp_def]
theorem wpList_pb_str {w W : World} {ops : Array Oper} {rest : List Oper} {o : Oper} {a : Act} {Q : Exit → Act → World → Prop} (hgd : o.guard = none) (s x : Operand)
    (ho : o.op = .call { callee := .builtin .append, args := #[s, x], argTypes := #[22, 9] }) (v : Value) (l m : T8) (S : ByteArray) (hS : S = str m) (hs : a.eval s = v) (hx : a.eval x = .string S)
    (hP : PB w W v l) (hl : l.length + m.length ≤ 10000000000)
    (h : ∀ v' w', PB w w' v' (l ++ m) → wpList Try.prog ops Q rest (a.put o.dst v') w') : wpList Try.prog ops Q (o :: rest) a W := by
  obtain ⟨i0, hi, hz0, hz1, hz2⟩ := info_parts Try.info8
  subst hS
  have hsz := str_size m
  refine Lib.wpList_append_own_string W hgd s x 22 9 ho w.heap.size 5 i0 Try.underlying22 Try.underlying9 hi hz0 hz1 hz2 v l.length (cs8 l) hs hP.own (str m) hx (by unfold maxLen; omega) (by omega) hP.bel.size ?_
  intro v' w' hown hg _
  refine h v' w' ⟨hP.bel.grown hg hP.bel.size (fun k hk => (hP.own.lt k hk).1), ?_⟩
  rw [cs8_app, List.length_append, ← strCells_b8 m, ← hsz]
  exact hown
theorem wpList_pb_row {w W : World} {ops : Array Oper} {rest : List Oper} {o : Oper} {a : Act} {Q : Exit → Act → World → Prop} (hgd : o.guard = none) (s x : Operand)
    (ho : o.op = .call { callee := .builtin .append, args := #[s, x], argTypes := #[22, 22] }) (v : Value) (l m : T8) (n c : Nat) (ad : Addr) (hn : m.length = n) (hs : a.eval s = v) (hx : a.eval x = .slice (some ad) n c)
    (hP : PB w W v l) (rd : Rt W (some ad) c m) (hm : 0 < n) (hl : l.length + n ≤ 10000000000)
    (h : ∀ v' w', PB w w' v' (l ++ m) → wpList Try.prog ops Q rest (a.put o.dst v') w') : wpList Try.prog ops Q (o :: rest) a W := by
  obtain ⟨i0, hi, hz0, hz1, hz2⟩ := info_parts Try.info8
  subst hn
  have l2 := cs8_len m
  refine wpList_append_own W hgd s x 22 ho w.heap.size 5 i0 (.int .u8 0) 1 1 Try.underlying22 hi hz0 hz1 hz2 rfl (by decide) v l.length (cs8 l) hs hP.own ad m.length c (cs8 m) hx (by omega) (cells_of rd ad rfl) (cs8_one m) (by unfold maxLen; omega) (by omega) hP.bel.size ?_
  intro v' w' hown hg _
  refine h v' w' ⟨hP.bel.grown hg hP.bel.size (fun k hk => (hP.own.lt k hk).1), ?_⟩
  rw [cs8_app, List.length_append]
  exact hown

end Go.Proofs.Yteknmlcgdjoccaa
