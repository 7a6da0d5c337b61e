/- A header held against the empty one: one step of the walk. -/
import Derived.Test.YtmmbahblnmhhmaaShdrMem
import Derived.Laws.StructEq
namespace Go.Proofs.Ytmmbahblnmhhmaa
open Go.RowKit
set_option linter.unusedVariables false
set_option linter.unusedSimpArgs false

set_option maxHeartbeats 1600000 in
theorem run_neq_sh (w : World) (x0 x1 x2 x3 x4 x5 x6 x7 x8 x9 : Int) :
    (binOp .neq 47 (.agg #[.int .u32 x0, .int .u32 x1, .int .u64 x2, .int .u64 x3, .int .u64 x4, .int .u64 x5, .int .u32 x6, .int .u32 x7, .int .u64 x8, .int .u64 x9]) (.agg #[.int .u32 0, .int .u32 0, .int .u64 0, .int .u64 0, .int .u64 0, .int .u64 0, .int .u32 0, .int .u32 0, .int .u64 0, .int .u64 0])).run Try.prog w =
      .ok (.bool (!(x0 == 0 && x1 == 0 && x2 == 0 && x3 == 0 && x4 == 0 && x5 == 0 && x6 == 0 && x7 == 0 && x8 == 0 && x9 == 0))) w := by
  have hp : Try.prog.stoodInHeld 47 = false := by kernel_rfl
  generalize hb0 : (x0 == 0) = b0
  generalize hb1 : (x1 == 0) = b1
  generalize hb2 : (x2 == 0) = b2
  generalize hb3 : (x3 == 0) = b3
  generalize hb4 : (x4 == 0) = b4
  generalize hb5 : (x5 == 0) = b5
  generalize hb6 : (x6 == 0) = b6
  generalize hb7 : (x7 == 0) = b7
  generalize hb8 : (x8 == 0) = b8
  generalize hb9 : (x9 == 0) = b9
  rw [run_neq_struct, show (10000 : Nat) = 9999 + 1 from rfl, run_equalIn_agg _ _ _ _ _ (by simp [Program.fieldsOf, Try.underlying47]) hp]
  simp only [Program.fieldsOf, Try.underlying47, Op.eqFields]
  have s32 : (Try.prog.info? 45).map (·.size) = some 1 := by kernel_rfl
  have s64 : (Try.prog.info? 23).map (·.size) = some 1 := by kernel_rfl
  obtain ⟨i32, hi32, hs32⟩ := Option.map_eq_some_iff.1 s32
  obtain ⟨i64, hi64, hs64⟩ := Option.map_eq_some_iff.1 s64
  have q32 : ∀ (x : Int) W, Sem.run Try.prog (Op.equalIn 9999 45 (.int .u32 x) (.int .u32 0)) W = .ok (x == 0) W := fun x W => run_equalIn_int W 9998 45 .u32 .u32 x 0 Try.underlying45
  have q64 : ∀ (x : Int) W, Sem.run Try.prog (Op.equalIn 9999 23 (.int .u64 x) (.int .u64 0)) W = .ok (x == 0) W := fun x W => run_equalIn_int W 9998 23 .u64 .u64 x 0 Try.underlying23
  cases b0 <;> simp [part, sizeOf, typeInfo, hi32, hs32, hi64, hs64, q32, q64, hb0, go_sem, Try.underlying45, Try.underlying23]
  subst hb1 hb2 hb3 hb4 hb5 hb6 hb7 hb8 hb9
  clear q32 q64 hp
  repeat' split
  all_goals simp_all

theorem wpList_neq_sh (w : World) {ops : Array Oper} {rest : List Oper} {o : Oper} {a : Act} {Q : Exit → Act → World → Prop} (hgd : o.guard = none) (s x : Operand) (ty : TypeId) (ho : o.op = .binOp .neq 47 s x ty) (t : Sh)
    (hs : a.eval s = .agg #[.int .u32 (t.nm : Int), .int .u32 (t.ty : Int), .int .u64 (t.fl : Int), .int .u64 (t.ad : Int), .int .u64 (t.off : Int), .int .u64 (t.sz : Int), .int .u32 (t.lk : Int), .int .u32 (t.nf : Int), .int .u64 (t.al : Int), .int .u64 (t.en : Int)])
    (hx : a.eval x = .agg #[.int .u32 0, .int .u32 0, .int .u64 0, .int .u64 0, .int .u64 0, .int .u64 0, .int .u32 0, .int .u32 0, .int .u64 0, .int .u64 0])
    (b : Bool) (hb : zrB t = b) (h : wpList Try.prog ops Q rest (a.put o.dst (.bool (!b))) w) : wpList Try.prog ops Q (o :: rest) a w := by
  have hm : Try.prog.eqGuardType Try.prog.depth 47 = false := by kernel_rfl
  have e : ((t.nm : Int) == 0 && (t.ty : Int) == 0 && (t.fl : Int) == 0 && (t.ad : Int) == 0 && (t.off : Int) == 0 && (t.sz : Int) == 0 && (t.lk : Int) == 0 && (t.nf : Int) == 0 && (t.al : Int) == 0 && (t.en : Int) == 0) = b := by
    rw [← hb]
    unfold zrB
    have f : ∀ n : Nat, ((n : Int) == 0) = (n == 0) := fun n => by rw [Bool.eq_iff_iff]; simp
    simp only [f]
  refine wpList_plain hgd fun K hK => ?_
  unfold Oper.wp
  simp only [execOp, ho, hs, hx, Sem.run_bind, run_eqGuard_agg _ _ _ _ _ _ _ hm, Result.andThen_ok, run_neq_sh, e]
  simp
  exact hK _ _ h

end Go.Proofs.Ytmmbahblnmhhmaa
