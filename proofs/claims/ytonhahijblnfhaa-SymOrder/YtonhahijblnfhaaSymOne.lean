/- A symbol held against another: one step of the walk; contracts of symtab.right and symtab.read. -/
import Derived.Test.YtonhahijblnfhaaSymMem
import Derived.Laws.StructEq
import Derived.Deep.DeepCutAuto
namespace Go.Proofs.Ytonhahijblnfhaa
open Go.RowKit
set_option linter.unusedVariables false
set_option linter.unusedSimpArgs false

/-- Are two symbols one? -/
def syE (s t : Sy) : Bool := (s.nm : Int) == (t.nm : Int) && s.bd == t.bd && s.ty == t.ty && s.ot == t.ot && s.se == t.se && (s.va : Int) == (t.va : Int) && (s.sz : Int) == (t.sz : Int)
theorem syE_iff (s t : Sy) : syE s t = true ↔ s = t := by
  unfold syE
  obtain ⟨a0, a1, a2, a3, a4, a5, a6⟩ := s
  obtain ⟨b0, b1, b2, b3, b4, b5, b6⟩ := t
  simp only [Sy.mk.injEq, Bool.and_eq_true, beq_iff_eq]
  constructor
  · rintro ⟨⟨⟨⟨⟨⟨h0, h1⟩, h2⟩, h3⟩, h4⟩, h5⟩, h6⟩
    exact ⟨by omega, h1, h2, h3, h4, by omega, by omega⟩
  · rintro ⟨rfl, rfl, rfl, rfl, rfl, rfl, rfl⟩
    exact ⟨⟨⟨⟨⟨⟨rfl, rfl⟩, rfl⟩, rfl⟩, rfl⟩, rfl⟩, rfl⟩
theorem syE_zero (s : Sy) : syE s sy0 = syZ s := by
  rw [Bool.eq_iff_iff, syE_iff, syZ_iff]

set_option maxHeartbeats 1600000 in
theorem run_equal_sy (w : World) (x0 x1 x2 x3 x4 x5 x6 y0 y1 y2 y3 y4 y5 y6 : Int) :
    Sem.run Try.prog (Op.equalIn 10000 40 (.agg #[.int .u32 x0, .int .i64 x1, .int .i64 x2, .int .i64 x3, .int .i64 x4, .int .u64 x5, .int .u64 x6]) (.agg #[.int .u32 y0, .int .i64 y1, .int .i64 y2, .int .i64 y3, .int .i64 y4, .int .u64 y5, .int .u64 y6])) w =
      .ok (x0 == y0 && x1 == y1 && x2 == y2 && x3 == y3 && x4 == y4 && x5 == y5 && x6 == y6) w := by
  have hp : Try.prog.stoodInHeld 40 = false := by kernel_rfl
  generalize hb0 : (x0 == y0) = b0
  generalize hb1 : (x1 == y1) = b1
  generalize hb2 : (x2 == y2) = b2
  generalize hb3 : (x3 == y3) = b3
  generalize hb4 : (x4 == y4) = b4
  generalize hb5 : (x5 == y5) = b5
  generalize hb6 : (x6 == y6) = b6
  rw [show (10000 : Nat) = 9999 + 1 from rfl, run_equalIn_agg _ _ _ _ _ (by simp [Program.fieldsOf, Try.underlying40]) hp]
  simp only [Program.fieldsOf, Try.underlying40, Op.eqFields]
  have s32 : (Try.prog.info? 24).map (·.size) = some 1 := by kernel_rfl
  have s64 : (Try.prog.info? 38).map (·.size) = some 1 := by kernel_rfl
  have si : (Try.prog.info? 3).map (·.size) = some 1 := by kernel_rfl
  obtain ⟨i32, hi32, hs32⟩ := Option.map_eq_some_iff.1 s32
  obtain ⟨i64, hi64, hs64⟩ := Option.map_eq_some_iff.1 s64
  obtain ⟨ii, hii, hsi⟩ := Option.map_eq_some_iff.1 si
  have q32 : ∀ (x y : Int) W, Sem.run Try.prog (Op.equalIn 9999 24 (.int .u32 x) (.int .u32 y)) W = .ok (x == y) W := fun x y W => run_equalIn_int W 9998 24 .u32 .u32 x y Try.underlying24
  have q64 : ∀ (x y : Int) W, Sem.run Try.prog (Op.equalIn 9999 38 (.int .u64 x) (.int .u64 y)) W = .ok (x == y) W := fun x y W => run_equalIn_int W 9998 38 .u64 .u64 x y Try.underlying38
  have qi : ∀ (x y : Int) W, Sem.run Try.prog (Op.equalIn 9999 3 (.int .i64 x) (.int .i64 y)) W = .ok (x == y) W := fun x y W => run_equalIn_int W 9998 3 .i64 .i64 x y Try.underlying3
  cases b0 <;> simp [part, sizeOf, typeInfo, hi32, hs32, hi64, hs64, hii, hsi, q32, q64, qi, hb0, go_sem, Try.underlying24, Try.underlying38, Try.underlying3]
  subst hb1 hb2 hb3 hb4 hb5 hb6
  clear q32 q64 qi hp
  repeat' split
  all_goals simp_all

theorem wpList_neq_sy (w : World) {ops : Array Oper} {rest : List Oper} {o : Oper} {a : Act} {Q : Exit → Act → World → Prop} (hgd : o.guard = none) (s x : Operand) (ty : TypeId) (ho : o.op = .binOp .neq 40 s x ty) (t u : Sy)
    (hs : a.eval s = .agg #[.int .u32 (t.nm : Int), .int .i64 t.bd, .int .i64 t.ty, .int .i64 t.ot, .int .i64 t.se, .int .u64 (t.va : Int), .int .u64 (t.sz : Int)])
    (hx : a.eval x = .agg #[.int .u32 (u.nm : Int), .int .i64 u.bd, .int .i64 u.ty, .int .i64 u.ot, .int .i64 u.se, .int .u64 (u.va : Int), .int .u64 (u.sz : Int)])
    (b : Bool) (hb : syE t u = b) (h : wpList Try.prog ops Q rest (a.put o.dst (.bool (!b))) w) : wpList Try.prog ops Q (o :: rest) a w := by
  have hm : Try.prog.eqGuardType Try.prog.depth 40 = false := by kernel_rfl
  unfold syE at hb
  refine wpList_plain hgd fun K hK => ?_
  unfold Oper.wp
  simp only [execOp, ho, hs, hx, Sem.run_bind, run_eqGuard_agg _ _ _ _ _ _ _ hm, Result.andThen_ok, run_neq_struct, run_equal_sy, hb]
  simp
  exact hK _ _ h

theorem wpList_eql_sy (w : World) {ops : Array Oper} {rest : List Oper} {o : Oper} {a : Act} {Q : Exit → Act → World → Prop} (hgd : o.guard = none) (s x : Operand) (ty : TypeId) (ho : o.op = .binOp .eql 40 s x ty) (t u : Sy)
    (hs : a.eval s = .agg #[.int .u32 (t.nm : Int), .int .i64 t.bd, .int .i64 t.ty, .int .i64 t.ot, .int .i64 t.se, .int .u64 (t.va : Int), .int .u64 (t.sz : Int)])
    (hx : a.eval x = .agg #[.int .u32 (u.nm : Int), .int .i64 u.bd, .int .i64 u.ty, .int .i64 u.ot, .int .i64 u.se, .int .u64 (u.va : Int), .int .u64 (u.sz : Int)])
    (b : Bool) (hb : syE t u = b) (h : wpList Try.prog ops Q rest (a.put o.dst (.bool b)) w) : wpList Try.prog ops Q (o :: rest) a w := by
  have hm : Try.prog.eqGuardType Try.prog.depth 40 = false := by kernel_rfl
  unfold syE at hb
  refine wpList_plain hgd fun K hK => ?_
  unfold Oper.wp
  simp only [execOp, ho, hs, hx, Sem.run_bind, run_eqGuard_agg _ _ _ _ _ _ _ hm, Result.andThen_ok, run_eql_struct, run_equal_sy, hb]
  simp
  exact hK _ _ h

/-- May s, of that name, be symbol number i? -/
def rgB (s : Sy) (i loc : Nat) (y : List UInt8) : Bool :=
  if i = 0 then syZ s else if 3 < s.ot then false else if i < loc then decide (s.bd = 0) && decide (s.ty ≤ 4) else ((decide (s.bd = 1) || decide (s.bd = 2)) && decide (s.ty ≤ 2)) && !y.isEmpty
theorem rgB_eq (nb : List Int) (s : Sy) (i loc : Nat) (h0 : 0 ≤ s.bd) : syB nb s i loc = (match synO nb s i with | none => false | some y => rgB s i loc y) := by
  unfold syB synO rgB
  by_cases hi : i = 0
  · simp [hi]
  · simp only [hi, if_false]
    rcases gtO nb s.nm with _ | y
    · rfl
    · simp only []
      rw [Bool.eq_iff_iff]
      generalize y.isEmpty = z
      by_cases h3 : 3 < s.ot
      · simp [h3]
        intros
        omega
      · by_cases hl : i < loc
        · simp [h3, hl]
          omega
        · simp [h3, hl]
          intro _
          omega

set_option maxHeartbeats 1600000 in
theorem right_any (s : Sy) (i loc : Nat) (y : List UInt8) (w : World) (hs : s.Ok) (hi : i ≤ 9223372036854775807) (hc : loc ≤ 4294967295) :
    Calls Try.prog 19 #[syV s, .int .i64 (i : Int), .int .u32 (loc : Int), .string (str y)] w fun e w' => e = .returned (.bool (rgB s i loc y)) ∧ Below w.heap.size w w' := by
  have B0 := hide ((Below.refl w.heap.size w).alloc (Nat.le_refl _) (.cells s.cells.toArray 40))
  have y1 := hs.ty
  have y2 := hs.bd
  have y3 := hs.ot
  have y4 := hs.se
  by_cases h0 : i = 0
  · subst h0
    have e : rgB s 0 loc y = syZ s := by unfold rgB; simp
    have e2 := syE_zero s
    rw [e]
    generalize syZ s = b at *
    clear e
    unfold syV
    go_enter Try.func19, Try.ntmps19
    go_wp2_with (refine wpList_eql_sy _ rfl _ _ _ rfl s sy0 rfl rfl _ e2 ?_)
    go_ret
    exact ⟨rfl, B0.out⟩
  have i0 : ((i : Int) == 0) = false := by simp; omega
  by_cases h3 : 3 < s.ot
  · have e : rgB s i loc y = false := by unfold rgB; simp [h0, h3]
    rw [e]
    clear e
    unfold syV
    go_enter Try.func19, Try.ntmps19
    go_wp2
    go_ret
    exact ⟨rfl, B0.out⟩
  have h3' : s.ot ≤ 3 := by omega
  by_cases hl : i < loc
  · have hl' : (i : Int) < (loc : Int) := by omega
    have e : rgB s i loc y = (decide (s.bd = 0) && decide (s.ty ≤ 4)) := by unfold rgB; simp [h0, h3, hl]
    rw [e]
    have f1 : (s.bd == 0) = decide (s.bd = 0) := by rw [Bool.eq_iff_iff]; simp
    generalize decide (s.bd = 0) = b at *
    clear e
    unfold syV
    cases b
    · go_enter Try.func19, Try.ntmps19
      go_wp2
      go_ret
      exact ⟨rfl, B0.out⟩
    · go_enter Try.func19, Try.ntmps19
      go_wp2
      go_ret
      exact ⟨by simp, B0.out⟩
  · have hl' : ¬ (i : Int) < (loc : Int) := by omega
    have e : rgB s i loc y = (((decide (s.bd = 1) || decide (s.bd = 2)) && decide (s.ty ≤ 2)) && !y.isEmpty) := by unfold rgB; simp [h0, h3, hl]
    rw [e]
    have f1 : (s.bd == 1) = decide (s.bd = 1) := by rw [Bool.eq_iff_iff]; simp
    have f2 : (s.bd == 2) = decide (s.bd = 2) := by rw [Bool.eq_iff_iff]; simp
    generalize decide (s.bd = 1) = b1 at *
    generalize decide (s.bd = 2) = b2 at *
    clear e
    unfold syV
    by_cases ht : s.ty ≤ 2
    · rw [decide_eq_true ht]
      cases b1 <;> cases b2
      all_goals
        go_enter Try.func19, Try.ntmps19
        go_wp2
        go_ret
        exact ⟨by simp, B0.out⟩
    · rw [decide_eq_false ht]
      cases b1 <;> cases b2
      all_goals
        go_enter Try.func19, Try.ntmps19
        go_wp2
        go_ret
        exact ⟨by simp, B0.out⟩

theorem got_add (bs : List Int) (o n m : Nat) (h : o + (n + m) ≤ bs.length) : got bs (o : Int) (n + m) = got bs (o : Int) n + 256 ^ n * got bs ((o + n : Nat) : Int) m := by
  rw [got_seg bs o (n + m) h, got_seg bs o n (by omega), got_seg bs (o + n) m (by omega), seg_add, num_append, seg_len bs o n (by omega)]
theorem got_one (bs : List Int) (o : Nat) (h : o < bs.length) : got bs (o : Int) 1 = bs.getD o 0 := by
  rw [got_seg bs o 1 (by omega)]
  unfold seg
  rw [List.drop_eq_getElem_cons h, List.take_succ_cons, List.take_zero]
  simp [num, h]
/-- The first number of a symbol's bytes, in parts. -/
theorem got_sy (bs : List Int) (o : Nat) (h : o + 24 ≤ bs.length) : got bs (o : Int) 8 = got bs (o : Int) 4 + 4294967296 * (bs.getD (o + 4) 0 + 256 * (bs.getD (o + 5) 0 + 256 * got bs ((o + 6 : Nat) : Int) 2)) := by
  have h1 := got_add bs o 4 4 (by omega)
  have h2 := got_add bs (o + 4) 1 3 (by omega)
  have h3 := got_add bs (o + 5) 1 2 (by omega)
  have e1 : (256 : Int) ^ 4 = 4294967296 := by decide
  have e2 : (256 : Int) ^ 1 = 256 := by decide
  rw [e1] at h1
  rw [e2] at h2 h3
  rw [got_one bs (o + 4) (by omega)] at h2
  rw [got_one bs (o + 5) (by omega)] at h3
  rw [h1, h2, h3]

/-- A symbol stored into a block. -/
def stSy (w : World) (b o : Nat) (t : Sy) : World :=
  ((((((w.setCell ⟨b, o, none⟩ (.int .u32 (t.nm : Int))).setCell ⟨b, o + 1, none⟩ (.int .i64 t.bd)).setCell ⟨b, o + 2, none⟩ (.int .i64 t.ty)).setCell ⟨b, o + 3, none⟩ (.int .i64 t.ot)).setCell ⟨b, o + 4, none⟩ (.int .i64 t.se)).setCell ⟨b, o + 5, none⟩ (.int .u64 (t.va : Int))).setCell ⟨b, o + 6, none⟩ (.int .u64 (t.sz : Int))
theorem stSy_cells (w : World) (b o : Nat) (t : Sy) : stSy w b o t = w.setCells b o t.cells := rfl
theorem stSy_below {B b o : Nat} {w0 w : World} (t : Sy) (h : Below B w0 w) (hb : B ≤ b) : Below B w0 (stSy w b o t) := by
  rw [stSy_cells]
  exact below_setCells hb _ _ _ h
theorem hset_sy {w : World} {m : Nat} {l : List Value} {ty : TypeId} (h : w.heap[m]? = some (.cells l.toArray ty (0, 0))) (i : Nat) (v : Value) : (w.setCell ⟨m, i, none⟩ v).heap[m]? = some (.cells (l.set i v).toArray ty (0, 0)) := by
  unfold World.setCell
  simp [Array.getElem?_modify, h]
theorem SyB.store {w : World} {b : Nat} {s : Sy} (h : SyB w b s) (t : Sy) : SyB (stSy w b 0 t) b t :=
  hset_sy (hset_sy (hset_sy (hset_sy (hset_sy (hset_sy (hset_sy h 0 _) 1 _) 2 _) 3 _) 4 _) 5 _) 6 _

set_option maxHeartbeats 1600000 in
theorem read_any (a : Option Addr) (len cap : Nat) (bs : List Int) (off : Nat) (w : World) (r : Rd w a len cap bs) (h : off + 24 ≤ len) :
    Calls Try.prog 17 #[.slice a len cap, .int .u64 (off : Int)] w fun e w' => e = .returned (syV (syAt bs off)) ∧ Below w.heap.size w w' := by
  have hl := r.length
  have hle := r.le
  have hmx := r.max
  have hby := r.bytes
  have b0 := (Below.refl w.heap.size w).alloc (Nat.le_refl _) (.cells sy0.cells.toArray 40)
  have X0 := SyB.new w sy0
  change SyB (w.alloc (.cells #[.int .u32 0, .int .i64 0, .int .i64 0, .int .i64 0, .int .i64 0, .int .u64 0, .int .u64 0] 40)) _ _ at X0
  change Below _ _ (w.alloc (.cells #[.int .u32 0, .int .i64 0, .int .i64 0, .int .i64 0, .int .i64 0, .int .u64 0, .int .u64 0] 40)) at b0
  obtain ⟨W0, hW0⟩ : ∃ W0, w.alloc (.cells #[.int .u32 0, .int .i64 0, .int .i64 0, .int .i64 0, .int .i64 0, .int .u64 0, .int .u64 0] 40) = W0 := ⟨_, rfl⟩
  rw [hW0] at X0 b0
  have R0 := r.below b0
  have U0 := u64_any a len cap bs (off : Int) W0 R0 (by omega) (by omega)
  have U1 := u64_any a len cap bs ((off + 8 : Nat) : Int) W0 R0 (by omega) (by omega)
  have U2 := u64_any a len cap bs ((off + 16 : Nat) : Int) W0 R0 (by omega) (by omega)
  obtain ⟨ok, b15, b15', t15, t15', o15, o15', s15, s15'⟩ := syAt_ok hby off
  obtain ⟨n0, e0⟩ : ∃ n : Nat, got bs (off : Int) 8 = (n : Int) := ⟨(got bs (off : Int) 8).toNat, by have := got_nonneg hby (off : Int) 8; omega⟩
  have hn0 : n0 < 18446744073709551616 := by
    have := got_lt hby (off : Int) 8
    rw [show (2 : Int) ^ (8 * 8) = 18446744073709551616 by decide] at this
    omega
  have e1 : got bs ((off + 8 : Nat) : Int) 8 = ((syAt bs off).va : Int) := by simp only [syAt]; have := got_nonneg hby ((off + 8 : Nat) : Int) 8; omega
  have e2 : got bs ((off + 16 : Nat) : Int) 8 = ((syAt bs off).sz : Int) := by simp only [syAt]; have := got_nonneg hby ((off + 16 : Nat) : Int) 8; omega
  have E := got_sy bs off (by omega)
  have F : (n0 : Int) = ((syAt bs off).nm : Int) + 4294967296 * (16 * (syAt bs off).bd + (syAt bs off).ty + 256 * ((syAt bs off).ot + 256 * (syAt bs off).se)) := by
    have h4 := got_nonneg hby (off : Int) 4
    simp only [syAt]
    rw [← e0, E]
    omega
  rw [e0] at U0
  rw [e1] at U1
  rw [e2] at U2
  obtain ⟨t, ht⟩ : ∃ t, syAt bs off = t := ⟨_, rfl⟩
  rw [ht] at U1 U2 F ok b15 b15' t15 t15' o15 o15' s15 s15' ⊢
  have hv := ok.va
  have hz := ok.sz
  have hm := ok.nm
  generalize has bs (off : Int) 8 = q0 at *
  generalize has bs ((off + 8 : Nat) : Int) 8 = q1 at *
  generalize has bs ((off + 16 : Nat) : Int) 8 = q2 at *
  have c1 : IntKind.u32.wrap (n0 : Int) = (t.nm : Int) := by rw [IntKind.wrap_u32]; omega
  have c2 : bits .and .u64 ((n0 : Int) / 68719476736) 15 = t.bd := by
    have := and15_u64 (n0 / 68719476736) (by omega)
    rw [Int.natCast_ediv] at this
    rw [show (((68719476736 : Nat)) : Int) = 68719476736 by rfl] at this
    rw [this]
    omega
  have c3 : bits .and .u64 ((n0 : Int) / 4294967296) 15 = t.ty := by
    have := and15_u64 (n0 / 4294967296) (by omega)
    rw [Int.natCast_ediv] at this
    rw [show (((4294967296 : Nat)) : Int) = 4294967296 by rfl] at this
    rw [this]
    omega
  have c4 : IntKind.u8.wrap ((n0 : Int) / 1099511627776) = t.ot := by rw [IntKind.wrap_u8]; omega
  have c5 : (n0 : Int) / 281474976710656 = t.se := by omega
  have k1 : (off : Int) + 8 = ((off + 8 : Nat) : Int) := by omega
  have k2 : (off : Int) + 16 = ((off + 16 : Nat) : Int) := by omega
  obtain ⟨p1, hp1⟩ : ∃ p : Nat, off + 8 = p := ⟨_, rfl⟩
  obtain ⟨p2, hp2⟩ : ∃ p : Nat, off + 16 = p := ⟨_, rfl⟩
  rw [hp1] at U1 k1
  rw [hp2] at U2 k2
  have H0 := hide U0
  have H1 := hide U1
  have H2 := hide U2
  have B0 := hide b0
  have F2 := hide (X0.store t).at
  have G := hide (stSy_below (b := w.heap.size) (o := 0) t b0 (Nat.le_refl _))
  have z0 := X0.at
  have zf := X0.frozen
  clear U0 U1 U2 b0 R0 r E F e0 e1 e2 ht hp1 hp2 hby ok
  obtain ⟨d0, d1, d2, d3, d4, d5, d6⟩ := z0
  simp only [Nat.zero_add] at d0 d1 d2 d3 d4 d5 d6
  have f0 := zf 0
  have f1 := zf 1
  have f2 := zf 2
  have f3 := zf 3
  have f4 := zf 4
  have f5 := zf 5
  have f6 := zf 6
  clear zf
  go_enter Try.func17, Try.ntmps17
  go_upto_region 1 with fail
  clear hW0 X0
  go_upto_region 2 with (go_at_call 24; refine H0.out.mono ?_; rintro e w' ⟨rfl, hw'⟩; rw [hw']; clear hw' w')
  go_upto_region 3 with (go_at_call 24; refine H1.out.mono ?_; rintro e w' ⟨rfl, hw'⟩; rw [hw']; clear hw' w')
  go_upto_region 4 with (go_at_call 24; refine H2.out.mono ?_; rintro e w' ⟨rfl, hw'⟩; rw [hw']; clear hw' w')
  clear H0 H1 H2
  go_wp2
  show bodyPost _ _ _ _ _ (stSy W0 w.heap.size 0 t)
  generalize stSy W0 w.heap.size 0 t = V4 at *
  clear d0 d1 d2 d3 d4 d5 d6 f0 f1 f2 f3 f4 f5 f6
  obtain ⟨d0, d1, d2, d3, d4, d5, d6⟩ := F2.out
  simp only [Nat.zero_add] at d0 d1 d2 d3 d4 d5 d6
  refine bodyPost_ret (v := syV t) (by simp [results, Try.results17, go_sem, syV, d0, d1, d2, d3, d4, d5, d6]) rfl ⟨rfl, G.out⟩

end Go.Proofs.Ytonhahijblnfhaa
