/- Texts of this claim, joined: MemCopy, MemPut, MemGet. -/
import Derived.Test.YtgjfelkbblbjfaaGreatDoorJ01
import Derived.RegionTactic
import Derived.Deep.RegionLaw
import Derived.Deep.DeepCutAuto
/- 'copy' at the operation and as a step of a region that draws: the row behind it, all other blocks kept. -/
namespace Go.Proofs.YtgjfelkbblbjfaaGreatDoor
open Go.RowKit Go.Maps
set_option linter.unusedVariables false
set_option maxRecDepth 100000

theorem kept_setRow (w : World) (g : Nat) (cs : Array Value) : Kept (fun k => k = g) w (w.setRow g cs) := (Kept.refl _ w).setRow g cs (Or.inl rfl)

theorem wpList_copy_kept {P : Program} {w : World} {ops : Array Oper} {rest : List Oper} {o : Oper} {a : Act} {Q : Exit → Act → World → Prop} (hgd : o.guard = none) (d s : Operand) (dT sT : TypeId)
    (ho : o.op = .call { callee := .builtin .copy, args := #[d, s], argTypes := #[dT, sT] }) (elem : TypeId) (hu : P.underlying dT = some (.slice elem)) (hsz : (P.info? elem).map (·.size) = some 1)
    (dp sp : Option Addr) (dLen dCap sLen sCap : Nat) (hd : a.eval d = .slice dp dLen dCap) (hs : a.eval s = .slice sp sLen sCap)
    (g off : Nat) (cur : List Value) (t : TypeId) (hg : w.heap[g]? = some (.cells cur.toArray t (0, 0))) (cs : List Value) (n : Nat) (hn : cs.length = n) (hmin : n = Nat.min sLen dLen)
    (hpos : 0 < n → dp = some ⟨g, off, none⟩ ∧ ∃ ad, sp = some ad ∧ ∀ j v, cs[j]? = some v → w.cell? (ad.add j) = some v)
    (hfit : off + cs.length ≤ cur.length) (h1 : ∀ v ∈ cs, v.oneCell' = true)
    (h : ∀ w', Hid (w'.heap[g]? = some (.cells (splice cur off cs).toArray t (0, 0))) → Hid (Kept (fun k => k = g) w w') → wpList P ops Q rest (a.put o.dst (goInt n)) w') :
    wpList P ops Q (o :: rest) a w := by
  subst hn
  by_cases h0 : cs.length = 0
  · obtain rfl : cs = [] := List.eq_nil_of_length_eq_zero h0
    refine wpList_copy_nothing hgd d s dT sT ho elem hu hsz dp sp dLen dCap sLen sCap hd hs (by simpa using hmin.symm) ?_
    exact h w (show _ = _ by simpa [splice] using hg) (Kept.refl _ _)
  · obtain ⟨rfl, ad, rfl, hsrc⟩ := hpos (by omega)
    refine wpList_copy_own hgd d s dT sT ho elem hu hsz g off dLen dCap ad sLen sCap hd hs cur.toArray t hg cs hmin hsrc (by simpa using hfit) h1 ?_
    exact h _ (show _ = _ by simpa [splice] using setRow_heap w g _ _ t _ hg) (kept_setRow _ _ _)

theorem step_copy_kept {P : Program} {ops : Array Oper} {o : Oper} {a : Act} {w : World} {K : Act → World → Prop} {Q : Exit → Act → World → Prop} {E : Prop} (hgd : o.guard = none) (d s : Operand) (dT sT : TypeId)
    (ho : o.op = .call { callee := .builtin .copy, args := #[d, s], argTypes := #[dT, sT] }) (elem : TypeId) (hu : P.underlying dT = some (.slice elem)) (hsz : (P.info? elem).map (·.size) = some 1)
    (dp sp : Option Addr) (dLen dCap sLen sCap : Nat) (hd : a.eval d = .slice dp dLen dCap) (hs : a.eval s = .slice sp sLen sCap)
    (g off : Nat) (cur : List Value) (t : TypeId) (hg : w.heap[g]? = some (.cells cur.toArray t (0, 0))) (cs : List Value) (n : Nat) (hn : cs.length = n) (hmin : n = Nat.min sLen dLen)
    (hpos : 0 < n → dp = some ⟨g, off, none⟩ ∧ ∃ ad, sp = some ad ∧ ∀ j v, cs[j]? = some v → w.cell? (ad.add j) = some v)
    (hfit : off + cs.length ≤ cur.length) (h1 : ∀ v ∈ cs, v.oneCell' = true)
    (h : ∀ w', Hid (w'.heap[g]? = some (.cells (splice cur off cs).toArray t (0, 0))) → Hid (Kept (fun k => k = g) w w') → K (a.put o.dst (goInt n)) w') :
    if Region.wanted o (yielded ops a.tmps) = true then Oper.wp P o a w K Q else E := by
  have hw : Region.wanted o (yielded ops a.tmps) = true := by simp [Region.wanted, hgd]
  rw [if_pos hw]
  subst hn
  by_cases h0 : cs.length = 0
  · obtain rfl : cs = [] := List.eq_nil_of_length_eq_zero h0
    have hrun := run_copy_none (P := P) w dT sT o.type elem dp sp dLen dCap sLen sCap hu hsz (by simpa using hmin.symm)
    unfold Oper.wp
    simp [execOp, ho, resolve, invoke, builtin, hd, hs, hrun, Result.andThen]
    exact h w (show _ = _ by simpa [splice] using hg) (Kept.refl _ _)
  · obtain ⟨rfl, ad, rfl, hsrc⟩ := hpos (by omega)
    have hrun := run_copy_row (P := P) w dT sT o.type elem g off dLen dCap ad sLen sCap cur.toArray t cs hu hsz hg hmin hsrc (by simpa using hfit) h1
    unfold Oper.wp
    simp [execOp, ho, resolve, invoke, builtin, hd, hs, hrun, Result.andThen]
    exact h _ (show _ = _ by simpa [splice] using setRow_heap w g _ _ t _ hg) (kept_setRow _ _ _)

theorem run_copy_kept (V : World) (ty : TypeId) (g off dLen dCap : Nat) (ad : Addr) (sLen sCap : Nat) (cur : List Value) (t : TypeId) (hg : V.heap[g]? = some (.cells cur.toArray t (0, 0))) (cs : List Value) (n : Nat) (hn : cs.length = n) (hmin : n = Nat.min sLen dLen)
    (hsrc : ∀ j v, cs[j]? = some v → V.cell? (ad.add j) = some v) (hfit : off + cs.length ≤ cur.length) (h1 : ∀ v ∈ cs, v.oneCell' = true) :
    ∃ W, Sem.run Tryz.prog (Builtin.copy_ #[24, 24] ty #[.slice (some ⟨g, off, none⟩) dLen dCap, .slice (some ad) sLen sCap]) V = .ok (.int .i64 (n : Int)) W ∧
      Hid (W.heap[g]? = some (.cells (splice cur off cs).toArray t (0, 0))) ∧ Hid (Kept (fun k => k = g) V W) := by
  subst hn
  have hrun := run_copy_row (P := Tryz.prog) V 24 24 ty 5 g off dLen dCap ad sLen sCap cur.toArray t cs Tryz.underlying24 Tryz.size8 hg hmin hsrc (by simpa using hfit) h1
  exact ⟨_, hrun, (show _ = _ by simpa [splice] using setRow_heap V g _ _ t _ hg), kept_setRow _ _ _⟩

/-- The first n of the bytes that are read, as cells. -/
theorem Rd.firsts {w : World} {a : Option Addr} {len cap : Nat} {bs : List Int} (r : Rd w a len cap bs) (n : Nat) (hn : n ≤ len) (h0 : 0 < n) :
    ∃ ad, a = some ad ∧ ∀ j v, ((bs.take n).map (Value.int .u8))[j]? = some v → w.cell? (ad.add j) = some v := by
  obtain ⟨b, o, rfl, hc⟩ := r.addr (by omega)
  refine ⟨_, rfl, fun j v hv => ?_⟩
  refine r.cells _ rfl j v ?_
  rw [List.map_take, List.getElem?_take] at hv
  split at hv
  · exact hv
  · cases hv

/-- How long a slice is: a loop's measure. -/
def slen : Value → Nat
  | .slice _ n _ => n
  | _ => 0

/-- A page of noughts. -/
def noughtRow : Array Value := madeCells #[.int .u8 0] 4096

theorem make4096 (w : World) : Sem.run Tryz.prog (Instr.makeSlice 24 (.int .i64 4096) (.int .i64 4096)) w = .ok (.slice (some ⟨w.heap.size, 0, none⟩) 4096 4096) (w.alloc (.cells noughtRow 5)) := by
  obtain ⟨i0, hi, hz0, hz1, hz2⟩ := info_parts Tryz.info8
  have hmk := run_make (P := Tryz.prog) w 24 5 i0 (.int .u8 0) Tryz.underlying24 hi hz0 .i64 .i64 4096 4096 (by omega) (by omega) (by rw [hz2]; decide) (by omega)
  rw [hz1] at hmk
  exact hmk

theorem noughtRow_size : noughtRow.toList.length = 4096 := by simp [noughtRow, madeCells]
theorem noughtRow_at (j : Nat) (h : j < 4096) : noughtRow.toList[j]? = some (.int .u8 0) := by
  unfold noughtRow madeCells
  simp [h, Nat.mod_one]

/-- A new page's bytes: a row of noughts. -/
def IsNought (Z : List Value) : Prop := (∀ w, Sem.run Tryz.prog (Instr.makeSlice 24 (.int .i64 4096) (.int .i64 4096)) w = .ok (.slice (some ⟨w.heap.size, 0, none⟩) 4096 4096) (w.alloc (.cells Z.toArray 5))) ∧
    Z.length = 4096 ∧ ∀ j, j < 4096 → Z[j]? = some (.int .u8 0)

theorem nought_of (Y : Array Value) (h1 : ∀ w, Sem.run Tryz.prog (Instr.makeSlice 24 (.int .i64 4096) (.int .i64 4096)) w = .ok (.slice (some ⟨w.heap.size, 0, none⟩) 4096 4096) (w.alloc (.cells Y 5)))
    (h2 : Y.toList.length = 4096) (h3 : ∀ j, j < 4096 → Y.toList[j]? = some (.int .u8 0)) : ∃ Z, IsNought Z := by
  obtain ⟨l⟩ := Y
  exact ⟨l, h1, h2, h3⟩

theorem page_nought : ∃ Z, IsNought Z := nought_of noughtRow make4096 noughtRow_size noughtRow_at

theorem eqNil0 (w : World) : (binOp .eql 24 (.slice none 0 0) (.slice none 0 0)).run Tryz.prog w = .ok (.bool true) w := by kernel_rfl
theorem eqNil1 (g : Nat) (w : World) : (binOp .eql 24 (.slice (some ⟨g, 0, none⟩) 4096 4096) (.slice none 0 0)).run Tryz.prog w = .ok (.bool false) w := by kernel_rfl
theorem neqNil0 (w : World) : (binOp .neq 24 (.slice none 0 0) (.slice none 0 0)).run Tryz.prog w = .ok (.bool false) w := by kernel_rfl
theorem neqNil1 (g : Nat) (w : World) : (binOp .neq 24 (.slice (some ⟨g, 0, none⟩) 4096 4096) (.slice none 0 0)).run Tryz.prog w = .ok (.bool true) w := by kernel_rfl

end Go.Proofs.YtgjfelkbblbjfaaGreatDoor

/- The contract of package mem's put. -/
namespace Go.Proofs.YtgjfelkbblbjfaaGreatDoor
open Go.RowKit Go.Maps
set_option linter.unusedVariables false
set_option maxRecDepth 100000

set_option maxHeartbeats 3200000 in
theorem mput_any (m : Nat) (S : Mm) (F : Nat → Prop) (a0 : Nat) (a : Option Addr) (len cap : Nat) (bs : List Int) (w : World) (h : PM w m S F) (ha : a0 ≤ 18446744073709551615) (r : Rd w a len cap bs)
    (hsep : 0 < len → ∀ x, a = some x → ¬ F x.block) (hpg : ∀ i, a0 / 4096 ≤ i → i * 4096 < a0 + len → 0 < len → S.perm i ≠ 0) :
    Calls Tryz.prog 36 #[.pointer (some ⟨m, 0, none⟩), .int .u64 (a0 : Int), .slice a len cap] w fun e w' =>
      e = .returned (.tuple #[]) ∧ ∃ F', PM w' m (S.lay a0 bs) F' ∧ Went F w F' w' := by
  have HM := hide h
  have HR := hide r
  have HS := hide hsep
  have HG := hide hpg
  have hlen := r.length
  have hle := r.le
  have hmx := r.max
  clear h r hsep hpg
  go_enter Tryz.func36, Tryz.ntmps36
  go_wp2
  go_loopw [1, 2] (fun va vb wr => ∃ (k L A c' : Nat) (a' : Option Addr) (F' : Nat → Prop), k + L = len ∧ A = a0 + k ∧ va = .int .u64 (A : Int) ∧ vb = .slice a' L c' ∧ Rd w a' L c' (bs.drop k) ∧ (0 < L → ∀ x, a' = some x → ¬ F x.block) ∧
      PM wr m (S.lay a0 (bs.take k)) F' ∧ Went F w F' wr) (fun _ vb _ => slen vb)
  case atStart => exact ⟨0, len, a0, cap, a, F, by omega, by omega, rfl, rfl, HR.out, HS.out, by rw [List.take_zero, Mm.lay_nil]; exact HM.out, Went.refl _ _⟩
  case round =>
    obtain ⟨k, L, A, c', a', F', hkL, hA, rfl, rfl, r, hs, hP, hW⟩ := hrel
    by_cases hL : L = 0
    · subst hL
      have HP := hide hP
      have HW := hide hW
      clear hP hW
      go_wp2
      go_end0
      obtain rfl : k = len := by omega
      refine ⟨rfl, F', ?_, HW.out⟩
      have := HP.out
      rwa [List.take_of_length_le (by omega)] at this
    · have hperm : S.perm (A / 4096) ≠ 0 := HG.out _ (by omega) (by omega) (by omega)
      obtain ⟨b, dt, hX⟩ := hP
      obtain ⟨i, hi⟩ : ∃ i, i = A / 4096 := ⟨_, rfl⟩
      obtain ⟨off, hoff⟩ : ∃ off, off = A % 4096 := ⟨_, rfl⟩
      have hi' : (A : Int) / 4096 = (i : Int) := by omega
      have ho' : (A : Int) % 4096 = (off : Int) := by omega
      have ho4 : off < 4096 := by omega
      have hA2 : A = i * 4096 + off := by omega
      have hiL : i < 34359738368 := by
        have h1 := hX.good.top i
        have h2 : S.perm i ≠ 0 := by rw [hi]; exact hperm
        apply Nat.lt_of_not_le; intro h3
        exact h2 (h1 h3)
      have hc := hX.cell
      have hlk := hX.look i (by omega)
      rw [← hi] at hperm
      simp only [pv, Mm.lay] at hlk
      obtain ⟨q, hq⟩ : ∃ q, q = S.perm i := ⟨_, rfl⟩
      rw [← hq] at hlk
      have HQ := hide hq
      have HX := hide hX
      have HW := hide hW
      have HI := hide hi
      have HO := hide hoff
      have HA := hide hA
      have HA2 := hide hA2
      have HR2 := hide r
      have HS2 := hide hs
      have HPe := hide hperm
      have hAb : A < 140737488355328 := by omega
      have hmb : m < wr.heap.size := hX.flt m hX.fm
      clear hX hW hi hoff hA hA2 r hs hperm hq
      have he0 := eqNil0
      have he1 := eqNil1
      cases hd : dt i with
      | none =>
        have HD := hide hd
        rw [hd] at hlk
        simp only [dsl] at hlk
        clear hd
        obtain ⟨Z, hmk, hZl, hZa⟩ := page_nought
        have HZl := hide hZl
        have HZa := hide hZa
        clear hZl hZa
        go_upto_region 5 with fail
        obtain ⟨P, hP⟩ : ∃ P, P = wr.heap.size := ⟨_, rfl⟩
        obtain ⟨g, hg⟩ : ∃ g, g = wr.heap.size + 1 := ⟨_, rfl⟩
        rw [← hg, ← hP]
        obtain ⟨U, hU⟩ : ∃ U, U = (wr.alloc (.cells #[.int .i64 q, .slice (some ⟨g, 0, none⟩) 4096 4096] 85)).alloc (.cells Z.toArray 5) := ⟨_, rfl⟩
        rw [← hU]
        have hcP0 : U.cell? ⟨P, 0, none⟩ = some (.int .i64 q) := by rw [hU, hP]; go_simp
        have hcP1 : U.cell? ⟨P, 1, none⟩ = some (.slice (some ⟨g, 0, none⟩) 4096 4096) := by rw [hU, hP]; go_simp
        have hKU : Kept (fun _ => False) wr U := by rw [hU]; exact ((Kept.refl _ _).alloc _).alloc _
        have HXU : Hid (PMx U m b dt (S.lay a0 (bs.take k)) F') := HX.out.kept hKU (fun _ _ h => h)
        have HgU : Hid (U.heap[g]? = some (.cells Z.toArray 5 (0, 0))) := by
          rw [hU, hg]
          have := heap_alloc_new (wr.alloc (.cells #[.int .i64 q, .slice (some ⟨wr.heap.size + 1, 0, none⟩) 4096 4096] 85)) (.cells Z.toArray 5)
          rw [show (wr.alloc (.cells #[.int .i64 q, .slice (some ⟨wr.heap.size + 1, 0, none⟩) 4096 4096] 85)).heap.size = wr.heap.size + 1 by simp] at this
          exact this
        have hgF : ¬ F' g := fun h => by have := HX.out.flt g h; omega
        have hcU := HXU.out.cell
        have HWU : Hid (Went F w F' U) := HW.out.trans ⟨hKU.mono (fun _ h => h.elim), fun k hk => Or.inl hk⟩
        have hgw : w.heap.size ≤ g := by have := HW.out.1.size; omega
        have HGF := hide hgF
        have hPb : P ≠ b := by have := HX.out.map.lt; omega
        have hmap : MapAt U.drew b (S.lay a0 (bs.take k)).count (fun j => if (S.lay a0 (bs.take k)).perm j = 0 then none else some (pv ((S.lay a0 (bs.take k)).perm j) (dt j))) := HXU.out.map.kept rfl
        obtain ⟨V, hrun, hm2, hgr, hsz⟩ := hmap.store (t := 77) Tryz.underlying77 (by have := HX.out.good.count; unfold maxLen; omega) i (by omega) (.agg #[.int .i64 q, .slice (some ⟨g, 0, none⟩) 4096 4096])
        have HM2 := hide hm2
        have HGr := hide hgr
        clear hmap hm2 hgr hKU hgF hU hP hmk hsz hmb hg
        go_region
        have hgb : g ≠ b := fun e => by subst e; exact HXU.out.map.noCells HgU.out
        have HKV : Hid (Kept (fun k => k = b) U V) := ⟨HGr.out.os, HGr.out.tape, HGr.out.output, HGr.out.size, fun k hk hn => HGr.out.block k hk (fun e => hn (Option.some.inj e))⟩
        have hcP : V.cell? ⟨P, 1, none⟩ = some (.slice (some ⟨g, 0, none⟩) 4096 4096) := HKV.out.cell hcP1 hPb
        obtain ⟨dtV, hdV⟩ : ∃ dtV : Nat → Option Nat, dtV = fun j => if j = i then some g else dt j := ⟨_, rfl⟩
        obtain ⟨FV, hFV⟩ : ∃ FV : Nat → Prop, FV = fun k => F' k ∨ k = g := ⟨_, rfl⟩
        have HDV : Hid (dtV i = some g) := by rw [hdV]; simp [Hid]
        have HXV : Hid (PMx V m b dtV (S.lay a0 (bs.take k)) FV) := by
          rw [hdV, hFV]
          have hpp : (S.lay a0 (bs.take k)).perm i ≠ 0 := HPe.out
          refine HXU.out.gave (cs := Z) hpp HD.out HGF.out ?_ ?_ HZl.out HZa.out HKV.out
          · have h9 := HM2.out
            rw [if_neg hpp] at h9
            simp only [Option.isSome_some, if_true] at h9
            have e9 : pv ((S.lay a0 (bs.take k)).perm i) (some g) = .agg #[.int .i64 q, .slice (some ⟨g, 0, none⟩) 4096 4096] := by rw [HQ.out]; rfl
            rw [e9]; exact h9
          · rw [HKV.out.block g (Array.getElem?_eq_some_iff.1 HgU.out).1 hgb]
            exact HgU.out
        have HWV : Hid (Went F w FV V) := ⟨HWU.out.1.trans HKV.out (fun k hk => HWU.out.2 k (by subst hk; exact HXU.out.fb)), fun k hk => by
          rw [hFV] at hk
          rcases hk with hk | hk
          · exact HWU.out.2 k hk
          · subst hk; exact Or.inr hgw⟩
        clear hdV hFV HM2 HGr HKV HXU HWU HgU hcP0 hcP1 hcU hrun hc HGF

        obtain ⟨Lr, hLr, hLl, hLb⟩ := (HXV.out.page i g HDV.out)
        have HL := hide hLr
        have hLl' := hLl
        clear hLr hLb
        obtain ⟨bb, oo, ha', hcc⟩ := HR2.out.addr (by omega)
        subst ha'
        have HRV : Hid (Rd V (some ⟨bb, oo, none⟩) L c' (bs.drop k)) := HWV.out.1.rd HR2.out HS2.out
        clear hcc
        obtain ⟨n, hn⟩ : ∃ n, n = Nat.min L (4096 - off) := ⟨_, rfl⟩
        have hnL : n ≤ L := by rw [hn]; exact Nat.min_le_left _ _
        have hn4 : off + n ≤ 4096 := by have : n ≤ 4096 - off := by rw [hn]; exact Nat.min_le_right _ _
                                        omega
        have hn0 : 0 < n := by rw [hn]; exact Nat.lt_min.2 ⟨by omega, by omega⟩
        have hLc := HR2.out.le
        have hcm := HR2.out.max
        obtain ⟨X, hX⟩ : ∃ X, X = ((bs.drop k).take n).map (Value.int .u8) := ⟨_, rfl⟩
        have hXl : X.length = n := by rw [hX]; simp; omega
        have HX1 := hide hX
        have HN := hide hn
        have HXl := hide hXl
        have HPos : Hid (∃ ad, some (⟨bb, oo, none⟩ : Addr) = some ad ∧ ∀ j v, X[j]? = some v → V.cell? (ad.add j) = some v) := by rw [hX]; exact HRV.out.firsts n hnL hn0
        have HOne : Hid (∀ v ∈ X, v.oneCell' = true) := by rw [hX]; exact ints_oneCell _ _
        have hnd : n = Nat.min L (4096 - off) := hn
        clear hX hn hXl
        have HND := hide hnd
        clear hnd
        have hsz : V.heap.size = V.heap.size := rfl
        clear HX HW HM HS HR hlk hsz
        obtain ⟨ad, hade, hadc⟩ := HPos.out
        cases hade
        obtain ⟨w6, hcp6, HG6, HK6⟩ := run_copy_kept V 3 g off (4096 - off) (4096 - off) ⟨bb, oo, none⟩ L c' Lr 5 HL.out X n HXl.out HND.out hadc (by rw [HXl.out, hLl']; exact hn4) HOne.out
        clear hadc HPos
        have HX6 : Hid (PMx w6 m b dtV (S.lay a0 (bs.take (k + n))) FV) := by
          have h9 := HXV.out.laid (cs := (bs.drop k).take n) (off := off) HDV.out (by simp; omega) (HR2.out.bytes.take n) HL.out (by rw [← HX1.out]; exact HG6.out) HK6.out
          rw [← HA2.out, HA.out] at h9
          have e1 : (bs.take k).length = k := by simp; omega
          have e2 := Mm.lay_more S a0 (bs.take k) ((bs.drop k).take n)
          rw [e1] at e2
          rw [e2] at h9
          have e3 : bs.take k ++ (bs.drop k).take n = bs.take (k + n) := by rw [List.take_add]
          rwa [e3] at h9
        have HW6 : Hid (Went F w FV w6) := HWV.out.trans ⟨HK6.out.mono (fun k hk => by subst hk; exact HXV.out.fg i _ HDV.out), fun k hk => Or.inl hk⟩
        clear HG6 HK6 HXV HWV HL HXl HOne HX1 hLl' hLl
        by_cases hcn : c' = n
        · subst hcn
          go_wp2
          go_roundw
          case rel => exact ⟨k + c', L - c', A + c', 0, _, FV, by omega, by rw [HA.out]; omega, by go_num, by go_num, by
            obtain rfl : L = c' := by omega
            have h9 := HR2.out.part_end L (L - L) (by omega) rfl
            rw [List.drop_drop] at h9
            exact ⟨by simp; omega, by omega, by omega, by rw [List.drop_eq_nil_of_le (by omega)]; exact Bytes.nil, fun _ => rfl, fun x hx i hi => by omega⟩, fun _ => HS2.out (by omega), ⟨b, dtV, HX6.out⟩, HW6.out⟩
          case measure => simp [slen]; omega
        · go_wp2
          go_roundw
          case rel =>
            refine ⟨k + n, L - n, A + n, c' - n, some ⟨bb, oo + n, none⟩, FV, by omega, by rw [HA.out]; omega, by go_num, by go_num, ?_, ?_, ⟨b, dtV, HX6.out⟩, HW6.out⟩
            · have h9 := HR2.out.part n (L - n) (by omega)
              have e4 : ((bs.drop k).drop n).take (L - n) = bs.drop (k + n) := by rw [List.drop_drop, List.take_of_length_le (by simp; omega)]
              rw [e4, show (⟨bb, oo, none⟩ : Addr).add n = ⟨bb, oo + n, none⟩ by unfold Addr.add; split <;> simp_all] at h9
              exact h9
            · intro _ x hx
              cases hx
              exact HS2.out (by omega) ⟨bb, oo, none⟩ rfl
          case measure => simp [slen]; omega

      | some g =>
        have HD := hide hd
        rw [hd] at hlk
        simp only [dsl] at hlk
        clear hd
        go_upto_region 6 with fail
        obtain ⟨P, hP⟩ : ∃ P, P = wr.heap.size := ⟨_, rfl⟩
        rw [← hP]
        obtain ⟨V, hV⟩ : ∃ V, V = wr.alloc (.cells #[.int .i64 q, .slice (some ⟨g, 0, none⟩) 4096 4096] 85) := ⟨_, rfl⟩
        rw [← hV]
        have hcP : V.cell? ⟨P, 1, none⟩ = some (.slice (some ⟨g, 0, none⟩) 4096 4096) := by rw [hV, hP]; go_simp
        have hKV : Kept (fun _ => False) wr V := by rw [hV]; exact (Kept.refl _ _).alloc _
        obtain ⟨dtV, hdV⟩ : ∃ dtV : Nat → Option Nat, dtV = dt := ⟨_, rfl⟩
        obtain ⟨FV, hFV⟩ : ∃ FV : Nat → Prop, FV = F' := ⟨_, rfl⟩
        have HDV : Hid (dtV i = some g) := by rw [hdV]; exact HD.out
        have HXV : Hid (PMx V m b dtV (S.lay a0 (bs.take k)) FV) := by rw [hdV, hFV]; exact HX.out.kept hKV (fun _ _ h => h)
        have HWV : Hid (Went F w FV V) := by rw [hFV]; exact HW.out.trans ⟨hKV.mono (fun _ h => h.elim), fun k hk => Or.inl hk⟩
        clear hdV hFV hKV hV hP hc HD hmb

        obtain ⟨Lr, hLr, hLl, hLb⟩ := (HXV.out.page i g HDV.out)
        have HL := hide hLr
        have hLl' := hLl
        clear hLr hLb
        obtain ⟨bb, oo, ha', hcc⟩ := HR2.out.addr (by omega)
        subst ha'
        have HRV : Hid (Rd V (some ⟨bb, oo, none⟩) L c' (bs.drop k)) := HWV.out.1.rd HR2.out HS2.out
        clear hcc
        obtain ⟨n, hn⟩ : ∃ n, n = Nat.min L (4096 - off) := ⟨_, rfl⟩
        have hnL : n ≤ L := by rw [hn]; exact Nat.min_le_left _ _
        have hn4 : off + n ≤ 4096 := by have : n ≤ 4096 - off := by rw [hn]; exact Nat.min_le_right _ _
                                        omega
        have hn0 : 0 < n := by rw [hn]; exact Nat.lt_min.2 ⟨by omega, by omega⟩
        have hLc := HR2.out.le
        have hcm := HR2.out.max
        obtain ⟨X, hX⟩ : ∃ X, X = ((bs.drop k).take n).map (Value.int .u8) := ⟨_, rfl⟩
        have hXl : X.length = n := by rw [hX]; simp; omega
        have HX1 := hide hX
        have HN := hide hn
        have HXl := hide hXl
        have HPos : Hid (∃ ad, some (⟨bb, oo, none⟩ : Addr) = some ad ∧ ∀ j v, X[j]? = some v → V.cell? (ad.add j) = some v) := by rw [hX]; exact HRV.out.firsts n hnL hn0
        have HOne : Hid (∀ v ∈ X, v.oneCell' = true) := by rw [hX]; exact ints_oneCell _ _
        have hnd : n = Nat.min L (4096 - off) := hn
        clear hX hn hXl
        have HND := hide hnd
        clear hnd
        have hsz : V.heap.size = V.heap.size := rfl
        clear HX HW HM HS HR hlk hsz
        obtain ⟨ad, hade, hadc⟩ := HPos.out
        cases hade
        obtain ⟨w6, hcp6, HG6, HK6⟩ := run_copy_kept V 3 g off (4096 - off) (4096 - off) ⟨bb, oo, none⟩ L c' Lr 5 HL.out X n HXl.out HND.out hadc (by rw [HXl.out, hLl']; exact hn4) HOne.out
        clear hadc HPos
        have HX6 : Hid (PMx w6 m b dtV (S.lay a0 (bs.take (k + n))) FV) := by
          have h9 := HXV.out.laid (cs := (bs.drop k).take n) (off := off) HDV.out (by simp; omega) (HR2.out.bytes.take n) HL.out (by rw [← HX1.out]; exact HG6.out) HK6.out
          rw [← HA2.out, HA.out] at h9
          have e1 : (bs.take k).length = k := by simp; omega
          have e2 := Mm.lay_more S a0 (bs.take k) ((bs.drop k).take n)
          rw [e1] at e2
          rw [e2] at h9
          have e3 : bs.take k ++ (bs.drop k).take n = bs.take (k + n) := by rw [List.take_add]
          rwa [e3] at h9
        have HW6 : Hid (Went F w FV w6) := HWV.out.trans ⟨HK6.out.mono (fun k hk => by subst hk; exact HXV.out.fg i _ HDV.out), fun k hk => Or.inl hk⟩
        clear HG6 HK6 HXV HWV HL HXl HOne HX1 hLl' hLl
        by_cases hcn : c' = n
        · subst hcn
          go_wp2
          go_roundw
          case rel => exact ⟨k + c', L - c', A + c', 0, _, FV, by omega, by rw [HA.out]; omega, by go_num, by go_num, by
            obtain rfl : L = c' := by omega
            have h9 := HR2.out.part_end L (L - L) (by omega) rfl
            rw [List.drop_drop] at h9
            exact ⟨by simp; omega, by omega, by omega, by rw [List.drop_eq_nil_of_le (by omega)]; exact Bytes.nil, fun _ => rfl, fun x hx i hi => by omega⟩, fun _ => HS2.out (by omega), ⟨b, dtV, HX6.out⟩, HW6.out⟩
          case measure => simp [slen]; omega
        · go_wp2
          go_roundw
          case rel =>
            refine ⟨k + n, L - n, A + n, c' - n, some ⟨bb, oo + n, none⟩, FV, by omega, by rw [HA.out]; omega, by go_num, by go_num, ?_, ?_, ⟨b, dtV, HX6.out⟩, HW6.out⟩
            · have h9 := HR2.out.part n (L - n) (by omega)
              have e4 : ((bs.drop k).drop n).take (L - n) = bs.drop (k + n) := by rw [List.drop_drop, List.take_of_length_le (by simp; omega)]
              rw [e4, show (⟨bb, oo, none⟩ : Addr).add n = ⟨bb, oo + n, none⟩ by unfold Addr.add; split <;> simp_all] at h9
              exact h9
            · intro _ x hx
              cases hx
              exact HS2.out (by omega) ⟨bb, oo, none⟩ rfl
          case measure => simp [slen]; omega


end Go.Proofs.YtgjfelkbblbjfaaGreatDoor

/- The contract of package mem's get. -/
namespace Go.Proofs.YtgjfelkbblbjfaaGreatDoor
open Go.RowKit Go.Maps
set_option linter.unusedVariables false
set_option maxRecDepth 100000

/-- The n bytes from a on. -/
def Mm.read (S : Mm) (a n : Nat) : List Int := (List.range n).map fun j => S.byte (a + j)
theorem Mm.read_length (S : Mm) (a n : Nat) : (S.read a n).length = n := by simp [Mm.read]
theorem Mm.read_at (S : Mm) (a n j : Nat) (h : j < n) : (S.read a n)[j]? = some (S.byte (a + j)) := by simp [Mm.read, h]
theorem Mm.read_bytes {S : Mm} (h : S.Good) (a n : Nat) : Bytes (S.read a n) := fun x hx => by
  simp [Mm.read] at hx
  obtain ⟨j, _, rfl⟩ := hx
  exact h.byte _

/-- A row whose first k cells are the bytes from a on, the others those of row. -/
def Filled (R row : List Value) (S : Mm) (a k : Nat) : Prop := R.length = row.length ∧ ∀ j, R[j]? = if j < k then some (.int .u8 (S.byte (a + j))) else row[j]?

theorem Filled.zero (row : List Value) (S : Mm) (a : Nat) : Filled row row S a 0 := ⟨rfl, fun j => by simp⟩

theorem Filled.splice {R row : List Value} {S : Mm} {a k n : Nat} (h : Filled R row S a k) (hk : k + n ≤ row.length) {X : List Value} (hX : X = (S.read (a + k) n).map (Value.int .u8)) : Filled (Go.splice R k X) row S a (k + n) := by
  have hl : X.length = n := by rw [hX]; simp [Mm.read_length]
  have hR := h.1
  refine ⟨by rw [length_splice _ _ _ (by omega)]; exact hR, fun j => ?_⟩
  rw [splice_get _ _ _ (by omega), hl]
  by_cases h1 : k ≤ j ∧ j < k + n
  · rw [if_pos h1, if_pos (by omega), hX, List.getElem?_map, Mm.read_at _ _ _ _ (by omega)]
    simp
    congr 1; omega
  · rw [if_neg h1, h.2 j]
    by_cases h2 : j < k
    · rw [if_pos h2, if_pos (by omega)]
    · rw [if_neg h2, if_neg (by omega)]

theorem Filled.skip {R row : List Value} {S : Mm} {a k n : Nat} (h : Filled R row S a k) (hz : ∀ j, k ≤ j → j < k + n → row[j]? = some (.int .u8 0)) (hb : ∀ j, k ≤ j → j < k + n → S.byte (a + j) = 0) : Filled R row S a (k + n) := by
  refine ⟨h.1, fun j => ?_⟩
  rw [h.2 j]
  by_cases h2 : j < k
  · rw [if_pos h2, if_pos (by omega)]
  · rw [if_neg h2]
    by_cases h3 : j < k + n
    · rw [if_pos h3, hz j (by omega) h3, hb j (by omega) h3]
    · rw [if_neg h3]

theorem Page.cellsAt {w : World} {g i : Nat} {S : Mm} (h : Page w g S i) (off n : Nat) (hn : off + n ≤ 4096) {A : Nat} (hA : A = i * 4096 + off) :
    ∀ j v, ((S.read A n).map (Value.int .u8))[j]? = some v → w.cell? ((⟨g, off, none⟩ : Addr).add j) = some v := by
  obtain ⟨cs, h1, h2, h3⟩ := h
  intro j v hv
  have e : (⟨g, off, none⟩ : Addr).add j = ⟨g, off + j, none⟩ := by unfold Addr.add; split <;> simp_all
  rw [e, cell_of_row _ _ _ _ _ _ h1]
  have hj : j < n := by
    apply Nat.lt_of_not_le; intro h9
    rw [List.getElem?_eq_none (by simp [Mm.read_length]; omega)] at hv
    cases hv
  rw [List.getElem?_map, Mm.read_at _ _ _ _ hj] at hv
  simp at hv
  subst hv
  have := h3 (off + j) (by omega)
  rw [show i * 4096 + (off + j) = A + j by omega] at this
  simpa using this

set_option maxHeartbeats 3200000 in
theorem get_fills (m : Nat) (S : Mm) (F : Nat → Prop) (a0 O len cap : Nat) (t : TypeId) (row : List Value) (w : World) (h : PM w m S F) (ha : a0 ≤ 18446744073709551615)
    (hO : w.heap[O]? = some (.cells row.toArray t (0, 0))) (hF : ¬ F O) (hlc : len ≤ cap) (hcm : cap ≤ 9223372036854775807) (hrow : len ≤ row.length) (hz : ∀ j, j < len → row[j]? = some (.int .u8 0))
    (hpg : ∀ i, a0 / 4096 ≤ i → i * 4096 < a0 + len → 0 < len → S.perm i ≠ 0) :
    Calls Tryz.prog 42 #[.pointer (some ⟨m, 0, none⟩), .int .u64 (a0 : Int), .slice (some ⟨O, 0, none⟩) len cap] w fun e w' =>
      e = .returned (.tuple #[]) ∧ (∃ R : List Value, w'.heap[O]? = some (.cells R.toArray t (0, 0)) ∧ Filled R row S a0 len) ∧ Kept (fun k => k = O) w w' := by
  have HM := hide h
  have HO := hide hO
  have HF := hide hF
  have HZ := hide hz
  have HG := hide hpg
  clear h hO hF hz hpg
  go_enter Tryz.func42, Tryz.ntmps42
  go_wp2
  go_loopw [1, 2] (fun va vb wr => ∃ (k L A c' : Nat) (a' : Option Addr) (R : List Value), k + L = len ∧ A = a0 + k ∧ va = .int .u64 (A : Int) ∧ vb = .slice a' L c' ∧ (0 < L → a' = some ⟨O, k, none⟩) ∧ L ≤ c' ∧ c' ≤ 9223372036854775807 ∧
      wr.heap[O]? = some (.cells R.toArray t (0, 0)) ∧ Filled R row S a0 k ∧ Kept (fun k => k = O) w wr) (fun _ vb _ => slen vb)
  case atStart => exact ⟨0, len, a0, cap, _, row, by omega, by omega, rfl, rfl, fun _ => rfl, hlc, hcm, HO.out, Filled.zero _ _ _, Kept.refl _ _⟩
  case round =>
    obtain ⟨k, L, A, c', a', R, hkL, hA, rfl, rfl, ha', hLc, hc9, hR, hfi, hK⟩ := hrel
    have HR := hide hR
    have HFi := hide hfi
    have HK := hide hK
    clear hR hfi hK
    by_cases hL : L = 0
    · subst hL
      go_wp2
      go_end0
      obtain rfl : k = len := by omega
      exact ⟨rfl, ⟨R, HR.out, HFi.out⟩, HK.out⟩
    · obtain rfl := ha' (by omega)
      clear ha'
      have hperm : S.perm (A / 4096) ≠ 0 := HG.out _ (by omega) (by omega) (by omega)
      obtain ⟨b, dt, hX⟩ := HM.out.kept HK.out (fun k hk e => by subst e; exact HF.out hk)
      obtain ⟨i, hi⟩ : ∃ i, i = A / 4096 := ⟨_, rfl⟩
      obtain ⟨off, hoff⟩ : ∃ off, off = A % 4096 := ⟨_, rfl⟩
      have hi' : (A : Int) / 4096 = (i : Int) := by omega
      have ho' : (A : Int) % 4096 = (off : Int) := by omega
      have ho4 : off < 4096 := by omega
      have hA2 : A = i * 4096 + off := by omega
      have hiL : i < 34359738368 := by
        have h1 := hX.good.top i
        have h2 : S.perm i ≠ 0 := by rw [hi]; exact hperm
        apply Nat.lt_of_not_le; intro h3
        exact h2 (h1 h3)
      have hc := hX.cell
      have hlk := hX.look i (by omega)
      rw [← hi] at hperm
      simp only [pv] at hlk
      obtain ⟨q, hq⟩ : ∃ q, q = S.perm i := ⟨_, rfl⟩
      rw [← hq] at hlk
      have hAb : A < 140737488355328 := by omega
      have HX := hide hX
      have HI := hide hi
      have HOf := hide hoff
      have HA := hide hA
      have HA2 := hide hA2
      have HPe := hide hperm
      clear hX hi hoff hA hA2 hperm hq
      have hn0 := neqNil0
      have hn1 := neqNil1
      have hf1 := field1
      obtain ⟨n, hn⟩ : ∃ n, n = Nat.min L (4096 - off) := ⟨_, rfl⟩
      have hnL : n ≤ L := by rw [hn]; exact Nat.min_le_left _ _
      have hn4 : off + n ≤ 4096 := by have : n ≤ 4096 - off := by rw [hn]; exact Nat.min_le_right _ _
                                      omega
      have hn00 : 0 < n := by rw [hn]; exact Nat.lt_min.2 ⟨by omega, by omega⟩
      have HN := hide hn
      clear hn
      have hif : (if 4096 - (off : Int) < (L : Int) then 4096 - (off : Int) else (L : Int)) = (n : Int) := by
        have h9 : n = min L (4096 - off) := HN.out
        split <;> omega
      cases hd : dt i with
      | none =>
        have HD := hide hd
        rw [hd] at hlk
        simp only [dsl] at hlk
        clear hd
        go_upto_region 6 with fail
        obtain ⟨R6, hR6⟩ : ∃ R6, R6 = R := ⟨_, rfl⟩
        have HR6 : Hid (wr.heap[O]? = some (.cells R6.toArray t (0, 0))) := by rw [hR6]; exact HR.out
        have HF6 : Hid (Filled R6 row S a0 (k + n)) := by
          rw [hR6]
          refine HFi.out.skip (fun j h1 h2 => HZ.out j (by omega)) (fun j h1 h2 => ?_)
          have h9 := HX.out.noughts i HPe.out HD.out (off + (j - k)) (by omega)
          rw [show i * 4096 + (off + (j - k)) = a0 + j by have := HA.out; have := HA2.out; omega] at h9
          exact h9
        have HK6 := HK
        clear hR6 HX HR HFi HK HM hlk hc hif
        by_cases hcn : c' = n
        · subst hcn
          go_wp2
          go_roundw
          case rel =>
            have hz9 : L - c' = 0 := by omega
            refine ⟨k + c', L - c', A + c', 0, some ⟨O, k, none⟩, R6, by omega, by rw [HA.out]; omega, by go_num, by rw [hz9], fun h => ?_, by omega, by omega, HR6.out, HF6.out, HK6.out⟩
            rw [hz9] at h
            exact absurd h (Nat.lt_irrefl _)
          case measure => simp [slen]; omega
        · go_wp2
          go_roundw
          case rel => exact ⟨k + n, L - n, A + n, c' - n, some ⟨O, k + n, none⟩, R6, by omega, by rw [HA.out]; omega, by go_num, by go_num, fun _ => rfl, by omega, by omega, HR6.out, HF6.out, HK6.out⟩
          case measure => simp [slen]; omega
      | some g =>
        have HD := hide hd
        rw [hd] at hlk
        simp only [dsl] at hlk
        clear hd
        go_upto_region 5 with fail
        rw [ho']
        obtain ⟨X, hX⟩ : ∃ X, X = (S.read A n).map (Value.int .u8) := ⟨_, rfl⟩
        have HXl : Hid (X.length = n) := by rw [hX]; simp [Hid, Mm.read_length]
        have HSrc : Hid (∀ j v, X[j]? = some v → wr.cell? ((⟨g, off, none⟩ : Addr).add j) = some v) := by rw [hX]; exact (HX.out.page i g HD.out).cellsAt off n hn4 HA2.out
        have HOne : Hid (∀ v ∈ X, v.oneCell' = true) := by rw [hX]; exact ints_oneCell _ _
        have HX1 := hide hX
        have HMin : Hid (n = Nat.min (4096 - off) n) := (Nat.min_eq_right (by omega)).symm
        have HRl : Hid (k + X.length ≤ R.length) := by rw [HXl.out, HFi.out.1]; show k + n ≤ _; omega
        clear hX hif HX HM hlk hc
        have hnc : n ≤ c' := by omega
        have h4o : (off : Int) ≤ 4096 := by omega
        have h4n : ¬ 4096 = off := by omega
        go_region_law (refine step_copy_kept rfl (.tmp 32) (.tmp 35) 24 24 rfl 5 Tryz.underlying24 Tryz.size8 (some ⟨O, k, none⟩) (some ⟨g, off, none⟩) n c' (4096 - off) (4096 - off) (by simp [Act.eval, Act.put]) (by simp [Act.eval, Act.put]) O k R t HR.out X n HXl.out HMin.out (fun _ => ⟨rfl, _, rfl, HSrc.out⟩) HRl.out HOne.out ?_; intro w6 HG6 HKr)
        obtain ⟨R6, hR6⟩ : ∃ R6, R6 = Go.splice R k X := ⟨_, rfl⟩
        have HR6 : Hid (w6.heap[O]? = some (.cells R6.toArray t (0, 0))) := by rw [hR6]; exact HG6.out
        have HF6 : Hid (Filled R6 row S a0 (k + n)) := by
          rw [hR6]
          exact HFi.out.splice (by omega) (by rw [HX1.out, HA.out])
        have HK6 : Hid (Kept (fun k => k = O) w w6) := HK.out.drew.trans HKr.out (fun k hk => Or.inl hk)
        clear hR6 HR HFi HK HX1 HG6 HKr HSrc HXl HOne HRl HMin
        by_cases hcn : c' = n
        · subst hcn
          go_wp2
          go_roundw
          case rel =>
            have hz9 : L - c' = 0 := by omega
            refine ⟨k + c', L - c', A + c', 0, some ⟨O, k, none⟩, R6, by omega, by rw [HA.out]; omega, by go_num, by rw [hz9], fun h => ?_, by omega, by omega, HR6.out, HF6.out, HK6.out⟩
            rw [hz9] at h
            exact absurd h (Nat.lt_irrefl _)
          case measure => simp [slen]; omega
        · go_wp2
          go_roundw
          case rel => exact ⟨k + n, L - n, A + n, c' - n, some ⟨O, k + n, none⟩, R6, by omega, by rw [HA.out]; omega, by go_num, by go_num, fun _ => rfl, by omega, by omega, HR6.out, HF6.out, HK6.out⟩
          case measure => simp [slen]; omega

end Go.Proofs.YtgjfelkbblbjfaaGreatDoor
