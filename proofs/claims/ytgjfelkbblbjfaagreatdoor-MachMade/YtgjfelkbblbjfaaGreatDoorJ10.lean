/- Texts of this claim, joined: MachOps, MemMapC, MemKnown, MachJump. -/
import Derived.Test.YtgjfelkbblbjfaaGreatDoorJ07
import Derived.Test.YtgjfelkbblbjfaaGreatDoorMachAluP
import Derived.Deep.QuietTactic
import Derived.BigQuiet
import Derived.Deep.RegionHeld3
import Derived.Test.YtgjfelkbblbjfaaGreatDoorJ03
import Derived.Deep.RegionWith
/- Contracts of package mach's calls that read an instruction: upper, place, operand, taken, width. -/
namespace Go.Proofs.YtgjfelkbblbjfaaGreatDoor
open Go.RowKit Go.Maps
set_option linter.unusedVariables false
set_option maxRecDepth 100000

/-- The cells of an instruction that was laid in block X. -/
structure InX (w : World) (X : Nat) (o rd r1 r2 im : Int) : Prop where
  c0 : w.cell? ⟨X, 0, none⟩ = some (.int .i64 o)
  c1 : w.cell? ⟨X, 1, none⟩ = some (.int .i64 rd)
  c2 : w.cell? ⟨X, 2, none⟩ = some (.int .i64 r1)
  c3 : w.cell? ⟨X, 3, none⟩ = some (.int .i64 r2)
  c4 : w.cell? ⟨X, 4, none⟩ = some (.int .i64 im)

theorem InX.new (w : World) (ty : TypeId) (o rd r1 r2 im : Int) : InX (w.alloc (.cells #[.int .i64 o, .int .i64 rd, .int .i64 r1, .int .i64 r2, .int .i64 im] ty)) w.heap.size o rd r1 r2 im :=
  ⟨by rw [cell_new]; rfl, by rw [cell_new]; rfl, by rw [cell_new]; rfl, by rw [cell_new]; rfl, by rw [cell_new]; rfl⟩
theorem InX.kept {w w' : World} {X : Nat} {o rd r1 r2 im : Int} (h : InX w X o rd r1 r2 im) {F : Nat → Prop} (hk : Kept F w w') (hX : ¬ F X) : InX w' X o rd r1 r2 im :=
  ⟨hk.cell h.c0 hX, hk.cell h.c1 hX, hk.cell h.c2 hX, hk.cell h.c3 hX, hk.cell h.c4 hX⟩
theorem InX.below {w w' : World} {X : Nat} {o rd r1 r2 im : Int} (h : InX w X o rd r1 r2 im) (hb : Below w.heap.size w w') : InX w' X o rd r1 r2 im :=
  h.kept (kept_of_below hb (fun _ => False)) (fun h => h)

section
variable {w w' : World} {m mm me b n : Nat} {f : Int → Option Value} {x : Nat → Int} {pc : Nat} {k c t : Int} {F G : Nat → Prop}

theorem HD.kept (h : HD m mm me x pc k c t w F) (hk : Kept G w w') (hd : ∀ k, F k → ¬ G k) : HD m mm me x pc k c t w' F := by
  obtain ⟨b, n, f, h⟩ := h
  exact ⟨b, n, f, h.kept hk hd⟩
theorem HD.below (h : HD m mm me x pc k c t w F) (hb : Below w.heap.size w w') : HD m mm me x pc k c t w' F := h.kept (kept_of_below hb (fun _ => False)) (fun _ _ h => h)
theorem HD.fits (h : HD m mm me x pc k c t w F) : Fits x pc k c t := by
  obtain ⟨b, n, f, h⟩ := h
  exact h.fits
theorem HD.flt (h : HD m mm me x pc k c t w F) : ∀ k, F k → k < w.heap.size := by
  obtain ⟨b, n, f, h⟩ := h
  exact h.flt
theorem HD.fm (h : HD m mm me x pc k c t w F) : F m := by
  obtain ⟨b, n, f, h⟩ := h
  exact h.fm
theorem HD.c0 (h : HD m mm me x pc k c t w F) : w.cell? ⟨m, 0, none⟩ = some (.pointer (some ⟨mm, 0, none⟩)) := by
  obtain ⟨b, n, f, h⟩ := h
  exact h.cell 0
theorem HD.c1 (h : HD m mm me x pc k c t w F) : w.cell? ⟨m, 1, none⟩ = some (.pointer (some ⟨me, 0, none⟩)) := by
  obtain ⟨b, n, f, h⟩ := h
  exact h.cell 1
theorem HD.c3 (h : HD m mm me x pc k c t w F) : w.cell? ⟨m, 3, none⟩ = some (.int .u64 (pc : Int)) := by
  obtain ⟨b, n, f, h⟩ := h
  exact h.cell 3
theorem below_alloc (w : World) (o : Obj) : Below w.heap.size w (w.alloc o) := (Below.refl _ _).alloc (Nat.le_refl _) _
theorem bel_drewN' (w : World) : ∀ n, Below w.heap.size w (w.drewN n)
  | 0 => Below.refl _ _
  | n + 1 => (bel_drewN' w n).drew

theorem rg_bd (h : Fits x pc k c t) (z : Int) : 0 ≤ rg x z ∧ rg x z ≤ 18446744073709551615 := by
  unfold rg
  split
  · exact h.reg _
  · omega

theorem mupper_any (o rd r1 r2 im : Int) (w : World) (i0 : -9223372036854775808 ≤ im) (i1 : im ≤ 9223372036854775807) :
    Calls Tryz.prog 79 #[inst o rd r1 r2 im] w fun e w' => e = .returned (.int .u64 (u64 (im * 4096))) ∧ Below w.heap.size w w' := by
  unfold inst
  go_enter Tryz.func79, Tryz.ntmps79
  go_wp2
  go_ret
  refine ⟨ret_int ?_, below_alloc _ _⟩
  simp only [wrap_u64]
  unfold u64
  omega

theorem place_any (o rd r1 r2 im : Int) (w : World) (h : HD m mm me x pc k c t w F) (hr : InI r1) (i0 : -9223372036854775808 ≤ im) (i1 : im ≤ 9223372036854775807) :
    Calls Tryz.prog 81 #[.pointer (some ⟨m, 0, none⟩), inst o rd r1 r2 im] w fun e w' => e = .returned (.int .u64 (u64 (rg x r1 + im))) ∧ Below w.heap.size w w' := by
  unfold inst
  have hb := rg_bd h.fits r1
  have HR := hide (fun W (hW : Below w.heap.size w W) => mreg_any r1 W (h.below hW) hr)
  generalize rg x r1 = v at *
  clear h hr
  go_enter Tryz.func81, Tryz.ntmps81
  go_wp2_with fail
  go_quiet (first | (go_at_call 26; refine Calls.quiet_of_same (HR.out _ ?_); exact (below_alloc _ _).trans ((bel_drewN' _ _).mono (by simp))))
  go_wp2
  go_ret
  refine ⟨ret_int ?_, (below_alloc _ _).trans ((bel_drewN' _ _).mono (by simp))⟩
  simp only [wrap_u64]
  unfold u64
  omega

theorem operand_any (o rd r1 r2 im : Int) (w : World) (h : HD m mm me x pc k c t w F) (hL : Laid w) (hr : InI r2) (i0 : -9223372036854775808 ≤ im) (i1 : im ≤ 9223372036854775807) :
    Calls Tryz.prog 87 #[.pointer (some ⟨m, 0, none⟩), inst o rd r1 r2 im] w fun e w' => e = .returned (.int .u64 (if fmo o = 1 then u64 im else rg x r2)) ∧ Below w.heap.size w w' := by
  unfold inst
  have HR := hide (fun W (hW : Below w.heap.size w W) => mreg_any r2 W (h.below hW) hr)
  have HF := hide (fun W (hW : Below w.heap.size w W) => form_any o W (hL.below hW hL.1))
  clear h hr hL
  by_cases hf : fmo o = 1
  · rw [if_pos hf]
    rw [hf] at HF
    clear hf HR
    go_enter Tryz.func87, Tryz.ntmps87
    go_wp2_with fail
    refine (HF.out _ (below_alloc _ _)).mono ?_
    rintro e W ⟨rfl, rfl⟩
    clear HF
    go_wp2
    go_ret
    refine ⟨ret_int ?_, below_alloc _ _⟩
    simp only [wrap_u64]
  · rw [if_neg hf]
    have hf' : (fmo o == 1) = false := by simpa using hf
    generalize rg x r2 = v at *
    generalize fmo o = g at *
    clear hf
    go_enter Tryz.func87, Tryz.ntmps87
    go_wp2_with fail
    refine (HF.out _ (below_alloc _ _)).mono ?_
    rintro e W ⟨rfl, rfl⟩
    clear HF
    go_wp2_with fail
    refine (HR.out _ (below_alloc _ _)).mono ?_
    rintro e W ⟨rfl, rfl⟩
    clear HR
    go_wp2
    go_ret
    exact ⟨rfl, below_alloc _ _⟩

end

theorem taken_any (o : Nat) (a b : Int) (w : World) (h0 : 5 ≤ o) (h1 : o ≤ 10) (a0 : 0 ≤ a) (a1 : a ≤ 18446744073709551615) (b0 : 0 ≤ b) (b1 : b ≤ 18446744073709551615) :
    Calls Tryz.prog 110 #[.int .i64 (o : Int), .int .u64 a, .int .u64 b] w fun e w' => e = .returned (.bool (takenF o a b)) ∧ w' = w := by
  rcases (show o = 5 ∨ o = 6 ∨ o = 7 ∨ o = 8 ∨ o = 9 ∨ o = 10 by omega) with rfl | rfl | rfl | rfl | rfl | rfl
  all_goals go_enter Tryz.func110, Tryz.ntmps110
  all_goals go_wp2
  all_goals go_ret
  all_goals refine ⟨ret_bool ?_, rfl⟩
  all_goals simp only [takenF, wrap64_is]
  all_goals rw [Bool.eq_iff_iff]
  all_goals simp

theorem width_any' (o : Nat) (w : World) (h0 : 11 ≤ o) (h1 : o ≤ 21) :
    Calls Tryz.prog 111 #[.int .i64 (o : Int)] w fun e w' => e = .returned (.int .i64 (widthF o)) ∧ w' = w := by
  rcases (show o = 11 ∨ o = 12 ∨ o = 13 ∨ o = 14 ∨ o = 15 ∨ o = 16 ∨ o = 17 ∨ o = 18 ∨ o = 19 ∨ o = 20 ∨ o = 21 by omega) with rfl | rfl | rfl | rfl | rfl | rfl | rfl | rfl | rfl | rfl | rfl
  all_goals go_enter Tryz.func111, Tryz.ntmps111
  all_goals go_wp2
  all_goals go_ret
  all_goals exact ⟨rfl, rfl⟩

end Go.Proofs.YtgjfelkbblbjfaaGreatDoor

/- The contract of package mem's Map. -/
namespace Go.Proofs.YtgjfelkbblbjfaaGreatDoor
open Go.RowKit Go.Maps
set_option linter.unusedVariables false
set_option maxRecDepth 100000

theorem PMx.mapped1 {V V' : World} {m b : Nat} {dt : Nat → Option Nat} {S : Mm} {F : Nat → Prop} (h : PMx V m b dt S F) {i : Nat} {p : Int} (h0 : S.perm i = 0) (hp : 1 ≤ p ∧ p ≤ 7) (hi : i < 34359738368) (hc : S.count + 1 ≤ 65536)
    (hmap : MapAt V' b (S.count + 1) (upd (fun j => if S.perm j = 0 then none else some (pv (S.perm j) (dt j))) i (pv p none))) (hK : Kept (fun k => k = b) V V') :
    PMx V' m b dt (S.mapped i 1 p) F := by
  have same : ∀ k, F k → k ≠ b → V'.heap[k]? = V.heap[k]? := fun k hF hne => hK.block k (h.flt k hF) hne
  have hdi := h.dn i h0
  have hpe : ∀ j, (S.mapped i 1 p).perm j = if j = i then p else S.perm j := fun j => by
    simp only [Mm.mapped]
    by_cases hji : j = i
    · rw [if_pos hji, if_pos (by omega)]
    · rw [if_neg hji, if_neg (by omega)]
  have hby : ∀ j k, k < 4096 → (S.mapped i 1 p).byte (j * 4096 + k) = if j = i then 0 else S.byte (j * 4096 + k) := fun j k hk => by
    simp only [Mm.mapped]
    have e : (j * 4096 + k) / 4096 = j := by omega
    rw [e]
    by_cases hji : j = i
    · rw [if_pos hji, if_pos (by omega)]
    · rw [if_neg hji, if_neg (by omega)]
  refine ⟨(same m h.fm h.mb).trans h.head, hmap.congr (fun j _ => ?_), h.good.mapped i 1 hp hc (by omega), ?_, ?_, ?_, h.apart, h.fm, h.fb, h.fg, fun k hk => Nat.lt_of_lt_of_le (h.flt k hk) hK.size⟩
  · unfold upd
    rw [hpe j]
    by_cases hji : j = i
    · have hp0 : p ≠ 0 := by omega
      rw [if_pos hji, if_pos hji, if_neg hp0, hji, hdi]
    · rw [if_neg hji, if_neg hji]
  · intro j hj
    rw [hpe j] at hj
    by_cases hji : j = i
    · rw [if_pos hji] at hj; omega
    · rw [if_neg hji] at hj
      exact h.dn j hj
  · intro j hj hd k hk
    rw [hby j k hk]
    by_cases hji : j = i
    · rw [if_pos hji]
    · rw [if_neg hji]
      rw [hpe j, if_neg hji] at hj
      exact h.noughts j hj hd k hk
  · intro j g hg
    have hji : j ≠ i := fun e => by rw [e, hdi] at hg; cases hg
    obtain ⟨cs, h1, h2, h3⟩ := h.page j g hg
    exact ⟨cs, (same g (h.fg j g hg) (h.gb hg)).trans h1, h2, fun k hk => by rw [h3 k hk, hby j k hk, if_neg hji]⟩

/-- Whether so much may be mapped there. -/
def MapOk (S : Mm) (a size : Nat) (p : Int) (len : Nat) : Prop := (a % 4096 = 0 ∧ 0 < size ∧ a + size ≤ 140737488355328) ∧ PermOk p ∧ len ≤ size ∧ Sparep S (a / 4096) ((size + 4095) / 4096)
noncomputable def mapB (S : Mm) (a size : Nat) (p : Int) (len : Nat) : Bool := @decide (MapOk S a size p len) (Classical.propDecidable _)
theorem mapB_yes {S : Mm} {a size : Nat} {p : Int} {len : Nat} (h : MapOk S a size p len) : mapB S a size p len = true := @decide_eq_true _ (Classical.propDecidable _) h
theorem mapB_no {S : Mm} {a size : Nat} {p : Int} {len : Nat} (h : ¬ MapOk S a size p len) : mapB S a size p len = false := @decide_eq_false _ (Classical.propDecidable _) h
/-- The memory behind a map. -/
noncomputable def mappedTo (S : Mm) (a size : Nat) (p : Int) (bs : List Int) : Mm := if mapB S a size p bs.length = true then (S.mapped (a / 4096) ((size + 4095) / 4096) p).lay a bs else S

set_option maxRecDepth 20000 in
set_option maxHeartbeats 1600000 in
theorem map_any (m : Nat) (S : Mm) (F : Nat → Prop) (a0 size : Nat) (p : Int) (a : Option Addr) (len cap : Nat) (bs : List Int) (w : World) (h : PM w m S F) (ha : a0 ≤ 18446744073709551615) (hs : size ≤ 18446744073709551615)
    (hp0 : -9223372036854775808 ≤ p) (hp1 : p ≤ 9223372036854775807) (r : Rd w a len cap bs) (hsep : 0 < len → ∀ x, a = some x → ¬ F x.block) :
    Calls Tryz.prog 11 #[.pointer (some ⟨m, 0, none⟩), .int .u64 (a0 : Int), .int .u64 (size : Int), .int .i64 p, .slice a len cap] w fun e w' =>
      e = .returned (.int .i64 (if mapB S a0 size p len = true then 0 else 20)) ∧ ∃ F', PM w' m (mappedTo S a0 size p bs) F' ∧ Went F w F' w' := by
  have hle0 := r.le
  have hmx := r.max
  have hbl := r.length
  have HR := hide (rangeGood_any a0 size)
  have HPm := hide (permGood_any p)
  unfold mappedTo
  rw [hbl]
  by_cases h1 : a0 % 4096 = 0 ∧ 0 < size ∧ a0 + size ≤ 140737488355328
  · have HR2 : Hid (∀ w, Calls Tryz.prog 33 #[.int .u64 (a0 : Int), .int .u64 (size : Int)] w fun e w' => e = .returned (.bool true) ∧ w' = w) := fun w => by
      have := HR.out w ha hs
      rwa [decide_eq_true h1] at this
    clear HR
    by_cases h2 : PermOk p
    · have HP2 : Hid (∀ w, Calls Tryz.prog 34 #[.int .i64 p] w fun e w' => e = .returned (.bool true) ∧ w' = w) := fun w => by
        have := HPm.out w hp0 hp1
        rwa [decide_eq_true h2] at this
      clear HPm
      by_cases h3 : len ≤ size
      · have hf' : (a0 : Int) / 4096 = ((a0 / 4096 : Nat) : Int) := by omega
        have hn' : ((size : Int) + 4096 - 1) / 4096 = (((size + 4095) / 4096 : Nat) : Int) := by omega
        have HS := hide (spare_any m S F (a0 / 4096) ((size + 4095) / 4096) w h (by omega))
        have hfn : a0 / 4096 + (size + 4095) / 4096 ≤ 34359738368 := by omega
        have hcov : ∀ i, a0 / 4096 ≤ i → i * 4096 < a0 + len → i < a0 / 4096 + (size + 4095) / 4096 := fun i h4 h5 => by omega
        by_cases h4 : Sparep S (a0 / 4096) ((size + 4095) / 4096)
        · have e1 : mapB S a0 size p len = true := mapB_yes ⟨h1, h2, h3, h4⟩
          rw [e1, if_pos rfl, if_pos rfl]
          rw [spareB_yes h4] at HS
          have HCov := hide hcov
          generalize a0 / 4096 = f at *
          generalize (size + 4095) / 4096 = n at *
          have HM := hide h
          have HRd := hide r
          have HSe := hide hsep
          have HSp := hide h4
          have HPo := hide h2
          have h3' : decide ((size : Int) < (len : Int)) = false := by simp; omega
          have hsz := h1.2.2
          clear h r hsep h4 h1 h2 e1 hcov
          go_enter Tryz.func11, Tryz.ntmps11
          go_wp2_with fail
          refine (HR2.out _).mono ?_
          rintro e w' ⟨rfl, rfl⟩
          go_wp2_with fail
          refine (HP2.out _).mono ?_
          rintro e w' ⟨rfl, rfl⟩
          go_wp2_with fail
          refine HS.out.mono ?_
          rintro e W ⟨rfl, hBW⟩
          have HBW := hide hBW
          clear hBW HS HR2 HP2
          go_wp2
          go_loopw [42] (fun v wr => ∃ k : Nat, k ≤ n ∧ v = .int .u64 (k : Int) ∧ PM wr m (S.mapped f k p) F ∧ Kept F w' wr) (fun v _ => n - (intOf v).toNat)
          case atStart => exact ⟨0, by omega, rfl, by rw [Mm.mapped_zero]; exact HM.out.below HBW.out, kept_of_below HBW.out F⟩
          case round =>
            obtain ⟨k, hk, rfl, hP, hK⟩ := hrel
            by_cases hlt : k < n
            · obtain ⟨b, dt, hX⟩ := hP
              have hc := hX.cell
              have h0 : (S.mapped f k p).perm (f + k) = 0 := by
                simp only [Mm.mapped]
                rw [if_neg (by omega)]
                exact HSp.out.2 (f + k) (by omega) (by omega)
              have hcn : (S.mapped f k p).count + 1 ≤ 65536 := by
                have := HSp.out.1
                simp only [Mm.mapped]; omega
              obtain ⟨V, hrun, hm2, hgr, hsz2⟩ := hX.map.store (t := 77) Tryz.underlying77 (by unfold maxLen; omega) (f + k) (by omega) (pv p none)
              rw [if_pos h0] at hm2
              simp only [Option.isSome_none, Bool.false_eq_true, if_false] at hm2
              simp only [pv, dsl] at hrun
              rw [show ((f + k : Nat) : Int) = (f : Int) + (k : Int) by omega] at hrun
              have hKV : Kept (fun k => k = b) wr V := Kept.of_grown hgr (fun k hk => (Option.some.inj hk).symm)
              have HXV : Hid (PM V m (S.mapped f (k + 1) p) F) := by
                have h9 := hX.mapped1 h0 HPo.out.bd (by omega) hcn hm2 hKV
                rw [Mm.mapped_succ] at h9
                exact ⟨b, dt, h9⟩
              have HKV : Hid (Kept F w' V) := hK.trans hKV (fun k hk => by subst hk; exact Or.inl hX.fb)
              clear hX hK hm2 hgr hsz2 hKV h0 hcn
              go_wp2
              go_roundw
              case rel => exact ⟨k + 1, by omega, by go_num, HXV.out, HKV.out⟩
              case measure => simp [intOf]; omega
            · obtain rfl : k = n := by omega
              have hr2 : Rd wr a len cap bs := hK.rd HRd.out HSe.out
              have HPut := hide (mput_any m (S.mapped f k p) F a0 a len cap bs wr hP ha hr2 HSe.out (fun i h5 h6 h7 => by
                have h8 := HCov.out i (by omega) h6
                have h9 := HPo.out.bd
                simp only [Mm.mapped]
                rw [if_pos (by omega)]
                omega))
              have HK := hide hK
              clear hK hP hr2
              go_wp2_with fail
              refine HPut.out.mono ?_
              rintro e V ⟨rfl, F', hP, hW⟩
              have HP := hide hP
              have HW : Hid (Went F w' F' V) := ⟨HK.out.trans hW.1 (fun k hk => Or.inl hk), fun k hk => by
                rcases hW.2 k hk with h5 | h5
                · exact Or.inl h5
                · have := HK.out.size; exact Or.inr (by omega)⟩
              clear hP hW HPut
              go_wp2
              go_ret
              exact ⟨rfl, F', HP.out, HW.out⟩
        · have e1 : mapB S a0 size p len = false := mapB_no (fun h => h4 h.2.2.2)
          rw [e1, if_neg (by decide), if_neg (by decide)]
          rw [spareB_no h4] at HS
          generalize a0 / 4096 = f at *
          generalize (size + 4095) / 4096 = n at *
          have HM := hide h
          have h3' : decide ((size : Int) < (len : Int)) = false := by simp; omega
          clear h r hsep h4 h1 h2 e1 hcov
          go_enter Tryz.func11, Tryz.ntmps11
          go_wp2_with fail
          refine (HR2.out _).mono ?_
          rintro e w' ⟨rfl, rfl⟩
          go_wp2_with fail
          refine (HP2.out _).mono ?_
          rintro e w' ⟨rfl, rfl⟩
          go_wp2_with fail
          refine HS.out.mono ?_
          rintro e W ⟨rfl, hBW⟩
          have HBW := hide hBW
          clear hBW HS HR2 HP2
          go_wp2
          go_ret
          exact ⟨rfl, F, HM.out.below HBW.out, kept_of_below HBW.out F, fun k hk => Or.inl hk⟩
      · have e1 : mapB S a0 size p len = false := mapB_no (fun h => h3 h.2.2.1)
        rw [e1, if_neg (by decide), if_neg (by decide)]
        have HM := hide h
        clear h r hsep h1 h2 e1
        go_enter Tryz.func11, Tryz.ntmps11
        go_wp2_with fail
        refine (HR2.out _).mono ?_
        rintro e w' ⟨rfl, rfl⟩
        go_wp2_with fail
        refine (HP2.out _).mono ?_
        rintro e w' ⟨rfl, rfl⟩
        go_wp2_with fail
        go_ret
        exact ⟨rfl, F, HM.out, Went.refl _ _⟩
    · have e1 : mapB S a0 size p len = false := mapB_no (fun h => h2 h.2.1)
      rw [e1, if_neg (by decide), if_neg (by decide)]
      have HP2 : Hid (∀ w, Calls Tryz.prog 34 #[.int .i64 p] w fun e w' => e = .returned (.bool false) ∧ w' = w) := fun w => by
        have := HPm.out w hp0 hp1
        rwa [decide_eq_false h2] at this
      have HM := hide h
      clear h r hsep h1 h2 e1 HPm
      go_enter Tryz.func11, Tryz.ntmps11
      go_wp2_with fail
      refine (HR2.out _).mono ?_
      rintro e w' ⟨rfl, rfl⟩
      go_wp2_with fail
      refine (HP2.out _).mono ?_
      rintro e w' ⟨rfl, rfl⟩
      go_wp2_with fail
      go_ret
      exact ⟨rfl, F, HM.out, Went.refl _ _⟩
  · have e1 : mapB S a0 size p len = false := mapB_no (fun h => h1 h.1)
    rw [e1, if_neg (by decide), if_neg (by decide)]
    have HR2 : Hid (∀ w, Calls Tryz.prog 33 #[.int .u64 (a0 : Int), .int .u64 (size : Int)] w fun e w' => e = .returned (.bool false) ∧ w' = w) := fun w => by
      have := HR.out w ha hs
      rwa [decide_eq_false h1] at this
    have HM := hide h
    clear h r hsep h1 e1 HPm HR
    go_enter Tryz.func11, Tryz.ntmps11
    go_wp2_with fail
    refine (HR2.out _).mono ?_
    rintro e w' ⟨rfl, rfl⟩
    go_wp2_with fail
    go_ret
    exact ⟨rfl, F, HM.out, Went.refl _ _⟩

end Go.Proofs.YtgjfelkbblbjfaaGreatDoor

/- The statements' known: what a memory of two pages answers. -/
namespace Go.Proofs.YtgjfelkbblbjfaaGreatDoor
open Go.RowKit Go.Maps
set_option linter.unusedVariables false
set_option maxRecDepth 100000

theorem Rd.lit (t : TypeId) (w : World) (xs : List Int) (hb : Bytes xs) (hl : xs.length ≤ 9223372036854775807) :
    Rd (w.alloc (.cells (xs.map (Value.int .u8)).toArray t)) (some ⟨w.heap.size, 0, none⟩) xs.length xs.length xs := by
  refine ⟨rfl, Nat.le_refl _, hl, hb, (fun h => by cases h), fun x hx i hi => ?_⟩
  cases hx
  have e : (⟨w.heap.size, 0, none⟩ : Addr).add i = ⟨w.heap.size, i, none⟩ := by unfold Addr.add; split <;> simp_all
  rw [e, cell_of_row _ _ i _ t (0, 0) (heap_alloc_new w _)]
  simp [hi]

/-- What a memory of the call's own is: its blocks are new. -/
structure Own (w0 w : World) (m : Nat) (S : Mm) : Prop where
  ex : ∃ F, PM w m S F ∧ ∀ k, F k → w0.heap.size ≤ k
  bel : Below w0.heap.size w0 w

theorem Own.below {w0 w w' : World} {m : Nat} {S : Mm} (h : Own w0 w m S) (hb : Below w.heap.size w w') : Own w0 w' m S := by
  obtain ⟨F, h1, h2⟩ := h.ex
  exact ⟨⟨F, h1.below hb, h2⟩, h.bel.trans (hb.mono h.bel.size)⟩

theorem Own.went {w0 w w' : World} {m : Nat} {S' : Mm} {F : Nat → Prop} (h1 : ∀ k, F k → w0.heap.size ≤ k) (hb : Below w0.heap.size w0 w) (h : ∃ F', PM w' m S' F' ∧ Went F w F' w') : Own w0 w' m S' := by
  obtain ⟨F', h2, h3⟩ := h
  have h4 := h3.below hb.size h1
  exact ⟨⟨F', h2, h4.2⟩, hb.trans h4.1⟩

theorem Own.good {w0 w : World} {m : Nat} {S : Mm} (h : Own w0 w m S) : S.Good := by
  obtain ⟨F, h1, h2⟩ := h.ex
  exact h1.good

theorem own_new (w0 w : World) (hb : Below w0.heap.size w0 w) :
    Calls Tryz.prog 8 #[] w fun e w' => ∃ m, e = .returned (.pointer (some ⟨m, 0, none⟩)) ∧ Own w0 w' m Mm.new :=
  (new_any w).mono fun e w' ⟨m, F, h1, h2, h3, h4⟩ => ⟨m, h1, ⟨F, h2, fun k hk => Nat.le_trans hb.size (h3 k hk)⟩, hb.trans (h4.mono hb.size)⟩

/-- A slice that is none of a memory's: nil, or in blocks that were there ahead of it, or in new ones that are read alone. -/
theorem own_map {w0 w : World} {m : Nat} {S : Mm} (h : Own w0 w m S) (a0 size : Nat) (p : Int) (xs : List Int) (hb : Bytes xs) (hl : xs.length ≤ 9223372036854775807) (hx : xs ≠ []) (ha : a0 ≤ 18446744073709551615) (hs : size ≤ 18446744073709551615)
    (hp0 : -9223372036854775808 ≤ p) (hp1 : p ≤ 9223372036854775807) :
    Calls Tryz.prog 11 #[.pointer (some ⟨m, 0, none⟩), .int .u64 (a0 : Int), .int .u64 (size : Int), .int .i64 p, .slice (some ⟨w.heap.size, 0, none⟩) xs.length xs.length] (w.alloc (.cells (xs.map (Value.int .u8)).toArray 5)) fun e w' =>
      e = .returned (.int .i64 (if mapB S a0 size p xs.length = true then 0 else 20)) ∧ Own w0 w' m (mappedTo S a0 size p xs) := by
  obtain ⟨F, h1, h2⟩ := h.ex
  have hbel : Below w.heap.size w (w.alloc (.cells (xs.map (Value.int .u8)).toArray 5)) := (Below.refl _ _).alloc (Nat.le_refl _) _
  refine (map_any m S F a0 size p _ _ _ xs _ (h1.below hbel) ha hs hp0 hp1 (Rd.lit 5 w xs hb hl) (fun _ x hx hf => ?_)).mono ?_
  · cases hx
    have := h1.flt _ hf
    simp at this
  · rintro e w' ⟨h3, h4⟩
    exact ⟨h3, Own.went h2 (h.below hbel).bel h4⟩

theorem own_map0 {w0 w : World} {m : Nat} {S : Mm} (h : Own w0 w m S) (a0 size : Nat) (p : Int) (ha : a0 ≤ 18446744073709551615) (hs : size ≤ 18446744073709551615)
    (hp0 : -9223372036854775808 ≤ p) (hp1 : p ≤ 9223372036854775807) :
    Calls Tryz.prog 11 #[.pointer (some ⟨m, 0, none⟩), .int .u64 (a0 : Int), .int .u64 (size : Int), .int .i64 p, .slice none 0 0] w fun e w' =>
      e = .returned (.int .i64 (if mapB S a0 size p 0 = true then 0 else 20)) ∧ Own w0 w' m (mappedTo S a0 size p []) := by
  obtain ⟨F, h1, h2⟩ := h.ex
  refine (map_any m S F a0 size p none 0 0 [] w h1 ha hs hp0 hp1 (Rd.nothing w) (fun _ x hx => by cases hx)).mono ?_
  rintro e w' ⟨h3, h4⟩
  exact ⟨h3, Own.went h2 h.bel h4⟩

theorem own_store {w0 w : World} {m : Nat} {S : Mm} (h : Own w0 w m S) (a : Nat) (n v : Int) (ha : a ≤ 18446744073709551615) (hn0 : -9223372036854775808 ≤ n) (hn1 : n ≤ 9223372036854775807) (hv0 : 0 ≤ v) (hv1 : v ≤ 18446744073709551615) :
    Calls Tryz.prog 113 #[.pointer (some ⟨m, 0, none⟩), .int .u64 (a : Int), .int .i64 n, .int .u64 v] w fun e w' =>
      e = .returned (.bool (numOk S a n 2)) ∧ Own w0 w' m (stored S a n v) := by
  obtain ⟨F, h1, h2⟩ := h.ex
  refine (store_any m S F a n v w h1 ha hn0 hn1 hv0 hv1).mono ?_
  rintro e w' ⟨h3, h4⟩
  exact ⟨h3, Own.went h2 h.bel h4⟩

theorem own_load {w0 w : World} {m : Nat} {S : Mm} (h : Own w0 w m S) (a : Nat) (n : Int) (ha : a ≤ 18446744073709551615) (hn0 : -9223372036854775808 ≤ n) (hn1 : n ≤ 9223372036854775807) :
    Calls Tryz.prog 112 #[.pointer (some ⟨m, 0, none⟩), .int .u64 (a : Int), .int .i64 n] w fun e w' =>
      e = .returned (.tuple #[.int .u64 (loadV S a n), .bool (numOk S a n 4)]) ∧ Own w0 w' m S ∧ Below w.heap.size w w' := by
  obtain ⟨F, h1, h2⟩ := h.ex
  refine (load_any m S F a n w h1 ha hn0 hn1).mono ?_
  rintro e w' ⟨h3, h4⟩
  exact ⟨h3, h.below h4, h4⟩

theorem own_fetch {w0 w : World} {m : Nat} {S : Mm} (h : Own w0 w m S) (a : Nat) (ha : a ≤ 18446744073709551615) :
    Calls Tryz.prog 76 #[.pointer (some ⟨m, 0, none⟩), .int .u64 (a : Int)] w fun e w' =>
      e = .returned (.tuple #[.int .u32 (fetchV S a), .bool (mayB S a 4 1)]) ∧ Own w0 w' m S ∧ Below w.heap.size w w' := by
  obtain ⟨F, h1, h2⟩ := h.ex
  refine (fetch_any m S F a w h1 ha).mono ?_
  rintro e w' ⟨h3, h4⟩
  exact ⟨h3, h.below h4, h4⟩



theorem own_perm {w0 w : World} {m : Nat} {S : Mm} (h : Own w0 w m S) (a : Nat) (ha : a ≤ 18446744073709551615) :
    Calls Tryz.prog 130 #[.pointer (some ⟨m, 0, none⟩), .int .u64 (a : Int)] w fun e w' => e = .returned (.int .i64 (S.perm (a / 4096))) ∧ w' = w := by
  obtain ⟨F, h1, h2⟩ := h.ex
  exact perm_any m S F a w h1 ha

/-- n bytes within one page. -/
theorem mayB_one {S : Mm} {a n i : Nat} {p q : Int} (hn : n ≠ 0) (h1 : a / 4096 = i) (h2 : (a + n - 1) / 4096 = i) (hq : S.perm i = q) : mayB S a n p = !(bits .and .i64 q p == 0) := by
  by_cases h : bits .and .i64 q p = 0
  · rw [mayB_no]
    · simp [h]
    · rintro (h3 | h3)
      · exact hn h3
      · exact h3 i (by omega) (by omega) (by rw [hq]; exact h)
  · rw [mayB_yes]
    · simp [h]
    · refine Or.inr (fun j h3 h4 => ?_)
      obtain rfl : j = i := by omega
      rw [hq]; exact h

/-- The memory of known, and what it answers. -/
noncomputable def kn1 : Mm := mappedTo Mm.new 4096 10 6 [7]
noncomputable def kn2 : Mm := mappedTo kn1 8192 4 1 []
theorem kn1_ok : mapB Mm.new 4096 10 6 1 = true := mapB_yes ⟨by decide, by decide, by decide, by decide, fun i _ _ => rfl⟩
theorem kn1_eq : kn1 = (Mm.new.mapped 1 1 6).lay 4096 [7] := by unfold kn1 mappedTo; exact if_pos kn1_ok
theorem kn1_perm (i : Nat) : kn1.perm i = if i = 1 then 6 else 0 := by
  rw [kn1_eq]; simp only [Mm.lay, Mm.mapped, Mm.new]
  by_cases h : i = 1
  · rw [if_pos h, if_pos (by omega)]
  · rw [if_neg h, if_neg (by omega)]
theorem kn2_ok : mapB kn1 8192 4 1 0 = true := mapB_yes ⟨by decide, by decide, by decide, by rw [kn1_eq]; decide, fun i h1 h2 => by rw [kn1_perm, if_neg (by omega)]⟩
theorem kn2_eq : kn2 = (kn1.mapped 2 1 1).lay 8192 [] := by unfold kn2 mappedTo; exact if_pos kn2_ok
theorem kn2_perm (i : Nat) : kn2.perm i = if i = 2 then 1 else if i = 1 then 6 else 0 := by
  rw [kn2_eq]; simp only [Mm.lay, Mm.mapped]
  rw [kn1_perm]
  by_cases h : i = 2
  · rw [if_pos h, if_pos (by omega)]
  · rw [if_neg h, if_neg (by omega)]
theorem kn2_count : kn2.count = 2 := by rw [kn2_eq, kn1_eq]; rfl
theorem kn2_byte (j : Nat) (h : j < 4096) : kn2.byte (4096 + j) = if j = 0 then 7 else 0 := by
  rw [kn2_eq, kn1_eq]; simp only [Mm.lay, Mm.mapped, Mm.new]
  rw [if_neg (by simp), if_neg (by omega)]
  by_cases hj : j = 0
  · subst hj; simp
  · rw [if_neg (by simp; omega), if_neg hj, if_pos (by omega)]
theorem kn3_no : mapB kn2 4096 1 4 0 = false := mapB_no (fun h => by
  have := h.2.2.2.2 1 (by decide) (by decide)
  rw [kn2_perm] at this
  simp at this)

noncomputable def kn3 : Mm := stored kn2 4097 1 5
theorem kn_load : numOk kn2 4096 2 4 = true ∧ loadV kn2 4096 2 = 7 := by
  have h1 : numOk kn2 4096 2 4 = true := by
    unfold numOk
    rw [mayB_one (i := 1) (q := 6) (by decide) (by decide) (by decide) (by rw [kn2_perm]; rfl)]
    decide
  refine ⟨h1, ?_⟩
  unfold loadV
  rw [if_pos h1]
  have e : kn2.read 4096 (2 : Int).toNat = [kn2.byte (4096 + 0), kn2.byte (4096 + 1)] := rfl
  rw [e, kn2_byte 0 (by decide), kn2_byte 1 (by decide)]
  decide
theorem kn_store : numOk kn2 4097 1 2 = true := by
  unfold numOk
  rw [mayB_one (i := 1) (q := 6) (by decide) (by decide) (by decide) (by rw [kn2_perm]; rfl)]
  decide
theorem kn3_eq : kn3 = kn2.lay 4097 (bytesOf 5 1) := by unfold kn3 stored; exact if_pos kn_store
theorem kn3_perm (i : Nat) : kn3.perm i = kn2.perm i := by rw [kn3_eq]; rfl
theorem kn3_count : kn3.count = 2 := by rw [kn3_eq]; exact kn2_count
theorem kn_store2 : numOk kn3 8192 1 2 = false := by
  unfold numOk
  rw [mayB_one (i := 2) (q := 1) (by decide) (by decide) (by decide) (by rw [kn3_perm, kn2_perm]; rfl)]
  decide
theorem kn3_stay : stored kn3 8192 1 5 = kn3 := by unfold stored; rw [kn_store2]; rfl
theorem kn_fetch : mayB kn3 8192 4 1 = true := by
  rw [mayB_one (i := 2) (q := 1) (by decide) (by decide) (by decide) (by rw [kn3_perm, kn2_perm]; rfl)]
  decide
theorem kn_fetch2 : mayB kn3 4096 4 1 = false := by
  rw [mayB_one (i := 1) (q := 6) (by decide) (by decide) (by decide) (by rw [kn3_perm, kn2_perm]; rfl)]
  decide
theorem kn_map3 : mappedTo kn2 4096 1 4 [] = kn2 := by unfold mappedTo; rw [show mapB kn2 4096 1 4 ([] : List Int).length = false from kn3_no]; rfl

theorem bytes_7 : Bytes [7] := fun x hx => by simp at hx; omega





end Go.Proofs.YtgjfelkbblbjfaaGreatDoor

/- Contracts of package mach's branch and load. -/
namespace Go.Proofs.YtgjfelkbblbjfaaGreatDoor
open Go.RowKit Go.Maps
set_option linter.unusedVariables false
set_option maxRecDepth 100000

/-- An instruction whose numbers fit. -/
structure Fit5 (rd r1 r2 im : Int) : Prop where
  rd : 0 ≤ rd ∧ rd < 32
  r1 : 0 ≤ r1 ∧ r1 < 32
  r2 : 0 ≤ r2 ∧ r2 < 32
  im : -2147483648 ≤ im ∧ im ≤ 2147483647

theorem rg_in {x : Nat → Int} {z : Int} (h : 0 ≤ z ∧ z < 32) : rg x z = x z.toNat := by unfold rg; rw [if_pos h]
theorem ini_of {z : Int} (h : 0 ≤ z ∧ z < 32) : InI z := by unfold InI; omega

section
variable {w w' : World} {m mm me b n : Nat} {f : Int → Option Value} {x : Nat → Int} {pc : Nat} {k c t : Int} {F G : Nat → Prop}

theorem went_below (hb : Below w.heap.size w w') (F : Nat → Prop) : Went F w F w' := ⟨kept_of_below hb _, fun _ h => Or.inl h⟩

set_option maxHeartbeats 1600000 in
theorem branch_any (o : Nat) (rd r1 r2 im : Int) (w : World) (h : HD m mm me x pc k c t w F) (h0 : 5 ≤ o) (h1 : o ≤ 10) (hf : Fit5 rd r1 r2 im) :
    Calls Tryz.prog 82 #[.pointer (some ⟨m, 0, none⟩), inst o rd r1 r2 im] w fun e w' =>
      (takenF o (x r1.toNat) (x r2.toNat) = false → e = .returned (.int .i64 0) ∧ HD m mm me x (u64 (pc + 4)).toNat k c t w' F) ∧
      (takenF o (x r1.toNat) (x r2.toNat) = true → u64 (pc + im) % 4 = 0 → e = .returned (.int .i64 0) ∧ HD m mm me x (u64 (pc + im)).toNat k c t w' F) ∧
      (takenF o (x r1.toNat) (x r2.toNat) = true → u64 (pc + im) % 4 ≠ 0 → e = .returned (.int .i64 5) ∧ HD m mm me x pc k c t w' F) ∧ Went F w F w' := by
  have e1 := rg_in (x := x) hf.r1
  have e2 := rg_in (x := x) hf.r2
  have b1 := h.fits.reg r1.toNat
  have b2 := h.fits.reg r2.toNat
  have HR1 := hide (fun W (hW : Below w.heap.size w W) => mreg_any r1 W (h.below hW) (ini_of hf.r1))
  have HR2 := hide (fun W (hW : Below w.heap.size w W) => mreg_any r2 W (h.below hW) (ini_of hf.r2))
  rw [e1] at HR1
  rw [e2] at HR2
  have HT := hide (fun W => taken_any o (x r1.toNat) (x r2.toNat) W h0 h1 b1.1 b1.2 b2.1 b2.2)
  have HH := hide (fun W (hW : Below w.heap.size w W) => h.below hW)
  have hpc := h.fits.place
  have him := hf.im
  generalize x r1.toNat = a at *
  generalize x r2.toNat = y at *
  clear e1 e2 b1 b2 h hf
  unfold inst
  cases htk : takenF o a y with
  | false =>
    rw [htk] at HT
    go_enter Tryz.func82, Tryz.ntmps82
    go_wp2_with fail
    go_quiet (first
      | (go_at_call_of 26 (Value.int IntKind.i64 r1); refine Calls.quiet_of_same (HR1.out _ ?_); exact (below_alloc _ _).trans ((bel_drewN' _ _).mono (by simp)))
      | (go_at_call_of 26 (Value.int IntKind.i64 r2); refine Calls.quiet_of_same (HR2.out _ ?_); exact (below_alloc _ _).trans ((bel_drewN' _ _).mono (by simp)))
      | (go_at_call 110; refine Calls.quiet_of_same (HT.out _)))
    go_wp2_with fail
    refine (next_any _ (HH.out _ ((below_alloc _ _).trans ((bel_drewN' _ _).mono (by simp))))).mono ?_
    rintro e W ⟨rfl, h3, h4⟩
    have H := hide (And.intro h3 ((went_below ((below_alloc _ _).trans ((bel_drewN' _ _).mono (by simp))) F).trans h4))
    clear h3 h4
    go_wp2
    go_ret
    exact ⟨fun _ => ⟨rfl, H.out.1⟩, (fun h => by cases h), (fun h => by cases h), H.out.2⟩
  | true =>
    rw [htk] at HT
    have hb := u64_bd (pc + im)
    obtain ⟨p, hp⟩ : ∃ p : Nat, p = (u64 (pc + im)).toNat := ⟨_, rfl⟩
    have hp2 : (p : Int) = u64 (pc + im) := by omega
    have hp' : IntKind.u64.wrap ((pc : Int) + IntKind.u64.wrap im) = (p : Int) := by rw [wrap_u64, wrap_u64, hp2]; unfold u64; omega
    have hp4 : (u64 (pc + im) % 4 = 0) ↔ p % 4 = 0 := by omega
    have hpm : p ≤ 18446744073709551615 := by omega
    rw [← hp]
    have H4 := hide hp4
    clear hp hp2 hb hp4
    go_enter Tryz.func82, Tryz.ntmps82
    go_wp2_with fail
    go_quiet (first
      | (go_at_call_of 26 (Value.int IntKind.i64 r1); refine Calls.quiet_of_same (HR1.out _ ?_); exact (below_alloc _ _).trans ((bel_drewN' _ _).mono (by simp)))
      | (go_at_call_of 26 (Value.int IntKind.i64 r2); refine Calls.quiet_of_same (HR2.out _ ?_); exact (below_alloc _ _).trans ((bel_drewN' _ _).mono (by simp)))
      | (go_at_call 110; refine Calls.quiet_of_same (HT.out _)))
    go_wp2_with fail
    obtain ⟨X, hX⟩ : ∃ X, X = w.heap.size := ⟨_, rfl⟩
    rw [← hX]
    obtain ⟨V, hV⟩ : ∃ V, V = (w.alloc (.cells #[.int .i64 (o : Int), .int .i64 rd, .int .i64 r1, .int .i64 r2, .int .i64 im] 28)).drewN nq := ⟨_, rfl⟩
    rw [← hV]
    have hBV : Below w.heap.size w V := by rw [hV]; exact (below_alloc _ _).trans ((bel_drewN' _ _).mono (by simp))
    have hIX : InX V X o rd r1 r2 im := by rw [hV, hX]; exact (InX.new _ _ _ _ _ _ _).below (bel_drewN' _ _)
    have hXF : ¬ F X := fun hf => by have := (HH.out w (Below.refl _ _)).flt X hf; omega
    have hc3 := (HH.out V hBV).c3
    obtain ⟨i0, i1, i2, i3, i4⟩ := id hIX
    have HX := hide hIX
    have HB := hide hBV
    have HXF := hide hXF
    clear hIX hBV hXF hV hX HR1 HR2 HT
    by_cases h4 : p % 4 = 0
    · have HJ : Hid (∀ W, Below V.heap.size V W → Calls Tryz.prog 80 #[.pointer (some ⟨m, 0, none⟩), .int .i64 0, .int .u64 (p : Int)] W fun e w' => e = .returned (.int .i64 0) ∧ HD m mm me x p k c t w' F ∧ Went F w F w' ∧ InX w' X o rd r1 r2 im) := fun W hW => by
        have g := HH.out W (HB.out.trans (hW.mono HB.out.size))
        refine (jump_any 0 p W g (by unfold InI; omega) (by omega)).mono ?_
        rintro e w' ⟨g1, g2⟩
        obtain ⟨g3, g4, g5⟩ := g1 h4
        rw [xset_no (by omega)] at g4
        exact ⟨g3, g4, (went_below (HB.out.trans (hW.mono HB.out.size)) F).trans g5, (HX.out.below hW).kept g5.1 HXF.out⟩
      have H44 := hide h4
      clear h4
      go_region_with (first | (go_at_call 80; refine (HJ.out _ ((Below.refl _ _).drew)).mono ?_; rintro e W ⟨rfl, h5, h6, h7⟩; have H := hide (And.intro h5 h6); clear h5 h6))
      all_goals go_wp2
      all_goals go_ret
      all_goals exact ⟨(fun h => by cases h), fun _ _ => ⟨rfl, H.out.1⟩, fun _ h => absurd (H4.out.2 H44.out) h, H.out.2⟩
    · have HJ : Hid (∀ W, Below V.heap.size V W → Calls Tryz.prog 80 #[.pointer (some ⟨m, 0, none⟩), .int .i64 0, .int .u64 (p : Int)] W fun e w' => e = .returned (.int .i64 5) ∧ HD m mm me x pc k c t w' F ∧ Went F w F w' ∧ InX w' X o rd r1 r2 im) := fun W hW => by
        have g := HH.out W (HB.out.trans (hW.mono HB.out.size))
        refine (jump_any 0 p W g (by unfold InI; omega) (by omega)).mono ?_
        rintro e w' ⟨g1, g2⟩
        obtain ⟨g3, rfl⟩ := g2 h4
        exact ⟨g3, g, went_below (HB.out.trans (hW.mono HB.out.size)) F, HX.out.below hW⟩
      have H44 := hide h4
      clear h4
      go_region_with (first | (go_at_call 80; refine (HJ.out _ ((Below.refl _ _).drew)).mono ?_; rintro e W ⟨rfl, h5, h6, h7⟩; have H := hide (And.intro h5 h6); clear h5 h6))
      all_goals go_wp2
      all_goals go_ret
      all_goals exact ⟨(fun h => by cases h), fun _ h => absurd (H4.out.1 h) H44.out, fun _ _ => ⟨rfl, H.out.1⟩, H.out.2⟩

end

end Go.Proofs.YtgjfelkbblbjfaaGreatDoor
