/- The contract of package mem's Map. -/
import Derived.Test.YtggmeopohpbmlaaMemStore
namespace Go.Proofs.Ytggmeopohpbmlaa
open Go.RowKit Go.Maps
set_option linter.unusedVariables false

theorem PMx.mapped1 {V V' : World} {m b : Nat} {dt : Nat → Option Nat} {S : Mm} {F : Nat → Prop} (h : PMx V m b dt S F) {i : Nat} {p : Int} (h0 : S.perm i = 0) (hp : 1 ≤ p ∧ p ≤ 7) (hi : i < 34359738368) (hc : S.count + 1 ≤ 65536)
    (hmap : MapAt V' b (S.count + 1) (upd (fun j => if S.perm j = 0 then none else some (pv (S.perm j) (dt j))) i (pv p none))) (hK : Kept (fun k => k = b) V V') :
    PMx V' m b dt (S.mapped i 1 p) F := by
  have same : ∀ k, F k → k ≠ b → V'.heap[k]? = V.heap[k]? := fun k hF hne => hK.block k (h.flt k hF) hne
  have hdi := h.dn i h0
  have hpe : ∀ j, (S.mapped i 1 p).perm j = if j = i then p else S.perm j := fun j => by
    simp only [Mm.mapped]
    by_cases hji : j = i
    · rw [if_pos hji, if_pos (by omega)]
    · rw [if_neg hji, if_neg (by omega)]
  have hby : ∀ j k, k < 4096 → (S.mapped i 1 p).byte (j * 4096 + k) = if j = i then 0 else S.byte (j * 4096 + k) := fun j k hk => by
    simp only [Mm.mapped]
    have e : (j * 4096 + k) / 4096 = j := by omega
    rw [e]
    by_cases hji : j = i
    · rw [if_pos hji, if_pos (by omega)]
    · rw [if_neg hji, if_neg (by omega)]
  refine ⟨(same m h.fm h.mb).trans h.head, hmap.congr (fun j _ => ?_), h.good.mapped i 1 hp hc (by omega), ?_, ?_, ?_, h.apart, h.fm, h.fb, h.fg, fun k hk => Nat.lt_of_lt_of_le (h.flt k hk) hK.size⟩
  · unfold upd
    rw [hpe j]
    by_cases hji : j = i
    · have hp0 : p ≠ 0 := by omega
      rw [if_pos hji, if_pos hji, if_neg hp0, hji, hdi]
    · rw [if_neg hji, if_neg hji]
  · intro j hj
    rw [hpe j] at hj
    by_cases hji : j = i
    · rw [if_pos hji] at hj; omega
    · rw [if_neg hji] at hj
      exact h.dn j hj
  · intro j hj hd k hk
    rw [hby j k hk]
    by_cases hji : j = i
    · rw [if_pos hji]
    · rw [if_neg hji]
      rw [hpe j, if_neg hji] at hj
      exact h.noughts j hj hd k hk
  · intro j g hg
    have hji : j ≠ i := fun e => by rw [e, hdi] at hg; cases hg
    obtain ⟨cs, h1, h2, h3⟩ := h.page j g hg
    exact ⟨cs, (same g (h.fg j g hg) (h.gb hg)).trans h1, h2, fun k hk => by rw [h3 k hk, hby j k hk, if_neg hji]⟩

/-- Whether so much may be mapped there. -/
def MapOk (S : Mm) (a size : Nat) (p : Int) (len : Nat) : Prop := (a % 4096 = 0 ∧ 0 < size ∧ a + size ≤ 140737488355328) ∧ PermOk p ∧ len ≤ size ∧ Sparep S (a / 4096) ((size + 4095) / 4096)
noncomputable def mapB (S : Mm) (a size : Nat) (p : Int) (len : Nat) : Bool := @decide (MapOk S a size p len) (Classical.propDecidable _)
theorem mapB_yes {S : Mm} {a size : Nat} {p : Int} {len : Nat} (h : MapOk S a size p len) : mapB S a size p len = true := @decide_eq_true _ (Classical.propDecidable _) h
theorem mapB_no {S : Mm} {a size : Nat} {p : Int} {len : Nat} (h : ¬ MapOk S a size p len) : mapB S a size p len = false := @decide_eq_false _ (Classical.propDecidable _) h
/-- The memory behind a map. -/
noncomputable def mappedTo (S : Mm) (a size : Nat) (p : Int) (bs : List Int) : Mm := if mapB S a size p bs.length = true then (S.mapped (a / 4096) ((size + 4095) / 4096) p).lay a bs else S

set_option maxRecDepth 20000 in
set_option maxHeartbeats 1600000 in
theorem map_any (m : Nat) (S : Mm) (F : Nat → Prop) (a0 size : Nat) (p : Int) (a : Option Addr) (len cap : Nat) (bs : List Int) (w : World) (h : PM w m S F) (ha : a0 ≤ 18446744073709551615) (hs : size ≤ 18446744073709551615)
    (hp0 : -9223372036854775808 ≤ p) (hp1 : p ≤ 9223372036854775807) (r : Rd w a len cap bs) (hsep : 0 < len → ∀ x, a = some x → ¬ F x.block) :
    Calls Try.prog 12 #[.pointer (some ⟨m, 0, none⟩), .int .u64 (a0 : Int), .int .u64 (size : Int), .int .i64 p, .slice a len cap] w fun e w' =>
      e = .returned (.int .i64 (if mapB S a0 size p len = true then 0 else 20)) ∧ ∃ F', PM w' m (mappedTo S a0 size p bs) F' ∧ Went F w F' w' := by
  have hle0 := r.le
  have hmx := r.max
  have hbl := r.length
  have HR := hide (rangeGood_any a0 size)
  have HPm := hide (permGood_any p)
  unfold mappedTo
  rw [hbl]
  by_cases h1 : a0 % 4096 = 0 ∧ 0 < size ∧ a0 + size ≤ 140737488355328
  · have HR2 : Hid (∀ w, Calls Try.prog 28 #[.int .u64 (a0 : Int), .int .u64 (size : Int)] w fun e w' => e = .returned (.bool true) ∧ w' = w) := fun w => by
      have := HR.out w ha hs
      rwa [decide_eq_true h1] at this
    clear HR
    by_cases h2 : PermOk p
    · have HP2 : Hid (∀ w, Calls Try.prog 29 #[.int .i64 p] w fun e w' => e = .returned (.bool true) ∧ w' = w) := fun w => by
        have := HPm.out w hp0 hp1
        rwa [decide_eq_true h2] at this
      clear HPm
      by_cases h3 : len ≤ size
      · have hf' : (a0 : Int) / 4096 = ((a0 / 4096 : Nat) : Int) := by omega
        have hn' : ((size : Int) + 4096 - 1) / 4096 = (((size + 4095) / 4096 : Nat) : Int) := by omega
        have HS := hide (spare_any m S F (a0 / 4096) ((size + 4095) / 4096) w h (by omega))
        have hfn : a0 / 4096 + (size + 4095) / 4096 ≤ 34359738368 := by omega
        have hcov : ∀ i, a0 / 4096 ≤ i → i * 4096 < a0 + len → i < a0 / 4096 + (size + 4095) / 4096 := fun i h4 h5 => by omega
        by_cases h4 : Sparep S (a0 / 4096) ((size + 4095) / 4096)
        · have e1 : mapB S a0 size p len = true := mapB_yes ⟨h1, h2, h3, h4⟩
          rw [e1, if_pos rfl, if_pos rfl]
          rw [spareB_yes h4] at HS
          have HCov := hide hcov
          generalize a0 / 4096 = f at *
          generalize (size + 4095) / 4096 = n at *
          have HM := hide h
          have HRd := hide r
          have HSe := hide hsep
          have HSp := hide h4
          have HPo := hide h2
          have h3' : decide ((size : Int) < (len : Int)) = false := by simp; omega
          have hsz := h1.2.2
          clear h r hsep h4 h1 h2 e1 hcov
          go_enter Try.func12, Try.ntmps12
          go_wp2_with fail
          refine (HR2.out _).mono ?_
          rintro e w' ⟨rfl, rfl⟩
          go_wp2_with fail
          refine (HP2.out _).mono ?_
          rintro e w' ⟨rfl, rfl⟩
          go_wp2_with fail
          refine HS.out.mono ?_
          rintro e W ⟨rfl, hBW⟩
          have HBW := hide hBW
          clear hBW HS HR2 HP2
          go_wp2
          go_loopw [42] (fun v wr => ∃ k : Nat, k ≤ n ∧ v = .int .u64 (k : Int) ∧ PM wr m (S.mapped f k p) F ∧ Kept F w' wr) (fun v _ => n - (intOf v).toNat)
          case atStart => exact ⟨0, by omega, rfl, by rw [Mm.mapped_zero]; exact HM.out.below HBW.out, kept_of_below HBW.out F⟩
          case round =>
            obtain ⟨k, hk, rfl, hP, hK⟩ := hrel
            by_cases hlt : k < n
            · obtain ⟨b, dt, hX⟩ := hP
              have hc := hX.cell
              have h0 : (S.mapped f k p).perm (f + k) = 0 := by
                simp only [Mm.mapped]
                rw [if_neg (by omega)]
                exact HSp.out.2 (f + k) (by omega) (by omega)
              have hcn : (S.mapped f k p).count + 1 ≤ 65536 := by
                have := HSp.out.1
                simp only [Mm.mapped]; omega
              obtain ⟨V, hrun, hm2, hgr, hsz2⟩ := hX.map.store (t := 53) Try.underlying53 (by unfold maxLen; omega) (f + k) (by omega) (pv p none)
              rw [if_pos h0] at hm2
              simp only [Option.isSome_none, Bool.false_eq_true, if_false] at hm2
              simp only [pv, dsl] at hrun
              rw [show ((f + k : Nat) : Int) = (f : Int) + (k : Int) by omega] at hrun
              have hKV : Kept (fun k => k = b) wr V := Kept.of_grown hgr (fun k hk => (Option.some.inj hk).symm)
              have HXV : Hid (PM V m (S.mapped f (k + 1) p) F) := by
                have h9 := hX.mapped1 h0 HPo.out.bd (by omega) hcn hm2 hKV
                rw [Mm.mapped_succ] at h9
                exact ⟨b, dt, h9⟩
              have HKV : Hid (Kept F w' V) := hK.trans hKV (fun k hk => by subst hk; exact Or.inl hX.fb)
              clear hX hK hm2 hgr hsz2 hKV h0 hcn
              go_wp2
              go_roundw
              case rel => exact ⟨k + 1, by omega, by go_num, HXV.out, HKV.out⟩
              case measure => simp [intOf]; omega
            · obtain rfl : k = n := by omega
              have hr2 : Rd wr a len cap bs := hK.rd HRd.out HSe.out
              have HPut := hide (put_any m (S.mapped f k p) F a0 a len cap bs wr hP ha hr2 HSe.out (fun i h5 h6 h7 => by
                have h8 := HCov.out i (by omega) h6
                have h9 := HPo.out.bd
                simp only [Mm.mapped]
                rw [if_pos (by omega)]
                omega))
              have HK := hide hK
              clear hK hP hr2
              go_wp2_with fail
              refine HPut.out.mono ?_
              rintro e V ⟨rfl, F', hP, hW⟩
              have HP := hide hP
              have HW : Hid (Went F w' F' V) := ⟨HK.out.trans hW.1 (fun k hk => Or.inl hk), fun k hk => by
                rcases hW.2 k hk with h5 | h5
                · exact Or.inl h5
                · have := HK.out.size; exact Or.inr (by omega)⟩
              clear hP hW HPut
              go_wp2
              go_ret
              exact ⟨rfl, F', HP.out, HW.out⟩
        · have e1 : mapB S a0 size p len = false := mapB_no (fun h => h4 h.2.2.2)
          rw [e1, if_neg (by decide), if_neg (by decide)]
          rw [spareB_no h4] at HS
          generalize a0 / 4096 = f at *
          generalize (size + 4095) / 4096 = n at *
          have HM := hide h
          have h3' : decide ((size : Int) < (len : Int)) = false := by simp; omega
          clear h r hsep h4 h1 h2 e1 hcov
          go_enter Try.func12, Try.ntmps12
          go_wp2_with fail
          refine (HR2.out _).mono ?_
          rintro e w' ⟨rfl, rfl⟩
          go_wp2_with fail
          refine (HP2.out _).mono ?_
          rintro e w' ⟨rfl, rfl⟩
          go_wp2_with fail
          refine HS.out.mono ?_
          rintro e W ⟨rfl, hBW⟩
          have HBW := hide hBW
          clear hBW HS HR2 HP2
          go_wp2
          go_ret
          exact ⟨rfl, F, HM.out.below HBW.out, kept_of_below HBW.out F, fun k hk => Or.inl hk⟩
      · have e1 : mapB S a0 size p len = false := mapB_no (fun h => h3 h.2.2.1)
        rw [e1, if_neg (by decide), if_neg (by decide)]
        have HM := hide h
        clear h r hsep h1 h2 e1
        go_enter Try.func12, Try.ntmps12
        go_wp2_with fail
        refine (HR2.out _).mono ?_
        rintro e w' ⟨rfl, rfl⟩
        go_wp2_with fail
        refine (HP2.out _).mono ?_
        rintro e w' ⟨rfl, rfl⟩
        go_wp2_with fail
        go_ret
        exact ⟨rfl, F, HM.out, Went.refl _ _⟩
    · have e1 : mapB S a0 size p len = false := mapB_no (fun h => h2 h.2.1)
      rw [e1, if_neg (by decide), if_neg (by decide)]
      have HP2 : Hid (∀ w, Calls Try.prog 29 #[.int .i64 p] w fun e w' => e = .returned (.bool false) ∧ w' = w) := fun w => by
        have := HPm.out w hp0 hp1
        rwa [decide_eq_false h2] at this
      have HM := hide h
      clear h r hsep h1 h2 e1 HPm
      go_enter Try.func12, Try.ntmps12
      go_wp2_with fail
      refine (HR2.out _).mono ?_
      rintro e w' ⟨rfl, rfl⟩
      go_wp2_with fail
      refine (HP2.out _).mono ?_
      rintro e w' ⟨rfl, rfl⟩
      go_wp2_with fail
      go_ret
      exact ⟨rfl, F, HM.out, Went.refl _ _⟩
  · have e1 : mapB S a0 size p len = false := mapB_no (fun h => h1 h.1)
    rw [e1, if_neg (by decide), if_neg (by decide)]
    have HR2 : Hid (∀ w, Calls Try.prog 28 #[.int .u64 (a0 : Int), .int .u64 (size : Int)] w fun e w' => e = .returned (.bool false) ∧ w' = w) := fun w => by
      have := HR.out w ha hs
      rwa [decide_eq_false h1] at this
    have HM := hide h
    clear h r hsep h1 e1 HPm HR
    go_enter Try.func12, Try.ntmps12
    go_wp2_with fail
    refine (HR2.out _).mono ?_
    rintro e w' ⟨rfl, rfl⟩
    go_wp2_with fail
    go_ret
    exact ⟨rfl, F, HM.out, Went.refl _ _⟩

end Go.Proofs.Ytggmeopohpbmlaa
