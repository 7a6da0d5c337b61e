/- An index read: the contract of armap.Parse. -/
import Derived.Test.YteknmlcgdjoccaaArmNames
namespace Go.Proofs.Yteknmlcgdjoccaa
open Go.RowKit
set_option linter.unusedVariables false
set_option maxRecDepth 20000
set_option linter.unusedSimpArgs false

def ixO (l : T8) (count : Int) : Option (List T8) :=
  if l = [] then some [] else if l.length < 4 then none else if 2000 < nb4 l ∨ (0 < nb4 l ∧ count < 1) then none else nbO (nb4 l) (l.drop 4)
/-- What is told of an index. -/
def PxR (w w' : World) (o : Option (List T8)) (e : Ending) : Prop :=
  match o with
  | some ns => ∃ v, e = .returned (.tuple #[v, .int .i64 0]) ∧ w'.ownsRow w.heap.size 9 1 v ns.length (csT ns)
  | none => e = .returned (.tuple #[.slice none 0 0, .int .i64 41])
theorem PxR.no {w w' : World} {o : Option (List T8)} (h : o = none) : PxR w w' o (.returned (.tuple #[.slice none 0 0, .int .i64 41])) := by rw [h]; rfl
theorem PxR.yes {w w' : World} {o : Option (List T8)} {ns : List T8} (v : Value) (h : o = some ns) (hr : w'.ownsRow w.heap.size 9 1 v ns.length (csT ns)) : PxR w w' o (.returned (.tuple #[v, .int .i64 0])) := by rw [h]; exact ⟨v, rfl, hr⟩

theorem NbR.drew {w w' : World} {q : Nat} {o : Option (List T8)} {e : Ending} (h : NbR (w.drewN q) w' o e) : NbR w w' o e := by
  cases o with
  | none => exact h
  | some ns =>
    obtain ⟨v, he, hr⟩ := h
    exact ⟨v, he, hr⟩
theorem ixO_nil (count : Int) : ixO [] count = some [] := by unfold ixO; rw [if_pos rfl]

set_option maxHeartbeats 3200000 in
theorem ixparse_any (a : Option Addr) (cap : Nat) (l : T8) (w : World) (r : Rt w a cap l) (count : Int) (hc0 : -9223372036854775808 ≤ count) (hc1 : count ≤ 9223372036854775807) :
    Calls Try.prog 9 #[.slice a l.length cap, .int .i64 count] w fun e w' => Below w.heap.size w w' ∧ PxR w w' (ixO l count) e := by
  have hle := r.le
  have hmx := r.max
  have HR := hide r
  by_cases h0 : l = []
  · subst h0
    go_enter Try.func9, Try.ntmps9
    go_wp2_with fail
    go_ret2
    exact ⟨Below.refl _ _, PxR.yes (ns := []) _ (ixO_nil count) (World.ownsRow_nil _ _ _ _)⟩
  have hl0 : ((l.length : Int) == 0) = false := by simp; exact h0
  by_cases h4 : l.length < 4
  · have hd : decide ((l.length : Int) < 4) = true := decide_eq_true (by omega)
    have HZ : Hid (ixO l count = none) := by
      show _ = _
      unfold ixO
      rw [if_neg h0, if_pos h4]
    clear h0
    go_enter Try.func9, Try.ntmps9
    go_wp2_with fail
    go_ret2
    exact ⟨Below.refl _ _, PxR.no HZ.out⟩
  have hd : decide ((l.length : Int) < 4) = false := decide_eq_false (by omega)
  have HF := hide (first_any a cap l w r (by omega))
  have hnb := nb4_lt l
  have hI : ixO l count = if 2000 < nb4 l ∨ (0 < nb4 l ∧ count < 1) then none else nbO (nb4 l) (l.drop 4) := by unfold ixO; rw [if_neg h0, if_neg h4]
  have HT1 := hide (fun hc : cap = 4 => r.tail_end 4 (by omega) hc)
  have HT2 := hide (r.tailM 4 (by omega))
  have hrl : (l.drop 4).length = l.length - 4 := by simp
  clear h0 r
  generalize nb4 l = n at *
  generalize hrt : l.drop 4 = rt at *
  clear hrt
  by_cases hbad : 2000 < n ∨ (0 < n ∧ count < 1)
  · have HZ : Hid (ixO l count = none) := by
      show _ = _
      rw [hI, if_pos hbad]
    clear hI HT1 HT2
    by_cases h20 : 2000 < n
    · have hg : decide ((2000 : Int) < (n : Int)) = true := decide_eq_true (by omega)
      clear hbad
      go_enter Try.func9, Try.ntmps9
      go_wp2_with fail
      refine HF.out.mono ?_
      rintro e w' ⟨rfl, q, rfl⟩
      go_wp2_with fail
      go_ret2
      exact ⟨bel_drewN _ _, PxR.no HZ.out⟩
    · have hg : decide ((2000 : Int) < (n : Int)) = false := decide_eq_false (by omega)
      obtain ⟨hn0, hcn⟩ : 0 < n ∧ count < 1 := by omega
      have hg2 : decide ((0 : Int) < (n : Int)) = true := decide_eq_true (by omega)
      clear hbad
      go_enter Try.func9, Try.ntmps9
      go_wp2_with fail
      refine HF.out.mono ?_
      rintro e w' ⟨rfl, q, rfl⟩
      go_wp2_with fail
      go_ret2
      exact ⟨bel_drewN _ _, PxR.no HZ.out⟩
  · have hg : decide ((2000 : Int) < (n : Int)) = false := decide_eq_false (by omega)
    have HZ : Hid (ixO l count = nbO n rt) := by
      show _ = _
      rw [hI, if_neg hbad]
    have hb2 : ¬ (0 < n ∧ count < 1) := fun h => hbad (.inr h)
    have hn2 : n ≤ 2000 := by omega
    have key : ∀ (q : Nat) (a2 : Option Addr) (c2 : Nat), Rt w a2 c2 rt → Calls Try.prog 17 #[.slice a2 (l.length - 4) c2, .int .i64 (n : Int)] (w.drewN q) fun e w' => Below w.heap.size w w' ∧ NbR w w' (nbO n rt) e := fun q a2 c2 h2 => by
      have := nb_any a2 c2 rt (w.drewN q) (Rd.below h2 (bel_drewN w q)) n hn2
      rw [hrl] at this
      exact this.mono (fun e w' ⟨h5, h6⟩ => ⟨(bel_drewN w q).trans h5, h6.drew⟩)
    have HK := hide key
    clear hI key hbad
    go_enter Try.func9, Try.ntmps9
    go_upto_region 6 with fail
    refine HF.out.mono ?_
    rintro e w' ⟨rfl, q, rfl⟩
    have ht : decide (0 < n) = false ∨ (decide (0 < n) = true ∧ decide (count < (1 : Int)) = false) := by
      by_cases hn0 : n = 0
      · exact .inl (decide_eq_false (by omega))
      · exact .inr ⟨decide_eq_true (by omega), decide_eq_false (by omega)⟩
    clear HF hb2
    obtain ⟨o, ho⟩ : ∃ o, nbO n rt = o := ⟨_, rfl⟩
    rw [ho] at HK HZ
    clear ho
    have hX : ∃ a2 c2, Hid (Calls Try.prog 17 #[.slice a2 (l.length - 4) c2, .int .i64 (n : Int)] (w.drewN q) fun e w' => Below w.heap.size w w' ∧ NbR w w' o e) ∧ ((cap = 4 ∧ a2 = a ∧ c2 = 0) ∨ (cap ≠ 4 ∧ a2 = a.map (fun x => x.add 4) ∧ c2 = cap - 4)) := by
      by_cases hc4 : cap = 4
      · exact ⟨a, 0, HK.out q _ _ (HT1.out hc4), .inl ⟨hc4, rfl, rfl⟩⟩
      · exact ⟨_, _, HK.out q _ _ HT2.out, .inr ⟨hc4, rfl, rfl⟩⟩
    obtain ⟨a2, c2, HX, hcc⟩ := hX
    clear HK HT1 HT2 HR
    rcases ht with hg2 | ⟨hg2, hg3⟩ <;> rcases hcc with ⟨hc4, rfl, rfl⟩ | ⟨hc4, rfl, rfl⟩
    all_goals
      go_wp2_with fail
      refine HX.out.mono ?_
      rintro e w' ⟨hb, hr⟩
      have HB := hide hb
      clear hb HX
      cases o with
      | none =>
        obtain ⟨v, rfl⟩ := hr
        go_wp2_with fail
        go_ret2
        exact ⟨HB.out, PxR.no HZ.out⟩
      | some ns =>
        obtain ⟨v, rfl, hrow⟩ := hr
        have HW := hide hrow
        clear hrow
        go_wp2_with fail
        go_ret2
        exact ⟨HB.out, PxR.yes _ HZ.out HW.out⟩

end Go.Proofs.Yteknmlcgdjoccaa
