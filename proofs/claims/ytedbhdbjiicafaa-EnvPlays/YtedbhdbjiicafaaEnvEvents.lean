/- The contract of the statements' help Events: two lists of events that say the same are told to be the same. -/
import Derived.Test.YtedbhdbjiicafaaEnvOut
import Derived.BigQuiet
namespace Go.Proofs.Ytedbhdbjiicafaa
open Go.RowKit
set_option linter.unusedVariables false

theorem bel_drewN (w : World) (n : Nat) : Below w.heap.size w (w.drewN n) := ⟨rfl, rfl, rfl, Nat.le_refl _, fun _ _ => rfl⟩

set_option maxHeartbeats 3200000 in
theorem events_any (a a2 : Option Addr) (n cap cap2 : Nat) (es es2 : List Evt) (w : World) (h : Evs w a n es) (h2 : Evs w a2 n es2) (hs : es.map Evt.says = es2.map Evt.says) :
    Calls Try.prog 12 #[.slice a n cap, .slice a2 n cap2] w fun e w' => e = .returned (.bool true) ∧ Below w.heap.size w w' := by
  have hmx := h.max
  have H := hide h
  have H2 := hide h2
  have HS := hide hs
  clear h h2 hs
  go_enter Try.func12, Try.ntmps12
  go_wp2
  go_loopw [5] (fun i wr => ∃ (j : Nat), j ≤ n ∧ i = .int .i64 (j : Int) ∧ Below w.heap.size w wr) (fun i _ => n - (intOf i).toNat)
  case atStart => exact ⟨0, by omega, rfl, Below.refl _ _⟩
  case round =>
    obtain ⟨j, hj, rfl, hB⟩ := hrel
    by_cases hlt : j < n
    · have hl1 := H.out.length
      have hl2 := H2.out.length
      obtain ⟨x, hxj⟩ : ∃ x, es[j]? = some x := ⟨_, List.getElem?_eq_getElem (by omega)⟩
      obtain ⟨y, hyj⟩ : ∃ y, es2[j]? = some y := ⟨_, List.getElem?_eq_getElem (by omega)⟩
      have hE1 := H.out.below hB
      have hE2 := H2.out.below hB
      obtain ⟨b, o, hab, hcx⟩ := hE1.cell j x hxj
      obtain ⟨b2, o2, hab2, hcy⟩ := hE2.cell j y hyj
      have hxo := (hE1.ok x (List.mem_of_getElem? hxj)).b
      have hyo := (hE2.ok y (List.mem_of_getElem? hyj)).b
      have hsay : x.says = y.says := by
        have h1 : (es.map Evt.says)[j]? = (es2.map Evt.says)[j]? := by rw [HS.out]
        rw [List.getElem?_map, List.getElem?_map, hxj, hyj] at h1
        simpa using h1
      subst hab hab2
      obtain ⟨kind, fd, xa, xl, xc, xn, xb⟩ := x
      obtain ⟨kind2, fd2, ya, yl, yc, yn, yb⟩ := y
      simp only [Evt.says, Says.mk.injEq] at hsay
      obtain ⟨rfl, rfl, rfl, rfl⟩ := hsay
      have k0 : wr.cell? ⟨b, o + j * 4, none⟩ = some (.int .i64 kind) := hcx 0 (by omega)
      have k1 : wr.cell? ⟨b, o + j * 4 + 1, none⟩ = some (.int .i64 fd) := hcx 1 (by omega)
      have k2 : wr.cell? ⟨b, o + j * 4 + 2, none⟩ = some (.slice xa xl xc) := hcx 2 (by omega)
      have k3 : wr.cell? ⟨b, o + j * 4 + 3, none⟩ = some (.int .i64 xn) := hcx 3 (by omega)
      have l0 : wr.cell? ⟨b2, o2 + j * 4, none⟩ = some (.int .i64 kind) := hcy 0 (by omega)
      have l1 : wr.cell? ⟨b2, o2 + j * 4 + 1, none⟩ = some (.int .i64 fd) := hcy 1 (by omega)
      have l2 : wr.cell? ⟨b2, o2 + j * 4 + 2, none⟩ = some (.slice ya yl yc) := hcy 2 (by omega)
      have l3 : wr.cell? ⟨b2, o2 + j * 4 + 3, none⟩ = some (.int .i64 xn) := hcy 3 (by omega)
      dsimp only at hxo hyo
      have s1 := fun k => (hxo.below (bel_drewN wr k)).str
      have s2 := fun k => (hyo.below (bel_drewN wr k)).str
      generalize strOfNums xb = S at *
      have HB := hide hB
      clear hcx hcy hxo hyo hxj hyj hB hE1 hE2 hl1 hl2
      go_upto_region 6 with fail
      go_quiet (fail)
      go_wp2
      go_roundw
      case rel => exact ⟨j + 1, by omega, by go_num, HB.out.trans ((bel_drewN wr _).mono HB.out.size)⟩
      case measure => simp [intOf]; omega
    · have HB := hide hB
      clear hB
      go_wp2
      go_ret
      exact ⟨rfl, HB.out⟩

end Go.Proofs.Ytedbhdbjiicafaa
