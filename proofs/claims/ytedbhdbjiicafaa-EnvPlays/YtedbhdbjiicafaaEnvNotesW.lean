/- The walk of EnvNotes: many events that are noted at once are noted one by one. -/
import Derived.Test.YtedbhdbjiicafaaEnvKnown
import Derived.Deep.LoopGhost
namespace Go.Proofs.Ytedbhdbjiicafaa
open Go.RowKit
set_option linter.unusedVariables false

theorem Evs.blk {w : World} {a : Option Addr} {len : Nat} {es : List Evt} (h : Evs w a len es) (hl : 0 < len) (x : Addr) (hx : a = some x) : x.block < w.heap.size := by
  have h0 := h.length
  obtain ⟨b, o, h1, h2⟩ := h.cell 0 _ (List.getElem?_eq_getElem (by omega))
  have h3 := h2 0 (by omega)
  rw [h1] at hx
  cases hx
  exact World.block_lt_of_cell? w ⟨b, o + 0 * 4 + 0, none⟩ (h3.trans rfl)

/-- Events that came in. -/
theorem Has.arg {w0 w : World} {l : List (World → (Nat → Prop) → Prop)} (h : Has w0 w l) {a : Option Addr} {len : Nat} {es : List Evt} (hE : Evs w0 a len es) : Has w0 w (ArgT w0.heap.size a len es :: l) :=
  h.more (F := fun _ => False) (Below.refl _ _) ⟨hE.below h.bel, fun hl x hx => Or.inr (hE.blk hl x hx), fun x hx hl y hy => Or.inr ((hE.ok x hx).b.blk hl y hy), fun k hk => hk.elim⟩ (fun k hk => hk.elim) (arg_stays _ _ _ _)

set_option maxHeartbeats 6400000 in
theorem notes_walk (a : Option Addr) (len cap : Nat) (es : List Evt) (w : World) (hE : Evs w a len es) (hs : ∀ x ∈ es, x.len ≤ 140737488355328) :
    Calls Try.prog 4 #[.slice a len cap] w fun e w' => e = .returned (.bool true) ∧ Below w.heap.size w w' := by
  have hmx := hE.max
  have HE := hide hE
  have HS := hide hs
  have HTS : Hid (∀ s ∈ es.map Evt.says, s.bs.length ≤ 140737488355328) := hide (fun s h => by
    obtain ⟨x, hx, rfl⟩ := List.mem_map.1 h
    have h1 := hs x hx
    have h2 := (hE.ok x hx).b.length
    simp only [Evt.says]
    omega)
  have hel := hE.length
  clear hE hs
  by_cases h3 : 30 < len
  · have h3' : (30 : Int) < (len : Int) := by omega
    go_enter Try.func4, Try.ntmps4
    go_wp2_with fail
    refine (known_any _).mono ?_
    rintro e W1 ⟨rfl, hB1⟩
    have HB1 := hide hB1
    clear hB1
    go_wp2
    go_ret
    exact ⟨rfl, HB1.out⟩
  · go_enter Try.func4, Try.ntmps4
    go_wp2_with fail
    refine (known_any _).mono ?_
    rintro e W1 ⟨rfl, hB1⟩
    have HB1 := hide hB1
    clear hB1
    go_wp2_with fail
    refine (has_new (Has.start HB1.out) (Rd.nothing _) (by omega)).mono ?_
    rintro e W2 ⟨m1, rfl, hH⟩
    have H2 := hide hH
    clear hH HB1
    go_wp2_with fail
    refine (has_new H2.out (Rd.nothing _) (by omega)).mono ?_
    rintro e W3 ⟨m2, rfl, hH⟩
    have H3 := hide (hH.swap.arg HE.out).swap
    clear hH H2
    go_wp2_with fail
    refine (has_note (cap := cap) H3.out HS.out (by simp; omega)).mono ?_
    rintro e W4 ⟨rfl, hH⟩
    have H4 : Hid (Has w W4 [EV w.heap.size 46 m2 [] [], EV w.heap.size 46 m1 [] (es.map Evt.says)]) := hide hH.swap.drop.swap
    clear hH H3
    go_wp2
    go_loopw [5] (fun i wr => ∃ (j : Nat), j ≤ len ∧ i = .int .i64 (j : Int) ∧ Has w wr [EV w.heap.size 46 m2 [] ((es.take j).map Evt.says), EV w.heap.size 46 m1 [] (es.map Evt.says)]) (fun i _ => len - (intOf i).toNat)
    case atStart => exact ⟨0, by omega, rfl, H4.out⟩
    case round =>
      obtain ⟨j, hj, rfl, hH⟩ := hrel
      clear H4
      by_cases hlt : j < len
      · obtain ⟨x, hxj⟩ : ∃ x, es[j]? = some x := ⟨_, List.getElem?_eq_getElem (by omega)⟩
        have hxm : x ∈ es := List.mem_of_getElem? hxj
        have hE1 := HE.out.below hH.bel
        obtain ⟨b, o, hab, hcx⟩ := hE1.cell j x hxj
        have hxo := hE1.ok x hxm
        subst hab
        have k0 : wr.cell? ⟨b, o + j * 4, none⟩ = some (.int .i64 x.kind) := hcx 0 (by omega)
        have k1 : wr.cell? ⟨b, o + j * 4 + 1, none⟩ = some (.int .i64 x.fd) := hcx 1 (by omega)
        have k2 : wr.cell? ⟨b, o + j * 4 + 2, none⟩ = some (.slice x.a x.len x.cap) := hcx 2 (by omega)
        have k3 : wr.cell? ⟨b, o + j * 4 + 3, none⟩ = some (.int .i64 x.n) := hcx 3 (by omega)
        have HXO := hide hxo
        have HXM := hide hxm
        have HXJ := hide hxj
        have H5 := hide hH
        clear hcx hxo hH hxm hxj hE1
        by_cases h5 : 50 < x.len
        · have h5' : (50 : Int) < (x.len : Int) := by omega
          go_wp2
          go_ret
          exact ⟨rfl, H5.out.bel⟩
        · have h5' : decide ((50 : Int) < (x.len : Int)) = false := by simp; omega
          go_wp2_with fail
          have hN : Has w (wr.alloc (.cells #[.int .i64 x.kind, .int .i64 x.fd, .slice x.a x.len x.cap, .int .i64 x.n] 32)) [EV w.heap.size 46 m2 [] ((es.take j).map Evt.says), ArgT w.heap.size (some ⟨wr.heap.size, 0, none⟩) 1 [x], EV w.heap.size 46 m1 [] (es.map Evt.says)] :=
            (H5.out.arg1 ((Below.refl _ _).alloc (Nat.le_refl _) _) (t := 32) (Nat.le_refl _) (heap_alloc_new wr _) (HXO.out.below ((Below.refl _ _).alloc (Nat.le_refl _) _)) (fun hl y hy => Or.inr ((HE.out.ok x HXM.out).b.blk hl y hy))).swap
          refine (has_note (cap := 1) hN (by intro z hz; simp at hz; subst hz; omega) (by simp; omega)).mono ?_
          rintro e W6 ⟨rfl, hH⟩
          have H6 : Hid (Has w W6 [EV w.heap.size 46 m2 [] ((es.take (j + 1)).map Evt.says), EV w.heap.size 46 m1 [] (es.map Evt.says)]) := by
            refine hide ?_
            have h1 := says_snoc HXJ.out []
            simp only [List.nil_append] at h1
            rw [← h1]
            exact hH.swap.drop
          clear hN hH H5 HXO k0 k1 k2 k3
          go_wp2
          go_roundw
          case rel => exact ⟨j + 1, by omega, by go_num, H6.out⟩
          case measure => simp [intOf]; omega
      · obtain rfl : j = len := by omega
        rw [List.take_of_length_le (by omega)] at hH
        have H5 := hide hH
        have hml : (es.map Evt.says).length = j := by rw [List.length_map]; exact hel
        have HML := hide hml
        clear hH hml
        go_wp2_with fail
        refine (has_trace H5.out.swap HTS.out (by rw [HML.out]; omega)).mono ?_
        rintro e W6 ⟨a6, c6, es6, rfl, hE6, hs6, hb6⟩
        rw [HML.out] at hE6 ⊢
        have H6 := hide (H5.out.below hb6)
        have HE6 := hide hE6
        have HS6 := hide hs6
        clear hE6 hs6 hb6 H5
        go_wp2_with fail
        refine (events_any a6 a j c6 cap es6 es W6 HE6.out (HE.out.below H6.out.bel) HS6.out).mono ?_
        rintro e W7 ⟨rfl, hb7⟩
        have H7 := hide (H6.out.below hb7)
        clear hb7 H6 HE6 HS6
        go_wp2_with fail
        refine (has_trace H7.out HTS.out (by rw [HML.out]; omega)).mono ?_
        rintro e W8 ⟨a8, c8, es8, rfl, hE8, hs8, hb8⟩
        rw [HML.out] at hE8 ⊢
        have H8 := hide (H7.out.below hb8)
        have HE8 := hide hE8
        have HS8 := hide hs8
        clear hE8 hs8 hb8 H7
        go_wp2_with fail
        refine (events_any a8 a j c8 cap es8 es W8 HE8.out (HE.out.below H8.out.bel) HS8.out).mono ?_
        rintro e W9 ⟨rfl, hb9⟩
        have H9 := hide (H8.out.below hb9)
        clear hb9 H8 HE8 HS8
        go_wp2
        go_ret
        exact ⟨rfl, H9.out.bel⟩

end Go.Proofs.Ytedbhdbjiicafaa
