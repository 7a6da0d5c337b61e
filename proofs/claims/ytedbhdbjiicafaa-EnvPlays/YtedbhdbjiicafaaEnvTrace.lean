/- The contract of env's Trace: the events, in new memory. -/
import Derived.Test.YtedbhdbjiicafaaEnvNote
namespace Go.Proofs.Ytedbhdbjiicafaa
open Go.RowKit
set_option linter.unusedVariables false

/-- A row of events of the call's own, as it grows. -/
structure TSt (w wr : World) (v : Value) (es : List Evt) : Prop where
  row : wr.ownsRow w.heap.size 32 4 v es.length (evCells es)
  ok : ∀ x ∈ es, x.Ok wr
  off : ∀ x ∈ es, 0 < x.len → ∀ y, x.a = some y → v.ownBlock ≠ some y.block
  bel : Below w.heap.size w wr

theorem TSt.step {w wr W1 W2 : World} {v : Value} {es : List Evt} (h : TSt w wr v es) (hb : Below wr.heap.size wr W1) (x : Evt) (hx : x.Ok W1) (hn : ∀ y, x.a = some y → wr.heap.size ≤ y.block) {o : Obj} {gg cap L : Nat} (hL : es.length = L)
    (hown : W2.ownsRow w.heap.size 32 4 (.slice (some ⟨gg, 0, none⟩) (L + 1) cap) (L + 1) (evCells es ++ x.cells)) (hgrow : (W1.alloc o).grownBy W2 v.ownBlock) (hat : v.ownBlock = some gg ∨ gg = W1.heap.size + 1) :
    TSt w W2 (.slice (some ⟨gg, 0, none⟩) (L + 1) cap) (es ++ [x]) := by
  subst hL
  have hsz := hb.size
  have gl := ownsRow_blk h.row
  have k1 : Kept (fun k => v.ownBlock = some k) W1 W2 := ((Kept.refl _ W1).alloc o).trans (Kept.of_grown hgrow (fun k hk => hk)) (fun k hk => Or.inl hk)
  have k0 : Kept (fun k => v.ownBlock = some k) wr W2 := (kept_of_below hb _).trans k1 (fun k hk => Or.inl hk)
  have hnb : ∀ {g : Nat}, (Value.slice (some ⟨gg, 0, none⟩) (es.length + 1) cap).ownBlock = some g → g = gg := fun {g} h => by
    simp [Value.ownBlock] at h
    exact h.symm
  have hvb : ∀ k, v.ownBlock = some k → w.heap.size ≤ k := by
    intro k hk
    rcases h.row.2 with ⟨rfl, _⟩ | ⟨g, c, cur, rfl, h2, _⟩
    · cases hk
    · cases hk
      exact h2
  refine ⟨by rw [evCells_append, evCells_one, List.length_append]; exact hown, fun z hz => ?_, fun z hz h0 y hy e => ?_, h.bel.trans (k0.below h.bel.size hvb)⟩
  · rcases List.mem_append.1 hz with hz | hz
    · exact ⟨(h.ok z hz).kind, (h.ok z hz).fd, (h.ok z hz).n, k0.rd (h.ok z hz).b (h.off z hz)⟩
    · obtain rfl : z = x := by simpa using hz
      refine ⟨hx.kind, hx.fd, hx.n, k1.rd hx.b (fun _ y hy e => ?_)⟩
      have h1 := hn y hy
      have h2 := gl _ e
      omega
  · have e' := hnb e
    rcases List.mem_append.1 hz with hz | hz
    · have h1 := (h.ok z hz).b.blk h0 y hy
      rcases hat with h2 | h2
      · exact h.off z hz h0 y hy (e'.symm ▸ h2)
      · omega
    · obtain rfl : z = x := by simpa using hz
      have h1 := hx.b.blk h0 y hy
      have h3 := hn y hy
      rcases hat with h2 | h2
      · have := gl _ h2; omega
      · omega

set_option maxHeartbeats 3200000 in
theorem trace_any (B : Nat) (m : Nat) (ins : List Int) (tr : List Says) (w : World) (F : Nat → Prop) (h : EV B 46 m ins tr w F) (hs : ∀ s ∈ tr, s.bs.length ≤ 140737488355328) (hn : tr.length ≤ 1000000) :
    Calls Try.prog 13 #[.pointer (some ⟨m, 0, none⟩)] w fun e w' => ∃ a c es, e = .returned (.slice a tr.length c) ∧ Evs w' a tr.length es ∧ es.map Evt.says = tr ∧ Below w.heap.size w w' := by
  obtain ⟨i0, hi, hz0, hz1, hz2⟩ := info_parts Try.infoEv
  obtain ⟨wa, wl, wc, ev, es, h, ht⟩ := h
  have c1 := h.cell1
  obtain ⟨a0, cap0, rfl, hE, hcap, hcm⟩ := Evs.own h.row h.ok
  have hlen : es.length = tr.length := by rw [← ht, List.length_map]
  rw [hlen] at c1 hE hcap
  obtain ⟨n, hnn⟩ : ∃ n, tr.length = n := ⟨_, rfl⟩
  rw [hnn] at c1 hE hcap hlen hn ⊢
  obtain ⟨W0, hmk, hown0, hgrow0⟩ := run_make_own (P := Try.prog) w w.heap.size 28 32 i0 _ 4 Try.underlying28 hi hz0 hz1 .i64 .i64 n (by rw [hz2]; omega) (by unfold maxLen; omega) (Nat.le_refl _)
  have b0 : Below w.heap.size w W0 := (Below.refl _ _).grown hgrow0 (Nat.le_refl _) (by intro k hk; cases hk)
  have hml := h.lt
  have c1' : W0.cell? ⟨m, 1, none⟩ = some (.slice a0 n cap0) := (b0.cell hml).trans c1
  have HTS0 : Hid (TSt w W0 (.slice (some ⟨w.heap.size, 0, none⟩) 0 n) []) := hide ⟨hown0, (fun x hx => by cases hx), (fun x hx => by cases hx), b0⟩
  have HE := hide hE
  have HTR := hide ht
  have HS := hide hs
  clear h hs hE hown0 hgrow0 b0 ht hnn
  go_enter Try.func13, Try.ntmps13
  go_wp2
  go_loopw [3, 17] (fun v i wr => ∃ (j : Nat) (es1 : List Evt), j ≤ n ∧ i = .int .i64 (j : Int) ∧ es1.length = j ∧ es1.map Evt.says = (es.take j).map Evt.says ∧ TSt w wr v es1) (fun _ i _ => n - (intOf i).toNat)
  case atStart => exact ⟨0, [], by omega, rfl, rfl, rfl, HTS0.out⟩
  case round =>
    obtain ⟨j, es1, hj, rfl, hl1, hm1, hTS⟩ := hrel
    clear c1 c1' hmk
    by_cases hlt : j < n
    · obtain ⟨x, hxj⟩ : ∃ x, es[j]? = some x := ⟨_, List.getElem?_eq_getElem (by omega)⟩
      have hxm : x ∈ es := List.mem_of_getElem? hxj
      have hE1 := HE.out.below hTS.bel
      obtain ⟨b, o, hab, hcx⟩ := hE1.cell j x hxj
      have hxo := hE1.ok x hxm
      subst hab
      have k0 : wr.cell? ⟨b, o + j * 4, none⟩ = some (.int .i64 x.kind) := hcx 0 (by omega)
      have k1 : wr.cell? ⟨b, o + j * 4 + 1, none⟩ = some (.int .i64 x.fd) := hcx 1 (by omega)
      have k2 : wr.cell? ⟨b, o + j * 4 + 2, none⟩ = some (.slice x.a x.len x.cap) := hcx 2 (by omega)
      have k3 : wr.cell? ⟨b, o + j * 4 + 3, none⟩ = some (.int .i64 x.n) := hcx 3 (by omega)
      have HXO := hide hxo
      have HTS := hide hTS
      have HXJ := hide hxj
      have HL1 := hide hl1
      have HM1 := hide hm1
      have hsx : x.len ≤ 140737488355328 := by
        have h1 := HS.out x.says (by rw [← HTR.out]; exact List.mem_map_of_mem hxm)
        have h2 := hxo.b.length
        simp only [Evt.says] at h1
        omega
      have HSX := hide hsx
      clear hcx hxo hTS hxm hxj hE1 hl1 hm1 hsx
      go_wp2_with fail
      obtain ⟨V, hV⟩ : ∃ V, V = wr.alloc (.cells #[.int .i64 x.kind, .int .i64 x.fd, .slice x.a x.len x.cap, .int .i64 x.n] 32) := ⟨_, rfl⟩
      rw [← hV]
      have bV : Below wr.heap.size wr V := by rw [hV]; exact (Below.refl _ _).alloc (Nat.le_refl _) _
      clear hV k0 k1 k2 k3
      refine (own_any x V (HXO.out.below bV) HSX.out).mono ?_
      rintro e W1 ⟨a', c', rfl, hr, hbl, hnw⟩
      have bW : Below wr.heap.size wr W1 := bV.trans (hbl.mono bV.size)
      have HROW : Hid (∀ o, (W1.alloc o).ownsRow w.heap.size 32 4 u3 j (evCells es1)) := hide (fun o => by
        have h1 := HTS.out.row
        rw [HL1.out] at h1
        exact World.ownsRow.alloc (ownsRow_kept h1 (fun g hg => bW.block g (ownsRow_blk h1 g hg))) o)
      have hsz : w.heap.size ≤ (W1.heap.size + 1) := by have := HTS.out.bel.size; have := bW.size; omega
      have HBW := hide bW
      have HR := hide hr
      have HN : Hid (∀ y, a' = some y → wr.heap.size ≤ y.block) := hide (fun y hy => Nat.le_trans bV.size (hnw y hy))
      clear bW bV hr hbl hnw
      go_wp2_with (at_builtin; refine wpList_append_lies _ rfl _ _ 28 rfl w.heap.size 32 i0 _ 4 48 Try.underlying28 hi hz0 hz1 hz2 rfl (by omega) u3 j (evCells es1) rfl (HROW.out _) ⟨W1.heap.size, 0, none⟩ 1 1 [.int .i64 x.kind, .int .i64 x.fd, .slice a' x.len c', .int .i64 x.n] rfl rfl (World.news_of_block (cs := #[.int .i64 x.kind, .int .i64 x.fd, .slice a' x.len c', .int .i64 x.n]) (t := 32) (fr := (0, 0)) (heap_alloc_new W1 _)) (by simp [Value.oneCell']) (by omega) (by unfold maxLen; omega) (by omega) (by simpa using hsz) (W1.heap.size + 1) (by simp) ?_; intro gg cap2 W2 hown2 hgrow hat hlt2; refine Hid.out ?_)
      refine hide ?_
      have HTS2 := hide (HTS.out.step HBW.out ⟨x.kind, x.fd, a', x.len, c', x.n, x.bs⟩ ⟨HXO.out.kind, HXO.out.fd, HXO.out.n, HR.out⟩ HN.out HL1.out hown2 hgrow hat)
      clear hown2 hgrow hat hlt2 HROW HBW HN HR HTS HXO hsz
      go_wp2
      go_roundw
      case rel =>
        refine ⟨j + 1, _, by omega, by go_num, ?_, ?_, HTS2.out⟩
        · rw [List.length_append, HL1.out]
          rfl
        · rw [List.map_append, HM1.out, List.take_add_one, HXJ.out]
          simp [Evt.says]
      case measure => simp [intOf]; omega
    · obtain rfl : j = n := by omega
      have HTS := hide hTS
      have HL1 := hide hl1
      have HM1 := hide hm1
      obtain ⟨a1, cap1, hv, hE1, _⟩ := Evs.own hTS.row hTS.ok
      rw [hl1] at hv hE1
      have HE1 := hide hE1
      subst hv
      clear hTS hl1 hm1 hE1
      go_wp2
      go_ret
      refine ⟨a1, cap1, es1, rfl, HE1.out, ?_, HTS.out.bel⟩
      rw [HM1.out, List.take_of_length_le (by omega)]
      exact HTR.out

end Go.Proofs.Ytedbhdbjiicafaa
