/- The contract of env's Note: events join those that were noted before. -/
import Derived.Test.YtedbhdbjiicafaaEnvSmall
import Derived.Deep.RegionLaw
import Derived.Deep.LoopGhost
import Derived.Deep.DeepCutAuto
import Derived.Handy
namespace Go.Proofs.Ytedbhdbjiicafaa
open Go.RowKit
set_option linter.unusedVariables false

theorem Try.infoEv : (Try.prog.info? 32).map (fun i => (i.zero, i.size, i.bytes)) = some (some (.agg #[.int .i64 0, .int .i64 0, .slice none 0 0, .int .i64 0]), 4, 48) := by kernel_rfl

/-- An event more. -/
theorem EVx.noted {B : Nat} {t : TypeId} {V W1 W2 : World} {m : Nat} {F : Nat → Prop} {ins : List Int} {wa : Option Addr} {wl wc : Nat} {ev : Value} {es : List Evt} (h : EVx B t V m F ins wa wl wc ev es) (hb : Below V.heap.size V W1) (x : Evt) (hx : x.Ok W1)
    (hsx : 0 < x.len → ∀ y, x.a = some y → V.heap.size ≤ y.block ∨ (y.block < B ∧ ¬ F y.block)) (o : Obj) (gg cap : Nat)
    (hown : W2.ownsRow 0 32 4 (.slice (some ⟨gg, 0, none⟩) (es.length + 1) cap) (es.length + 1) (evCells es ++ x.cells)) (hgrow : (W1.alloc o).grownBy W2 ev.ownBlock) (hat : ev.ownBlock = some gg ∨ gg = W1.heap.size + 1) (hlt : gg < W2.heap.size) :
    ∃ F', EVx B t (W2.setCell ⟨m, 1, none⟩ (.slice (some ⟨gg, 0, none⟩) (es.length + 1) cap)) m F' ins wa wl wc (.slice (some ⟨gg, 0, none⟩) (es.length + 1) cap) (es ++ [x]) ∧ Went F V F' (W2.setCell ⟨m, 1, none⟩ (.slice (some ⟨gg, 0, none⟩) (es.length + 1) cap)) := by
  have hml := h.lt
  have hsz := hb.size
  have hmg : gg ≠ m := by
    rcases hat with h1 | h1
    · exact (h.fg gg h1).2
    · omega
  have k1 : Kept (fun k => k = m ∨ ev.ownBlock = some k) W1 (W2.setCell ⟨m, 1, none⟩ (.slice (some ⟨gg, 0, none⟩) (es.length + 1) cap)) :=
    (((Kept.refl _ W1).alloc o).trans (F' := fun k => ev.ownBlock = some k) (Kept.of_grown hgrow (fun k hk => hk)) (fun k hk => Or.inl (Or.inr hk))).setCell _ _ (Or.inl (Or.inl rfl))
  have k0 : Kept (fun k => k = m ∨ ev.ownBlock = some k) V (W2.setCell ⟨m, 1, none⟩ (.slice (some ⟨gg, 0, none⟩) (es.length + 1) cap)) := (kept_of_below hb _).trans k1 (fun k hk => Or.inl hk)
  have hs3 : (W2.setCell ⟨m, 1, none⟩ (.slice (some ⟨gg, 0, none⟩) (es.length + 1) cap)).heap.size = W2.heap.size := by simp [World.setCell]
  have hs2 : V.heap.size ≤ W2.heap.size := by have := k0.size; omega
  have gl : ∀ g, ev.ownBlock = some g → g < V.heap.size := ownsRow_blk h.row
  have hm2 : W2.heap[m]? = some (.cells #[.slice wa wl wc, ev] t (0, 0)) := by
    rw [hgrow.block m (by simp; omega) (fun e => (h.fg m e.symm).2 rfl), Below.heap_alloc _ _ _ (by omega), hb.block m hml]
    exact h.head
  have far : ∀ k, k < V.heap.size → (∀ g, ev.ownBlock = some g → g ≠ k) → gg ≠ k := fun k hk hg => by
    rcases hat with h1 | h1
    · exact hg gg h1
    · omega
  have hnb : ∀ {g : Nat}, (Value.slice (some ⟨gg, 0, none⟩) (es.length + 1) cap).ownBlock = some g → g = gg := fun {g} h => by
    simp [Value.ownBlock] at h
    exact h.symm
  have xblk : 0 < x.len → ∀ y, x.a = some y → y.block ≠ m ∧ ev.ownBlock ≠ some y.block ∧ gg ≠ y.block ∧ y.block < W1.heap.size := by
    intro h0 y hy
    have h1 := hx.b.blk h0 y hy
    have h2 := hsx h0 y hy
    have h3 : y.block ≠ m := fun e => by
      rcases h2 with h2 | h2
      · omega
      · exact h2.2 (e ▸ h.fm)
    have h4 : ev.ownBlock ≠ some y.block := fun e => by
      rcases h2 with h2 | h2
      · have := gl _ e; omega
      · exact h2.2 (h.fg _ e).1
    refine ⟨h3, h4, fun e => ?_, h1⟩
    rcases hat with h5 | h5
    · exact h4 (e ▸ h5)
    · omega
  refine ⟨fun k => F k ∨ (V.heap.size ≤ k ∧ k < W2.heap.size), ⟨setCell_head hm2, k0.rd h.waits (fun h0 y hy => ?_), ?_, fun z hz => ?_, Or.inl h.fm, fun g hg => ?_, fun h0 y hy => ?_, fun z hz h0 y hy => ?_, fun k hk => ?_⟩, k0.mono (fun k hk => ?_), fun k hk => ?_⟩
  · rintro (e | e)
    · exact (h.sw h0 y hy).2.1 e
    · exact (h.sw h0 y hy).2.2 e
  · rw [evCells_append, evCells_one, List.length_append]
    exact ownsRow_kept hown (fun g hg => ((Kept.refl (fun k => k = m) W2).setCell _ _ (Or.inl rfl)).block g (by rw [hnb hg]; exact hlt) (by rw [hnb hg]; exact hmg))
  · rcases List.mem_append.1 hz with hz | hz
    · refine ⟨(h.ok z hz).kind, (h.ok z hz).fd, (h.ok z hz).n, k0.rd (h.ok z hz).b (fun h0 y hy => ?_)⟩
      rintro (e | e)
      · exact (h.se z hz h0 y hy).2.1 e
      · exact (h.se z hz h0 y hy).2.2 e
    · obtain rfl : z = x := by simpa using hz
      refine ⟨hx.kind, hx.fd, hx.n, k1.rd hx.b (fun h0 y hy => ?_)⟩
      rintro (e | e)
      · exact (xblk h0 y hy).1 e
      · exact (xblk h0 y hy).2.1 e
  · rw [hnb hg]
    refine ⟨?_, hmg⟩
    rcases hat with h1 | h1
    · exact Or.inl (h.fg gg h1).1
    · exact Or.inr ⟨by omega, hlt⟩
  · obtain ⟨h1, h2, h3⟩ := h.sw h0 y hy
    have h4 := h.waits.blk h0 y hy
    refine ⟨?_, h2, fun e => far y.block h4 (fun g hg he => h3 (he ▸ hg)) (hnb e).symm⟩
    rcases h1 with h1 | h1
    · exact Or.inl (Or.inl h1)
    · exact Or.inr h1
  · rcases List.mem_append.1 hz with hz | hz
    · obtain ⟨h1, h2, h3⟩ := h.se z hz h0 y hy
      have h4 := (h.ok z hz).b.blk h0 y hy
      refine ⟨?_, h2, fun e => far y.block h4 (fun g hg he => h3 (he ▸ hg)) (hnb e).symm⟩
      rcases h1 with h1 | h1
      · exact Or.inl (Or.inl h1)
      · exact Or.inr h1
    · obtain rfl : z = x := by simpa using hz
      obtain ⟨h1, h2, h3, h4⟩ := xblk h0 y hy
      refine ⟨?_, h1, fun e => h3 (hnb e).symm⟩
      rcases hsx h0 y hy with h5 | h5
      · refine Or.inl (Or.inr ⟨h5, ?_⟩)
        have := k1.size
        omega
      · exact Or.inr h5.1
  · rw [hs3]
    rcases hk with hk | hk
    · have := h.flt k hk; omega
    · exact hk.2
  · rcases hk with rfl | hk
    · exact h.fm
    · exact (h.fg k hk).1
  · rcases hk with hk | hk
    · exact Or.inl hk
    · exact Or.inr hk.1

theorem Evs.kept {G : Nat → Prop} {w w' : World} {a : Option Addr} {len : Nat} {es : List Evt} (h : Evs w a len es) (hk : Kept G w w') (ha : 0 < len → ∀ x, a = some x → ¬ G x.block) (hb : ∀ x ∈ es, 0 < x.len → ∀ y, x.a = some y → ¬ G y.block) : Evs w' a len es :=
  ⟨h.length, h.max, fun x hx => ⟨(h.ok x hx).kind, (h.ok x hx).fd, (h.ok x hx).n, hk.rd (h.ok x hx).b (hb x hx)⟩, fun i x hx => by
    obtain ⟨b, o, h1, h2⟩ := h.cell i x hx
    refine ⟨b, o, h1, fun j hj => ?_⟩
    have h3 := h2 j hj
    have h4 : x.cells[j]? = some (x.cells[j]'(by simpa [Evt.cells] using hj)) := List.getElem?_eq_getElem _
    rw [h4] at h3 ⊢
    have hi := (List.getElem?_eq_some_iff.1 hx).1
    have hl := h.length
    exact hk.cell h3 (ha (by omega) ⟨b, o, none⟩ h1)⟩

theorem note_fin {B : Nat} {t : TypeId} {V W1 W2 : World} {m : Nat} {F : Nat → Prop} {ins : List Int} {wa : Option Addr} {wl wc : Nat} {ev : Value} {es : List Evt} {T : List Says} {L : Nat} (h : EVx B t V m F ins wa wl wc ev es) (ht : es.map Evt.says = T) (hL : es.length = L) (hb : Below V.heap.size V W1) (x : Evt) (hx : x.Ok W1)
    (hsx : 0 < x.len → ∀ y, x.a = some y → V.heap.size ≤ y.block ∨ (y.block < B ∧ ¬ F y.block)) (o : Obj) (gg cap : Nat)
    (hown : W2.ownsRow 0 32 4 (.slice (some ⟨gg, 0, none⟩) (L + 1) cap) (L + 1) (evCells es ++ x.cells)) (hgrow : (W1.alloc o).grownBy W2 ev.ownBlock) (hat : ev.ownBlock = some gg ∨ gg = W1.heap.size + 1) (hlt : gg < W2.heap.size) :
    ∃ F', EV B t m ins (T ++ [x.says]) (W2.setCell ⟨m, 1, none⟩ (.slice (some ⟨gg, 0, none⟩) (L + 1) cap)) F' ∧ Went F V F' (W2.setCell ⟨m, 1, none⟩ (.slice (some ⟨gg, 0, none⟩) (L + 1) cap)) := by
  subst hL
  obtain ⟨F', h1, h2⟩ := h.noted hb x hx hsx o gg cap hown hgrow hat hlt
  exact ⟨F', ⟨_, _, _, _, _, h1, by rw [List.map_append, ht]; rfl⟩, h2⟩

theorem says_snoc {es : List Evt} {j : Nat} {x : Evt} (h : es[j]? = some x) (tr : List Says) : (tr ++ (es.take j).map Evt.says) ++ [x.says] = tr ++ (es.take (j + 1)).map Evt.says := by
  rw [List.take_add_one, h]
  simp

set_option maxHeartbeats 3200000 in
theorem note_any (B : Nat) (m : Nat) (ins : List Int) (tr : List Says) (w : World) (F : Nat → Prop) (a : Option Addr) (len cap : Nat) (es : List Evt) (h : EV B 46 m ins tr w F) (hE : Evs w a len es) (ha : 0 < len → ∀ x, a = some x → ¬ F x.block) (hb : ∀ x ∈ es, 0 < x.len → ∀ y, x.a = some y → ¬ F y.block)
    (hs : ∀ x ∈ es, x.len ≤ 140737488355328) (hn : tr.length + len ≤ 1000000) :
    Calls Try.prog 8 #[.pointer (some ⟨m, 0, none⟩), .slice a len cap] w fun e w' => e = .returned (.tuple #[]) ∧ ∃ F', EV B 46 m ins (tr ++ es.map Evt.says) w' F' ∧ Went F w F' w' := by
  obtain ⟨i0, hi, hz0, hz1, hz2⟩ := info_parts Try.infoEv
  have HE := hide hE
  have HA := hide ha
  have HB := hide hb
  have HS := hide hs
  have H0 := hide h
  have hlm := hE.max
  clear hE ha hb hs h
  go_enter Try.func8, Try.ntmps8
  go_wp2
  go_loopw [8] (fun i wr => ∃ (j : Nat) (F' : Nat → Prop), j ≤ len ∧ i = .int .i64 (j : Int) ∧ EV B 46 m ins (tr ++ (es.take j).map Evt.says) wr F' ∧ Went F w F' wr) (fun i _ => len - (intOf i).toNat)
  case atStart => exact ⟨0, F, by omega, rfl, by simpa using H0.out, Went.refl _ _⟩
  case round =>
    obtain ⟨j, F1, hj, rfl, hEV, hW⟩ := hrel
    by_cases hlt : j < len
    · have hlen := HE.out.length
      obtain ⟨x, hxj⟩ : ∃ x, es[j]? = some x := ⟨_, List.getElem?_eq_getElem (by omega)⟩
      have hxm : x ∈ es := List.mem_of_getElem? hxj
      have hE1 := HE.out.kept hW.1 HA.out HB.out
      obtain ⟨b, o, hab, hcx⟩ := hE1.cell j x hxj
      have hxo := hE1.ok x hxm
      subst hab
      have k0 : wr.cell? ⟨b, o + j * 4, none⟩ = some (.int .i64 x.kind) := hcx 0 (by omega)
      have k1 : wr.cell? ⟨b, o + j * 4 + 1, none⟩ = some (.int .i64 x.fd) := hcx 1 (by omega)
      have k2 : wr.cell? ⟨b, o + j * 4 + 2, none⟩ = some (.slice x.a x.len x.cap) := hcx 2 (by omega)
      have k3 : wr.cell? ⟨b, o + j * 4 + 3, none⟩ = some (.int .i64 x.n) := hcx 3 (by omega)
      have HXO := hide hxo
      have HEV := hide hEV
      have HW := hide hW
      have HXM := hide hxm
      have HXJ := hide hxj
      clear hcx hxo hEV hW hxm hxj hE1
      go_upto_region 3 with fail
      obtain ⟨X, hXe⟩ : ∃ X, X = wr.heap.size := ⟨_, rfl⟩
      rw [← hXe]
      obtain ⟨V, hV⟩ : ∃ V, V = wr.alloc (.cells #[.int .i64 x.kind, .int .i64 x.fd, .slice x.a x.len x.cap, .int .i64 x.n] 32) := ⟨_, rfl⟩
      rw [← hV]
      have bV : Below wr.heap.size wr V := by rw [hV]; exact (Below.refl _ _).alloc (Nat.le_refl _) _
      obtain ⟨c0, c1, c2, c3, f0, f1, f2, f3⟩ : Box4 V X (.int .i64 x.kind) (.int .i64 x.fd) (.slice x.a x.len x.cap) (.int .i64 x.n) := box4_of (t := 32) (by rw [hV, hXe]; exact heap_alloc_new wr _)
      clear k0 k1 k2 k3 f0 f1 f2 f3 hV hXe
      obtain ⟨wa, wl, wc, ev, es1, hx1, ht1⟩ := HEV.out
      have hlen1 : es1.length = tr.length + j := by
        have := congrArg List.length ht1
        simp at this
        omega
      have bD : Below wr.heap.size wr V.drew := bV.drew
      have hx2 : EVx B 46 V.drew m F1 ins wa wl wc ev es1 := hx1.kept (kept_of_below bD (fun _ => False)) (fun _ _ h => h) (fun _ h => h.elim)
      have cm := hx2.cell1
      have fm := hx2.frozen 1
      have hml := hx2.lt
      have cm' : V.cell? ⟨m, 1, none⟩ = some ev := by simpa using cm
      have HC := hide (own_any x V.drew (HXO.out.below bD) (HS.out x HXM.out))
      obtain ⟨L, hL⟩ : ∃ L, es1.length = L := ⟨_, rfl⟩
      have hL6 : L < 1000000 := by omega
      have HROW : Hid (∀ W1 o, Below V.drew.heap.size V.drew W1 → (W1.alloc o).ownsRow 0 32 4 ev L (evCells es1)) := hide (fun W1 o hb => by
        rw [← hL]
        exact World.ownsRow.alloc (ownsRow_kept hx2.row (fun g hg => hb.block g (ownsRow_blk hx2.row g hg))) o)
      have HFAR : Hid (∀ W1 o W2, Below V.drew.heap.size V.drew W1 → (W1.alloc o).grownBy W2 ev.ownBlock → W2.cell? ⟨m, 1, none⟩ = some ev ∧ W2.frozen? ⟨m, 1, none⟩ = false) := hide (fun W1 o W2 hb hg => by
        have hz := hb.size
        have h1 : m < (W1.alloc o).heap.size := by simp; omega
        have h2 : some m ≠ ev.ownBlock := fun e => (hx2.fg m e.symm).2 rfl
        have h3 : Below V.drew.heap.size V.drew (W1.alloc o) := hb.alloc hz _
        exact ⟨(hg.cell_far ⟨m, 1, none⟩ h1 h2).trans ((h3.cell hml).trans cm), (hg.frozen_far ⟨m, 1, none⟩ h1 h2).trans ((h3.frozen hml).trans fm)⟩)
      have HX2 := hide hx2
      have HT1 := hide ht1
      have HL := hide hL
      have HBD := hide bD
      have hmV : m < V.heap.size := by simpa using hml
      have HWr := hide (Nat.le_refl wr.heap.size)
      clear bV hx1 ht1 hlen1 hx2 cm fm hml hL bD
      go_region_law (first
        | (refine step_append_lies _ (by rfl) _ _ _ (by rfl) 0 32 i0 _ 4 48 Try.underlying28 hi hz0 hz1 hz2 rfl (by omega) ev L (evCells es1) (by rfl) (HROW.out W1 _ HBL.out) ⟨W1.heap.size, 0, none⟩ 1 1 [.int .i64 x.kind, .int .i64 x.fd, .slice a' x.len c', .int .i64 x.n] (by rfl) (by rfl) (World.news_of_block (cs := #[.int .i64 x.kind, .int .i64 x.fd, .slice a' x.len c', .int .i64 x.n]) (t := 32) (fr := (0, 0)) (heap_alloc_new W1 _)) (by simp [Value.oneCell']) (by omega) (by unfold maxLen; omega) (by omega) (by omega) (W1.heap.size + 1) (by simp) ?_; intro gg cap2 W2 hown2 hgrow hat hlt2; obtain ⟨cm2, fm2⟩ := HFAR.out W1 _ W2 HBL.out hgrow; have HO2 := hide hown2; have HG2 := hide hgrow; have HAT := hide hat; have HLT := hide hlt2; clear hown2 hgrow hat hlt2)
        | (go_simp; go_at_call 17; refine HC.out.mono ?_; rintro e W1 ⟨a', c', rfl, hr, hbl, hnw⟩; have cm1 : W1.cell? ⟨m, 1, none⟩ = some ev := (hbl.cell (by simpa using hmV)).trans (by simpa using cm'); have hm1 : m < W1.heap.size := Nat.lt_of_lt_of_le (by simpa using hmV) hbl.size; have HR1 := hide hr; have HBL := hide hbl; have HNW := hide hnw; clear hr hbl hnw; go_wp2_with fail))
      all_goals
        have HFIN : Hid (∃ F2, EV B 46 m ins (tr ++ (es.take (j + 1)).map Evt.says) (W2.setCell ⟨m, 1, none⟩ (.slice (some ⟨gg, 0, none⟩) (L + 1) cap2)) F2 ∧ Went F w F2 (W2.setCell ⟨m, 1, none⟩ (.slice (some ⟨gg, 0, none⟩) (L + 1) cap2))) := by
          refine hide ?_
          obtain ⟨F2, h1, h2⟩ := note_fin HX2.out HT1.out HL.out HBL.out ⟨x.kind, x.fd, a', x.len, c', x.n, x.bs⟩ ⟨HXO.out.kind, HXO.out.fd, HXO.out.n, HR1.out⟩ (fun _ y hy => Or.inl (HNW.out y hy)) _ gg cap2 HO2.out HG2.out HAT.out HLT.out
          refine ⟨F2, ?_, HW.out.trans (Went.trans (F' := F1) ⟨kept_of_below HBD.out _, fun k hk => Or.inl hk⟩ h2)⟩
          rw [← says_snoc HXJ.out]
          exact h1
        clear HX2 HT1 HL HBL HR1 HNW HO2 HG2 HAT HLT HROW HFAR HC HXO HEV HBD cm2 fm2 cm1 hm1 cm'
        go_wp2
        go_roundw
        case rel =>
          obtain ⟨F2, h1, h2⟩ := HFIN.out
          exact ⟨j + 1, F2, by omega, by go_num, h1, h2⟩
        case measure => simp [intOf]; omega
    · obtain rfl : j = len := by omega
      have HEV := hide hEV
      have HW := hide hW
      clear hEV hW
      go_wp2
      go_end0
      have hlen := HE.out.length
      have h1 := HEV.out
      rw [List.take_of_length_le (by omega)] at h1
      exact ⟨rfl, F1, h1, HW.out⟩

end Go.Proofs.Ytedbhdbjiicafaa
