/- Texts of this claim, joined: EnvTrace, EnvOut, EnvEvents, EnvHas, MemPair, MachHas. -/
import Derived.Test.YtgjfelkbblbjfaaGreatDoorJ11
import Derived.BigQuiet
import Derived.Test.YtgjfelkbblbjfaaGreatDoorJ10
/- The contract of env's Trace: the events, in new memory. -/
namespace Go.Proofs.YtgjfelkbblbjfaaGreatDoor
open Go.RowKit
set_option linter.unusedVariables false
set_option maxRecDepth 100000

/-- A row of events of the call's own, as it grows. -/
structure TSt (w wr : World) (v : Value) (es : List Evt) : Prop where
  row : wr.ownsRow w.heap.size 100 4 v es.length (evCells es)
  ok : ∀ x ∈ es, x.Ok wr
  off : ∀ x ∈ es, 0 < x.len → ∀ y, x.a = some y → v.ownBlock ≠ some y.block
  bel : Below w.heap.size w wr

theorem TSt.step {w wr W1 W2 : World} {v : Value} {es : List Evt} (h : TSt w wr v es) (hb : Below wr.heap.size wr W1) (x : Evt) (hx : x.Ok W1) (hn : ∀ y, x.a = some y → wr.heap.size ≤ y.block) {o : Obj} {gg cap L : Nat} (hL : es.length = L)
    (hown : W2.ownsRow w.heap.size 100 4 (.slice (some ⟨gg, 0, none⟩) (L + 1) cap) (L + 1) (evCells es ++ x.cells)) (hgrow : (W1.alloc o).grownBy W2 v.ownBlock) (hat : v.ownBlock = some gg ∨ gg = W1.heap.size + 1) :
    TSt w W2 (.slice (some ⟨gg, 0, none⟩) (L + 1) cap) (es ++ [x]) := by
  subst hL
  have hsz := hb.size
  have gl := ownsRow_blk h.row
  have k1 : Kept (fun k => v.ownBlock = some k) W1 W2 := ((Kept.refl _ W1).alloc o).trans (Kept.of_grown hgrow (fun k hk => hk)) (fun k hk => Or.inl hk)
  have k0 : Kept (fun k => v.ownBlock = some k) wr W2 := (kept_of_below hb _).trans k1 (fun k hk => Or.inl hk)
  have hnb : ∀ {g : Nat}, (Value.slice (some ⟨gg, 0, none⟩) (es.length + 1) cap).ownBlock = some g → g = gg := fun {g} h => by
    simp [Value.ownBlock] at h
    exact h.symm
  have hvb : ∀ k, v.ownBlock = some k → w.heap.size ≤ k := by
    intro k hk
    rcases h.row.2 with ⟨rfl, _⟩ | ⟨g, c, cur, rfl, h2, _⟩
    · cases hk
    · cases hk
      exact h2
  refine ⟨by rw [evCells_append, evCells_one, List.length_append]; exact hown, fun z hz => ?_, fun z hz h0 y hy e => ?_, h.bel.trans (k0.below h.bel.size hvb)⟩
  · rcases List.mem_append.1 hz with hz | hz
    · exact ⟨(h.ok z hz).kind, (h.ok z hz).fd, (h.ok z hz).n, k0.rd (h.ok z hz).b (h.off z hz)⟩
    · obtain rfl : z = x := by simpa using hz
      refine ⟨hx.kind, hx.fd, hx.n, k1.rd hx.b (fun _ y hy e => ?_)⟩
      have h1 := hn y hy
      have h2 := gl _ e
      omega
  · have e' := hnb e
    rcases List.mem_append.1 hz with hz | hz
    · have h1 := (h.ok z hz).b.blk h0 y hy
      rcases hat with h2 | h2
      · exact h.off z hz h0 y hy (e'.symm ▸ h2)
      · omega
    · obtain rfl : z = x := by simpa using hz
      have h1 := hx.b.blk h0 y hy
      have h3 := hn y hy
      rcases hat with h2 | h2
      · have := gl _ h2; omega
      · omega

set_option maxHeartbeats 3200000 in
theorem trace_any (B : Nat) (m : Nat) (ins : List Int) (tr : List Says) (w : World) (F : Nat → Prop) (h : EV B 92 m ins tr w F) (hs : ∀ s ∈ tr, s.bs.length ≤ 140737488355328) (hn : tr.length ≤ 1000000) :
    Calls Tryz.prog 23 #[.pointer (some ⟨m, 0, none⟩)] w fun e w' => ∃ a c es, e = .returned (.slice a tr.length c) ∧ Evs w' a tr.length es ∧ es.map Evt.says = tr ∧ Below w.heap.size w w' := by
  obtain ⟨i0, hi, hz0, hz1, hz2⟩ := info_parts Tryz.infoEv
  obtain ⟨wa, wl, wc, ev, es, h, ht⟩ := h
  have c1 := h.cell1
  obtain ⟨a0, cap0, rfl, hE, hcap, hcm⟩ := Evs.own h.row h.ok
  have hlen : es.length = tr.length := by rw [← ht, List.length_map]
  rw [hlen] at c1 hE hcap
  obtain ⟨n, hnn⟩ : ∃ n, tr.length = n := ⟨_, rfl⟩
  rw [hnn] at c1 hE hcap hlen hn ⊢
  obtain ⟨W0, hmk, hown0, hgrow0⟩ := run_make_own (P := Tryz.prog) w w.heap.size 46 100 i0 _ 4 Tryz.underlying46 hi hz0 hz1 .i64 .i64 n (by rw [hz2]; omega) (by unfold maxLen; omega) (Nat.le_refl _)
  have b0 : Below w.heap.size w W0 := (Below.refl _ _).grown hgrow0 (Nat.le_refl _) (by intro k hk; cases hk)
  have hml := h.lt
  have c1' : W0.cell? ⟨m, 1, none⟩ = some (.slice a0 n cap0) := (b0.cell hml).trans c1
  have HTS0 : Hid (TSt w W0 (.slice (some ⟨w.heap.size, 0, none⟩) 0 n) []) := hide ⟨hown0, (fun x hx => by cases hx), (fun x hx => by cases hx), b0⟩
  have HE := hide hE
  have HTR := hide ht
  have HS := hide hs
  clear h hs hE hown0 hgrow0 b0 ht hnn
  go_enter Tryz.func23, Tryz.ntmps23
  go_wp2
  go_loopw [3, 17] (fun v i wr => ∃ (j : Nat) (es1 : List Evt), j ≤ n ∧ i = .int .i64 (j : Int) ∧ es1.length = j ∧ es1.map Evt.says = (es.take j).map Evt.says ∧ TSt w wr v es1) (fun _ i _ => n - (intOf i).toNat)
  case atStart => exact ⟨0, [], by omega, rfl, rfl, rfl, HTS0.out⟩
  case round =>
    obtain ⟨j, es1, hj, rfl, hl1, hm1, hTS⟩ := hrel
    clear c1 c1' hmk
    by_cases hlt : j < n
    · obtain ⟨x, hxj⟩ : ∃ x, es[j]? = some x := ⟨_, List.getElem?_eq_getElem (by omega)⟩
      have hxm : x ∈ es := List.mem_of_getElem? hxj
      have hE1 := HE.out.below hTS.bel
      obtain ⟨b, o, hab, hcx⟩ := hE1.cell j x hxj
      have hxo := hE1.ok x hxm
      subst hab
      have k0 : wr.cell? ⟨b, o + j * 4, none⟩ = some (.int .i64 x.kind) := hcx 0 (by omega)
      have k1 : wr.cell? ⟨b, o + j * 4 + 1, none⟩ = some (.int .i64 x.fd) := hcx 1 (by omega)
      have k2 : wr.cell? ⟨b, o + j * 4 + 2, none⟩ = some (.slice x.a x.len x.cap) := hcx 2 (by omega)
      have k3 : wr.cell? ⟨b, o + j * 4 + 3, none⟩ = some (.int .i64 x.n) := hcx 3 (by omega)
      have HXO := hide hxo
      have HTS := hide hTS
      have HXJ := hide hxj
      have HL1 := hide hl1
      have HM1 := hide hm1
      have hsx : x.len ≤ 140737488355328 := by
        have h1 := HS.out x.says (by rw [← HTR.out]; exact List.mem_map_of_mem hxm)
        have h2 := hxo.b.length
        simp only [Evt.says] at h1
        omega
      have HSX := hide hsx
      clear hcx hxo hTS hxm hxj hE1 hl1 hm1 hsx
      go_wp2_with fail
      obtain ⟨V, hV⟩ : ∃ V, V = wr.alloc (.cells #[.int .i64 x.kind, .int .i64 x.fd, .slice x.a x.len x.cap, .int .i64 x.n] 100) := ⟨_, rfl⟩
      rw [← hV]
      have bV : Below wr.heap.size wr V := by rw [hV]; exact (Below.refl _ _).alloc (Nat.le_refl _) _
      clear hV k0 k1 k2 k3
      refine (own_any x V (HXO.out.below bV) HSX.out).mono ?_
      rintro e W1 ⟨a', c', rfl, hr, hbl, hnw⟩
      have bW : Below wr.heap.size wr W1 := bV.trans (hbl.mono bV.size)
      have HROW : Hid (∀ o, (W1.alloc o).ownsRow w.heap.size 100 4 u3 j (evCells es1)) := hide (fun o => by
        have h1 := HTS.out.row
        rw [HL1.out] at h1
        exact World.ownsRow.alloc (ownsRow_kept h1 (fun g hg => bW.block g (ownsRow_blk h1 g hg))) o)
      have hsz : w.heap.size ≤ (W1.heap.size + 1) := by have := HTS.out.bel.size; have := bW.size; omega
      have HBW := hide bW
      have HR := hide hr
      have HN : Hid (∀ y, a' = some y → wr.heap.size ≤ y.block) := hide (fun y hy => Nat.le_trans bV.size (hnw y hy))
      clear bW bV hr hbl hnw
      go_wp2_with (at_builtin; refine wpList_append_lies _ rfl _ _ 46 rfl w.heap.size 100 i0 _ 4 48 Tryz.underlying46 hi hz0 hz1 hz2 rfl (by omega) u3 j (evCells es1) rfl (HROW.out _) ⟨W1.heap.size, 0, none⟩ 1 1 [.int .i64 x.kind, .int .i64 x.fd, .slice a' x.len c', .int .i64 x.n] rfl rfl (World.news_of_block (cs := #[.int .i64 x.kind, .int .i64 x.fd, .slice a' x.len c', .int .i64 x.n]) (t := 100) (fr := (0, 0)) (heap_alloc_new W1 _)) (by simp [Value.oneCell']) (by omega) (by unfold maxLen; omega) (by omega) (by simpa using hsz) (W1.heap.size + 1) (by simp) ?_; intro gg cap2 W2 hown2 hgrow hat hlt2; refine Hid.out ?_)
      refine hide ?_
      have HTS2 := hide (HTS.out.step HBW.out ⟨x.kind, x.fd, a', x.len, c', x.n, x.bs⟩ ⟨HXO.out.kind, HXO.out.fd, HXO.out.n, HR.out⟩ HN.out HL1.out hown2 hgrow hat)
      clear hown2 hgrow hat hlt2 HROW HBW HN HR HTS HXO hsz
      go_wp2
      go_roundw
      case rel =>
        refine ⟨j + 1, _, by omega, by go_num, ?_, ?_, HTS2.out⟩
        · rw [List.length_append, HL1.out]
          rfl
        · rw [List.map_append, HM1.out, List.take_add_one, HXJ.out]
          simp [Evt.says]
      case measure => simp [intOf]; omega
    · obtain rfl : j = n := by omega
      have HTS := hide hTS
      have HL1 := hide hl1
      have HM1 := hide hm1
      obtain ⟨a1, cap1, hv, hE1, _⟩ := Evs.own hTS.row hTS.ok
      rw [hl1] at hv hE1
      have HE1 := hide hE1
      subst hv
      clear hTS hl1 hm1 hE1
      go_wp2
      go_ret
      refine ⟨a1, cap1, es1, rfl, HE1.out, ?_, HTS.out.bel⟩
      rw [HM1.out, List.take_of_length_le (by omega)]
      exact HTR.out

end Go.Proofs.YtgjfelkbblbjfaaGreatDoor

/- Contracts of env's Output and of the document's: the bytes of all writes to a file, in new memory. -/
namespace Go.Proofs.YtgjfelkbblbjfaaGreatDoor
open Go.RowKit
set_option linter.unusedVariables false
set_option maxRecDepth 100000

/-- The bytes of all writes to a file. -/
noncomputable def outOf (fd : Int) (tr : List Says) : List Int := tr.flatMap fun s => if s.kind = 0 ∧ s.fd = fd then s.bs else []

theorem outOf_nil (fd : Int) : outOf fd [] = [] := rfl
theorem outOf_snoc (fd : Int) (tr : List Says) (s : Says) : outOf fd (tr ++ [s]) = outOf fd tr ++ (if s.kind = 0 ∧ s.fd = fd then s.bs else []) := by simp [outOf]
theorem outOf_app (fd : Int) (tr tr' : List Says) : outOf fd (tr ++ tr') = outOf fd tr ++ outOf fd tr' := by simp [outOf]
theorem outOf_le (fd : Int) (tr : List Says) (j : Nat) : (outOf fd (tr.take j)).length ≤ (outOf fd tr).length := by
  have h := outOf_app fd (tr.take j) (tr.drop j)
  rw [List.take_append_drop] at h
  rw [h, List.length_append]
  omega
theorem outOf_bytes {fd : Int} : ∀ {tr : List Says}, (∀ s ∈ tr, Bytes s.bs) → Bytes (outOf fd tr)
  | [], h => Bytes.nil
  | s :: tr, h => by
    have h1 := outOf_bytes (fd := fd) (tr := tr) (fun x hx => h x (List.mem_cons_of_mem _ hx))
    have e : outOf fd (s :: tr) = (if s.kind = 0 ∧ s.fd = fd then s.bs else []) ++ outOf fd tr := by simp [outOf]
    rw [e]
    refine Bytes.append ?_ h1
    split
    · exact h s (List.mem_cons_self ..)
    · exact Bytes.nil

/-- A row of bytes of the call's own. -/
def RowB (B : Nat) (w : World) (v : Value) (l : List Int) : Prop := w.ownsRow B 5 1 v l.length (l.map (Value.int .u8))





end Go.Proofs.YtgjfelkbblbjfaaGreatDoor

/- The contract of the statements' help Events: two lists of events that say the same are told to be the same. -/
namespace Go.Proofs.YtgjfelkbblbjfaaGreatDoor
open Go.RowKit
set_option linter.unusedVariables false
set_option maxRecDepth 100000

theorem bel_drewN (w : World) (n : Nat) : Below w.heap.size w (w.drewN n) := ⟨rfl, rfl, rfl, Nat.le_refl _, fun _ _ => rfl⟩

set_option maxHeartbeats 3200000 in
theorem events_any (a a2 : Option Addr) (n cap cap2 : Nat) (es es2 : List Evt) (w : World) (h : Evs w a n es) (h2 : Evs w a2 n es2) (hs : es.map Evt.says = es2.map Evt.says) :
    Calls Tryz.prog 22 #[.slice a n cap, .slice a2 n cap2] w fun e w' => e = .returned (.bool true) ∧ Below w.heap.size w w' := by
  have hmx := h.max
  have H := hide h
  have H2 := hide h2
  have HS := hide hs
  clear h h2 hs
  go_enter Tryz.func22, Tryz.ntmps22
  go_wp2
  go_loopw [5] (fun i wr => ∃ (j : Nat), j ≤ n ∧ i = .int .i64 (j : Int) ∧ Below w.heap.size w wr) (fun i _ => n - (intOf i).toNat)
  case atStart => exact ⟨0, by omega, rfl, Below.refl _ _⟩
  case round =>
    obtain ⟨j, hj, rfl, hB⟩ := hrel
    by_cases hlt : j < n
    · have hl1 := H.out.length
      have hl2 := H2.out.length
      obtain ⟨x, hxj⟩ : ∃ x, es[j]? = some x := ⟨_, List.getElem?_eq_getElem (by omega)⟩
      obtain ⟨y, hyj⟩ : ∃ y, es2[j]? = some y := ⟨_, List.getElem?_eq_getElem (by omega)⟩
      have hE1 := H.out.below hB
      have hE2 := H2.out.below hB
      obtain ⟨b, o, hab, hcx⟩ := hE1.cell j x hxj
      obtain ⟨b2, o2, hab2, hcy⟩ := hE2.cell j y hyj
      have hxo := (hE1.ok x (List.mem_of_getElem? hxj)).b
      have hyo := (hE2.ok y (List.mem_of_getElem? hyj)).b
      have hsay : x.says = y.says := by
        have h1 : (es.map Evt.says)[j]? = (es2.map Evt.says)[j]? := by rw [HS.out]
        rw [List.getElem?_map, List.getElem?_map, hxj, hyj] at h1
        simpa using h1
      subst hab hab2
      obtain ⟨kind, fd, xa, xl, xc, xn, xb⟩ := x
      obtain ⟨kind2, fd2, ya, yl, yc, yn, yb⟩ := y
      simp only [Evt.says, Says.mk.injEq] at hsay
      obtain ⟨rfl, rfl, rfl, rfl⟩ := hsay
      have k0 : wr.cell? ⟨b, o + j * 4, none⟩ = some (.int .i64 kind) := hcx 0 (by omega)
      have k1 : wr.cell? ⟨b, o + j * 4 + 1, none⟩ = some (.int .i64 fd) := hcx 1 (by omega)
      have k2 : wr.cell? ⟨b, o + j * 4 + 2, none⟩ = some (.slice xa xl xc) := hcx 2 (by omega)
      have k3 : wr.cell? ⟨b, o + j * 4 + 3, none⟩ = some (.int .i64 xn) := hcx 3 (by omega)
      have l0 : wr.cell? ⟨b2, o2 + j * 4, none⟩ = some (.int .i64 kind) := hcy 0 (by omega)
      have l1 : wr.cell? ⟨b2, o2 + j * 4 + 1, none⟩ = some (.int .i64 fd) := hcy 1 (by omega)
      have l2 : wr.cell? ⟨b2, o2 + j * 4 + 2, none⟩ = some (.slice ya yl yc) := hcy 2 (by omega)
      have l3 : wr.cell? ⟨b2, o2 + j * 4 + 3, none⟩ = some (.int .i64 xn) := hcy 3 (by omega)
      dsimp only at hxo hyo
      have s1 := fun k => (hxo.below (bel_drewN wr k)).str
      have s2 := fun k => (hyo.below (bel_drewN wr k)).str
      generalize strOfNums xb = S at *
      have HB := hide hB
      clear hcx hcy hxo hyo hxj hyj hB hE1 hE2 hl1 hl2
      go_upto_region 6 with fail
      go_quiet (fail)
      go_wp2
      go_roundw
      case rel => exact ⟨j + 1, by omega, by go_num, HB.out.trans ((bel_drewN wr _).mono HB.out.size)⟩
      case measure => simp [intOf]; omega
    · have HB := hide hB
      clear hB
      go_wp2
      go_ret
      exact ⟨rfl, HB.out⟩

end Go.Proofs.YtgjfelkbblbjfaaGreatDoor

/- Environments side by side with other things of the call's own: each call of one leaves the others. -/
namespace Go.Proofs.YtgjfelkbblbjfaaGreatDoor
open Go.RowKit
set_option linter.unusedVariables false
set_option maxRecDepth 100000

/-- Bytes that are read. -/
def RdT (a : Option Addr) (len cap : Nat) (bs : List Int) (w : World) (F : Nat → Prop) : Prop := Rd w a len cap bs ∧ (0 < len → ∀ x, a = some x → F x.block) ∧ ∀ k, F k → k < w.heap.size

/-- Events that are read; what lies below B is never written. -/
def ArgT (B : Nat) (a : Option Addr) (len : Nat) (es : List Evt) (w : World) (F : Nat → Prop) : Prop :=
  Evs w a len es ∧ (0 < len → ∀ x, a = some x → F x.block ∨ x.block < B) ∧ (∀ x ∈ es, 0 < x.len → ∀ y, x.a = some y → F y.block ∨ y.block < B) ∧ ∀ k, F k → k < w.heap.size

/-- A row of bytes of the call's own. -/
def RowT (v : Value) (l : List Int) (w : World) (F : Nat → Prop) : Prop := RowB 0 w v l ∧ Bytes l ∧ (∀ g, v.ownBlock = some g → F g) ∧ ∀ k, F k → k < w.heap.size

theorem rd_stays (B : Nat) (a : Option Addr) (len cap : Nat) (bs : List Int) : Stays B (RdT a len cap bs) :=
  ⟨fun ⟨h1, h2, h3⟩ hk hd hG => ⟨hk.rd h1 (fun hl x hx => hd _ (h2 hl x hx)), h2, fun k hF => Nat.lt_of_lt_of_le (h3 k hF) hk.size⟩, fun ⟨h1, h2, h3⟩ => h3⟩
theorem arg_stays (B : Nat) (a : Option Addr) (len : Nat) (es : List Evt) : Stays B (ArgT B a len es) := by
  refine ⟨fun {w w' F G} ⟨h1, h2, h3, h4⟩ hk hd hG => ?_, fun ⟨h1, h2, h3, h4⟩ => h4⟩
  have off : ∀ k, (F k ∨ k < B) → ¬ G k := fun k hk hg => by
    rcases hk with h1 | h1
    · exact hd k h1 hg
    · have := hG k hg; omega
  exact ⟨h1.kept hk (fun hl x hx => off _ (h2 hl x hx)) (fun x hx hl y hy => off _ (h3 x hx hl y hy)), h2, h3, fun k hF => Nat.lt_of_lt_of_le (h4 k hF) hk.size⟩
theorem row_stays (B : Nat) (v : Value) (l : List Int) : Stays B (RowT v l) :=
  ⟨fun ⟨h1, h2, h3, h4⟩ hk hd hG => ⟨ownsRow_kept h1 (fun g hg => hk.block g (ownsRow_blk h1 g hg) (hd g (h3 g hg))), h2, h3, fun k hF => Nat.lt_of_lt_of_le (h4 k hF) hk.size⟩, fun ⟨h1, h2, h3, h4⟩ => h4⟩

section
variable {w0 w w' : World} {P Q : World → (Nat → Prop) → Prop} {l : List (World → (Nat → Prop) → Prop)} {m : Nat} {ins : List Int} {tr : List Says}

theorem Has.top (h : Has w0 w (P :: l)) : ∃ F, P w F := by
  obtain ⟨F, ⟨F1, F2, h1, _⟩, _⟩ := h.ex
  exact ⟨F1, h1⟩

theorem Has.rd {a : Option Addr} {len cap : Nat} {bs : List Int} (h : Has w0 w (RdT a len cap bs :: l)) : Rd w a len cap bs := by
  obtain ⟨F, h1⟩ := h.top
  exact h1.1

/-- The first thing turns, and another comes in new blocks. -/
theorem Has.step2 (h : Has w0 w (P :: l)) : ∃ F, P w F ∧ (∀ k, F k → w0.heap.size ≤ k) ∧ ∀ (w' : World) (P' Q : World → (Nat → Prop) → Prop) (F' G : Nat → Prop), P' w' F' → Went F w F' w' → Stays w0.heap.size P' → Q w' G → (∀ k, G k → w.heap.size ≤ k) → (∀ k, F' k → ¬ G k) → Stays w0.heap.size Q → Has w0 w' (P' :: Q :: l) := by
  obtain ⟨F, ⟨F1, F2, h1, h2, h3, h4⟩, h5⟩ := h.ex
  have hl : AllStay w0.heap.size l := fun Q hQ => h.stay Q (List.mem_cons_of_mem _ hQ)
  have b1 : ∀ k, F1 k → w0.heap.size ≤ k := fun k hk => h5 k ((h4 k).2 (Or.inl hk))
  refine ⟨F1, h1, b1, fun w' P' Q F' G hP' hw hs hQ hG hd hsQ => ?_⟩
  have g := hw.below h.bel.size b1
  have f2 := h2.flt hl
  refine ⟨⟨fun k => F' k ∨ (G k ∨ F2 k), ⟨F', fun k => G k ∨ F2 k, hP', ⟨G, F2, hQ, h2.kept hw.1 b1 hl (fun k hf hg => h3 k hg hf), fun k hg hf => ?_, fun k => Iff.rfl⟩, fun k hf hg => ?_, fun k => Iff.rfl⟩, fun k hk => ?_⟩, h.bel.trans g.1, AllStay.cons hs (AllStay.cons hsQ hl)⟩
  · have := hG k hg
    have := f2 k hf
    omega
  · rcases hg with hg | hg
    · exact hd k hf hg
    · rcases hw.2 k hf with h6 | h6
      · exact h3 k h6 hg
      · have := f2 k hg
        omega
  · rcases hk with hk | hk | hk
    · exact g.2 k hk
    · have := hG k hk
      have := h.bel.size
      omega
    · exact h5 k ((h4 k).2 (Or.inr hk))

/-- The first two things are opened; whatever turns the first alone leaves the others. -/
theorem Has.open2 (h : Has w0 w (P :: Q :: l)) : ∃ F G, P w F ∧ Q w G ∧ (∀ k, F k → ¬ G k) ∧ (∀ k, F k → w0.heap.size ≤ k) ∧ ∀ (w' : World) (P' : World → (Nat → Prop) → Prop) (F' : Nat → Prop), P' w' F' → Went F w F' w' → Stays w0.heap.size P' → Has w0 w' (P' :: Q :: l) := by
  obtain ⟨F, ⟨F1, F2, h1, h2, h3, h4⟩, h5⟩ := h.ex
  have hl : AllStay w0.heap.size (Q :: l) := fun Q hQ => h.stay Q (List.mem_cons_of_mem _ hQ)
  have b1 : ∀ k, F1 k → w0.heap.size ≤ k := fun k hk => h5 k ((h4 k).2 (Or.inl hk))
  obtain ⟨G1, G2, g1, g2, g3, g4⟩ := id h2
  refine ⟨F1, G1, h1, g1, fun k hf hg => h3 k hf ((g4 k).2 (Or.inl hg)), b1, fun w' P' F' hP' hw hs => ?_⟩
  have g := hw.below h.bel.size b1
  refine ⟨⟨fun k => F' k ∨ F2 k, ⟨F', F2, hP', h2.kept hw.1 b1 hl (fun k hf hg => h3 k hg hf), fun k hf hg => ?_, fun k => Iff.rfl⟩, fun k hk => ?_⟩, h.bel.trans g.1, AllStay.cons hs hl⟩
  · rcases hw.2 k hf with h6 | h6
    · exact h3 k h6 hg
    · have := h2.flt hl k hg
      omega
  · rcases hk with hk | hk
    · exact g.2 k hk
    · exact h5 k ((h4 k).2 (Or.inr hk))

theorem has_new (h : Has w0 w l) {a : Option Addr} {len cap : Nat} {bs : List Int} (r : Rd w a len cap bs) (hb : len ≤ 140737488355328) :
    Calls Tryz.prog 13 #[.slice a len cap] w fun e w' => ∃ m, e = .returned (.pointer (some ⟨m, 0, none⟩)) ∧ Has w0 w' (EV w0.heap.size 92 m bs [] :: l) := by
  refine (enew_any w0.heap.size a len cap bs w r hb).mono ?_
  rintro e w' ⟨m, F, he, hE, hF, hbl⟩
  exact ⟨m, he, h.more hbl hE hF (ev_stays _ _ _ _ _)⟩

theorem has_take (h : Has w0 w (EV w0.heap.size 92 m ins tr :: l)) (n : Int) (hl : ins.length ≤ 140737488355328) :
    Calls Tryz.prog 126 #[.pointer (some ⟨m, 0, none⟩), .int .i64 n] w fun e w' => ∃ a' c', e = .returned (.slice a' (ins.take n.toNat).length c') ∧ Has w0 w' (EV w0.heap.size 92 m (ins.drop n.toNat) tr :: RdT a' (ins.take n.toNat).length c' (ins.take n.toNat) :: l) := by
  obtain ⟨F, h1, h2, h3⟩ := h.step2
  refine (take_any w0.heap.size m ins tr w F n h1 hl).mono ?_
  rintro e w' ⟨a', c', he, hr, hn, hE, hK⟩
  have hf := (ev_stays w0.heap.size 92 m ins tr).flt h1
  exact ⟨a', c', he, h3 w' _ _ F (fun k => 0 < (ins.take n.toNat).length ∧ ∃ x, a' = some x ∧ k = x.block) hE ⟨hK, fun k hk => Or.inl hk⟩ (ev_stays _ _ _ _ _) ⟨hr, fun hl x hx => ⟨hl, x, hx, rfl⟩, fun k ⟨hl, x, hx, e⟩ => e ▸ hr.blk hl x hx⟩ (fun k ⟨hl, x, hx, e⟩ => e ▸ hn x hx) (fun k hk ⟨hl, x, hx, e⟩ => by have := hf k hk; have := hn x hx; omega) (rd_stays _ _ _ _ _)⟩

theorem has_rtake (h : Has w0 w (EV w0.heap.size 48 m ins tr :: l)) (n : Int) (hl : ins.length ≤ 140737488355328) :
    Calls Tryz.prog 93 #[.pointer (some ⟨m, 0, none⟩), .int .i64 n] w fun e w' => ∃ a' c', e = .returned (.slice a' (ins.take n.toNat).length c') ∧ Has w0 w' (EV w0.heap.size 48 m (ins.drop n.toNat) tr :: RdT a' (ins.take n.toNat).length c' (ins.take n.toNat) :: l) := by
  obtain ⟨F, h1, h2, h3⟩ := h.step2
  refine (rtake_any w0.heap.size m ins tr w F n h1 hl).mono ?_
  rintro e w' ⟨a', c', he, hr, hn, hE, hK⟩
  have hf := (ev_stays w0.heap.size 48 m ins tr).flt h1
  exact ⟨a', c', he, h3 w' _ _ F (fun k => 0 < (ins.take n.toNat).length ∧ ∃ x, a' = some x ∧ k = x.block) hE ⟨hK, fun k hk => Or.inl hk⟩ (ev_stays _ _ _ _ _) ⟨hr, fun hl x hx => ⟨hl, x, hx, rfl⟩, fun k ⟨hl, x, hx, e⟩ => e ▸ hr.blk hl x hx⟩ (fun k ⟨hl, x, hx, e⟩ => e ▸ hn x hx) (fun k hk ⟨hl, x, hx, e⟩ => by have := hf k hk; have := hn x hx; omega) (rd_stays _ _ _ _ _)⟩

theorem has_left (h : Has w0 w (EV w0.heap.size 92 m ins tr :: l)) : Calls Tryz.prog 24 #[.pointer (some ⟨m, 0, none⟩)] w fun e w' => e = .returned (.int .i64 (ins.length : Int)) ∧ w' = w := by
  obtain ⟨F, h1⟩ := h.top
  exact left_any _ _ m ins tr w F h1

theorem has_note {a : Option Addr} {len cap : Nat} {es : List Evt} (h : Has w0 w (EV w0.heap.size 92 m ins tr :: ArgT w0.heap.size a len es :: l)) (hs : ∀ x ∈ es, x.len ≤ 140737488355328) (hn : tr.length + len ≤ 1000000) :
    Calls Tryz.prog 124 #[.pointer (some ⟨m, 0, none⟩), .slice a len cap] w fun e w' => e = .returned (.tuple #[]) ∧ Has w0 w' (EV w0.heap.size 92 m ins (tr ++ es.map Evt.says) :: ArgT w0.heap.size a len es :: l) := by
  obtain ⟨F, G, h1, ⟨g1, g2, g3, g4⟩, h3, h4, h5⟩ := h.open2
  have off : ∀ k, (G k ∨ k < w0.heap.size) → ¬ F k := fun k hk hf => by
    rcases hk with h6 | h6
    · exact h3 k hf h6
    · have := h4 k hf; omega
  refine (note_any w0.heap.size m ins tr w F a len cap es h1 g1 (fun hl x hx => off _ (g2 hl x hx)) (fun x hx hl y hy => off _ (g3 x hx hl y hy)) hs hn).mono ?_
  rintro e w' ⟨he, F', hE, hW⟩
  exact ⟨he, h5 w' _ F' hE hW (ev_stays _ _ _ _ _)⟩

theorem has_trace (h : Has w0 w (EV w0.heap.size 92 m ins tr :: l)) (hs : ∀ s ∈ tr, s.bs.length ≤ 140737488355328) (hn : tr.length ≤ 1000000) :
    Calls Tryz.prog 23 #[.pointer (some ⟨m, 0, none⟩)] w fun e w' => ∃ a c es, e = .returned (.slice a tr.length c) ∧ Evs w' a tr.length es ∧ es.map Evt.says = tr ∧ Below w.heap.size w w' := by
  obtain ⟨F, h1⟩ := h.top
  exact trace_any _ m ins tr w F h1 hs hn





/-- An event that was laid in a block of its own, its bytes older than the call or in another new block. -/
theorem Has.arg1 (h : Has w0 w l) (hb : Below w.heap.size w w') {X : Nat} {x : Evt} {t : TypeId} (hX : w.heap.size ≤ X) (hc : w'.heap[X]? = some (.cells #[.int .i64 x.kind, .int .i64 x.fd, .slice x.a x.len x.cap, .int .i64 x.n] t (0, 0))) (hx : x.Ok w')
    (hy : 0 < x.len → ∀ y, x.a = some y → w.heap.size ≤ y.block ∨ y.block < w0.heap.size) : Has w0 w' (ArgT w0.heap.size (some ⟨X, 0, none⟩) 1 [x] :: l) := by
  have hxl : X < w'.heap.size := (Array.getElem?_eq_some_iff.1 hc).1
  refine h.more (F := fun k => k = X ∨ (w.heap.size ≤ k ∧ k < w'.heap.size)) hb ⟨⟨rfl, by omega, fun z hz => ?_, fun i z hz => ⟨X, 0, rfl, fun j hj => ?_⟩⟩, fun _ z hz => Or.inl (Or.inl ?_), fun z hz hl y hyz => ?_, fun k hk => ?_⟩ (fun k hk => ?_) (arg_stays _ _ _ _)
  · obtain rfl : z = x := by simpa using hz
    exact hx
  · obtain ⟨rfl, rfl⟩ : i = 0 ∧ z = x := by
      cases i with
      | zero => exact ⟨rfl, by simpa using hz.symm⟩
      | succ i => simp at hz
    rw [cell_of_row _ _ _ _ _ _ hc]
    simp [Evt.cells]
  · cases hz
    rfl
  · obtain rfl : z = x := by simpa using hz
    rcases hy hl y hyz with h1 | h1
    · exact Or.inl (Or.inr ⟨h1, hx.b.blk hl y hyz⟩)
    · exact Or.inr h1
  · rcases hk with rfl | hk
    · exact hxl
    · exact hk.2
  · rcases hk with rfl | hk
    · exact hX
    · exact hk.1

end

end Go.Proofs.YtgjfelkbblbjfaaGreatDoor

/- Two memories side by side: what is done to one leaves the other. -/
namespace Go.Proofs.YtgjfelkbblbjfaaGreatDoor
open Go.RowKit Go.Maps
set_option linter.unusedVariables false
set_option maxRecDepth 100000

/-- What blocks F of a world hold lasts while others turn. -/
structure Lasts (P : World → (Nat → Prop) → Prop) : Prop where
  kept : ∀ {w w' : World} {F G : Nat → Prop}, P w F → Kept G w w' → (∀ k, F k → ¬ G k) → P w' F
  flt : ∀ {w : World} {F : Nat → Prop}, P w F → ∀ k, F k → k < w.heap.size

theorem pm_lasts (m : Nat) (S : Mm) : Lasts (fun w F => PM w m S F) := ⟨fun h hk hd => h.kept hk hd, fun h => h.flt⟩

/-- Two things of the call's own, in blocks apart. -/
def Pair (w0 w : World) (P Q : World → (Nat → Prop) → Prop) : Prop :=
  ∃ F G, P w F ∧ Q w G ∧ (∀ k, F k → w0.heap.size ≤ k) ∧ (∀ k, G k → w0.heap.size ≤ k) ∧ (∀ k, F k → ¬ G k) ∧ Below w0.heap.size w0 w

variable {w0 w w' : World} {P P' Q Q' : World → (Nat → Prop) → Prop}

theorem Pair.bel (h : Pair w0 w P Q) : Below w0.heap.size w0 w := by
  obtain ⟨F, G, _, _, _, _, _, h6⟩ := h
  exact h6

theorem Pair.symm (h : Pair w0 w P Q) : Pair w0 w Q P := by
  obtain ⟨F, G, h1, h2, h3, h4, h5, h6⟩ := h
  exact ⟨G, F, h2, h1, h4, h3, fun k hk hf => h5 k hf hk, h6⟩

theorem Pair.below (h : Pair w0 w P Q) (hP : Lasts P) (hQ : Lasts Q) (hb : Below w.heap.size w w') : Pair w0 w' P Q := by
  obtain ⟨F, G, h1, h2, h3, h4, h5, h6⟩ := h
  exact ⟨F, G, hP.kept h1 (kept_of_below hb (fun _ => False)) (fun _ _ h => h), hQ.kept h2 (kept_of_below hb (fun _ => False)) (fun _ _ h => h), h3, h4, h5, h6.trans (hb.mono h6.size)⟩

/-- A call that turns the first alone. -/
theorem Pair.left {C : (Nat → Prop) → Prop} (h : Pair w0 w P Q) (hQ : Lasts Q) (f : Nat) (args : Array Value) (R : Ending → Prop)
    (hc : ∀ F, P w F → (∀ k, F k → w0.heap.size ≤ k) → Calls Tryz.prog f args w fun e w' => R e ∧ ∃ F', P' w' F' ∧ Went F w F' w') :
    Calls Tryz.prog f args w fun e w' => R e ∧ Pair w0 w' P' Q := by
  obtain ⟨F, G, h1, h2, h3, h4, h5, h6⟩ := h
  refine (hc F h1 h3).mono ?_
  rintro e w' ⟨he, F', h7, h8⟩
  have h9 := h8.below h6.size h3
  refine ⟨he, F', G, h7, hQ.kept h2 h8.1 (fun k hg hf => h5 k hf hg), h9.2, h4, fun k hf hg => ?_, h6.trans h9.1⟩
  rcases h8.2 k hf with h10 | h10
  · exact h5 k h10 hg
  · have := hQ.flt h2 k hg; omega

/-- A call that turns neither. -/
theorem Pair.ask (h : Pair w0 w P Q) (hP : Lasts P) (hQ : Lasts Q) (f : Nat) (args : Array Value) (R : Ending → World → Prop)
    (hc : ∀ F, P w F → Calls Tryz.prog f args w fun e w' => R e w' ∧ Below w.heap.size w w') :
    Calls Tryz.prog f args w fun e w' => R e w' ∧ Pair w0 w' P Q := by
  obtain ⟨F, G, h1, h2, h3, h4, h5, h6⟩ := h
  refine (hc F h1).mono ?_
  rintro e w' ⟨he, hb⟩
  exact ⟨he, Pair.below ⟨F, G, h1, h2, h3, h4, h5, h6⟩ hP hQ hb⟩

end Go.Proofs.YtgjfelkbblbjfaaGreatDoor

/- The program's machine with its memory and its environment, side by side with other things of the call's own. -/
namespace Go.Proofs.YtgjfelkbblbjfaaGreatDoor
open Go.RowKit Go.Maps
set_option linter.unusedVariables false
set_option maxRecDepth 100000

def PMt (m : Nat) (S : Mm) (w : World) (F : Nat → Prop) : Prop := PM w m S F
theorem pmt_stays (B m : Nat) (S : Mm) : Stays B (PMt m S) := ⟨fun h hk hd _ => PM.kept h hk hd, fun h => PM.flt h⟩

/-- Block m is the program's machine M; its memory is block mm, its environment block me. -/
def MH (w0 w : World) (m mm me : Nat) (M : Mc) (l : List (World → (Nat → Prop) → Prop)) : Prop :=
  Has w0 w (HD m mm me M.x M.pc M.kind M.code M.trap :: PMt mm M.mem :: EV w0.heap.size 92 me M.ins M.tr :: l)

/-- What came of an instruction: it was done, or a trap is told and nothing was done. -/
def Did (M D : Mc) (r : Int) (M' : Mc) : Prop := (r = 0 ∧ M' = D) ∨ (r ≠ 0 ∧ InI r ∧ D = M.trapped r ∧ M' = M)

section
variable {w0 w w' : World} {m mm me : Nat} {M : Mc} {l : List (World → (Nat → Prop) → Prop)}

theorem MH.below (h : MH w0 w m mm me M l) (hb : Below w.heap.size w w') : MH w0 w' m mm me M l := Has.below h hb
theorem MH.bel (h : MH w0 w m mm me M l) : Below w0.heap.size w0 w := Has.bel h

/-- The machine's own block turns alone. -/
theorem MH.head (h : MH w0 w m mm me M l) : ∃ F, HD m mm me M.x M.pc M.kind M.code M.trap w F ∧ ∀ (w' : World) (x : Nat → Int) (pc : Nat) (k c t : Int), HD m mm me x pc k c t w' F → Went F w F w' → MH w0 w' m mm me ⟨M.mem, M.ins, M.tr, x, pc, k, c, t⟩ l := by
  obtain ⟨F, h1, h2, h3⟩ := Has.step h
  exact ⟨F, h1, fun w' x pc k c t hd hw => h3 w' _ F hd hw (hd_stays _ _ _ _ _ _ _ _ _)⟩

theorem MH.hd (h : MH w0 w m mm me M l) : ∃ F, HD m mm me M.x M.pc M.kind M.code M.trap w F := Has.top h
theorem MH.pm (h : MH w0 w m mm me M l) : ∃ F, PM w mm M.mem F := Has.top (Has.drop h)
theorem MH.fits (h : MH w0 w m mm me M l) : Fits M.x M.pc M.kind M.code M.trap := by
  obtain ⟨F, h1⟩ := h.hd
  exact h1.fits
theorem MH.good (h : MH w0 w m mm me M l) : M.mem.Good := by
  obtain ⟨F, h1⟩ := h.pm
  exact h1.good

/-- Memory and environment turn; the machine's own block stays. -/
theorem MH.rest {S : Mm} {ins : List Int} {tr : List Says} (h : Has w0 w (PMt mm S :: EV w0.heap.size 92 me ins tr :: HD m mm me M.x M.pc M.kind M.code M.trap :: l)) : MH w0 w m mm me ⟨S, ins, tr, M.x, M.pc, M.kind, M.code, M.trap⟩ l := Has.back h

theorem MH.eta (h : MH w0 w m mm me M l) : MH w0 w m mm me ⟨M.mem, M.ins, M.tr, M.x, M.pc, M.kind, M.code, M.trap⟩ l := h

/-- A call that turns the machine's own block alone. -/
theorem MH.call (h : MH w0 w m mm me M l) (fn : Nat) (args : Array Value) {x : Nat → Int} {pc : Nat} {k c t : Int} {R : Ending → Prop}
    (hc : ∀ F, HD m mm me M.x M.pc M.kind M.code M.trap w F → Calls Tryz.prog fn args w fun e w' => R e ∧ HD m mm me x pc k c t w' F ∧ Went F w F w') :
    Calls Tryz.prog fn args w fun e w' => R e ∧ MH w0 w' m mm me ⟨M.mem, M.ins, M.tr, x, pc, k, c, t⟩ l := by
  obtain ⟨F, h1, h2⟩ := h.head
  refine (hc F h1).mono ?_
  rintro e w' ⟨h3, h4, h5⟩
  exact ⟨h3, h2 w' _ _ _ _ _ h4 h5⟩

/-- The machine's memory turns alone. -/
theorem MH.mem (h : MH w0 w m mm me M l) : ∃ F, PM w mm M.mem F ∧ (∀ k, F k → w0.heap.size ≤ k) ∧ ∀ (w' : World) (S' : Mm) (F' : Nat → Prop), PM w' mm S' F' → Went F w F' w' → MH w0 w' m mm me ⟨S', M.ins, M.tr, M.x, M.pc, M.kind, M.code, M.trap⟩ l := by
  obtain ⟨F, h1, h2, h3⟩ := (Has.swap h).step
  exact ⟨F, h1, h2, fun w' S' F' g1 g2 => (h3 w' (PMt mm S') F' g1 g2 (pmt_stays _ _ _)).swap⟩

/-- An instruction that was laid in block X. -/
def InXT (X : Nat) (o rd r1 r2 im : Int) (w : World) (F : Nat → Prop) : Prop := InX w X o rd r1 r2 im ∧ F X ∧ ∀ k, F k → k < w.heap.size
theorem inxt_stays (B X : Nat) (o rd r1 r2 im : Int) : Stays B (InXT X o rd r1 r2 im) :=
  ⟨fun ⟨h1, h2, h3⟩ hk hd hG => ⟨h1.kept hk (hd X h2), h2, fun k hF => Nat.lt_of_lt_of_le (h3 k hF) hk.size⟩, fun ⟨h1, h2, h3⟩ => h3⟩

variable {P : World → (Nat → Prop) → Prop} {X : Nat} {o rd r1 r2 im : Int}

theorem MH.more (h : MH w0 w m mm me M l) (hb : Below w.heap.size w w') {F : Nat → Prop} (hP : P w' F) (hF : ∀ k, F k → w.heap.size ≤ k) (hs : Stays w0.heap.size P) : MH w0 w' m mm me M (P :: l) :=
  (Has.more h hb hP hF hs).perm ((List.Perm.swap ..).trans (List.Perm.cons _ ((List.Perm.swap ..).trans (List.Perm.cons _ (List.Perm.swap ..)))))
theorem MH.less (h : MH w0 w m mm me M (P :: l)) : Has w0 w (P :: HD m mm me M.x M.pc M.kind M.code M.trap :: PMt mm M.mem :: EV w0.heap.size 92 me M.ins M.tr :: l) :=
  Has.perm h (((List.Perm.cons _ ((List.Perm.cons _ (List.Perm.swap ..)).trans (List.Perm.swap ..))).trans (List.Perm.swap ..)))
theorem MH.unbox (h : MH w0 w m mm me M (P :: l)) : MH w0 w m mm me M l := Has.drop h.less
theorem MH.box (h : MH w0 w m mm me M l) (ty : TypeId) (o rd r1 r2 im : Int) : MH w0 (w.alloc (.cells #[.int .i64 o, .int .i64 rd, .int .i64 r1, .int .i64 r2, .int .i64 im] ty)) m mm me M (InXT w.heap.size o rd r1 r2 im :: l) :=
  h.more (F := fun k => k = w.heap.size) (below_alloc _ _) ⟨InX.new _ _ _ _ _ _ _, rfl, fun k hk => by subst hk; simp⟩ (fun k hk => by subst hk; exact Nat.le_refl _) (inxt_stays _ _ _ _ _ _ _)
theorem MH.inx (h : MH w0 w m mm me M (InXT X o rd r1 r2 im :: l)) : InX w X o rd r1 r2 im := by
  obtain ⟨F, h1⟩ := Has.top h.less
  exact h1.1
theorem MH.c0 (h : MH w0 w m mm me M l) : w.cell? ⟨m, 0, none⟩ = some (.pointer (some ⟨mm, 0, none⟩)) := by
  obtain ⟨F, h1⟩ := h.hd
  exact h1.c0
theorem MH.c1 (h : MH w0 w m mm me M l) : w.cell? ⟨m, 1, none⟩ = some (.pointer (some ⟨me, 0, none⟩)) := by
  obtain ⟨F, h1⟩ := h.hd
  exact h1.c1
theorem MH.c3 (h : MH w0 w m mm me M l) : w.cell? ⟨m, 3, none⟩ = some (.int .u64 (M.pc : Int)) := by
  obtain ⟨F, h1⟩ := h.hd
  exact h1.c3

theorem mh_reg (h : MH w0 w m mm me M l) (z : Int) (hz : InI z) :
    Calls Tryz.prog 26 #[.pointer (some ⟨m, 0, none⟩), .int .i64 z] w fun e w' => e = .returned (.int .u64 (rg M.x z)) ∧ w' = w := by
  obtain ⟨F, h1⟩ := h.hd
  exact mreg_any z w h1 hz
theorem mh_place (h : MH w0 w m mm me M l) (o rd r1 r2 im : Int) (hr : 0 ≤ r1 ∧ r1 < 32) (i0 : -9223372036854775808 ≤ im) (i1 : im ≤ 9223372036854775807) :
    Calls Tryz.prog 81 #[.pointer (some ⟨m, 0, none⟩), inst o rd r1 r2 im] w fun e w' => e = .returned (.int .u64 (u64 (M.x r1.toNat + im))) ∧ MH w0 w' m mm me M l := by
  obtain ⟨F, h1⟩ := h.hd
  have h2 := place_any o rd r1 r2 im w h1 (ini_of hr) i0 i1
  rw [rg_in hr] at h2
  exact h2.mono (fun e w' ⟨h3, h4⟩ => ⟨h3, h.below h4⟩)
theorem mh_operand (h : MH w0 w m mm me M l) (hL : Laid w0) (o rd r1 r2 im : Int) (hr : 0 ≤ r2 ∧ r2 < 32) (i0 : -9223372036854775808 ≤ im) (i1 : im ≤ 9223372036854775807) :
    Calls Tryz.prog 87 #[.pointer (some ⟨m, 0, none⟩), inst o rd r1 r2 im] w fun e w' => e = .returned (.int .u64 (if fmo o = 1 then u64 im else M.x r2.toNat)) ∧ MH w0 w' m mm me M l := by
  obtain ⟨F, h1⟩ := h.hd
  have h2 := operand_any o rd r1 r2 im w h1 (hL.below h.bel hL.1) (ini_of hr) i0 i1
  rw [rg_in hr] at h2
  exact h2.mono (fun e w' ⟨h3, h4⟩ => ⟨h3, h.below h4⟩)
theorem mh_next (h : MH w0 w m mm me M l) :
    Calls Tryz.prog 85 #[.pointer (some ⟨m, 0, none⟩)] w fun e w' => e = .returned (.int .i64 0) ∧ MH w0 w' m mm me M.next l :=
  h.call _ _ (R := fun e => e = .returned (.int .i64 0)) (fun F hd => next_any w hd)
theorem mh_put (h : MH w0 w m mm me M l) (rd v : Int) (hi : InI rd) (hv : 0 ≤ v ∧ v ≤ 18446744073709551615) :
    Calls Tryz.prog 78 #[.pointer (some ⟨m, 0, none⟩), .int .i64 rd, .int .u64 v] w fun e w' => e = .returned (.int .i64 0) ∧ MH w0 w' m mm me (M.put rd v) l :=
  h.call _ _ (R := fun e => e = .returned (.int .i64 0)) (fun F hd => put_reg rd v w hd hi hv)
theorem mh_store (h : MH w0 w m mm me M l) (a : Nat) (n v : Int) (ha : a ≤ 18446744073709551615) (hn0 : -9223372036854775808 ≤ n) (hn1 : n ≤ 9223372036854775807) (hv0 : 0 ≤ v) (hv1 : v ≤ 18446744073709551615) :
    Calls Tryz.prog 113 #[.pointer (some ⟨mm, 0, none⟩), .int .u64 (a : Int), .int .i64 n, .int .u64 v] w fun e w' => e = .returned (.bool (numOk M.mem a n 2)) ∧ MH w0 w' m mm me { M with mem := stored M.mem a n v } l := by
  obtain ⟨F, h1, h2, h3⟩ := h.mem
  refine (store_any mm M.mem F a n v w h1 ha hn0 hn1 hv0 hv1).mono ?_
  rintro e w' ⟨g1, F', g2, g3⟩
  exact ⟨g1, h3 w' _ F' g2 g3⟩
theorem mh_jump (h : MH w0 w m mm me M l) (rd : Int) (a : Nat) (hi : InI rd) (ha : a ≤ 18446744073709551615) :
    Calls Tryz.prog 80 #[.pointer (some ⟨m, 0, none⟩), .int .i64 rd, .int .u64 (a : Int)] w fun e w' => ∃ r M', e = .returned (.int .i64 r) ∧ Did M (M.jump rd a) r M' ∧ MH w0 w' m mm me M' l := by
  obtain ⟨F, h1, h2⟩ := h.head
  refine (jump_any rd a w h1 hi ha).mono ?_
  rintro e w' ⟨g1, g2⟩
  by_cases h4 : a % 4 = 0
  · obtain ⟨k1, k2, k3⟩ := g1 h4
    refine ⟨0, _, k1, Or.inl ⟨rfl, rfl⟩, ?_⟩
    unfold Mc.jump
    rw [if_pos (by omega), Int.toNat_natCast]
    exact h2 w' _ _ _ _ _ k2 k3
  · obtain ⟨k1, rfl⟩ := g2 h4
    refine ⟨5, M, k1, Or.inr ⟨by decide, by unfold InI; omega, ?_, rfl⟩, h⟩
    unfold Mc.jump
    rw [if_neg (by omega)]
theorem mh_branch (h : MH w0 w m mm me M l) (o : Nat) (rd r1 r2 im : Int) (h0 : 5 ≤ o) (h1 : o ≤ 10) (hf : Fit5 rd r1 r2 im) :
    Calls Tryz.prog 82 #[.pointer (some ⟨m, 0, none⟩), inst o rd r1 r2 im] w fun e w' => ∃ r M', e = .returned (.int .i64 r) ∧ Did M (if takenF o (M.x r1.toNat) (M.x r2.toNat) = true then M.jump 0 (u64 (M.pc + im)) else M.next) r M' ∧ MH w0 w' m mm me M' l := by
  obtain ⟨F, hd, h2⟩ := h.head
  refine (branch_any o rd r1 r2 im w hd h0 h1 hf).mono ?_
  rintro e w' ⟨g1, g2, g3, g4⟩
  cases ht : takenF o (M.x r1.toNat) (M.x r2.toNat) with
  | false =>
    obtain ⟨k1, k2⟩ := g1 ht
    exact ⟨0, _, k1, Or.inl ⟨rfl, rfl⟩, h2 w' _ _ _ _ _ k2 g4⟩
  | true =>
    by_cases h4 : u64 (M.pc + im) % 4 = 0
    · obtain ⟨k1, k2⟩ := g2 ht h4
      refine ⟨0, _, k1, Or.inl ⟨rfl, rfl⟩, ?_⟩
      rw [if_pos rfl]
      unfold Mc.jump
      rw [if_pos h4, xset_no (by omega)]
      exact h2 w' _ _ _ _ _ k2 g4
    · obtain ⟨k1, k2⟩ := g3 ht h4
      refine ⟨5, M, k1, Or.inr ⟨by decide, by unfold InI; omega, ?_, rfl⟩, h2 w' _ _ _ _ _ k2 g4⟩
      rw [if_pos rfl]
      unfold Mc.jump
      rw [if_neg h4]

end

end Go.Proofs.YtgjfelkbblbjfaaGreatDoor
