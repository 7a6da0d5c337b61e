/- Texts of this claim, joined: EnvSmall, EnvNote. -/
import Derived.Test.YtgjfelkbblbjfaaGreatDoorJ03
import Derived.WalkKit
import Derived.Deep.RegionLaw
import Derived.Deep.LoopGhost
import Derived.Deep.DeepCutAuto
import Derived.Handy
/- Contracts of env's copied, own, New, Left, Take and of the document's Take. -/
namespace Go.Proofs.YtgjfelkbblbjfaaGreatDoor
open Go.RowKit
set_option linter.unusedVariables false
set_option maxRecDepth 100000

theorem eown_new {w : World} {base : Nat} {e : TypeId} {size : Nat} {a : Option Addr} {l c n : Nat} {xs : List Value} (h : w.ownsRow base e size (.slice a l c) n xs) : ∀ x, a = some x → base ≤ x.block := by
  intro x hx
  subst hx
  rcases h.2 with ⟨h1, _⟩ | ⟨g, cap, cur, h1, h2, _⟩
  · cases h1
  · cases h1
    exact h2

theorem Rd.blk {w : World} {a : Option Addr} {len cap : Nat} {bs : List Int} (r : Rd w a len cap bs) (hl : 0 < len) (x : Addr) (hx : a = some x) : x.block < w.heap.size := by
  have h1 := World.block_lt_of_cell? w _ (r.cell x hx 0 hl)
  have e : (x.add 0).block = x.block := by unfold Addr.add; split <;> rfl
  rwa [e] at h1

theorem dup_any (a : Option Addr) (len cap : Nat) (bs : List Int) (w : World) (r : Rd w a len cap bs) (hb : len ≤ 140737488355328) :
    Calls Tryz.prog 38 #[.slice a len cap] w fun e w' => ∃ a' c', e = .returned (.slice a' len c') ∧ Rd w' a' len c' bs ∧ Below w.heap.size w w' ∧ ∀ x, a' = some x → w.heap.size ≤ x.block := by
  obtain ⟨i0, hi, hz0, hz1, hz2⟩ := info_parts Tryz.info8
  have hl := r.length
  have h1 := r.le
  have h2 := r.max
  cases a with
  | none =>
    obtain rfl : cap = 0 := r.nil rfl
    obtain rfl : len = 0 := by omega
    go_enter Tryz.func38, Tryz.ntmps38
    go_wp2
    go_ret
    exact ⟨none, 0, rfl, r, Below.refl _ _, fun x hx => by cases hx⟩
  | some x =>
    have HC := hide (r.cells x rfl)
    have HB := hide r.bytes
    go_enter Tryz.func38, Tryz.ntmps38
    go_wp2_with (at_builtin; refine wpList_append_own _ rfl _ _ 24 rfl w.heap.size 5 i0 (.int .u8 0) 1 1 Tryz.underlying24 hi hz0 hz1 hz2 rfl (by decide) _ _ _ rfl (World.ownsRow_nil _ _ _ _) _ _ _ (bs.map (Value.int .u8)) rfl (by simpa using hl) (HC.out) (ints_oneCell _ _) (by unfold maxLen; omega) (by omega) (Nat.le_refl _) ?_)
    intro v' w1 hown hgrow _
    have hbel : Below w.heap.size w w1 := (Below.refl _ _).grown hgrow (Nat.le_refl _) (by intro k hk; cases hk)
    have hown' : w1.ownsRow w.heap.size 5 1 v' len (bs.map (Value.int .u8)) := by simpa using hown
    obtain ⟨a', c', hv, hr⟩ := Rd.own hown' HB.out
    rw [hv] at hown'
    have HN := hide (eown_new hown')
    clear hown hgrow hown'
    have HR := hide hr
    have HL := hide hbel
    clear hr hbel
    rw [hv]
    clear hv
    go_wp2
    go_ret
    exact ⟨_, _, rfl, HR.out, HL.out, HN.out⟩

/-- The four cells of an event in a block of its own. -/
structure Box4 (w : World) (X : Nat) (c0 c1 c2 c3 : Value) : Prop where
  c0 : w.cell? ⟨X, 0, none⟩ = some c0
  c1 : w.cell? ⟨X, 1, none⟩ = some c1
  c2 : w.cell? ⟨X, 2, none⟩ = some c2
  c3 : w.cell? ⟨X, 3, none⟩ = some c3
  f0 : w.frozen? ⟨X, 0, none⟩ = false
  f1 : w.frozen? ⟨X, 1, none⟩ = false
  f2 : w.frozen? ⟨X, 2, none⟩ = false
  f3 : w.frozen? ⟨X, 3, none⟩ = false

theorem frozen_of_blk {w : World} {X : Nat} {cs : Array Value} {t : TypeId} (h : w.heap[X]? = some (.cells cs t (0, 0))) (i : Nat) : w.frozen? ⟨X, i, none⟩ = false := by
  unfold World.frozen?
  simp only [h]
  simp

theorem box4_of {w : World} {X : Nat} {c0 c1 c2 c3 : Value} {t : TypeId} (h : w.heap[X]? = some (.cells #[c0, c1, c2, c3] t (0, 0))) : Box4 w X c0 c1 c2 c3 :=
  ⟨by rw [cell_of_row _ _ _ _ _ _ h]; rfl, by rw [cell_of_row _ _ _ _ _ _ h]; rfl, by rw [cell_of_row _ _ _ _ _ _ h]; rfl, by rw [cell_of_row _ _ _ _ _ _ h]; rfl, frozen_of_blk h 0, frozen_of_blk h 1, frozen_of_blk h 2, frozen_of_blk h 3⟩

theorem own_any (x : Evt) (w : World) (hx : x.Ok w) (hb : x.len ≤ 140737488355328) :
    Calls Tryz.prog 45 #[.agg #[.int .i64 x.kind, .int .i64 x.fd, .slice x.a x.len x.cap, .int .i64 x.n]] w fun e w' => ∃ a' c', e = .returned (.agg #[.int .i64 x.kind, .int .i64 x.fd, .slice a' x.len c', .int .i64 x.n]) ∧ Rd w' a' x.len c' x.bs ∧ Below w.heap.size w w' ∧ ∀ y, a' = some y → w.heap.size ≤ y.block := by
  obtain ⟨kind, fd, a, len, cap, n, bs⟩ := x
  have HX := hide hx.b
  dsimp only at *
  clear hx
  go_enter Tryz.func45, Tryz.ntmps45
  go_wp2_with fail
  obtain ⟨V1, hV1⟩ : ∃ V1, V1 = w.alloc (.cells #[.int .i64 kind, .int .i64 fd, .slice a len cap, .int .i64 n] 100) := ⟨_, rfl⟩
  have b1 : Below w.heap.size w V1 := by rw [hV1]; exact (Below.refl _ _).alloc (Nat.le_refl _) _
  have s1 : V1.heap.size = w.heap.size + 1 := by rw [hV1]; simp
  have q1 : V1.heap[w.heap.size]? = some (.cells #[.int .i64 kind, .int .i64 fd, .slice a len cap, .int .i64 n] 100 (0, 0)) := by rw [hV1]; exact heap_alloc_new w _
  rw [← hV1, ← s1]
  clear hV1
  obtain ⟨V, hV⟩ : ∃ V, V = V1.alloc (.cells #[.int .i64 0, .int .i64 0, .slice none 0 0, .int .i64 0] 100) := ⟨_, rfl⟩
  have b2 : Below V1.heap.size V1 V := by rw [hV]; exact (Below.refl _ _).alloc (Nat.le_refl _) _
  have q2 : V.heap[V1.heap.size]? = some (.cells #[.int .i64 0, .int .i64 0, .slice none 0 0, .int .i64 0] 100 (0, 0)) := by rw [hV]; exact heap_alloc_new V1 _
  have s2 : V.heap.size = V1.heap.size + 1 := by rw [hV]; simp
  rw [← hV]
  clear hV
  have q1' : V.heap[w.heap.size]? = some (.cells #[.int .i64 kind, .int .i64 fd, .slice a len cap, .int .i64 n] 100 (0, 0)) := (b2.block _ (by omega)).trans q1
  obtain ⟨X, hX⟩ : ∃ X, X = w.heap.size := ⟨_, rfl⟩
  obtain ⟨Y, hY⟩ : ∃ Y, Y = V1.heap.size := ⟨_, rfl⟩
  rw [← hX] at q1' ⊢
  rw [← hY] at q2 ⊢
  have b3 : Below w.heap.size w V := b1.trans (b2.mono (by omega))
  have hXY : X ≠ Y := by omega
  have hXV : X < V.heap.size := by omega
  have hYV : Y < V.heap.size := by omega
  refine (dup_any a len cap bs V (HX.out.below b3) hb).mono ?_
  rintro e W1 ⟨a', c', rfl, hr, hbl, hn⟩
  obtain ⟨c0, c1, c2, c3, f0, f1, f2, f3⟩ := box4_of ((hbl.block X hXV).trans q1')
  obtain ⟨d0, d1, d2, d3, g0, g1, g2, g3⟩ := box4_of ((hbl.block Y hYV).trans q2)
  have HR := hide hr
  have HB3 := hide b3
  have HBL := hide hbl
  have HN := hide hn
  have HX1 := hide hX
  have HXV := hide hXV
  have HY1 : Hid (w.heap.size ≤ Y) := by refine hide ?_; omega
  have HS : Hid (w.heap.size ≤ V.heap.size) := by refine hide ?_; omega
  have HK : Hid (Kept (fun k => k = X ∨ k = Y) W1 (((((W1.setCell ⟨X, 2, none⟩ (.slice a' len c')).setCell ⟨Y, 0, none⟩ (.int .i64 kind)).setCell ⟨Y, 1, none⟩ (.int .i64 fd)).setCell ⟨Y, 2, none⟩ (.slice a' len c')).setCell ⟨Y, 3, none⟩ (.int .i64 n))) :=
    hide ((((((Kept.refl _ W1).setCell _ _ (Or.inl (Or.inl rfl))).setCell _ _ (Or.inl (Or.inr rfl))).setCell _ _ (Or.inl (Or.inr rfl))).setCell _ _ (Or.inl (Or.inr rfl))).setCell _ _ (Or.inl (Or.inr rfl)))
  clear hr b1 b2 b3 s1 s2 q1 q2 q1' hbl hn hX hY
  go_wp2
  refine bodyPost_ret (v := .agg #[.int .i64 kind, .int .i64 fd, .slice a' len c', .int .i64 n]) (by simp [results, Tryz.results45, go_sem, d0, d1, d2, d3]) rfl ⟨a', c', rfl, ?_, ?_, ?_⟩
  · exact HK.out.rd HR.out (fun _ y hy => by have := HN.out y hy; omega)
  · exact HB3.out.trans ((HBL.out.mono HS.out).trans (HK.out.below (Nat.le_trans HS.out HBL.out.size) (fun k hk => by have := HX1.out; have := HY1.out; omega)))
  · intro y hy
    exact Nat.le_trans HS.out (HN.out y hy)

theorem enew_any (B : Nat) (a : Option Addr) (len cap : Nat) (bs : List Int) (w : World) (r : Rd w a len cap bs) (hb : len ≤ 140737488355328) :
    Calls Tryz.prog 13 #[.slice a len cap] w fun e w' => ∃ m F, e = .returned (.pointer (some ⟨m, 0, none⟩)) ∧ EV B 92 m bs [] w' F ∧ (∀ k, F k → w.heap.size ≤ k) ∧ Below w.heap.size w w' := by
  have HR := hide r
  clear r
  go_enter Tryz.func13, Tryz.ntmps13
  go_wp2_with fail
  refine (dup_any a len cap bs w HR.out hb).mono ?_
  rintro e W1 ⟨a', c', rfl, hr, hbl, hn⟩
  have HR1 := hide hr
  have HBL := hide hbl
  have HN := hide hn
  clear hr hbl hn
  go_wp2
  go_ret
  have b2 : Below W1.heap.size W1 (W1.alloc (.cells #[.slice a' len c', .slice none 0 0] 92)) := (Below.refl _ _).alloc (Nat.le_refl _) _
  refine ⟨W1.heap.size, fun k => k = W1.heap.size ∨ (0 < len ∧ ∃ x, a' = some x ∧ k = x.block), rfl, ⟨a', len, c', .slice none 0 0, [], ⟨heap_alloc_new W1 _, HR1.out.below b2, World.ownsRow_nil _ _ _ _, (fun x hx => by cases hx), Or.inl rfl, (fun g hg => by cases hg), fun hl x hx => ?_, (fun x hx => by cases hx), fun k hk => ?_⟩, rfl⟩, fun k hk => ?_, HBL.out.trans (b2.mono HBL.out.size)⟩
  · have h1 := HR1.out.blk hl x hx
    exact ⟨Or.inl (Or.inr ⟨hl, x, hx, rfl⟩), by omega, by intro h; cases h⟩
  · rcases hk with rfl | ⟨hl, x, hx, rfl⟩
    · simp
    · have h1 := HR1.out.blk hl x hx
      simp
      omega
  · rcases hk with rfl | ⟨hl, x, hx, rfl⟩
    · exact HBL.out.size
    · exact HN.out x hx

theorem left_any (B : Nat) (t : TypeId) (m : Nat) (ins : List Int) (tr : List Says) (w : World) (F : Nat → Prop) (h : EV B t m ins tr w F) :
    Calls Tryz.prog 24 #[.pointer (some ⟨m, 0, none⟩)] w fun e w' => e = .returned (.int .i64 (ins.length : Int)) ∧ w' = w := by
  obtain ⟨wa, wl, wc, ev, es, h, _⟩ := h
  have c0 := h.cell0
  have HL := hide h.waits.length
  clear h
  go_enter Tryz.func24, Tryz.ntmps24
  go_wp2
  go_ret
  exact ⟨by rw [HL.out]; rfl, rfl⟩

theorem Rd.front {w : World} {a : Option Addr} {len cap : Nat} {bs : List Int} (r : Rd w a len cap bs) (k : Nat) (h : k ≤ len) : Rd w a k cap (bs.take k) :=
  ⟨by have := r.length; simp; omega, Nat.le_trans h r.le, r.max, r.bytes.take k, r.nil, fun x hx i hi => by
    have := r.cell x hx i (by omega)
    rw [this]
    simp [hi]⟩

/-- What of the bytes still waits: the address that the walk reckons. -/
theorem Rd.rest {w : World} {a : Option Addr} {len cap : Nat} {bs : List Int} (r : Rd w a len cap bs) (k : Nat) (h : k ≤ len) (x : Addr) (hx : a = some x) : Rd w (some (x.add k)) (len - k) (cap - k) (bs.drop k) := by
  subst hx
  have h1 := r.part k (len - k) (by omega)
  have hl := r.length
  rwa [List.take_of_length_le (by simp; omega)] at h1
theorem Rd.rest_end {w : World} {a : Option Addr} {len cap : Nat} {bs : List Int} (r : Rd w a len cap bs) (k : Nat) (h : k ≤ len) (hc : cap = k) : Rd w a (len - k) 0 (bs.drop k) := by
  have h1 := r.part_end k (len - k) (by omega) hc
  have hl := r.length
  rwa [List.take_of_length_le (by simp; omega)] at h1

theorem EVx.took {B : Nat} {t : TypeId} {w W1 : World} {m : Nat} {F : Nat → Prop} {ins : List Int} {wa : Option Addr} {wl wc : Nat} {ev : Value} {es : List Evt} (h : EVx B t w m F ins wa wl wc ev es) (hb : Below w.heap.size w W1) (ins' : List Int) (wa' : Option Addr) (wl' wc' : Nat) (hwl : wl' ≤ wl)
    (rd : Rd w wa' wl' wc' ins') (hblk : ∀ x, wa' = some x → ∃ y, wa = some y ∧ y.block = x.block) :
    EVx B t (W1.setCell ⟨m, 0, none⟩ (.slice wa' wl' wc')) m F ins' wa' wl' wc' ev es ∧ Kept (fun k => k = m) w (W1.setCell ⟨m, 0, none⟩ (.slice wa' wl' wc')) := by
  have hkept : Kept (fun k => k = m) w (W1.setCell ⟨m, 0, none⟩ (.slice wa' wl' wc')) := (kept_of_below hb _).setCell _ _ (Or.inl rfl)
  refine ⟨⟨setCell_head0 ((hb.block m h.lt).trans h.head), hkept.rd rd (fun h0 x hx => ?_), ownsRow_kept h.row (fun g hg => hkept.block g (ownsRow_blk h.row g hg) (h.fg g hg).2), fun x hx => ⟨(h.ok x hx).kind, (h.ok x hx).fd, (h.ok x hx).n, hkept.rd (h.ok x hx).b (fun hl y hy => (h.se x hx hl y hy).2.1)⟩, h.fm, h.fg, fun h0 x hx => ?_, h.se, fun k hk => Nat.lt_of_lt_of_le (h.flt k hk) hkept.size⟩, hkept⟩
  · obtain ⟨y, hy, he⟩ := hblk x hx
    rw [← he]
    exact (h.sw (by omega) y hy).2.1
  · obtain ⟨y, hy, he⟩ := hblk x hx
    rw [← he]
    exact h.sw (by omega) y hy

theorem take_fin {B : Nat} {t : TypeId} {w : World} {m : Nat} {F : Nat → Prop} {ins : List Int} {wa : Option Addr} {wl wc : Nat} {ev : Value} {es : List Evt} {tr : List Says} (h : EVx B t w m F ins wa wl wc ev es) (ht : es.map Evt.says = tr) (k : Nat) (W1 : World) (a' : Option Addr) (c' : Nat) (wa' : Option Addr) (wl' wc' : Nat)
    (hb : Below w.heap.size w W1) (hr : Rd W1 a' k c' (ins.take k)) (hn : ∀ x, a' = some x → w.heap.size ≤ x.block) (hwl : wl' ≤ wl)
    (rd : Rd w wa' wl' wc' (ins.drop k)) (hblk : ∀ x, wa' = some x → ∃ y, wa = some y ∧ y.block = x.block) (e : Ending) (he : e = .returned (.slice a' k c')) :
    ∃ a' c', e = .returned (.slice a' k c') ∧ Rd (W1.setCell ⟨m, 0, none⟩ (.slice wa' wl' wc')) a' k c' (ins.take k) ∧ (∀ x, a' = some x → w.heap.size ≤ x.block) ∧ EV B t m (ins.drop k) tr (W1.setCell ⟨m, 0, none⟩ (.slice wa' wl' wc')) F ∧ Kept F w (W1.setCell ⟨m, 0, none⟩ (.slice wa' wl' wc')) := by
  obtain ⟨h1, h2⟩ := h.took hb _ wa' wl' wc' hwl rd hblk
  have hlt := h.lt
  refine ⟨a', c', he, ((Kept.refl (fun k => k = m) W1).setCell _ _ (Or.inl rfl)).rd hr (fun _ x hx => ?_), hn, ⟨wa', wl', wc', ev, es, h1, ht⟩, h2.mono (fun k hk => hk ▸ h.fm)⟩
  have := hn x hx
  omega

theorem add_block (x : Addr) (k : Nat) : (x.add k).block = x.block := by unfold Addr.add; split <;> rfl

set_option maxHeartbeats 1600000 in
theorem take_any (B : Nat) (m : Nat) (ins : List Int) (tr : List Says) (w : World) (F : Nat → Prop) (n : Int) (h : EV B 92 m ins tr w F) (hl : ins.length ≤ 140737488355328) :
    Calls Tryz.prog 126 #[.pointer (some ⟨m, 0, none⟩), .int .i64 n] w fun e w' => ∃ a' c', e = .returned (.slice a' (ins.take n.toNat).length c') ∧ Rd w' a' (ins.take n.toNat).length c' (ins.take n.toNat) ∧ (∀ x, a' = some x → w.heap.size ≤ x.block) ∧ EV B 92 m (ins.drop n.toNat) tr w' F ∧ Kept F w w' := by
  obtain ⟨wa, wl, wc, ev, es, h, ht⟩ := h
  have c0 := h.cell0
  have hwl := h.waits.length
  have hle := h.waits.le
  have hmx := h.waits.max
  have hnil := h.waits.nil
  obtain ⟨k, hk⟩ : ∃ k, k = min n.toNat wl := ⟨_, rfl⟩
  have hkl : k ≤ wl := by omega
  have e1 : ins.take n.toNat = ins.take k := by
    rcases Nat.le_total n.toNat wl with h1 | h1
    · rw [hk, Nat.min_eq_left h1]
    · rw [hk, Nat.min_eq_right h1, List.take_of_length_le (by omega), List.take_of_length_le (by omega)]
  have e2 : ins.drop n.toNat = ins.drop k := by
    rcases Nat.le_total n.toNat wl with h1 | h1
    · rw [hk, Nat.min_eq_left h1]
    · rw [hk, Nat.min_eq_right h1, List.drop_eq_nil_of_le (by omega), List.drop_eq_nil_of_le (by omega)]
  have e3 : (ins.take k).length = k := by simp; omega
  rw [e1, e2, e3]
  have hlt := h.lt
  have HC := hide (h.waits.front k hkl)
  have HT : Hid (∀ W1, Below w.heap.size w W1 → W1.cell? ⟨m, 0, none⟩ = some (.slice wa wl wc) ∧ W1.frozen? ⟨m, 0, none⟩ = false) := hide (fun W1 hb => ⟨(hb.cell hlt).trans h.cell0, (hb.frozen hlt).trans (h.frozen 0)⟩)
  have FIN := hide (take_fin h ht k)
  have HRD := hide h.waits
  have HL := hide hl
  clear h e1 e2 e3 hlt ht hl
  cases wa with
  | none =>
    obtain rfl : wc = 0 := hnil rfl
    obtain rfl : wl = 0 := by omega
    obtain rfl : k = 0 := by omega
    clear hk
    rcases (show n < 0 ∨ n = 0 ∨ 0 < n by omega) with h0 | rfl | h0
    all_goals
      go_enter Tryz.func126, Tryz.ntmps126
      go_wp2_with fail
      refine (dup_any _ _ _ _ w HC.out (by omega)).mono ?_
      rintro e W1 ⟨a', c', rfl, hr, hbl, hn⟩
      obtain ⟨c1, f1⟩ := HT.out W1 hbl
      have HR := hide hr
      have HB := hide hbl
      have HN := hide hn
      clear hr hbl hn c0 HT
      go_wp2
      go_ret
      exact FIN.out W1 a' c' none 0 0 HB.out HR.out HN.out (by omega) (HRD.out.rest_end 0 (by omega) rfl) (fun y hy => ⟨y, hy, rfl⟩) _ rfl
  | some x =>
    by_cases h0 : n < 0
    · obtain rfl : k = 0 := by omega
      clear hk
      go_enter Tryz.func126, Tryz.ntmps126
      go_wp2_with fail
      refine (dup_any _ _ _ _ w HC.out (by have := HL.out; omega)).mono ?_
      rintro e W1 ⟨a', c', rfl, hr, hbl, hn⟩
      obtain ⟨c1, f1⟩ := HT.out W1 hbl
      have HR := hide hr
      have HB := hide hbl
      have HN := hide hn
      clear hr hbl hn c0 HT
      go_wp2
      go_ret
      exact FIN.out W1 a' c' (some x) _ _ HB.out HR.out HN.out (by omega) (HRD.out) (fun y hy => ⟨y, hy, rfl⟩) _ rfl
    · obtain ⟨z, rfl⟩ := Int.eq_ofNat_of_zero_le (show 0 ≤ n by omega)
      by_cases h1 : z ≤ wl
      · obtain rfl : k = z := by omega
        clear hk h0
        go_enter Tryz.func126, Tryz.ntmps126
        go_wp2_with fail
        refine (dup_any _ _ _ _ w HC.out (by have := HL.out; omega)).mono ?_
        rintro e W1 ⟨a', c', rfl, hr, hbl, hn⟩
        obtain ⟨c1, f1⟩ := HT.out W1 hbl
        have HR := hide hr
        have HB := hide hbl
        have HN := hide hn
        clear hr hbl hn c0 HT
        go_wp2
        · go_ret
          exact FIN.out W1 a' c' (some x) _ 0 HB.out HR.out HN.out (by omega) (HRD.out.rest_end k (by omega) (by omega)) (fun y hy => ⟨y, hy, rfl⟩) _ rfl
        · go_ret
          exact FIN.out W1 a' c' (some (x.add k)) _ _ HB.out HR.out HN.out (by omega) (HRD.out.rest k (by omega) x rfl) (fun y hy => ⟨x, rfl, by cases hy; exact (add_block x _).symm⟩) _ rfl
      · obtain rfl : k = wl := by omega
        clear hk h0
        go_enter Tryz.func126, Tryz.ntmps126
        go_wp2_with fail
        refine (dup_any _ _ _ _ w HC.out (by have := HL.out; omega)).mono ?_
        rintro e W1 ⟨a', c', rfl, hr, hbl, hn⟩
        obtain ⟨c1, f1⟩ := HT.out W1 hbl
        have HR := hide hr
        have HB := hide hbl
        have HN := hide hn
        clear hr hbl hn c0 HT
        go_wp2
        · go_ret
          exact FIN.out W1 a' c' (some x) 0 0 HB.out HR.out HN.out (by omega) (by have h9 := HRD.out.rest_end k (by omega) (by omega); rwa [Nat.sub_self] at h9) (fun y hy => ⟨y, hy, rfl⟩) _ rfl
        · go_ret
          exact FIN.out W1 a' c' (some (x.add k)) 0 _ HB.out HR.out HN.out (by omega) (by have h9 := HRD.out.rest k (by omega) x rfl; rwa [Nat.sub_self] at h9) (fun y hy => ⟨x, rfl, by cases hy; exact (add_block x _).symm⟩) _ rfl

set_option maxHeartbeats 1600000 in
theorem rtake_any (B : Nat) (m : Nat) (ins : List Int) (tr : List Says) (w : World) (F : Nat → Prop) (n : Int) (h : EV B 48 m ins tr w F) (hl : ins.length ≤ 140737488355328) :
    Calls Tryz.prog 93 #[.pointer (some ⟨m, 0, none⟩), .int .i64 n] w fun e w' => ∃ a' c', e = .returned (.slice a' (ins.take n.toNat).length c') ∧ Rd w' a' (ins.take n.toNat).length c' (ins.take n.toNat) ∧ (∀ x, a' = some x → w.heap.size ≤ x.block) ∧ EV B 48 m (ins.drop n.toNat) tr w' F ∧ Kept F w w' := by
  obtain ⟨wa, wl, wc, ev, es, h, ht⟩ := h
  have c0 := h.cell0
  have hwl := h.waits.length
  have hle := h.waits.le
  have hmx := h.waits.max
  have hnil := h.waits.nil
  obtain ⟨k, hk⟩ : ∃ k, k = min n.toNat wl := ⟨_, rfl⟩
  have hkl : k ≤ wl := by omega
  have e1 : ins.take n.toNat = ins.take k := by
    rcases Nat.le_total n.toNat wl with h1 | h1
    · rw [hk, Nat.min_eq_left h1]
    · rw [hk, Nat.min_eq_right h1, List.take_of_length_le (by omega), List.take_of_length_le (by omega)]
  have e2 : ins.drop n.toNat = ins.drop k := by
    rcases Nat.le_total n.toNat wl with h1 | h1
    · rw [hk, Nat.min_eq_left h1]
    · rw [hk, Nat.min_eq_right h1, List.drop_eq_nil_of_le (by omega), List.drop_eq_nil_of_le (by omega)]
  have e3 : (ins.take k).length = k := by simp; omega
  rw [e1, e2, e3]
  have hlt := h.lt
  have HC := hide (h.waits.front k hkl)
  have HT : Hid (∀ W1, Below w.heap.size w W1 → W1.cell? ⟨m, 0, none⟩ = some (.slice wa wl wc) ∧ W1.frozen? ⟨m, 0, none⟩ = false) := hide (fun W1 hb => ⟨(hb.cell hlt).trans h.cell0, (hb.frozen hlt).trans (h.frozen 0)⟩)
  have FIN := hide (take_fin h ht k)
  have HRD := hide h.waits
  have HL := hide hl
  clear h e1 e2 e3 hlt ht hl
  obtain ⟨i0, hi, hz0, hz1, hz2⟩ := info_parts Tryz.info8
  cases wa with
  | none =>
    obtain rfl : wc = 0 := hnil rfl
    obtain rfl : wl = 0 := by omega
    obtain rfl : k = 0 := by omega
    clear hk
    rcases (show n < 0 ∨ n = 0 ∨ 0 < n by omega) with h0 | rfl | h0
    all_goals
      obtain ⟨c1, f1⟩ := HT.out w (Below.refl _ _)
      go_enter Tryz.func93, Tryz.ntmps93
      go_wp2
      go_ret
      exact FIN.out w none 0 none 0 0 (Below.refl _ _) HC.out (fun y hy => by cases hy) (by omega) (HRD.out.rest_end 0 (by omega) rfl) (fun y hy => ⟨y, hy, rfl⟩) _ rfl
  | some x =>
    by_cases h0 : n < 0
    · obtain rfl : k = 0 := by omega
      clear hk
      have HCL := hide HC.out.length
      have HCC := hide (HC.out.cells x rfl)
      go_enter Tryz.func93, Tryz.ntmps93
      go_wp2_with (at_builtin; refine wpList_append_own _ rfl _ _ 24 rfl w.heap.size 5 i0 (.int .u8 0) 1 1 Tryz.underlying24 hi hz0 hz1 hz2 rfl (by decide) _ _ _ rfl (World.ownsRow_nil _ _ _ _) x 0 wc ((ins.take 0).map (Value.int .u8)) rfl (by rw [List.length_map, HCL.out, Nat.mul_one]) (HCC.out) (ints_oneCell _ _) (by unfold maxLen; omega) (by have := HL.out; omega) (Nat.le_refl _) ?_; intro v' W1 hown hgrow hnn; refine Hid.out ?_)
      refine hide ?_
      have hbl : Below w.heap.size w W1 := (Below.refl _ _).grown hgrow (Nat.le_refl _) (by intro k hk; cases hk)
      have hown' : W1.ownsRow w.heap.size 5 1 v' 0 ((ins.take 0).map (Value.int .u8)) := by simpa using hown
      obtain ⟨a', c', hv, hr⟩ := Rd.own hown' HC.out.bytes
      rw [hv] at hown'
      have hn := eown_new hown'
      rw [hv]
      clear hown hgrow hown' hnn hv v'
      obtain ⟨c1, f1⟩ := HT.out W1 hbl
      have HR := hide hr
      have HB := hide hbl
      have HN := hide hn
      clear hr hbl hn c0 HT
      go_wp2
      go_ret
      exact FIN.out W1 a' c' (some x) _ _ HB.out HR.out HN.out (by omega) (HRD.out) (fun y hy => ⟨y, hy, rfl⟩) _ rfl
    · obtain ⟨z, rfl⟩ := Int.eq_ofNat_of_zero_le (show 0 ≤ n by omega)
      by_cases h1 : z ≤ wl
      · obtain rfl : k = z := by omega
        clear hk h0
        have HCL := hide HC.out.length
        have HCC := hide (HC.out.cells x rfl)
        go_enter Tryz.func93, Tryz.ntmps93
        go_wp2_with (at_builtin; refine wpList_append_own _ rfl _ _ 24 rfl w.heap.size 5 i0 (.int .u8 0) 1 1 Tryz.underlying24 hi hz0 hz1 hz2 rfl (by decide) _ _ _ rfl (World.ownsRow_nil _ _ _ _) x k wc ((ins.take k).map (Value.int .u8)) rfl (by rw [List.length_map, HCL.out, Nat.mul_one]) (HCC.out) (ints_oneCell _ _) (by unfold maxLen; omega) (by have := HL.out; omega) (Nat.le_refl _) ?_; intro v' W1 hown hgrow hnn; refine Hid.out ?_)
        refine hide ?_
        have hbl : Below w.heap.size w W1 := (Below.refl _ _).grown hgrow (Nat.le_refl _) (by intro k hk; cases hk)
        have hown' : W1.ownsRow w.heap.size 5 1 v' k ((ins.take k).map (Value.int .u8)) := by simpa using hown
        obtain ⟨a', c', hv, hr⟩ := Rd.own hown' HC.out.bytes
        rw [hv] at hown'
        have hn := eown_new hown'
        rw [hv]
        clear hown hgrow hown' hnn hv v'
        obtain ⟨c1, f1⟩ := HT.out W1 hbl
        have HR := hide hr
        have HB := hide hbl
        have HN := hide hn
        clear hr hbl hn c0 HT
        go_wp2
        · go_ret
          exact FIN.out W1 a' c' (some x) _ 0 HB.out HR.out HN.out (by omega) (HRD.out.rest_end k (by omega) (by omega)) (fun y hy => ⟨y, hy, rfl⟩) _ rfl
        · go_ret
          exact FIN.out W1 a' c' (some (x.add k)) _ _ HB.out HR.out HN.out (by omega) (HRD.out.rest k (by omega) x rfl) (fun y hy => ⟨x, rfl, by cases hy; exact (add_block x _).symm⟩) _ rfl
      · obtain rfl : k = wl := by omega
        clear hk h0
        have HCL := hide HC.out.length
        have HCC := hide (HC.out.cells x rfl)
        go_enter Tryz.func93, Tryz.ntmps93
        go_wp2_with (at_builtin; refine wpList_append_own _ rfl _ _ 24 rfl w.heap.size 5 i0 (.int .u8 0) 1 1 Tryz.underlying24 hi hz0 hz1 hz2 rfl (by decide) _ _ _ rfl (World.ownsRow_nil _ _ _ _) x k wc ((ins.take k).map (Value.int .u8)) rfl (by rw [List.length_map, HCL.out, Nat.mul_one]) (HCC.out) (ints_oneCell _ _) (by unfold maxLen; omega) (by have := HL.out; omega) (Nat.le_refl _) ?_; intro v' W1 hown hgrow hnn; refine Hid.out ?_)
        refine hide ?_
        have hbl : Below w.heap.size w W1 := (Below.refl _ _).grown hgrow (Nat.le_refl _) (by intro k hk; cases hk)
        have hown' : W1.ownsRow w.heap.size 5 1 v' k ((ins.take k).map (Value.int .u8)) := by simpa using hown
        obtain ⟨a', c', hv, hr⟩ := Rd.own hown' HC.out.bytes
        rw [hv] at hown'
        have hn := eown_new hown'
        rw [hv]
        clear hown hgrow hown' hnn hv v'
        obtain ⟨c1, f1⟩ := HT.out W1 hbl
        have HR := hide hr
        have HB := hide hbl
        have HN := hide hn
        clear hr hbl hn c0 HT
        go_wp2
        · go_ret
          exact FIN.out W1 a' c' (some x) 0 0 HB.out HR.out HN.out (by omega) (by have h9 := HRD.out.rest_end k (by omega) (by omega); rwa [Nat.sub_self] at h9) (fun y hy => ⟨y, hy, rfl⟩) _ rfl
        · go_ret
          exact FIN.out W1 a' c' (some (x.add k)) 0 _ HB.out HR.out HN.out (by omega) (by have h9 := HRD.out.rest k (by omega) x rfl; rwa [Nat.sub_self] at h9) (fun y hy => ⟨x, rfl, by cases hy; exact (add_block x _).symm⟩) _ rfl

end Go.Proofs.YtgjfelkbblbjfaaGreatDoor

/- The contract of env's Note: events join those that were noted before. -/
namespace Go.Proofs.YtgjfelkbblbjfaaGreatDoor
open Go.RowKit
set_option linter.unusedVariables false
set_option maxRecDepth 100000

theorem Tryz.infoEv : (Tryz.prog.info? 100).map (fun i => (i.zero, i.size, i.bytes)) = some (some (.agg #[.int .i64 0, .int .i64 0, .slice none 0 0, .int .i64 0]), 4, 48) := by kernel_rfl

/-- An event more. -/
theorem EVx.noted {B : Nat} {t : TypeId} {V W1 W2 : World} {m : Nat} {F : Nat → Prop} {ins : List Int} {wa : Option Addr} {wl wc : Nat} {ev : Value} {es : List Evt} (h : EVx B t V m F ins wa wl wc ev es) (hb : Below V.heap.size V W1) (x : Evt) (hx : x.Ok W1)
    (hsx : 0 < x.len → ∀ y, x.a = some y → V.heap.size ≤ y.block ∨ (y.block < B ∧ ¬ F y.block)) (o : Obj) (gg cap : Nat)
    (hown : W2.ownsRow 0 100 4 (.slice (some ⟨gg, 0, none⟩) (es.length + 1) cap) (es.length + 1) (evCells es ++ x.cells)) (hgrow : (W1.alloc o).grownBy W2 ev.ownBlock) (hat : ev.ownBlock = some gg ∨ gg = W1.heap.size + 1) (hlt : gg < W2.heap.size) :
    ∃ F', EVx B t (W2.setCell ⟨m, 1, none⟩ (.slice (some ⟨gg, 0, none⟩) (es.length + 1) cap)) m F' ins wa wl wc (.slice (some ⟨gg, 0, none⟩) (es.length + 1) cap) (es ++ [x]) ∧ Went F V F' (W2.setCell ⟨m, 1, none⟩ (.slice (some ⟨gg, 0, none⟩) (es.length + 1) cap)) := by
  have hml := h.lt
  have hsz := hb.size
  have hmg : gg ≠ m := by
    rcases hat with h1 | h1
    · exact (h.fg gg h1).2
    · omega
  have k1 : Kept (fun k => k = m ∨ ev.ownBlock = some k) W1 (W2.setCell ⟨m, 1, none⟩ (.slice (some ⟨gg, 0, none⟩) (es.length + 1) cap)) :=
    (((Kept.refl _ W1).alloc o).trans (F' := fun k => ev.ownBlock = some k) (Kept.of_grown hgrow (fun k hk => hk)) (fun k hk => Or.inl (Or.inr hk))).setCell _ _ (Or.inl (Or.inl rfl))
  have k0 : Kept (fun k => k = m ∨ ev.ownBlock = some k) V (W2.setCell ⟨m, 1, none⟩ (.slice (some ⟨gg, 0, none⟩) (es.length + 1) cap)) := (kept_of_below hb _).trans k1 (fun k hk => Or.inl hk)
  have hs3 : (W2.setCell ⟨m, 1, none⟩ (.slice (some ⟨gg, 0, none⟩) (es.length + 1) cap)).heap.size = W2.heap.size := by simp [World.setCell]
  have hs2 : V.heap.size ≤ W2.heap.size := by have := k0.size; omega
  have gl : ∀ g, ev.ownBlock = some g → g < V.heap.size := ownsRow_blk h.row
  have hm2 : W2.heap[m]? = some (.cells #[.slice wa wl wc, ev] t (0, 0)) := by
    rw [hgrow.block m (by simp; omega) (fun e => (h.fg m e.symm).2 rfl), Below.heap_alloc _ _ _ (by omega), hb.block m hml]
    exact h.head
  have far : ∀ k, k < V.heap.size → (∀ g, ev.ownBlock = some g → g ≠ k) → gg ≠ k := fun k hk hg => by
    rcases hat with h1 | h1
    · exact hg gg h1
    · omega
  have hnb : ∀ {g : Nat}, (Value.slice (some ⟨gg, 0, none⟩) (es.length + 1) cap).ownBlock = some g → g = gg := fun {g} h => by
    simp [Value.ownBlock] at h
    exact h.symm
  have xblk : 0 < x.len → ∀ y, x.a = some y → y.block ≠ m ∧ ev.ownBlock ≠ some y.block ∧ gg ≠ y.block ∧ y.block < W1.heap.size := by
    intro h0 y hy
    have h1 := hx.b.blk h0 y hy
    have h2 := hsx h0 y hy
    have h3 : y.block ≠ m := fun e => by
      rcases h2 with h2 | h2
      · omega
      · exact h2.2 (e ▸ h.fm)
    have h4 : ev.ownBlock ≠ some y.block := fun e => by
      rcases h2 with h2 | h2
      · have := gl _ e; omega
      · exact h2.2 (h.fg _ e).1
    refine ⟨h3, h4, fun e => ?_, h1⟩
    rcases hat with h5 | h5
    · exact h4 (e ▸ h5)
    · omega
  refine ⟨fun k => F k ∨ (V.heap.size ≤ k ∧ k < W2.heap.size), ⟨setCell_head hm2, k0.rd h.waits (fun h0 y hy => ?_), ?_, fun z hz => ?_, Or.inl h.fm, fun g hg => ?_, fun h0 y hy => ?_, fun z hz h0 y hy => ?_, fun k hk => ?_⟩, k0.mono (fun k hk => ?_), fun k hk => ?_⟩
  · rintro (e | e)
    · exact (h.sw h0 y hy).2.1 e
    · exact (h.sw h0 y hy).2.2 e
  · rw [evCells_append, evCells_one, List.length_append]
    exact ownsRow_kept hown (fun g hg => ((Kept.refl (fun k => k = m) W2).setCell _ _ (Or.inl rfl)).block g (by rw [hnb hg]; exact hlt) (by rw [hnb hg]; exact hmg))
  · rcases List.mem_append.1 hz with hz | hz
    · refine ⟨(h.ok z hz).kind, (h.ok z hz).fd, (h.ok z hz).n, k0.rd (h.ok z hz).b (fun h0 y hy => ?_)⟩
      rintro (e | e)
      · exact (h.se z hz h0 y hy).2.1 e
      · exact (h.se z hz h0 y hy).2.2 e
    · obtain rfl : z = x := by simpa using hz
      refine ⟨hx.kind, hx.fd, hx.n, k1.rd hx.b (fun h0 y hy => ?_)⟩
      rintro (e | e)
      · exact (xblk h0 y hy).1 e
      · exact (xblk h0 y hy).2.1 e
  · rw [hnb hg]
    refine ⟨?_, hmg⟩
    rcases hat with h1 | h1
    · exact Or.inl (h.fg gg h1).1
    · exact Or.inr ⟨by omega, hlt⟩
  · obtain ⟨h1, h2, h3⟩ := h.sw h0 y hy
    have h4 := h.waits.blk h0 y hy
    refine ⟨?_, h2, fun e => far y.block h4 (fun g hg he => h3 (he ▸ hg)) (hnb e).symm⟩
    rcases h1 with h1 | h1
    · exact Or.inl (Or.inl h1)
    · exact Or.inr h1
  · rcases List.mem_append.1 hz with hz | hz
    · obtain ⟨h1, h2, h3⟩ := h.se z hz h0 y hy
      have h4 := (h.ok z hz).b.blk h0 y hy
      refine ⟨?_, h2, fun e => far y.block h4 (fun g hg he => h3 (he ▸ hg)) (hnb e).symm⟩
      rcases h1 with h1 | h1
      · exact Or.inl (Or.inl h1)
      · exact Or.inr h1
    · obtain rfl : z = x := by simpa using hz
      obtain ⟨h1, h2, h3, h4⟩ := xblk h0 y hy
      refine ⟨?_, h1, fun e => h3 (hnb e).symm⟩
      rcases hsx h0 y hy with h5 | h5
      · refine Or.inl (Or.inr ⟨h5, ?_⟩)
        have := k1.size
        omega
      · exact Or.inr h5.1
  · rw [hs3]
    rcases hk with hk | hk
    · have := h.flt k hk; omega
    · exact hk.2
  · rcases hk with rfl | hk
    · exact h.fm
    · exact (h.fg k hk).1
  · rcases hk with hk | hk
    · exact Or.inl hk
    · exact Or.inr hk.1

theorem Evs.kept {G : Nat → Prop} {w w' : World} {a : Option Addr} {len : Nat} {es : List Evt} (h : Evs w a len es) (hk : Kept G w w') (ha : 0 < len → ∀ x, a = some x → ¬ G x.block) (hb : ∀ x ∈ es, 0 < x.len → ∀ y, x.a = some y → ¬ G y.block) : Evs w' a len es :=
  ⟨h.length, h.max, fun x hx => ⟨(h.ok x hx).kind, (h.ok x hx).fd, (h.ok x hx).n, hk.rd (h.ok x hx).b (hb x hx)⟩, fun i x hx => by
    obtain ⟨b, o, h1, h2⟩ := h.cell i x hx
    refine ⟨b, o, h1, fun j hj => ?_⟩
    have h3 := h2 j hj
    have h4 : x.cells[j]? = some (x.cells[j]'(by simpa [Evt.cells] using hj)) := List.getElem?_eq_getElem _
    rw [h4] at h3 ⊢
    have hi := (List.getElem?_eq_some_iff.1 hx).1
    have hl := h.length
    exact hk.cell h3 (ha (by omega) ⟨b, o, none⟩ h1)⟩

theorem note_fin {B : Nat} {t : TypeId} {V W1 W2 : World} {m : Nat} {F : Nat → Prop} {ins : List Int} {wa : Option Addr} {wl wc : Nat} {ev : Value} {es : List Evt} {T : List Says} {L : Nat} (h : EVx B t V m F ins wa wl wc ev es) (ht : es.map Evt.says = T) (hL : es.length = L) (hb : Below V.heap.size V W1) (x : Evt) (hx : x.Ok W1)
    (hsx : 0 < x.len → ∀ y, x.a = some y → V.heap.size ≤ y.block ∨ (y.block < B ∧ ¬ F y.block)) (o : Obj) (gg cap : Nat)
    (hown : W2.ownsRow 0 100 4 (.slice (some ⟨gg, 0, none⟩) (L + 1) cap) (L + 1) (evCells es ++ x.cells)) (hgrow : (W1.alloc o).grownBy W2 ev.ownBlock) (hat : ev.ownBlock = some gg ∨ gg = W1.heap.size + 1) (hlt : gg < W2.heap.size) :
    ∃ F', EV B t m ins (T ++ [x.says]) (W2.setCell ⟨m, 1, none⟩ (.slice (some ⟨gg, 0, none⟩) (L + 1) cap)) F' ∧ Went F V F' (W2.setCell ⟨m, 1, none⟩ (.slice (some ⟨gg, 0, none⟩) (L + 1) cap)) := by
  subst hL
  obtain ⟨F', h1, h2⟩ := h.noted hb x hx hsx o gg cap hown hgrow hat hlt
  exact ⟨F', ⟨_, _, _, _, _, h1, by rw [List.map_append, ht]; rfl⟩, h2⟩

theorem says_snoc {es : List Evt} {j : Nat} {x : Evt} (h : es[j]? = some x) (tr : List Says) : (tr ++ (es.take j).map Evt.says) ++ [x.says] = tr ++ (es.take (j + 1)).map Evt.says := by
  rw [List.take_add_one, h]
  simp

set_option maxHeartbeats 3200000 in
theorem note_any (B : Nat) (m : Nat) (ins : List Int) (tr : List Says) (w : World) (F : Nat → Prop) (a : Option Addr) (len cap : Nat) (es : List Evt) (h : EV B 92 m ins tr w F) (hE : Evs w a len es) (ha : 0 < len → ∀ x, a = some x → ¬ F x.block) (hb : ∀ x ∈ es, 0 < x.len → ∀ y, x.a = some y → ¬ F y.block)
    (hs : ∀ x ∈ es, x.len ≤ 140737488355328) (hn : tr.length + len ≤ 1000000) :
    Calls Tryz.prog 124 #[.pointer (some ⟨m, 0, none⟩), .slice a len cap] w fun e w' => e = .returned (.tuple #[]) ∧ ∃ F', EV B 92 m ins (tr ++ es.map Evt.says) w' F' ∧ Went F w F' w' := by
  obtain ⟨i0, hi, hz0, hz1, hz2⟩ := info_parts Tryz.infoEv
  have HE := hide hE
  have HA := hide ha
  have HB := hide hb
  have HS := hide hs
  have H0 := hide h
  have hlm := hE.max
  clear hE ha hb hs h
  go_enter Tryz.func124, Tryz.ntmps124
  go_wp2
  go_loopw [8] (fun i wr => ∃ (j : Nat) (F' : Nat → Prop), j ≤ len ∧ i = .int .i64 (j : Int) ∧ EV B 92 m ins (tr ++ (es.take j).map Evt.says) wr F' ∧ Went F w F' wr) (fun i _ => len - (intOf i).toNat)
  case atStart => exact ⟨0, F, by omega, rfl, by simpa using H0.out, Went.refl _ _⟩
  case round =>
    obtain ⟨j, F1, hj, rfl, hEV, hW⟩ := hrel
    by_cases hlt : j < len
    · have hlen := HE.out.length
      obtain ⟨x, hxj⟩ : ∃ x, es[j]? = some x := ⟨_, List.getElem?_eq_getElem (by omega)⟩
      have hxm : x ∈ es := List.mem_of_getElem? hxj
      have hE1 := HE.out.kept hW.1 HA.out HB.out
      obtain ⟨b, o, hab, hcx⟩ := hE1.cell j x hxj
      have hxo := hE1.ok x hxm
      subst hab
      have k0 : wr.cell? ⟨b, o + j * 4, none⟩ = some (.int .i64 x.kind) := hcx 0 (by omega)
      have k1 : wr.cell? ⟨b, o + j * 4 + 1, none⟩ = some (.int .i64 x.fd) := hcx 1 (by omega)
      have k2 : wr.cell? ⟨b, o + j * 4 + 2, none⟩ = some (.slice x.a x.len x.cap) := hcx 2 (by omega)
      have k3 : wr.cell? ⟨b, o + j * 4 + 3, none⟩ = some (.int .i64 x.n) := hcx 3 (by omega)
      have HXO := hide hxo
      have HEV := hide hEV
      have HW := hide hW
      have HXM := hide hxm
      have HXJ := hide hxj
      clear hcx hxo hEV hW hxm hxj hE1
      go_upto_region 3 with fail
      obtain ⟨X, hXe⟩ : ∃ X, X = wr.heap.size := ⟨_, rfl⟩
      rw [← hXe]
      obtain ⟨V, hV⟩ : ∃ V, V = wr.alloc (.cells #[.int .i64 x.kind, .int .i64 x.fd, .slice x.a x.len x.cap, .int .i64 x.n] 100) := ⟨_, rfl⟩
      rw [← hV]
      have bV : Below wr.heap.size wr V := by rw [hV]; exact (Below.refl _ _).alloc (Nat.le_refl _) _
      obtain ⟨c0, c1, c2, c3, f0, f1, f2, f3⟩ : Box4 V X (.int .i64 x.kind) (.int .i64 x.fd) (.slice x.a x.len x.cap) (.int .i64 x.n) := box4_of (t := 100) (by rw [hV, hXe]; exact heap_alloc_new wr _)
      clear k0 k1 k2 k3 f0 f1 f2 f3 hV hXe
      obtain ⟨wa, wl, wc, ev, es1, hx1, ht1⟩ := HEV.out
      have hlen1 : es1.length = tr.length + j := by
        have := congrArg List.length ht1
        simp at this
        omega
      have bD : Below wr.heap.size wr V.drew := bV.drew
      have hx2 : EVx B 92 V.drew m F1 ins wa wl wc ev es1 := hx1.kept (kept_of_below bD (fun _ => False)) (fun _ _ h => h) (fun _ h => h.elim)
      have cm := hx2.cell1
      have fm := hx2.frozen 1
      have hml := hx2.lt
      have cm' : V.cell? ⟨m, 1, none⟩ = some ev := by simpa using cm
      have HC := hide (own_any x V.drew (HXO.out.below bD) (HS.out x HXM.out))
      obtain ⟨L, hL⟩ : ∃ L, es1.length = L := ⟨_, rfl⟩
      have hL6 : L < 1000000 := by omega
      have HROW : Hid (∀ W1 o, Below V.drew.heap.size V.drew W1 → (W1.alloc o).ownsRow 0 100 4 ev L (evCells es1)) := hide (fun W1 o hb => by
        rw [← hL]
        exact World.ownsRow.alloc (ownsRow_kept hx2.row (fun g hg => hb.block g (ownsRow_blk hx2.row g hg))) o)
      have HFAR : Hid (∀ W1 o W2, Below V.drew.heap.size V.drew W1 → (W1.alloc o).grownBy W2 ev.ownBlock → W2.cell? ⟨m, 1, none⟩ = some ev ∧ W2.frozen? ⟨m, 1, none⟩ = false) := hide (fun W1 o W2 hb hg => by
        have hz := hb.size
        have h1 : m < (W1.alloc o).heap.size := by simp; omega
        have h2 : some m ≠ ev.ownBlock := fun e => (hx2.fg m e.symm).2 rfl
        have h3 : Below V.drew.heap.size V.drew (W1.alloc o) := hb.alloc hz _
        exact ⟨(hg.cell_far ⟨m, 1, none⟩ h1 h2).trans ((h3.cell hml).trans cm), (hg.frozen_far ⟨m, 1, none⟩ h1 h2).trans ((h3.frozen hml).trans fm)⟩)
      have HX2 := hide hx2
      have HT1 := hide ht1
      have HL := hide hL
      have HBD := hide bD
      have hmV : m < V.heap.size := by simpa using hml
      have HWr := hide (Nat.le_refl wr.heap.size)
      clear bV hx1 ht1 hlen1 hx2 cm fm hml hL bD
      go_region_law (first
        | (refine step_append_lies _ (by rfl) _ _ _ (by rfl) 0 100 i0 _ 4 48 Tryz.underlying46 hi hz0 hz1 hz2 rfl (by omega) ev L (evCells es1) (by rfl) (HROW.out W1 _ HBL.out) ⟨W1.heap.size, 0, none⟩ 1 1 [.int .i64 x.kind, .int .i64 x.fd, .slice a' x.len c', .int .i64 x.n] (by rfl) (by rfl) (World.news_of_block (cs := #[.int .i64 x.kind, .int .i64 x.fd, .slice a' x.len c', .int .i64 x.n]) (t := 100) (fr := (0, 0)) (heap_alloc_new W1 _)) (by simp [Value.oneCell']) (by omega) (by unfold maxLen; omega) (by omega) (by omega) (W1.heap.size + 1) (by simp) ?_; intro gg cap2 W2 hown2 hgrow hat hlt2; obtain ⟨cm2, fm2⟩ := HFAR.out W1 _ W2 HBL.out hgrow; have HO2 := hide hown2; have HG2 := hide hgrow; have HAT := hide hat; have HLT := hide hlt2; clear hown2 hgrow hat hlt2)
        | (go_simp; go_at_call 45; refine HC.out.mono ?_; rintro e W1 ⟨a', c', rfl, hr, hbl, hnw⟩; have cm1 : W1.cell? ⟨m, 1, none⟩ = some ev := (hbl.cell (by simpa using hmV)).trans (by simpa using cm'); have hm1 : m < W1.heap.size := Nat.lt_of_lt_of_le (by simpa using hmV) hbl.size; have HR1 := hide hr; have HBL := hide hbl; have HNW := hide hnw; clear hr hbl hnw; go_wp2_with fail))
      all_goals
        have HFIN : Hid (∃ F2, EV B 92 m ins (tr ++ (es.take (j + 1)).map Evt.says) (W2.setCell ⟨m, 1, none⟩ (.slice (some ⟨gg, 0, none⟩) (L + 1) cap2)) F2 ∧ Went F w F2 (W2.setCell ⟨m, 1, none⟩ (.slice (some ⟨gg, 0, none⟩) (L + 1) cap2))) := by
          refine hide ?_
          obtain ⟨F2, h1, h2⟩ := note_fin HX2.out HT1.out HL.out HBL.out ⟨x.kind, x.fd, a', x.len, c', x.n, x.bs⟩ ⟨HXO.out.kind, HXO.out.fd, HXO.out.n, HR1.out⟩ (fun _ y hy => Or.inl (HNW.out y hy)) _ gg cap2 HO2.out HG2.out HAT.out HLT.out
          refine ⟨F2, ?_, HW.out.trans (Went.trans (F' := F1) ⟨kept_of_below HBD.out _, fun k hk => Or.inl hk⟩ h2)⟩
          rw [← says_snoc HXJ.out]
          exact h1
        clear HX2 HT1 HL HBL HR1 HNW HO2 HG2 HAT HLT HROW HFAR HC HXO HEV HBD cm2 fm2 cm1 hm1 cm'
        go_wp2
        go_roundw
        case rel =>
          obtain ⟨F2, h1, h2⟩ := HFIN.out
          exact ⟨j + 1, F2, by omega, by go_num, h1, h2⟩
        case measure => simp [intOf]; omega
    · obtain rfl : j = len := by omega
      have HEV := hide hEV
      have HW := hide hW
      clear hEV hW
      go_wp2
      go_end0
      have hlen := HE.out.length
      have h1 := HEV.out
      rw [List.take_of_length_le (by omega)] at h1
      exact ⟨rfl, F1, h1, HW.out⟩

end Go.Proofs.YtgjfelkbblbjfaaGreatDoor
