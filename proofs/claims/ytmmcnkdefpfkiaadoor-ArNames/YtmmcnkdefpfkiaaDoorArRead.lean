/- The contract of ar.Read: what the archive's bytes say, or the error. -/
import Derived.Test.YtmmcnkdefpfkiaaDoorArMember
import Derived.Lib.SlBytesConst
import Derived.Deep.CutRange
import Derived.Deep.LoopGhost
namespace Go.Proofs.YtmmcnkdefpfkiaaDoor
open Go.RowKit
set_option linter.unusedVariables false
set_option maxRecDepth 100000
set_option maxRecDepth 20000
set_option linter.unusedSimpArgs false

theorem hp_any (a b : Option Addr) (c d : Nat) (l m : T8) (w : World) (r : Rt w a c l) (s : Rt w b d m) : Calls Tryd.prog 13 #[.slice a l.length c, .slice b m.length d] w fun e w' => e = .returned (.bool (decide (l.take m.length = m))) ∧ w' = w := by
  have hle := r.le
  have hmx := r.max
  have hle2 := s.le
  have hmx2 := s.max
  by_cases h : m.length ≤ l.length
  · have HE := hide (beq_any a b c d (l.take m.length) m w (Rt.front r m.length h) s)
    have e1 : (l.take m.length).length = m.length := by simp; omega
    rw [e1] at HE
    have hd : decide ((m.length : Int) ≤ (l.length : Int)) = true := decide_eq_true (by omega)
    generalize decide (l.take m.length = m) = q at *
    clear r s
    generalize l.length = N at *
    generalize m.length = M at *
    go_enter Tryd.func13, Tryd.ntmps13
    go_wp2_with fail
    refine HE.out.mono ?_
    rintro e w' ⟨rfl, rfl⟩
    go_wp2
    go_ret
    exact ⟨rfl, rfl⟩
  · have hd : decide ((m.length : Int) ≤ (l.length : Int)) = false := decide_eq_false (by omega)
    have e1 : decide (l.take m.length = m) = false := decide_eq_false (fun e => by have := congrArg List.length e; simp at this; omega)
    rw [e1]
    clear r s e1
    generalize l.length = N at *
    generalize m.length = M at *
    go_enter Tryd.func13, Tryd.ntmps13
    go_wp2_with fail
    go_ret
    exact ⟨rfl, rfl⟩

/-- What Read tells. -/
def ArT (w w' : World) (o : Option ArS) (e : Ending) : Prop :=
  match o with
  | some s => ∃ am cm ai ci, e = .returned (.tuple #[.slice am s.ms.length cm, .slice ai s.ix.length ci, .int .i64 0]) ∧ OM w' w.heap.size (.slice am s.ms.length cm) s.ms ∧ w'.ownsRow w.heap.size 5 1 (.slice ai s.ix.length ci) s.ix.length (cs8 s.ix)
  | none => e = .returned (.tuple #[.slice none 0 0, .slice none 0 0, .int .i64 40])

/-- The blocks of the three named results. -/
structure NB (w wx : World) : Prop where
  b0 : wx.heap[w.heap.size]? = some (.cells #[.slice none 0 0] 23 (0, 0))
  b1 : wx.heap[w.heap.size + 1]? = some (.cells #[.slice none 0 0] 24 (0, 0))
  b2 : wx.heap[w.heap.size + 1 + 1]? = some (.cells #[.int .i64 0] 27 (0, 0))
  bel : Below w.heap.size w wx
abbrev nbW (w : World) : World := ((w.alloc (.cells #[.slice none 0 0] 23)).alloc (.cells #[.slice none 0 0] 24)).alloc (.cells #[.int .i64 0] 27)
theorem nbW_size (w : World) : (nbW w).heap.size = w.heap.size + 3 := by simp [nbW]
theorem NB.new (w : World) : NB w (nbW w) := by
  have h1 := heap_alloc_new w (.cells #[.slice none 0 0] 23)
  have h2 := heap_alloc_new (w.alloc (.cells #[.slice none 0 0] 23)) (.cells #[.slice none 0 0] 24)
  have h3 := heap_alloc_new ((w.alloc (.cells #[.slice none 0 0] 23)).alloc (.cells #[.slice none 0 0] 24)) (.cells #[.int .i64 0] 27)
  have l1 : Below (w.heap.size + 1) (w.alloc (.cells #[.slice none 0 0] 23)) (nbW w) := ((Below.refl _ _).alloc (by simp) _).alloc (by simp) _
  have l2 : Below (w.heap.size + 2) ((w.alloc (.cells #[.slice none 0 0] 23)).alloc (.cells #[.slice none 0 0] 24)) (nbW w) := (Below.refl _ _).alloc (by simp) _
  rw [show (w.alloc (.cells #[.slice none 0 0] 23)).heap.size = w.heap.size + 1 by simp] at h2
  rw [show ((w.alloc (.cells #[.slice none 0 0] 23)).alloc (.cells #[.slice none 0 0] 24)).heap.size = w.heap.size + 1 + 1 by simp] at h3
  refine ⟨(l1.block _ (by omega)).trans h1, (l2.block _ (by omega)).trans h2, h3, (((Below.refl _ _).alloc (Nat.le_refl _) _).alloc (by simp) _).alloc (by simp; omega) _⟩
theorem NB.on {w wx wy : World} (h : NB w wx) {B : Nat} (hb : Below B wx wy) (hB : w.heap.size + 3 ≤ B) : NB w wy :=
  ⟨(hb.block _ (by omega)).trans h.b0, (hb.block _ (by omega)).trans h.b1, (hb.block _ (by omega)).trans h.b2, h.bel.trans (hb.mono (by omega))⟩
/-- What is told where it panics. -/
abbrev endW (w wx : World) : World := ((wx.setCell ⟨w.heap.size, 0, none⟩ (.slice none 0 0)).setCell ⟨w.heap.size + 1, 0, none⟩ (.slice none 0 0)).setCell ⟨w.heap.size + 1 + 1, 0, none⟩ (.int .i64 40)
theorem NB.told {w wx : World} (h : NB w wx) : (endW w wx).cell? ⟨w.heap.size, 0, none⟩ = some (.slice none 0 0) ∧ (endW w wx).cell? ⟨w.heap.size + 1, 0, none⟩ = some (.slice none 0 0) ∧ (endW w wx).cell? ⟨w.heap.size + 1 + 1, 0, none⟩ = some (.int .i64 40) := by
  have c0 : wx.cell? ⟨w.heap.size, 0, none⟩ = some (.slice none 0 0) := by rw [cell_of_row _ _ 0 _ _ (0, 0) h.b0]; rfl
  have c1 : wx.cell? ⟨w.heap.size + 1, 0, none⟩ = some (.slice none 0 0) := by rw [cell_of_row _ _ 0 _ _ (0, 0) h.b1]; rfl
  have c2 : wx.cell? ⟨w.heap.size + 1 + 1, 0, none⟩ = some (.int .i64 0) := by rw [cell_of_row _ _ 0 _ _ (0, 0) h.b2]; rfl
  unfold endW
  simp [go_sem, c0, c1, c2]
theorem NB.fin {w wx : World} (h : NB w wx) : Below w.heap.size w (endW w wx) :=
  ((h.bel.setCell (p := ⟨w.heap.size, 0, none⟩) (Nat.le_refl _) _).setCell (p := ⟨w.heap.size + 1, 0, none⟩) (Nat.le_succ _) _).setCell (p := ⟨w.heap.size + 1 + 1, 0, none⟩) (by show w.heap.size ≤ w.heap.size + 1 + 1; omega) _

theorem res3 (tmps : Array Value) (w : World) (p q r : Addr) (x y z : Value) (h2 : tmps[2]?.getD undef = .pointer (some p)) (h3 : tmps[3]?.getD undef = .pointer (some q)) (h4 : tmps[4]?.getD undef = .pointer (some r)) (c2 : w.cell? p = some x) (c3 : w.cell? q = some y) (c4 : w.cell? r = some z) :
    Sem.run Tryd.prog (results Tryd.f6 tmps) w = .ok (.tuple #[x, y, z]) w := by
  simp [results, Tryd.results6, h2, h3, h4, go_sem, c2, c3, c4]

abbrev mgV : Array Value := #[.int .u8 33, .int .u8 60, .int .u8 97, .int .u8 114, .int .u8 99, .int .u8 104, .int .u8 62, .int .u8 10]
/-- The world behind the named results and the archive's first bytes. -/
abbrev mgW (w : World) : World := (nbW w).alloc (.cells mgV 5 (8, 9))
theorem mgW_rt (w : World) : Rt (mgW w) (some ⟨w.heap.size + 1 + 1 + 1, 0, none⟩) 8 magc := by
  have := Rd.row (nbW w) 5 (8, 9) (nI magc) (nI_bytes _) (by decide)
  rw [nbW_size] at this
  exact this
theorem mgW_kc (w : World) : Sem.run Tryd.prog (convert 24 24 (.slice (some ⟨w.heap.size + 1 + 1 + 1, 0, none⟩) 8 8)) ((nbW w).alloc (.cells mgV 5)) = .ok (.slice (some ⟨w.heap.size + 1 + 1 + 1, 0, none⟩) 8 8) (mgW w) := by
  have := Lib.run_convert_bytes_const (P := Tryd.prog) (nbW w) 24 5 mgV 8 8 Tryd.underlying24 Tryd.underlying5
  rw [nbW_size] at this
  exact this
theorem mgW_size (w : World) : (mgW w).heap.size = w.heap.size + 4 := by show ((nbW w).alloc _).heap.size = _; simp [nbW]
theorem mgW_bel (w : World) : Below (w.heap.size + 3) (nbW w) (mgW w) := (Below.refl _ _).alloc (by rw [nbW_size]; exact Nat.le_refl _) _
theorem nx_fit {s t : ArS} {r q : T8} (h : nxG s r = some (t, q)) : q.length < r.length ∧ (t.lg = s.lg ∨ t.lg.length ≤ r.length) := by
  unfold nxG at h
  cases hp : ptG r with
  | none => rw [hp] at h; cases h
  | some p =>
    rw [hp] at h
    simp only [Option.bind_some] at h
    have h1 := ptG_len hp
    have h2 : p.2.1.length ≤ r.length := by
      unfold ptG at hp
      split at hp
      · cases hd : digO 10 ((r.drop 48).take 10) with
        | none => rw [hd] at hp; cases hp
        | some n =>
          rw [hd] at hp
          simp only [Option.bind_some] at hp
          split at hp
          · cases hb : bhO n (r.drop (60 + n)) with
            | none => rw [hb] at hp; cases hp
            | some q' => rw [hb] at hp; cases hp; simp; omega
          · cases hp
      · cases hp
    cases hu : putG 15 s p.1 p.2.1 with
    | none => rw [hu] at h; cases h
    | some t' =>
      rw [hu] at h
      cases h
      refine ⟨h1.1, ?_⟩
      unfold putG at hu
      split at hu
      · split at hu
        · cases hu
        · cases hu; exact .inl rfl
      · split at hu
        · split at hu
          · cases hu
          · cases hu; exact .inr h2
        · cases hn : nmG 15 s.lg p.1 with
          | none => rw [hn] at hu; cases hu
          | some x =>
            rw [hn] at hu
            simp only [Option.bind_some] at hu
            split at hu
            · cases hu; exact .inl rfl
            · cases hu
theorem arF_nx {s : ArS} {r : T8} (h : r ≠ []) : arF 15 s r = (nxG s r).bind (fun p => arF 15 p.1 p.2) := by
  rw [arF_step 15 s r h]
  unfold nxG
  cases ptG r with
  | none => rfl
  | some p =>
    simp only [Option.bind_some]
    cases putG 15 s p.1 p.2.1 <;> rfl

theorem RS.new (W : World) (a : Option Addr) (c n : Nat) (l : T8) (h : Rt W a c l) (hn : l.length = n) : RS W (W.alloc (.cells #[.slice a n c, .bool false, .bool false, .slice none 0 0, .slice none 0 0, .slice none 0 0] 39)) s0 l := by
  subst hn
  exact ⟨⟨a, c, none, 0, .slice none 0 0, .slice none 0 0, heap_alloc_new W _, h, Rd.nothing W, World.ownsRow_nil _ _ _ _, OM.nil _ _⟩, (Below.refl _ _).alloc (Nat.le_refl _) _, by simp⟩

theorem OM.low {w : World} {B B2 : Nat} {v : Value} {l : List Mb} (h : OM w B2 v l) (hB : B ≤ B2) : OM w B v l := by
  obtain ⟨vs, r, hl, hi⟩ := h.ex
  refine ⟨vs, row_low r hB, hl, fun i m hm => ?_⟩
  obtain ⟨u, hu, ho⟩ := hi i m hm
  exact ⟨u, hu, ho.nm, row_low ho.da hB⟩

/-- What is told where it returns. -/
abbrev outW (w wx : World) (x y z : Value) : World := (((wx.setCell ⟨w.heap.size, 0, none⟩ x).setCell ⟨w.heap.size + 1, 0, none⟩ y).setCell ⟨w.heap.size + 1 + 1, 0, none⟩ z).drew
theorem NB.out {w wx : World} (h : NB w wx) (x y z : Value) : (outW w wx x y z).cell? ⟨w.heap.size, 0, none⟩ = some x ∧ (outW w wx x y z).cell? ⟨w.heap.size + 1, 0, none⟩ = some y ∧ (outW w wx x y z).cell? ⟨w.heap.size + 1 + 1, 0, none⟩ = some z ∧ Below w.heap.size w (outW w wx x y z) ∧
    (∀ (B : Nat) (v : Value) (n : Nat) (xs : List Value), wx.ownsRow B 5 1 v n xs → (outW w wx x y z).ownsRow B 5 1 v n xs) ∧ (∀ (B : Nat) (v : Value) (l : List Mb), OM wx B v l → OM (outW w wx x y z) B v l) := by
  have c0 : wx.cell? ⟨w.heap.size, 0, none⟩ = some (.slice none 0 0) := by rw [cell_of_row _ _ 0 _ _ (0, 0) h.b0]; rfl
  have c1 : wx.cell? ⟨w.heap.size + 1, 0, none⟩ = some (.slice none 0 0) := by rw [cell_of_row _ _ 0 _ _ (0, 0) h.b1]; rfl
  have c2 : wx.cell? ⟨w.heap.size + 1 + 1, 0, none⟩ = some (.int .i64 0) := by rw [cell_of_row _ _ 0 _ _ (0, 0) h.b2]; rfl
  have o0 : OthT 23 wx (wx.setCell ⟨w.heap.size, 0, none⟩ x) := OthT.set h.b0 0 x
  have g1 : (wx.setCell ⟨w.heap.size, 0, none⟩ x).heap[w.heap.size + 1]? = some (.cells #[.slice none 0 0] 24 (0, 0)) := o0.kept _ _ _ _ (by decide) h.b1
  have g2 : (wx.setCell ⟨w.heap.size, 0, none⟩ x).heap[w.heap.size + 1 + 1]? = some (.cells #[.int .i64 0] 27 (0, 0)) := o0.kept _ _ _ _ (by decide) h.b2
  have o1 : OthT 24 (wx.setCell ⟨w.heap.size, 0, none⟩ x) ((wx.setCell ⟨w.heap.size, 0, none⟩ x).setCell ⟨w.heap.size + 1, 0, none⟩ y) := OthT.set g1 0 y
  have o2 : OthT 27 ((wx.setCell ⟨w.heap.size, 0, none⟩ x).setCell ⟨w.heap.size + 1, 0, none⟩ y) (((wx.setCell ⟨w.heap.size, 0, none⟩ x).setCell ⟨w.heap.size + 1, 0, none⟩ y).setCell ⟨w.heap.size + 1 + 1, 0, none⟩ z) := OthT.set (o1.kept _ _ _ _ (by decide) g2) 0 z
  have hb : Below w.heap.size w (((wx.setCell ⟨w.heap.size, 0, none⟩ x).setCell ⟨w.heap.size + 1, 0, none⟩ y).setCell ⟨w.heap.size + 1 + 1, 0, none⟩ z) :=
    ((h.bel.setCell (p := ⟨w.heap.size, 0, none⟩) (Nat.le_refl _) _).setCell (p := ⟨w.heap.size + 1, 0, none⟩) (Nat.le_succ _) _).setCell (p := ⟨w.heap.size + 1 + 1, 0, none⟩) (by show w.heap.size ≤ w.heap.size + 1 + 1; omega) _
  refine ⟨by simp [go_sem, c0, c1, c2], by simp [go_sem, c0, c1, c2], by simp [go_sem, c0, c1, c2], hb.drew, fun B v n xs r => ?_, fun B v l r => ?_⟩
  · exact rowKept (B0 := 0) (o2.row (by decide) (o1.row (by decide) (o0.row (by decide) r))) ((Below.refl _ _).drew)
  · exact (((r.oth o0 (by decide) (by decide)).oth o1 (by decide) (by decide)).oth o2 (by decide) (by decide)).below ((Below.refl _ _).drew)

set_option maxHeartbeats 8000000 in
theorem read_any (a : Option Addr) (cap : Nat) (l : T8) (w : World) (r : Rt w a cap l) (L : LaidR w) (hcon : ConAny) :
    Calls Tryd.prog 6 #[.slice a l.length cap] w fun e w' => Below w.heap.size w w' ∧ ArT w w' (arR 15 l) e := by
  have hmf : ∀ (fn : Fn) (first cap : Array Value) (w : World), (Instr.makeFunc fn first cap).run Tryd.prog w = .ok (.func fn first cap) w := fun _ _ _ _ => rfl
  have hle := r.le
  have hmx := r.max
  have HR := hide r
  have HL := hide L
  have HCON := hide hcon
  clear r L hcon
  by_cases hlen : l.length ≤ 1048576
  rotate_left
  · have hd : decide ((l.length : Int) ≤ 1048576) = false := decide_eq_false (by omega)
    have HA : Hid (arR 15 l = none) := by
      show _ = _
      rw [arR_eq, if_neg (fun h => hlen h.1)]
    go_enter_defers Tryd.func6, Tryd.ntmps6
    go_wp2_with (go_at_call 12; refine (need_no _).mono ?_; rintro e w' ⟨rfl, rfl⟩)
    have hNB := NB.new w
    refine leaves_cons (f := 11) (args := #[.pointer (some ⟨w.heap.size, 0, none⟩), .pointer (some ⟨w.heap.size + 1, 0, none⟩), .pointer (some ⟨w.heap.size + 1 + 1, 0, none⟩)]) (by simp) (by simp [go_sem]) ?_
    refine (late_panics w.heap.size (w.heap.size + 1) (w.heap.size + 1 + 1) _ _ _ _ hNB.b0 hNB.b1 hNB.b2 (by omega) (by omega) (by omega)).mono ?_
    rintro e u' w'' ⟨rfl, rfl, rfl⟩
    have hfin := hNB.fin
    obtain ⟨t0, t1, t2⟩ := hNB.told
    unfold endW at hfin t0 t1 t2
    simp only [Leaves, settle, List.dropWhile]
    refine ⟨_, res3 _ _ _ _ _ _ _ _ rfl rfl rfl t0 t1 t2, hfin, ?_⟩
    rw [HA.out]
    exact rfl
  have hd : decide ((l.length : Int) ≤ 1048576) = true := decide_eq_true (by omega)
  have HP := hide (hp_any a (some ⟨w.heap.size + 1 + 1 + 1, 0, none⟩) cap 8 l magc (mgW w) (Rd.below HR.out (((NB.new w).on (mgW_bel w) (Nat.le_refl _)).bel)) (mgW_rt w))
  have hm8 : magc.length = 8 := rfl
  have hkc := mgW_kc w
  unfold mgW nbW mgV at hkc
  rw [hm8] at HP
  by_cases hmg : l.take 8 = magc
  rotate_left
  · have HA : Hid (arR 15 l = none) := by
      show _ = _
      rw [arR_eq, if_neg (fun h => hmg h.2)]
    rw [decide_eq_false hmg] at HP
    go_enter_defers Tryd.func6, Tryd.ntmps6
    go_wp2_with fail
    refine HP.out.mono ?_
    rintro e w' ⟨rfl, rfl⟩
    go_wp2_with (go_at_call 12; refine (need_no _).mono ?_; rintro e w' ⟨rfl, rfl⟩)
    have hNB := (NB.new w).on (mgW_bel w) (Nat.le_refl _)
    refine leaves_cons (f := 11) (args := #[.pointer (some ⟨w.heap.size, 0, none⟩), .pointer (some ⟨w.heap.size + 1, 0, none⟩), .pointer (some ⟨w.heap.size + 1 + 1, 0, none⟩)]) (by simp) (by simp [go_sem]) ?_
    refine (late_panics w.heap.size (w.heap.size + 1) (w.heap.size + 1 + 1) _ _ _ _ hNB.b0 hNB.b1 hNB.b2 (by omega) (by omega) (by omega)).mono ?_
    rintro e u' w'' ⟨rfl, rfl, rfl⟩
    have hfin := hNB.fin
    obtain ⟨t0, t1, t2⟩ := hNB.told
    unfold endW at hfin t0 t1 t2
    simp only [Leaves, settle, List.dropWhile]
    refine ⟨_, res3 _ _ _ _ _ _ _ _ rfl rfl rfl t0 t1 t2, hfin, ?_⟩
    rw [HA.out]
    exact rfl
  rw [decide_eq_true hmg] at HP
  have h8 : 8 ≤ l.length := by have := congrArg List.length hmg; simp [magc] at this; omega
  obtain ⟨xb, xo, rfl, _⟩ := (show Rd w a l.length cap (nI l) from HR.out).addr (by omega)
  have HA : Hid (arR 15 l = arF 15 s0 (l.drop 8)) := by
    show _ = _
    rw [arR_eq, if_pos ⟨hlen, hmg⟩]
  go_enter_defers Tryd.func6, Tryd.ntmps6
  go_wp2_with fail
  refine HP.out.mono ?_
  rintro e w' ⟨rfl, rfl⟩
  go_upto_region 3 with (go_at_call 12; refine (need_yes _).mono ?_; rintro e w' ⟨rfl, hw'⟩; subst hw')
  have HN := hide (RS.new (mgW w))
  have HRW : Hid (Rd (mgW w) (some ⟨xb, xo, none⟩) l.length cap (nI l)) := Rd.below HR.out (((NB.new w).on (mgW_bel w) (Nat.le_refl _)).bel)
  have e8 : (l.drop 8).length = l.length - 8 := by simp
  have hdc : (8 : Int) ≤ (l.length : Int) := by omega
  go_cut [5] from 17 to 19 (fun u wx => u = .pointer (some ⟨w.heap.size + 1 + 1 + 1 + 1, 0, none⟩) ∧ Hid (RS (mgW w) wx s0 (l.drop 8)))
  case first =>
    go_wp2_with fail
    · have hc : cap = 8 := by assumption
      subst hc
      go_meet
      case rel =>
        refine ⟨rfl, HN.out _ _ _ _ ?_ e8⟩
        have := Rd.part_end HRW.out 8 (l.length - 8) (by omega) rfl
        rw [nI_drop, List.take_of_length_le (by rw [nI_len]; simp)] at this
        show Rd _ _ _ _ _
        rw [e8]
        exact this
    · go_meet
      case rel =>
        refine ⟨rfl, HN.out _ _ _ _ ?_ e8⟩
        have := Rd.part HRW.out 8 (l.length - 8) (by omega)
        rw [nI_drop, List.take_of_length_le (by rw [nI_len]; simp), addN] at this
        show Rd _ _ _ _ _
        rw [e8]
        exact this
  case rest =>
    obtain ⟨rfl, HRS⟩ := hcut
    have hsz : (mgW w).heap.size = w.heap.size + 1 + 1 + 1 + 1 := by rw [mgW_size]
    have HLW : Hid (LaidR (mgW w)) := HL.out.then (((NB.new w).on (mgW_bel w) (Nat.le_refl _)).bel)
    have HNB0 := hide ((NB.new w).on (mgW_bel w) (Nat.le_refl _))
    generalize hW : mgW w = W at *
    clear hkc HP HN HRW hW
    go_wp2_with fail
    go_loopg [] (l.length - 8) (fun g wi => ∃ s q, g = q.length ∧ q.length ≤ l.length ∧ Hid (RS W wi s q) ∧ Hid (arF 15 s q = arF 15 s0 (l.drop 8)) ∧ Hid (s.lg.length ≤ l.length))
    case atStart => exact ⟨s0, l.drop 8, by simp, by simp, HRS.out, rfl, Nat.zero_le _⟩
    case round =>
      obtain ⟨s, q, rfl, hql, HS, HINV, HLGb⟩ := hrel
      obtain ⟨ar, cr, al, cl, vi, vm, hB, k1, k2, k3, k4⟩ := HS.out.ex
      have c0 := hB.cell0
      have c4 := hB.cell4
      have c5 := hB.cell5
      rw [hsz] at c0 c4 c5
      have HB := hide hB
      have K3 := hide k3
      have K4 := hide k4
      have hbel := HS.out.bel
      have hNB := HNB0.out.on hbel (by rw [hsz]; omega)
      have HNB := hide hNB
      have p0 : wr.cell? ⟨w.heap.size, 0, none⟩ = some (.slice none 0 0) := by rw [cell_of_row _ _ 0 _ _ (0, 0) hNB.b0]; rfl
      have p1 : wr.cell? ⟨w.heap.size + 1, 0, none⟩ = some (.slice none 0 0) := by rw [cell_of_row _ _ 0 _ _ (0, 0) hNB.b1]; rfl
      have p2 : wr.cell? ⟨w.heap.size + 1 + 1, 0, none⟩ = some (.int .i64 0) := by rw [cell_of_row _ _ 0 _ _ (0, 0) hNB.b2]; rfl
      have f0 : wr.frozen? ⟨w.heap.size, 0, none⟩ = false := frozen_of_row _ _ _ _ _ hNB.b0
      have f1 : wr.frozen? ⟨w.heap.size + 1, 0, none⟩ = false := frozen_of_row _ _ _ _ _ hNB.b1
      have f2 : wr.frozen? ⟨w.heap.size + 1 + 1, 0, none⟩ = false := frozen_of_row _ _ _ _ _ hNB.b2
      clear hB k1 k2 k3 k4 hbel hNB
      by_cases hq0 : q = []
      · have hl0 : q.length = 0 := by rw [hq0]; rfl
        have hd0 : decide ((0 : Int) < (q.length : Int)) = false := decide_eq_false (by omega)
        obtain ⟨am, cm, hvm, _, _⟩ := K4.out.len
        obtain ⟨ai, ci, hvi, _⟩ := Rd.own K3.out (nI_bytes _)
        subst hvm hvi
        go_wp2_with fail
        go_region
        go_wp2_with fail
        refine leaves_cons (f := 11) (args := #[.pointer (some ⟨w.heap.size, 0, none⟩), .pointer (some ⟨w.heap.size + 1, 0, none⟩), .pointer (some ⟨w.heap.size + 1 + 1, 0, none⟩)]) (by simp) (by simp [go_sem]) ?_
        refine (late_idle w.heap.size (w.heap.size + 1) (w.heap.size + 1 + 1) _).mono ?_
        rintro e u' w'' ⟨rfl, rfl, rfl⟩
        obtain ⟨t0, t1, t2, hb, hr1, hr2⟩ := HNB.out.out (.slice am s.ms.length cm) (.slice ai s.ix.length ci) (.int .i64 0)
        unfold outW at t0 t1 t2 hb hr1 hr2
        simp only [Leaves, settle]
        refine ⟨_, res3 _ _ _ _ _ _ _ _ rfl rfl rfl t0 t1 t2, hb, ?_⟩
        have hs : arF 15 s0 (l.drop 8) = some s := by rw [← HINV.out, hq0]; rfl
        rw [HA.out, hs]
        exact ⟨am, cm, ai, ci, rfl, hr2 _ _ _ (K4.out.low (by rw [hsz]; omega)), hr1 _ _ _ _ (row_low K3.out (by rw [hsz]; omega))⟩
      · have hl1 : 0 < q.length := List.length_pos_iff.2 hq0
        have hd1 : decide ((0 : Int) < (q.length : Int)) = true := decide_eq_true (by omega)
        have HM := hide (member_any W wr s q HS.out HLW.out (by omega) (by have := HLGb.out; omega) HCON.out)
        rw [hsz] at HM
        clear p0 p1 p2 f0 f1 f2
        go_wp2_with fail
        refine HM.out.mono ?_
        rintro e w5 hMR
        cases hnx : nxG s q with
        | none =>
          rw [hnx] at hMR
          obtain ⟨rfl, hbX⟩ := hMR
          have HBX := hide hbX
          have HNX := hide hnx
          have hNB := HNB0.out.on HBX.out (by rw [hsz]; omega)
          refine leaves_cons (f := 11) (args := #[.pointer (some ⟨w.heap.size, 0, none⟩), .pointer (some ⟨w.heap.size + 1, 0, none⟩), .pointer (some ⟨w.heap.size + 1 + 1, 0, none⟩)]) (by simp) (by simp [go_sem]) ?_
          refine (late_panics w.heap.size (w.heap.size + 1) (w.heap.size + 1 + 1) _ _ _ _ hNB.b0 hNB.b1 hNB.b2 (by omega) (by omega) (by omega)).mono ?_
          rintro e u' w'' ⟨rfl, rfl, rfl⟩
          have hfin := hNB.fin
          obtain ⟨t0, t1, t2⟩ := hNB.told
          unfold endW at hfin t0 t1 t2
          simp only [Leaves, settle, List.dropWhile]
          refine ⟨_, res3 _ _ _ _ _ _ _ _ rfl rfl rfl t0 t1 t2, hfin, ?_⟩
          rw [HA.out, ← HINV.out, arF_nx hq0, HNX.out]
          exact rfl
        | some tq =>
          obtain ⟨t, q2⟩ := tq
          rw [hnx] at hMR
          obtain ⟨rfl, hS2⟩ := hMR
          have hfit := nx_fit hnx
          have HNX := hide hnx
          have HS2 := hide hS2
          clear hS2 hnx HM c0 c4 c5 HB K3 K4 HNB
          go_wp2_with fail
          go_roundg q2.length
          case measure => exact hfit.1
          case rel =>
            refine ⟨t, q2, rfl, by omega, HS2.out, ?_, ?_⟩
            · show arF 15 t q2 = _
              rw [← HINV.out, arF_nx hq0, HNX.out]
              rfl
            · show t.lg.length ≤ _
              have := HLGb.out
              rcases hfit.2 with h | h
              · rw [h]; exact this
              · omega

end Go.Proofs.YtmmcnkdefpfkiaaDoor
