/- The contract of shdr.Parse: the headers and their names just where the rules hold. -/
import Derived.Test.YtmmbahblnmhhmaaShdrNamesOf
namespace Go.Proofs.Ytmmbahblnmhhmaa
open Go.RowKit
set_option linter.unusedVariables false
set_option linter.unusedSimpArgs false

def hdsL (bs : List Int) (o n : Nat) : List Sh := (List.range n).map (fun i => shAt bs (o + 64 * i))
theorem hdsL_len (bs : List Int) (o n : Nat) : (hdsL bs o n).length = n := by simp [hdsL]
theorem hdsL_at (bs : List Int) (o n i : Nat) (h : i < n) : (hdsL bs o n)[i]? = some (shAt bs (o + 64 * i)) := by simp [hdsL, h]
theorem hdsL_ok {bs : List Int} (hb : Bytes bs) (o n : Nat) : ∀ s ∈ hdsL bs o n, s.Ok := by
  intro s hs
  obtain ⟨i, _, rfl⟩ := List.mem_map.1 hs
  exact shAt_ok hb _

/-- The rules of a file's headers. -/
def prsOk (bs : List Int) (o n x : Int) : Prop := 1 ≤ n ∧ o + 64 * n ≤ (bs.length : Int) ∧ (∀ i, i < n.toNat → rtB (shAt bs (o.toNat + 64 * i)) i bs.length = true) ∧ nmPr bs (hdsL bs o.toNat n.toNat) x
/-- What is told of a file's headers. -/
def PrsR (bs : List Int) (o n x : Int) (e : Ending) (w : World) : Prop :=
  (prsOk bs o n x ∧ ∃ a c a2 c2, e = .returned (.tuple #[.slice a n.toNat c, .slice a2 n.toNat c2, .int .i64 0]) ∧ Rh w a n.toNat c (hdsL bs o.toNat n.toNat) ∧ Rs w a2 n.toNat c2 (nmL bs (hdsL bs o.toNat n.toNat) x)) ∨
  (¬ prsOk bs o n x ∧ e = .returned (.tuple #[.slice none 0 0, .slice none 0 0, .int .i64 31]))

/-- A header stored into a row. -/
def stAt (w : World) (g o : Nat) (t : Sh) : World :=
  ((((((((((w.setCell ⟨g, o, none⟩ (.int .u32 (t.nm : Int))).setCell ⟨g, o + 1, none⟩ (.int .u32 (t.ty : Int))).setCell ⟨g, o + 2, none⟩ (.int .u64 (t.fl : Int))).setCell ⟨g, o + 3, none⟩ (.int .u64 (t.ad : Int))).setCell ⟨g, o + 4, none⟩ (.int .u64 (t.off : Int))).setCell ⟨g, o + 5, none⟩ (.int .u64 (t.sz : Int))).setCell ⟨g, o + 6, none⟩ (.int .u32 (t.lk : Int))).setCell ⟨g, o + 7, none⟩ (.int .u32 (t.nf : Int))).setCell ⟨g, o + 8, none⟩ (.int .u64 (t.al : Int))).setCell ⟨g, o + 9, none⟩ (.int .u64 (t.en : Int)))
theorem stAt_below {B g o : Nat} {w0 w : World} (t : Sh) (h : Below B w0 w) (hb : B ≤ g) : Below B w0 (stAt w g o t) :=
  ((((((((((h.setCell hb _).setCell hb _).setCell hb _).setCell hb _).setCell hb _).setCell hb _).setCell hb _).setCell hb _).setCell hb _).setCell hb _)
theorem set10 (t : Sh) : ∀ (l : List Sh) (k : Nat), k < l.length → (((((((((((shCells l).set (k * 10) (.int .u32 (t.nm : Int))).set (k * 10 + 1) (.int .u32 (t.ty : Int))).set (k * 10 + 2) (.int .u64 (t.fl : Int))).set (k * 10 + 3) (.int .u64 (t.ad : Int))).set (k * 10 + 4) (.int .u64 (t.off : Int))).set (k * 10 + 5) (.int .u64 (t.sz : Int))).set (k * 10 + 6) (.int .u32 (t.lk : Int))).set (k * 10 + 7) (.int .u32 (t.nf : Int))).set (k * 10 + 8) (.int .u64 (t.al : Int))).set (k * 10 + 9) (.int .u64 (t.en : Int))) = shCells (l.set k t)
  | [], k, h => by simp at h
  | s :: l, 0, h => by simp [shCells, Sh.cells]
  | s :: l, k + 1, h => by
    have ih := set10 t l k (by simpa using h)
    have e0 : shCells (s :: l) = s.cells ++ shCells l := by simp [shCells]
    have e1 : shCells ((s :: l).set (k + 1) t) = s.cells ++ shCells (l.set k t) := by simp [shCells]
    have hl : s.cells.length = 10 := rfl
    have st : ∀ (xs : List Value) (m : Nat) (v : Value), (s.cells ++ xs).set ((k + 1) * 10 + m) v = s.cells ++ xs.set (k * 10 + m) v := fun xs m v => by
      rw [List.set_append_right _ _ (by omega), hl]
      congr 2
      omega
    have st0 : ∀ (xs : List Value) (v : Value), (s.cells ++ xs).set ((k + 1) * 10) v = s.cells ++ xs.set (k * 10) v := fun xs v => st xs 0 v
    rw [e0, e1, ← ih]
    simp only [st, st0]
theorem row_stAt {w : World} {B g n cap : Nat} {l : List Sh} (h : w.ownsRow B 47 10 (.slice (some ⟨g, 0, none⟩) n cap) n (shCells l)) (k : Nat) (hk : k < l.length) (t : Sh) :
    (stAt w g (k * 10) t).ownsRow B 47 10 (.slice (some ⟨g, 0, none⟩) n cap) n (shCells (l.set k t)) := by
  rw [← set10 t l k hk]
  obtain ⟨o, ho⟩ : ∃ o, k * 10 = o := ⟨_, rfl⟩
  rw [ho]
  exact ((((((((((h.stored (o) (.int .u32 (t.nm : Int))).1.stored (o + 1) (.int .u32 (t.ty : Int))).1.stored (o + 2) (.int .u64 (t.fl : Int))).1.stored (o + 3) (.int .u64 (t.ad : Int))).1.stored (o + 4) (.int .u64 (t.off : Int))).1.stored (o + 5) (.int .u64 (t.sz : Int))).1.stored (o + 6) (.int .u32 (t.lk : Int))).1.stored (o + 7) (.int .u32 (t.nf : Int))).1.stored (o + 8) (.int .u64 (t.al : Int))).1.stored (o + 9) (.int .u64 (t.en : Int))).1

/-- Headers so far, and noughts behind them. -/
def hdK (L : List Sh) (k : Nat) : List Sh := L.take k ++ List.replicate (L.length - k) sh0
theorem hdK_len (L : List Sh) (k : Nat) (hk : k ≤ L.length) : (hdK L k).length = L.length := by simp [hdK]; omega
theorem hdK_zero (L : List Sh) : hdK L 0 = List.replicate L.length sh0 := by simp [hdK]
theorem hdK_all (L : List Sh) : hdK L L.length = L := by simp [hdK]
theorem hdK_set (L : List Sh) (k : Nat) (hk : k < L.length) (x : Sh) (hx : L[k]? = some x) : (hdK L k).set k x = hdK L (k + 1) := by
  have h1 : (L.take k).length = k := by simp; omega
  have hx' : L[k] = x := (List.getElem?_eq_some_iff.1 hx).2
  have e3 : L.length - k = (L.length - (k + 1)) + 1 := by omega
  unfold hdK
  rw [List.set_append_right _ _ (by omega), h1, Nat.sub_self, e3, List.replicate_succ, List.take_succ_eq_append_getElem hk, hx']
  simp
theorem hdK_at (L : List Sh) (k : Nat) (hk : k < L.length) (x : Sh) (hx : L[k]? = some x) : (hdK L (k + 1))[k]? = some x := by
  rw [← hdK_set L k hk x hx, List.getElem?_set_self (by rw [hdK_len _ _ (by omega)]; omega)]
theorem made_hd (n : Nat) : (madeCells sh0.cells.toArray (n * 10)).toList = shCells (List.replicate n sh0) := by
  apply List.ext_getElem?
  intro j
  by_cases hj : j < n * 10
  · have h1 : (shCells (List.replicate n sh0))[j / 10 * 10 + j % 10]? = sh0.cells[j % 10]? := shCells_at (List.replicate n sh0) (j / 10) (j % 10) sh0 (by rw [List.getElem?_replicate, if_pos (by omega)]) (by omega)
    rw [show j / 10 * 10 + j % 10 = j by omega] at h1
    rw [h1]
    have h2 : sh0.cells.length = 10 := rfl
    have h3 : j % 10 < sh0.cells.length := by omega
    simp [madeCells, hj, h2]
    rw [List.getElem?_eq_getElem h3]
    simp [h3]
  · have h1 : (shCells (List.replicate n sh0)).length = n * 10 := by rw [shCells_length]; simp
    have h2 : (shCells (List.replicate n sh0))[j]? = none := List.getElem?_eq_none (by omega)
    rw [h2]
    simp [madeCells, hj]

theorem Try.infoSh : (Try.prog.info? 47).map (fun i => (i.zero, i.size, i.bytes)) = some (some (.agg #[.int .u32 0, .int .u32 0, .int .u64 0, .int .u64 0, .int .u64 0, .int .u64 0, .int .u32 0, .int .u32 0, .int .u64 0, .int .u64 0]), 10, 64) := by kernel_rfl

structure PaS (w wr : World) (B g n hb : Nat) (o n' x : Int) (L : List Sh) (k : Nat) : Prop where
  row : wr.ownsRow B 47 10 (.slice (some ⟨g, 0, none⟩) n n) n (shCells (hdK L k))
  bel : Below B w wr
  gB : B ≤ g
  box : w.heap[hb]? = some (.cells #[.int .u64 o, .int .i64 n', .int .i64 x] 27 (0, 0))
  hB : hb < B
theorem PaS.below {w wr W : World} {B g n hb : Nat} {o n' x : Int} {L : List Sh} {k : Nat} (h : PaS w wr B g n hb o n' x L k) (hB : B ≤ w.heap.size) (hw : Below wr.heap.size wr W) : PaS w W B g n hb o n' x L k := by
  have gg : wr.grownBy W none := ⟨hw.os, hw.tape, hw.output, hw.size, fun i hi _ => hw.block i hi⟩
  exact ⟨h.row.kept gg (.inr (by simp [Value.ownBlock])), h.bel.trans (hw.mono (Nat.le_trans hB h.bel.size)), h.gB, h.box, h.hB⟩
theorem PaS.set {w wr : World} {B g n hb : Nat} {o n' x : Int} {L : List Sh} {k : Nat} (h : PaS w wr B g n hb o n' x L k) (hk : k < L.length) (t : Sh) (ht : L[k]? = some t) : PaS w (stAt wr g (k * 10) t) B g n hb o n' x L (k + 1) := by
  refine ⟨?_, stAt_below t h.bel h.gB, h.gB, h.box, h.hB⟩
  rw [← hdK_set L k hk t ht]
  exact row_stAt h.row k (by rw [hdK_len _ _ (by omega)]; exact hk) t
theorem PaS.head {w wr : World} {B g n hb : Nat} {o n' x : Int} {L : List Sh} {k : Nat} (h : PaS w wr B g n hb o n' x L k) : wr.cell? ⟨hb, 0, none⟩ = some (.int .u64 o) ∧ wr.cell? ⟨hb, 1, none⟩ = some (.int .i64 n') ∧ wr.cell? ⟨hb, 2, none⟩ = some (.int .i64 x) := by
  have hx : wr.heap[hb]? = some (.cells #[.int .u64 o, .int .i64 n', .int .i64 x] 27 (0, 0)) := (h.bel.block hb h.hB).trans h.box
  exact ⟨by rw [cell_of_row _ _ 0 _ _ (0, 0) hx]; rfl, by rw [cell_of_row _ _ 1 _ _ (0, 0) hx]; rfl, by rw [cell_of_row _ _ 2 _ _ (0, 0) hx]; rfl⟩
theorem PaS.at {w wr : World} {B g n hb : Nat} {o n' x : Int} {L : List Sh} {k j : Nat} (h : PaS w wr B g n hb o n' x L k) (s : Sh) (hs : (hdK L k)[j]? = some s) (hj : j < n) : ShC wr g (j * 10) s :=
  ShC.of (fun i hi => (h.row.cellAt (j * 10 + i) (by omega)).trans (shCells_at _ _ _ _ hs hi))

set_option maxHeartbeats 3200000 in
set_option maxRecDepth 20000 in
theorem parse11_any (a : Option Addr) (len cap : Nat) (bs : List Int) (o n x : Int) (w : World) (r : Rd w a len cap bs) (hb : len ≤ 140737488355328)
    (ho : 0 ≤ o) (ho' : o ≤ 18446744073709551615) (hn : -9223372036854775808 ≤ n) (hn' : n ≤ 9223372036854775807) (hx : -9223372036854775808 ≤ x) (hx' : x ≤ 9223372036854775807) :
    Calls Try.prog 10 #[.slice a len cap, hdV o n x] w fun e w' => PrsR bs o n x e w' ∧ Below w.heap.size w w' := by
  have hl := r.length
  have hle := r.le
  have hmx := r.max
  obtain ⟨iS, hiS, hzS0, hzS1, hzS2⟩ := info_parts Try.infoSh
  have b0 := (Below.refl w.heap.size w).alloc (Nat.le_refl _) (.cells #[.int .u64 o, .int .i64 n, .int .i64 x] 27)
  have z0 : (w.alloc (.cells #[.int .u64 o, .int .i64 n, .int .i64 x] 27)).heap.size = w.heap.size + 1 := by simp
  have H0 := hide (HdAt.new w 27 o n x)
  have X0 := hide (heap_alloc_new w (.cells #[.int .u64 o, .int .i64 n, .int .i64 x] 27))
  have R0 := hide (r.below b0)
  have HBY := hide r.bytes
  have B0 := hide b0
  clear b0 r
  have q0 := H0.out.o
  have q1 := H0.out.n
  have q2 := H0.out.x
  by_cases hw : 1 ≤ n ∧ o + 64 * n ≤ (len : Int)
  · have WI := hide (swithin_any a len cap o n x (w.alloc (.cells #[.int .u64 o, .int .i64 n, .int .i64 x] 27)) hb ho ho' hn hn')
    rw [decide_eq_true hw] at WI
    obtain ⟨N, hN⟩ := Int.eq_ofNat_of_zero_le (show 0 ≤ n by omega)
    obtain ⟨O, hO⟩ := Int.eq_ofNat_of_zero_le ho
    subst hN hO
    have hw1 : 1 ≤ N := by omega
    have hw2 : O + 64 * N ≤ len := by omega
    obtain ⟨L, hL⟩ : ∃ L, hdsL bs O N = L := ⟨_, rfl⟩
    have hLl : L.length = N := by rw [← hL]; exact hdsL_len _ _ _
    have hLa : ∀ i, i < N → L[i]? = some (shAt bs (O + 64 * i)) := fun i hi => by rw [← hL]; exact hdsL_at _ _ _ _ hi
    have hLok : ∀ s ∈ L, s.Ok := by rw [← hL]; exact hdsL_ok HBY.out _ _
    have PR : Hid (prsOk bs (O : Int) (N : Int) x ↔ ((∀ i, i < N → rtB (shAt bs (O + 64 * i)) i len = true) ∧ nmPr bs L x)) := by
      show prsOk bs (O : Int) (N : Int) x ↔ _
      unfold prsOk
      simp only [Int.toNat_natCast]
      rw [hL, hl]
      constructor
      · intro h; exact ⟨h.2.2.1, h.2.2.2⟩
      · intro h; exact ⟨by omega, by omega, h.1, h.2⟩
    have HL := hide hL
    have HLa := hide hLa
    have HLok := hide hLok
    clear hL hLa hLok hw H0
    unfold hdV at WI ⊢
    go_enter Try.func10, Try.ntmps10
    go_upto_region 1 with fail
    generalize w.alloc (.cells #[.int .u64 (O : Int), .int .i64 (N : Int), .int .i64 x] 27) = W0 at *
    go_upto_region 3 with (go_at_call 19; refine WI.out.mono ?_; rintro e W1 ⟨rfl, b1⟩)
    have z1 := b1.size
    have X1 : Hid (W1.heap[w.heap.size]? = some (.cells #[.int .u64 (O : Int), .int .i64 (N : Int), .int .i64 x] 27 (0, 0))) := hide ((b1.block _ (by omega)).trans X0.out)
    have B1 := hide (B0.out.trans (b1.mono (by omega)))
    have R1 := hide (R0.out.below b1)
    have q1' : W1.cell? ⟨w.heap.size, 1, none⟩ = some (.int .i64 (N : Int)) := by rw [cell_of_row _ _ 1 _ _ (0, 0) X1.out]; rfl
    clear b1 q0 q1 q2 X0 B0 R0 WI
    go_upto_region 4 with (at_make; refine wpList_make_full _ rfl _ _ 22 rfl W1.heap.size 47 iS (.agg #[.int .u32 0, .int .u32 0, .int .u64 0, .int .u64 0, .int .u64 0, .int .u64 0, .int .u32 0, .int .u32 0, .int .u64 0, .int .u64 0]) 10 Try.underlying22 hiS hzS0 hzS1 .i64 .i64 (N : Int) (N : Int) N rfl rfl rfl rfl (by rw [hzS2]; omega) (by unfold maxLen; omega) (Nat.le_refl _) ?_)
    intro W2 hown hgrow
    have S0 : Hid (PaS W1 W2 W1.heap.size W1.heap.size N w.heap.size (O : Int) (N : Int) x L 0) := by
      refine ⟨?_, (Below.refl _ _).grown hgrow (Nat.le_refl _) (fun k hk => by cases hk), Nat.le_refl _, X1.out, by omega⟩
      rw [hdK_zero, hLl, ← made_hd]
      exact hown
    clear hown hgrow q1'
    go_wp2
    go_loopg [20] N (fun gg i wr => ∃ k : Nat, k ≤ N ∧ gg = N - k ∧ i = .int .i64 (k : Int) ∧ Hid (PaS W1 wr W1.heap.size W1.heap.size N w.heap.size (O : Int) (N : Int) x L k) ∧ Hid (∀ i, i < k → rtB (shAt bs (O + 64 * i)) i len = true))
    case atStart => exact ⟨0, by omega, rfl, rfl, S0, fun i hi => by omega⟩
    case round =>
      obtain ⟨k, hk, rfl, rfl, S, HP⟩ := hrel
      clear S0
      have hbW := S.out.bel
      have zr := hbW.size
      by_cases hlt : k < N
      · have hlt' : (k : Int) < (N : Int) := by omega
        obtain ⟨t, ht⟩ : ∃ t, shAt bs (O + 64 * k) = t := ⟨_, rfl⟩
        have htk : L[k]? = some t := by rw [← ht]; exact HLa.out k hlt
        have htok := HLok.out t (List.mem_of_getElem? htk)
        obtain ⟨p, hp⟩ : ∃ p, O + 64 * k = p := ⟨_, rfl⟩
        have hk2 : IntKind.u64.wrap ((k : Int) * 64) = (k : Int) * 64 := u64_wrap_id _ (by omega) (by omega)
        have e1 : (O : Int) + (k : Int) * 64 = (p : Int) := by omega
        have hp1 : p + 64 ≤ len := by omega
        have SR := hide (sread_any a len cap bs p wr (R1.out.below hbW) hp1)
        rw [hp] at ht
        rw [ht] at SR
        unfold shV at SR
        have HTK := hide htk
        have RI := hide (fun W => right_any t k len W htok (by omega) (by omega))
        unfold shV at RI
        have q0 := S.out.head.1
        have HRT : Hid (rtB (shAt bs (O + 64 * k)) k len = rtB t k len) := by rw [hp, ht]; exact rfl
        have HBW := hide hbW
        clear ht htk htok hp hbW
        go_upto_region 8 with (go_at_call 20; refine SR.out.mono ?_; rintro e W3 ⟨rfl, b3⟩; have S3 := hide (S.out.below (Nat.le_refl _) b3); obtain ⟨s', hs'⟩ : ∃ s', (hdK L k)[k]? = some s' := ⟨_, List.getElem?_eq_getElem (by rw [hdK_len _ _ (by omega)]; omega)⟩; obtain ⟨d0, d1, d2, d3, d4, d5, d6, d7, d8, d9⟩ := S3.out.at s' hs' hlt; have f := S3.out.row.frozenAt; have f0 := f (k * 10); have f1 := f (k * 10 + 1); have f2 := f (k * 10 + 2); have f3 := f (k * 10 + 3); have f4 := f (k * 10 + 4); have f5 := f (k * 10 + 5); have f6 := f (k * 10 + 6); have f7 := f (k * 10 + 7); have f8 := f (k * 10 + 8); have f9 := f (k * 10 + 9); clear f b3 hs' S SR)
        have S4 := hide (S3.out.set (by omega) t HTK.out)
        show Code.wp _ _ _ _ (stAt W3 W1.heap.size (k * 10) t)
        generalize stAt W3 W1.heap.size (k * 10) t = V at *
        clear d0 d1 d2 d3 d4 d5 d6 d7 d8 d9 f0 f1 f2 f3 f4 f5 f6 f7 f8 f9 S3 q0
        obtain ⟨d0, d1, d2, d3, d4, d5, d6, d7, d8, d9⟩ := S4.out.at t (hdK_at L k (by omega) t HTK.out) hlt
        have z4 := S4.out.bel.size
        have hlen : (len : Int) ≤ 140737488355328 := by omega
        rcases hr : rtB t k len with _ | _
        · have hno : ¬ prsOk bs (O : Int) (N : Int) x := fun h => by
            have h1 := (PR.out.1 h).1 k hlt
            rw [HRT.out, hr] at h1
            cases h1
          have HNO := hide hno
          have G := hide (RI.out V)
          rw [hr] at G
          have BF := hide (B1.out.trans (S4.out.bel.mono (by omega)))
          clear hno hr HP S4 RI HRT HTK
          go_wp2_with (go_at_call 21; refine G.out.mono ?_; rintro e W5 ⟨rfl, b5⟩; have B5 := hide (BF.out.trans (b5.mono (by omega))); clear b5)
          go_ret3
          exact ⟨.inr ⟨HNO.out, rfl⟩, B5.out⟩
        · have HP2 : Hid (∀ i, i < k + 1 → rtB (shAt bs (O + 64 * i)) i len = true) := fun i hi => by
            rcases (show i < k ∨ i = k by omega) with h5 | h5
            · exact HP.out i h5
            · subst h5
              rw [HRT.out, hr]
          have G := hide (RI.out V)
          rw [hr] at G
          clear hr HP RI HRT HTK
          go_wp2_with (go_at_call 21; refine G.out.mono ?_; rintro e W5 ⟨rfl, b5⟩; have S5 := hide (S4.out.below (Nat.le_refl _) b5); clear b5)
          go_roundg (N - (k + 1))
          case measure => omega
          case rel => exact ⟨k + 1, by omega, rfl, by go_num, S5, HP2⟩
      · obtain rfl : k = N := by omega
        have hrow := S.out.row
        rw [← hLl, hdK_all, hLl] at hrow
        obtain ⟨a9, c9, h9, r9⟩ := Rh.own hrow HLok.out
        cases h9
        have R9 := hide r9
        have q2 := S.out.head.2.2
        have NO := hide (namesOf_any a len cap bs _ k k L x wr (R1.out.below hbW) r9 hb (by omega) hx hx')
        have BF := hide (B1.out.trans (hbW.mono (by omega)))
        have zw := BF.out.size
        clear hrow r9 S hbW
        by_cases hnm : nmPr bs L x
        · have hyes : prsOk bs (O : Int) (k : Int) x := PR.out.2 ⟨HP.out, hnm⟩
          have HY := hide hyes
          have NO2 : Hid (Calls Try.prog 22 #[.slice a len cap, .slice (some ⟨W1.heap.size, 0, none⟩) k k, .int .i64 x] wr fun e w' => ∃ a c, e = .returned (.tuple #[.slice a k c, .bool true]) ∧ Rs w' a k c (nmL bs L x) ∧ Below wr.heap.size wr w') := hide (NO.out.mono (fun e w' h => by
            rcases h with ⟨⟨_, a', c', he, hr⟩ | ⟨h1, _⟩, hb'⟩
            · rw [hLl] at he hr; exact ⟨a', c', he, hr, hb'⟩
            · exact absurd hnm h1))
          clear hyes hnm HP NO
          go_wp2_with (go_at_call 22; refine NO2.out.mono ?_; rintro e W6 ⟨a6, c6, rfl, r6, b6⟩; have R6 := hide r6; have B6 := hide (BF.out.trans (b6.mono zw)); have R8 := hide (R9.out.below b6); clear b6 r6)
          go_ret3
          refine ⟨.inl ⟨HY.out, _, _, _, _, rfl, ?_, ?_⟩, B6.out⟩
          · rw [Int.toNat_natCast, Int.toNat_natCast, HL.out]; exact R8.out
          · rw [Int.toNat_natCast, Int.toNat_natCast, HL.out]; exact R6.out
        · have hno : ¬ prsOk bs (O : Int) (k : Int) x := fun h => hnm (PR.out.1 h).2
          have HNO := hide hno
          have NO2 : Hid (Calls Try.prog 22 #[.slice a len cap, .slice (some ⟨W1.heap.size, 0, none⟩) k k, .int .i64 x] wr fun e w' => e = .returned (.tuple #[.slice none 0 0, .bool false]) ∧ Below wr.heap.size wr w') := hide (NO.out.mono (fun e w' h => by
            rcases h with ⟨⟨h1, _⟩ | ⟨_, he⟩, hb'⟩
            · exact absurd h1 hnm
            · exact ⟨he, hb'⟩))
          clear hno hnm HP NO
          go_wp2_with (go_at_call 22; refine NO2.out.mono ?_; rintro e W6 ⟨rfl, b6⟩; have B6 := hide (BF.out.trans (b6.mono zw)); clear b6)
          go_ret3
          exact ⟨.inr ⟨HNO.out, rfl⟩, B6.out⟩
  · have WI := hide (swithin_any a len cap o n x (w.alloc (.cells #[.int .u64 o, .int .i64 n, .int .i64 x] 27)) hb ho ho' hn hn')
    rw [decide_eq_false hw] at WI
    have hno : ¬ prsOk bs o n x := fun h => hw ⟨h.1, by have := h.2.1; omega⟩
    have HNO := hide hno
    clear hno hw H0
    unfold hdV at WI ⊢
    go_enter Try.func10, Try.ntmps10
    go_wp2_with (go_at_call 19; refine WI.out.mono ?_; rintro e W1 ⟨rfl, b1⟩; have B1 := hide (B0.out.trans (b1.mono (by omega))); clear b1)
    go_ret3
    exact ⟨.inr ⟨HNO.out, rfl⟩, B1.out⟩

end Go.Proofs.Ytmmbahblnmhhmaa
