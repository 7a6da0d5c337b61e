/- The contract of the document's ShdrBytes: a row of the call's own that holds the headers' bytes. -/
import Derived.Test.YtmmbahblnmhhmaaShdrBytes
namespace Go.Proofs.Ytmmbahblnmhhmaa
open Go.RowKit
set_option linter.unusedVariables false
set_option linter.unusedSimpArgs false

/-- Blocks of another kind than bytes stay. -/
def Oth (w w' : World) : Prop := ∀ (X : Nat) (cs : Array Value) (t : TypeId) (fr : Nat × Nat), t ≠ 5 → w.heap[X]? = some (.cells cs t fr) → w'.heap[X]? = some (.cells cs t fr)
theorem Oth.refl (w : World) : Oth w w := fun _ _ _ _ _ h => h
theorem Oth.trans {a b c : World} (h : Oth a b) (k : Oth b c) : Oth a c := fun X cs t fr ht hx => k X cs t fr ht (h X cs t fr ht hx)
theorem Oth.below {w w' : World} (h : Below w.heap.size w w') : Oth w w' := fun X cs t fr ht hx => (h.block X (Array.getElem?_eq_some_iff.1 hx).1).trans hx
theorem Oth.grown {w w' : World} {B : Nat} {v : Value} {n : Nat} {xs : List Value} (h : w.ownsRow B 5 1 v n xs) (g : w.grownBy w' v.ownBlock) : Oth w w' := fun X cs t fr ht hx => by
  refine (g.block X (Array.getElem?_eq_some_iff.1 hx).1 (fun e => ?_)).trans hx
  obtain ⟨c1, f1, q1⟩ := Lib.ownsRow_kind h X e.symm
  rw [hx] at q1
  simp at q1
  exact ht q1.2.1

/-- The document's Put behind a row made since B, or behind none; blocks of another kind stay. -/
theorem rput_keep (B : Nat) (v : Value) (len : Nat) (bs : List Int) (x n : Int) (w : World) (hO : w.ownsRow B 5 1 v len (bs.map (Value.int .u8))) (hB : B ≤ w.heap.size)
    (hx : 0 ≤ x) (hx' : x ≤ 18446744073709551615) (hn : 0 ≤ n) (h8 : n ≤ 8) (hb : len + n ≤ 140737488355328) :
    Calls Try.prog 30 #[v, .int .u64 x, .int .i64 n] w fun e w' =>
      ∃ v', e = .returned v' ∧ w'.ownsRow B 5 1 v' (len + n.toNat) ((bs ++ bytesOf x n.toNat).map (Value.int .u8)) ∧ Below B w w' ∧ Oth w w' := by
  obtain ⟨m, rfl⟩ := Int.eq_ofNat_of_zero_le hn
  rw [Int.toNat_natCast]
  obtain ⟨i0, hi, hz0, hz1, hz2⟩ := info_parts Try.info8
  have HO := hide hO
  clear hO
  go_enter Try.func30, Try.ntmps30
  go_wp2
  go_loopg [0, 7] m (fun g u i wr => ∃ k : Nat, k ≤ m ∧ g = m - k ∧ i = .int .i64 k ∧ wr.ownsRow B 5 1 u (len + k) ((bs ++ bytesOf x k).map (Value.int .u8)) ∧ Below B w wr ∧ Hid (Oth w wr))
  case atStart => exact ⟨0, by omega, rfl, rfl, by simpa [bytesOf] using HO.out, Below.refl _ _, Oth.refl _⟩
  case round =>
    obtain ⟨k, hk, rfl, rfl, hown, hbel, HT⟩ := hrel
    clear HO
    by_cases hlt : k < m
    · have hsz : B ≤ wr.heap.size := Nat.le_trans hB hbel.size
      have HB := hide hbel
      have HO2 := hide hown
      have HLT := hide hown.lt
      clear hbel hown
      go_wp2_with (at_builtin; refine wpList_append_own _ rfl _ _ 25 rfl B 5 i0 (.int .u8 0) 1 1 Try.underlying25 hi hz0 hz1 hz2 rfl (by decide) _ _ _ rfl (HO2.out.alloc _) ⟨wr.heap.size, 0, none⟩ 1 1 [.int .u8 (byteOf x k)] rfl rfl ?d1 ?d2 ?d3 ?d4 ?d5 ?_)
      case d1 =>
        intro j u hj
        match j, hj with
        | 0, hj => simp at hj; subst hj; simp [Addr.add, byteOf]
      case d2 => intro u hu; simp at hu; subst hu; rfl
      case d3 => unfold maxLen; omega
      case d4 => omega
      case d5 => simp; omega
      · intro v' w1 hown' hgrow _
        have R : Hid (w1.ownsRow B 5 1 v' (len + (k + 1)) ((bs ++ bytesOf x (k + 1)).map (Value.int .u8))) := by
          rw [bytesOf_succ]; simpa [Nat.add_assoc] using hide hown'
        have E : Hid (Below B w w1) := (HB.out.alloc hsz _).grown hgrow (by simp; omega) (fun j hj => (HLT.out j hj).1)
        have T : Hid (Oth w w1) := (HT.out.trans (Oth.below ((Below.refl _ _).alloc (Nat.le_refl _) _))).trans (Oth.grown (HO2.out.alloc _) hgrow)
        clear hown' hgrow HO2 HB HLT HT
        go_wp2
        go_roundg (m - (k + 1))
        case measure => omega
        case rel => exact ⟨k + 1, by omega, rfl, by go_num, R.out, E.out, T⟩
    · obtain rfl : k = m := by omega
      have HE := hide hown
      have HB := hide hbel
      clear hbel hown
      go_wp2
      go_ret
      exact ⟨_, rfl, HE.out, HB.out, HT.out⟩

/-- The bytes so far, and the variable that holds a header. -/
structure PB (w W : World) (X : Nat) (t : Sh) (v : Value) (len : Nat) (bs : List Int) : Prop where
  bel : Below w.heap.size w W
  own : W.ownsRow w.heap.size 5 1 v len (bs.map (Value.int .u8))
  var : ShB W X t
theorem PB.drew {w W : World} {X : Nat} {t : Sh} {v : Value} {len : Nat} {bs : List Int} (h : PB w W X t v len bs) : PB w W.drew X t v len bs := ⟨h.bel.drew, h.own.drew, h.var.drew⟩
theorem pb_put {w W : World} {X : Nat} {t : Sh} {v : Value} {len : Nat} {bs : List Int} (h : PB w W X t v len bs) (y : Int) (k : Nat) (hy : 0 ≤ y) (hy' : y ≤ 18446744073709551615) (hk : k ≤ 8) (hl : len ≤ 100000000) :
    Calls Try.prog 30 #[v, .int .u64 y, .int .i64 k] W fun e w' => ∃ v', e = .returned v' ∧ PB w w' X t v' (len + k) (bs ++ bytesOf y k) := by
  refine (rput_keep w.heap.size v len bs y k W h.own h.bel.size hy hy' (by omega) (by omega) (by omega)).mono ?_
  rintro e w' ⟨v', rfl, ho, hb, ht⟩
  rw [Int.toNat_natCast] at ho
  exact ⟨v', rfl, h.bel.trans hb, ho, ht _ _ _ _ (by decide) h.var⟩

theorem shL_cat (s : Sh) (bs : List Int) : bs ++ bytesOf s.nm 4 ++ bytesOf s.ty 4 ++ bytesOf s.fl 8 ++ bytesOf s.ad 8 ++ bytesOf s.off 8 ++ bytesOf s.sz 8 ++ bytesOf s.lk 4 ++ bytesOf s.nf 4 ++ bytesOf s.al 8 ++ bytesOf s.en 8 = bs ++ shL s := by
  simp only [shL, List.append_assoc]

set_option maxHeartbeats 6400000 in
set_option maxRecDepth 20000 in
theorem rsb_any (a : Option Addr) (n cap : Nat) (l : List Sh) (w : World) (r : Rh w a n cap l) (hn : n ≤ 1000000) :
    Calls Try.prog 15 #[.slice a n cap] w fun e w' => ∃ v', e = .returned v' ∧ w'.ownsRow w.heap.size 5 1 v' (64 * n) ((shsL l).map (Value.int .u8)) ∧ Below w.heap.size w w' := by
  have hl := r.length
  have hle := r.le
  have hmx := r.max
  have HOK := hide r.ok
  have HR := hide r
  clear r
  go_enter Try.func15, Try.ntmps15
  go_wp2
  go_loopg [3, 4] n (fun gg v i wr => ∃ k : Nat, k ≤ n ∧ gg = n - k ∧ i = .int .i64 (k : Int) ∧ Hid (wr.ownsRow w.heap.size 5 1 v (64 * k) ((shsL (l.take k)).map (Value.int .u8))) ∧ Hid (Below w.heap.size w wr))
  case atStart => exact ⟨0, by omega, rfl, rfl, World.ownsRow_nil _ _ _ _, Below.refl _ _⟩
  case round =>
    obtain ⟨k, hk, rfl, rfl, O, B⟩ := hrel
    by_cases hlt : k < n
    · have hlt' : (k : Int) < (n : Int) := by omega
      obtain ⟨t, ht⟩ : ∃ t, l[k]? = some t := ⟨_, List.getElem?_eq_getElem (by omega)⟩
      have htok := HOK.out t (List.mem_of_getElem? ht)
      obtain ⟨b2, o2, rfl, hc⟩ := (HR.out.below B.out).addr (by omega)
      obtain ⟨c0, c1, c2, c3, c4, c5, c6, c7, c8, c9⟩ := hc k t ht
      have m0 := htok.nm
      have m1 := htok.ty
      have m2 := htok.fl
      have m3 := htok.ad
      have m4 := htok.off
      have m5 := htok.sz
      have m6 := htok.lk
      have m7 := htok.nf
      have m8 := htok.al
      have m9 := htok.en
      have HT := hide ht
      clear hc ht htok
      go_upto_region 6 with fail
      obtain ⟨q, hq⟩ : ∃ q, 64 * k = q := ⟨_, rfl⟩
      have hq1 : q + 64 ≤ 64000000 := by omega
      obtain ⟨bs, hbs⟩ : ∃ bs, shsL (l.take k) = bs := ⟨_, rfl⟩
      rw [hq, hbs] at O
      have h00 : PB w (wr.alloc (.cells t.cells.toArray 47)) wr.heap.size t u3 q bs := ⟨B.out.alloc B.out.size _, O.out.alloc _, ShB.new wr t⟩
      have HQ := hide hq
      have HBS := hide hbs
      obtain ⟨V, hV⟩ : ∃ V, wr.alloc (.cells #[.int .u32 (t.nm : Int), .int .u32 (t.ty : Int), .int .u64 (t.fl : Int), .int .u64 (t.ad : Int), .int .u64 (t.off : Int), .int .u64 (t.sz : Int), .int .u32 (t.lk : Int), .int .u32 (t.nf : Int), .int .u64 (t.al : Int), .int .u64 (t.en : Int)] 47) = V := ⟨_, rfl⟩
      change PB w (wr.alloc (.cells #[.int .u32 (t.nm : Int), .int .u32 (t.ty : Int), .int .u64 (t.fl : Int), .int .u64 (t.ad : Int), .int .u64 (t.off : Int), .int .u64 (t.sz : Int), .int .u32 (t.lk : Int), .int .u32 (t.nf : Int), .int .u64 (t.al : Int), .int .u64 (t.en : Int)] 47)) _ _ _ _ _ at h00
      rw [hV] at h00 ⊢
      obtain ⟨X, hX⟩ : ∃ X, wr.heap.size = X := ⟨_, rfl⟩
      rw [hX] at h00 ⊢
      have H0 := hide h00.drew
      obtain ⟨d0, d1, d2, d3, d4, d5, d6, d7, d8, d9⟩ := h00.var.at
      simp only [Nat.zero_add] at d0 d1 d2 d3 d4 d5 d6 d7 d8 d9
      clear hV hX hq hbs h00 O B c0 c1 c2 c3 c4 c5 c6 c7 c8 c9
      have x0 : IntKind.u64.wrap (t.nm : Int) = (t.nm : Int) := u64_wrap_id _ (by omega) (by omega)
      have x1 : IntKind.u64.wrap (t.ty : Int) = (t.ty : Int) := u64_wrap_id _ (by omega) (by omega)
      have x6 : IntKind.u64.wrap (t.lk : Int) = (t.lk : Int) := u64_wrap_id _ (by omega) (by omega)
      have x7 : IntKind.u64.wrap (t.nf : Int) = (t.nf : Int) := u64_wrap_id _ (by omega) (by omega)
      go_region_held3 (fun w' => w'.cell? ⟨X, 0, none⟩ = some (.int .u32 (t.nm : Int)) ∧ w'.cell? ⟨X, 1, none⟩ = some (.int .u32 (t.ty : Int)) ∧ w'.cell? ⟨X, 2, none⟩ = some (.int .u64 (t.fl : Int)) ∧ w'.cell? ⟨X, 3, none⟩ = some (.int .u64 (t.ad : Int)) ∧ w'.cell? ⟨X, 4, none⟩ = some (.int .u64 (t.off : Int)) ∧ w'.cell? ⟨X, 5, none⟩ = some (.int .u64 (t.sz : Int)) ∧ w'.cell? ⟨X, 6, none⟩ = some (.int .u32 (t.lk : Int)) ∧ w'.cell? ⟨X, 7, none⟩ = some (.int .u32 (t.nf : Int)) ∧ w'.cell? ⟨X, 8, none⟩ = some (.int .u64 (t.al : Int)) ∧ w'.cell? ⟨X, 9, none⟩ = some (.int .u64 (t.en : Int)))
        (go_keep)
        ((first
          | (go_at_call 30; first
            | (refine (pb_put H1.out (t.ty : Int) 4 (by omega) (by omega) (by decide) (by omega)).mono ?_; rintro e W2 ⟨v2, rfl, h2⟩; have H2 := hide h2; obtain ⟨d0, d1, d2, d3, d4, d5, d6, d7, d8, d9⟩ := h2.var.at; simp only [Nat.zero_add] at d0 d1 d2 d3 d4 d5 d6 d7 d8 d9; clear h2 H1)
            | (refine (pb_put H0.out (t.nm : Int) 4 (by omega) (by omega) (by decide) (by omega)).mono ?_; rintro e W1 ⟨v1, rfl, h1⟩; have H1 := hide h1; obtain ⟨d0, d1, d2, d3, d4, d5, d6, d7, d8, d9⟩ := h1.var.at; simp only [Nat.zero_add] at d0 d1 d2 d3 d4 d5 d6 d7 d8 d9; clear h1 H0))))
      go_split_ands
      go_upto_region 7 with fail
      have HD2 := hide H2.out.drew
      obtain ⟨d0, d1, d2, d3, d4, d5, d6, d7, d8, d9⟩ := H2.out.var.at
      simp only [Nat.zero_add] at d0 d1 d2 d3 d4 d5 d6 d7 d8 d9
      clear H2
      have H2 := HD2
      clear HD2
      go_region_held3 (fun w' => w'.cell? ⟨X, 0, none⟩ = some (.int .u32 (t.nm : Int)) ∧ w'.cell? ⟨X, 1, none⟩ = some (.int .u32 (t.ty : Int)) ∧ w'.cell? ⟨X, 2, none⟩ = some (.int .u64 (t.fl : Int)) ∧ w'.cell? ⟨X, 3, none⟩ = some (.int .u64 (t.ad : Int)) ∧ w'.cell? ⟨X, 4, none⟩ = some (.int .u64 (t.off : Int)) ∧ w'.cell? ⟨X, 5, none⟩ = some (.int .u64 (t.sz : Int)) ∧ w'.cell? ⟨X, 6, none⟩ = some (.int .u32 (t.lk : Int)) ∧ w'.cell? ⟨X, 7, none⟩ = some (.int .u32 (t.nf : Int)) ∧ w'.cell? ⟨X, 8, none⟩ = some (.int .u64 (t.al : Int)) ∧ w'.cell? ⟨X, 9, none⟩ = some (.int .u64 (t.en : Int)))
        (go_keep)
        ((first
          | (go_at_call 30; first
            | (refine (pb_put H5.out (t.sz : Int) 8 (by omega) (by omega) (by decide) (by omega)).mono ?_; rintro e W6 ⟨v6, rfl, h6⟩; have H6 := hide h6; obtain ⟨d0, d1, d2, d3, d4, d5, d6, d7, d8, d9⟩ := h6.var.at; simp only [Nat.zero_add] at d0 d1 d2 d3 d4 d5 d6 d7 d8 d9; clear h6 H5)
            | (refine (pb_put H4.out (t.off : Int) 8 (by omega) (by omega) (by decide) (by omega)).mono ?_; rintro e W5 ⟨v5, rfl, h5⟩; have H5 := hide h5; obtain ⟨d0, d1, d2, d3, d4, d5, d6, d7, d8, d9⟩ := h5.var.at; simp only [Nat.zero_add] at d0 d1 d2 d3 d4 d5 d6 d7 d8 d9; clear h5 H4)
            | (refine (pb_put H3.out (t.ad : Int) 8 (by omega) (by omega) (by decide) (by omega)).mono ?_; rintro e W4 ⟨v4, rfl, h4⟩; have H4 := hide h4; obtain ⟨d0, d1, d2, d3, d4, d5, d6, d7, d8, d9⟩ := h4.var.at; simp only [Nat.zero_add] at d0 d1 d2 d3 d4 d5 d6 d7 d8 d9; clear h4 H3)
            | (refine (pb_put H2.out (t.fl : Int) 8 (by omega) (by omega) (by decide) (by omega)).mono ?_; rintro e W3 ⟨v3, rfl, h3⟩; have H3 := hide h3; obtain ⟨d0, d1, d2, d3, d4, d5, d6, d7, d8, d9⟩ := h3.var.at; simp only [Nat.zero_add] at d0 d1 d2 d3 d4 d5 d6 d7 d8 d9; clear h3 H2))))
      go_split_ands
      go_upto_region 8 with fail
      have HD6 := hide H6.out.drew
      obtain ⟨d0, d1, d2, d3, d4, d5, d6, d7, d8, d9⟩ := H6.out.var.at
      simp only [Nat.zero_add] at d0 d1 d2 d3 d4 d5 d6 d7 d8 d9
      clear H6
      have H6 := HD6
      clear HD6
      go_region_held3 (fun w' => w'.cell? ⟨X, 0, none⟩ = some (.int .u32 (t.nm : Int)) ∧ w'.cell? ⟨X, 1, none⟩ = some (.int .u32 (t.ty : Int)) ∧ w'.cell? ⟨X, 2, none⟩ = some (.int .u64 (t.fl : Int)) ∧ w'.cell? ⟨X, 3, none⟩ = some (.int .u64 (t.ad : Int)) ∧ w'.cell? ⟨X, 4, none⟩ = some (.int .u64 (t.off : Int)) ∧ w'.cell? ⟨X, 5, none⟩ = some (.int .u64 (t.sz : Int)) ∧ w'.cell? ⟨X, 6, none⟩ = some (.int .u32 (t.lk : Int)) ∧ w'.cell? ⟨X, 7, none⟩ = some (.int .u32 (t.nf : Int)) ∧ w'.cell? ⟨X, 8, none⟩ = some (.int .u64 (t.al : Int)) ∧ w'.cell? ⟨X, 9, none⟩ = some (.int .u64 (t.en : Int)))
        (go_keep)
        ((first
          | (go_at_call 30; first
            | (refine (pb_put H7.out (t.nf : Int) 4 (by omega) (by omega) (by decide) (by omega)).mono ?_; rintro e W8 ⟨v8, rfl, h8⟩; have H8 := hide h8; obtain ⟨d0, d1, d2, d3, d4, d5, d6, d7, d8, d9⟩ := h8.var.at; simp only [Nat.zero_add] at d0 d1 d2 d3 d4 d5 d6 d7 d8 d9; clear h8 H7)
            | (refine (pb_put H6.out (t.lk : Int) 4 (by omega) (by omega) (by decide) (by omega)).mono ?_; rintro e W7 ⟨v7, rfl, h7⟩; have H7 := hide h7; obtain ⟨d0, d1, d2, d3, d4, d5, d6, d7, d8, d9⟩ := h7.var.at; simp only [Nat.zero_add] at d0 d1 d2 d3 d4 d5 d6 d7 d8 d9; clear h7 H6))))
      go_split_ands
      go_upto_region 9 with fail
      have HD8 := hide H8.out.drew
      obtain ⟨d0, d1, d2, d3, d4, d5, d6, d7, d8, d9⟩ := H8.out.var.at
      simp only [Nat.zero_add] at d0 d1 d2 d3 d4 d5 d6 d7 d8 d9
      clear H8
      have H8 := HD8
      clear HD8
      go_region_held3 (fun w' => w'.cell? ⟨X, 0, none⟩ = some (.int .u32 (t.nm : Int)) ∧ w'.cell? ⟨X, 1, none⟩ = some (.int .u32 (t.ty : Int)) ∧ w'.cell? ⟨X, 2, none⟩ = some (.int .u64 (t.fl : Int)) ∧ w'.cell? ⟨X, 3, none⟩ = some (.int .u64 (t.ad : Int)) ∧ w'.cell? ⟨X, 4, none⟩ = some (.int .u64 (t.off : Int)) ∧ w'.cell? ⟨X, 5, none⟩ = some (.int .u64 (t.sz : Int)) ∧ w'.cell? ⟨X, 6, none⟩ = some (.int .u32 (t.lk : Int)) ∧ w'.cell? ⟨X, 7, none⟩ = some (.int .u32 (t.nf : Int)) ∧ w'.cell? ⟨X, 8, none⟩ = some (.int .u64 (t.al : Int)) ∧ w'.cell? ⟨X, 9, none⟩ = some (.int .u64 (t.en : Int)))
        (go_keep)
        ((first
          | (go_at_call 30; first
            | (refine (pb_put H9.out (t.en : Int) 8 (by omega) (by omega) (by decide) (by omega)).mono ?_; rintro e W10 ⟨v10, rfl, h10⟩; have H10 := hide h10; obtain ⟨d0, d1, d2, d3, d4, d5, d6, d7, d8, d9⟩ := h10.var.at; simp only [Nat.zero_add] at d0 d1 d2 d3 d4 d5 d6 d7 d8 d9; clear h10 H9)
            | (refine (pb_put H8.out (t.al : Int) 8 (by omega) (by omega) (by decide) (by omega)).mono ?_; rintro e W9 ⟨v9, rfl, h9⟩; have H9 := hide h9; obtain ⟨d0, d1, d2, d3, d4, d5, d6, d7, d8, d9⟩ := h9.var.at; simp only [Nat.zero_add] at d0 d1 d2 d3 d4 d5 d6 d7 d8 d9; clear h9 H8))))
      have N2 : Hid (W10.ownsRow w.heap.size 5 1 v10 (64 * (k + 1)) ((shsL (l.take (k + 1))).map (Value.int .u8))) := by
        have h := H10.out.own
        rw [shL_cat, ← HBS.out] at h
        rw [shsL_take l k t HT.out, show 64 * (k + 1) = q + 4 + 4 + 8 + 8 + 8 + 8 + 4 + 4 + 8 + 8 by have := HQ.out; omega]
        exact h
      have B2 := hide H10.out.bel
      clear H10 HBS HQ HT
      go_split_ands
      go_wp2
      go_roundg (n - (k + 1))
      case measure => omega
      case rel => exact ⟨k + 1, by omega, rfl, by go_num, N2, B2⟩
    · obtain rfl : k = n := by omega
      have hrow := O.out
      rw [List.take_of_length_le (by omega)] at hrow
      have O9 := hide hrow
      clear hrow O
      go_wp2
      go_ret
      exact ⟨_, rfl, O9.out, B.out⟩

end Go.Proofs.Ytmmbahblnmhhmaa
