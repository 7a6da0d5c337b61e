/- The contract of the document's SymBytes: a row of the call's own that holds the symbols' bytes. -/
import Derived.Test.YtonhahijblnfhaaSymBytes
import Derived.Test.YtonhahijblnfhaaRputKeep
namespace Go.Proofs.Ytonhahijblnfhaa
open Go.RowKit
set_option linter.unusedVariables false
set_option linter.unusedSimpArgs false

/-- The bytes so far, and the variable that holds a symbol. -/
structure PY (w W : World) (X : Nat) (t : Sy) (v : Value) (len : Nat) (bs : List Int) : Prop where
  bel : Below w.heap.size w W
  own : W.ownsRow w.heap.size 5 1 v len (bs.map (Value.int .u8))
  var : SyB W X t
theorem PY.drew {w W : World} {X : Nat} {t : Sy} {v : Value} {len : Nat} {bs : List Int} (h : PY w W X t v len bs) : PY w W.drew X t v len bs := ⟨h.bel.drew, h.own.drew, h.var.drew⟩
theorem py_put {w W : World} {X : Nat} {t : Sy} {v : Value} {len : Nat} {bs : List Int} (h : PY w W X t v len bs) (y : Int) (k : Nat) (hy : 0 ≤ y) (hy' : y ≤ 18446744073709551615) (hk : k ≤ 8) (hl : len ≤ 100000000) :
    Calls Try.prog 16 #[v, .int .u64 y, .int .i64 k] W fun e w' => ∃ v', e = .returned v' ∧ PY w w' X t v' (len + k) (bs ++ bytesOf y k) := by
  refine (rput_keep w.heap.size v len bs y k W h.own h.bel.size hy hy' (by omega) (by omega) (by omega)).mono ?_
  rintro e w' ⟨v', rfl, ho, hb, ht⟩
  rw [Int.toNat_natCast] at ho
  exact ⟨v', rfl, h.bel.trans hb, ho, ht _ _ _ _ (by decide) h.var⟩
theorem py_app {w W w1 : World} {X : Nat} {t : Sy} {v v' : Value} {len : Nat} {bs ys : List Int} {o : Obj} (h : PY w W X t v len bs) (hown : w1.ownsRow w.heap.size 5 1 v' (len + ys.length) (bs.map (Value.int .u8) ++ ys.map (Value.int .u8))) (hgrow : (W.alloc o).grownBy w1 v.ownBlock) :
    PY w w1 X t v' (len + ys.length) (bs ++ ys) := by
  have h1 := h.bel.size
  refine ⟨(h.bel.alloc h1 _).grown hgrow (by simp; omega) (fun j hj => (h.own.lt j hj).1), by rw [List.map_append]; exact hown, ?_⟩
  exact Oth.grown (h.own.alloc o) hgrow _ _ _ _ (by decide) (h.var.below h.var.lt ((Below.refl _ _).alloc (Nat.le_refl _) o))

theorem bytesOf_mod (x : Int) : bytesOf (x % 18446744073709551616) 2 = bytesOf (x % 65536) 2 := by
  simp only [bytesOf, List.range, List.range.loop, List.map, byteOf]
  simp only [show (2 : Int) ^ (8 * 0) = 1 by decide, show (2 : Int) ^ (8 * 1) = 256 by decide]
  congr 1
  · omega
  congr 1
  omega
theorem syL_cat (s : Sy) (bs : List Int) (i o e : Nat) (hi : syI s = (i : Int)) (ho : s.ot % 256 = (o : Int)) (he : s.se % 18446744073709551616 = (e : Int)) : bs ++ bytesOf s.nm 4 ++ [(i : Int), (o : Int)] ++ bytesOf (e : Int) 2 ++ bytesOf s.va 8 ++ bytesOf s.sz 8 = bs ++ syL s := by
  simp only [syL, List.append_assoc, ← hi, ← ho, ← he, bytesOf_mod]

set_option maxHeartbeats 6400000 in
set_option maxRecDepth 20000 in
theorem rsymb_any (a : Option Addr) (n cap : Nat) (l : List Sy) (w : World) (r : Ry w a n cap l) (hn : n ≤ 1000000) :
    Calls Try.prog 9 #[.slice a n cap] w fun e w' => ∃ v', e = .returned v' ∧ w'.ownsRow w.heap.size 5 1 v' (24 * n) ((sysL l).map (Value.int .u8)) ∧ Below w.heap.size w w' := by
  have hl := r.length
  have hle := r.le
  have hmx := r.max
  obtain ⟨i0, hi, hz0, hz1, hz2⟩ := info_parts Try.info8
  have HOK := hide r.ok
  have HR := hide r
  clear r
  go_enter Try.func9, Try.ntmps9
  go_wp2
  go_loopg [3, 4] n (fun gg v i wr => ∃ k : Nat, k ≤ n ∧ gg = n - k ∧ i = .int .i64 (k : Int) ∧ Hid (wr.ownsRow w.heap.size 5 1 v (24 * k) ((sysL (l.take k)).map (Value.int .u8))) ∧ Hid (Below w.heap.size w wr))
  case atStart => exact ⟨0, by omega, rfl, rfl, World.ownsRow_nil _ _ _ _, Below.refl _ _⟩
  case round =>
    obtain ⟨k, hk, rfl, rfl, O, B⟩ := hrel
    by_cases hlt : k < n
    · have hlt' : (k : Int) < (n : Int) := by omega
      obtain ⟨t, ht⟩ : ∃ t, l[k]? = some t := ⟨_, List.getElem?_eq_getElem (by omega)⟩
      have htok := HOK.out t (List.mem_of_getElem? ht)
      obtain ⟨b2, o2, rfl, hc⟩ := Ry.addr (HR.out.below B.out) (by omega)
      obtain ⟨c0, c1, c2, c3, c4, c5, c6⟩ := hc k t ht
      have m0 := htok.nm
      have m1 := htok.va
      have m2 := htok.sz
      obtain ⟨bb, hbb⟩ : ∃ b : Nat, t.bd % 16 = (b : Int) := ⟨(t.bd % 16).toNat, by omega⟩
      obtain ⟨tt, htt⟩ : ∃ b : Nat, t.ty % 16 = (b : Int) := ⟨(t.ty % 16).toNat, by omega⟩
      obtain ⟨oo, hoo⟩ : ∃ o : Nat, t.ot % 256 = (o : Int) := ⟨(t.ot % 256).toNat, by omega⟩
      obtain ⟨ee, hee⟩ : ∃ o : Nat, t.se % 18446744073709551616 = (o : Int) := ⟨(t.se % 18446744073709551616).toNat, by omega⟩
      have u1 : bits .and .i64 t.ty 15 = (tt : Int) := by rw [and15_i64 _ htok.ty.1 htok.ty.2, htt]
      have u2 : bits .and .i64 t.bd 15 = (bb : Int) := by rw [and15_i64 _ htok.bd.1 htok.bd.2, hbb]
      have u3' : IntKind.u8.wrap t.ot = (oo : Int) := by rw [IntKind.wrap_u8, hoo]
      have u4 : IntKind.u64.wrap t.se = (ee : Int) := by rw [IntKind.wrap_u64, hee]
      have bb0 : bb ≤ 15 := by omega
      have tt0 : tt ≤ 15 := by omega
      have oo0 : oo ≤ 255 := by omega
      have ee0 : ee < 18446744073709551616 := by omega
      obtain ⟨ii, hii⟩ : ∃ i : Nat, 16 * bb + tt = i := ⟨_, rfl⟩
      have ii0 : ii ≤ 255 := by omega
      have u5 : bits .or .i64 ((bb : Int) * 16) (tt : Int) = (ii : Int) := by
        rw [bits_join .i64 63 (by decide) (fun n h0 h1 => by rw [IntKind.wrap_i64]; omega) 4 _ _ (by omega) (by omega) (by omega) (by omega) (by omega) (by omega)]
        omega
      have y1 := htok.ty
      have y2 := htok.bd
      have y3 := htok.ot
      have y4 := htok.se
      have HT := hide ht
      have HCAT := hide (fun bs => syL_cat t bs ii oo ee (by unfold syI; rw [hbb, htt]; omega) hoo hee)
      clear hc ht htok hbb htt hoo hee hii
      go_upto_region 6 with fail
      obtain ⟨q, hq⟩ : ∃ q, 24 * k = q := ⟨_, rfl⟩
      have hq1 : q + 24 ≤ 24000000 := by omega
      obtain ⟨bs, hbs⟩ : ∃ bs, sysL (l.take k) = bs := ⟨_, rfl⟩
      rw [hq, hbs] at O
      have h00 : PY w (wr.alloc (.cells t.cells.toArray 40)) wr.heap.size t u3 q bs := ⟨B.out.alloc B.out.size _, O.out.alloc _, SyB.new wr t⟩
      have HQ := hide hq
      have HBS := hide hbs
      obtain ⟨V, hV⟩ : ∃ V, wr.alloc (.cells #[.int .u32 (t.nm : Int), .int .i64 t.bd, .int .i64 t.ty, .int .i64 t.ot, .int .i64 t.se, .int .u64 (t.va : Int), .int .u64 (t.sz : Int)] 40) = V := ⟨_, rfl⟩
      change PY w (wr.alloc (.cells #[.int .u32 (t.nm : Int), .int .i64 t.bd, .int .i64 t.ty, .int .i64 t.ot, .int .i64 t.se, .int .u64 (t.va : Int), .int .u64 (t.sz : Int)] 40)) _ _ _ _ _ at h00
      rw [hV] at h00 ⊢
      obtain ⟨X, hX⟩ : ∃ X, wr.heap.size = X := ⟨_, rfl⟩
      rw [hX] at h00 ⊢
      have H0 := hide h00
      obtain ⟨d0, d1, d2, d3, d4, d5, d6⟩ := h00.var.at
      simp only [Nat.zero_add] at d0 d1 d2 d3 d4 d5 d6
      clear hV hX hq hbs h00 O B c0 c1 c2 c3 c4 c5 c6
      have x0 : IntKind.u64.wrap (t.nm : Int) = (t.nm : Int) := u64_wrap_id _ (by omega) (by omega)
      go_upto_region 7 with (go_at_call 16; refine (py_put H0.out (t.nm : Int) 4 (by omega) (by omega) (by decide) (by omega)).mono ?_; rintro e W1 ⟨v1, rfl, h1⟩; have H1 := hide h1; obtain ⟨d0, d1, d2, d3, d4, d5, d6⟩ := h1.var.at; simp only [Nat.zero_add] at d0 d1 d2 d3 d4 d5 d6; clear h1 H0)
      have z1 := H1.out.bel.size
      obtain ⟨bs1, hb1⟩ : ∃ x, bs ++ bytesOf (t.nm : Int) 4 = x := ⟨_, rfl⟩
      rw [hb1] at H1
      have HB1 := hide hb1
      clear hb1
      go_upto_region 8 with (at_builtin; refine wpList_append_own _ rfl _ _ 23 rfl w.heap.size 5 i0 (.int .u8 0) 1 1 Try.underlying23 hi hz0 hz1 hz2 rfl (by decide) _ _ _ rfl (H1.out.own.alloc _) ⟨W1.heap.size, 0, none⟩ 2 2 [.int .u8 (ii : Int), .int .u8 (oo : Int)] rfl rfl (World.news_of_block (cs := #[.int .u8 (ii : Int), .int .u8 (oo : Int)]) (t := 5) (fr := (0, 0)) (heap_alloc_new W1 _)) (by simp [Value.oneCell']) (by unfold maxLen; omega) (by omega) (by simp; omega) ?_)
      intro v2 W2 hown2 hgrow2 _
      have h2 := py_app (ys := [(ii : Int), (oo : Int)]) H1.out hown2 hgrow2
      rw [← HB1.out] at h2
      clear HB1
      have H2 := hide h2.drew
      obtain ⟨d0, d1, d2, d3, d4, d5, d6⟩ := h2.var.at
      simp only [Nat.zero_add] at d0 d1 d2 d3 d4 d5 d6
      clear h2 hown2 hgrow2 H1
      go_upto_region 8 with fail
      go_region_held3 (fun w' => w'.cell? ⟨X, 0, none⟩ = some (.int .u32 (t.nm : Int)) ∧ w'.cell? ⟨X, 1, none⟩ = some (.int .i64 t.bd) ∧ w'.cell? ⟨X, 2, none⟩ = some (.int .i64 t.ty) ∧ w'.cell? ⟨X, 3, none⟩ = some (.int .i64 t.ot) ∧ w'.cell? ⟨X, 4, none⟩ = some (.int .i64 t.se) ∧ w'.cell? ⟨X, 5, none⟩ = some (.int .u64 (t.va : Int)) ∧ w'.cell? ⟨X, 6, none⟩ = some (.int .u64 (t.sz : Int)))
        (go_keep)
        ((first
          | (go_at_call 16; first
            | (refine (py_put H4.out (t.sz : Int) 8 (by omega) (by omega) (by decide) (by simp; omega)).mono ?_; rintro e W5 ⟨v5, rfl, h5⟩; have H5 := hide h5; obtain ⟨d0, d1, d2, d3, d4, d5, d6⟩ := h5.var.at; simp only [Nat.zero_add] at d0 d1 d2 d3 d4 d5 d6; clear h5 H4)
            | (refine (py_put H3.out (t.va : Int) 8 (by omega) (by omega) (by decide) (by simp; omega)).mono ?_; rintro e W4 ⟨v4, rfl, h4⟩; have H4 := hide h4; obtain ⟨d0, d1, d2, d3, d4, d5, d6⟩ := h4.var.at; simp only [Nat.zero_add] at d0 d1 d2 d3 d4 d5 d6; clear h4 H3)
            | (refine (py_put H2.out (ee : Int) 2 (by omega) (by omega) (by decide) (by simp; omega)).mono ?_; rintro e W3 ⟨v3, rfl, h3⟩; have H3 := hide h3; obtain ⟨d0, d1, d2, d3, d4, d5, d6⟩ := h3.var.at; simp only [Nat.zero_add] at d0 d1 d2 d3 d4 d5 d6; clear h3 H2))))
      have N2 : Hid (W5.ownsRow w.heap.size 5 1 v5 (24 * (k + 1)) ((sysL (l.take (k + 1))).map (Value.int .u8))) := by
        have h := H5.out.own
        rw [HCAT.out, ← HBS.out] at h
        rw [sysL_take l k t HT.out, show 24 * (k + 1) = q + 4 + 2 + 2 + 8 + 8 by have := HQ.out; omega]
        exact h
      have B2 := hide H5.out.bel
      clear H5 HBS HQ HT
      go_split_ands
      go_wp2
      go_roundg (n - (k + 1))
      case measure => omega
      case rel => exact ⟨k + 1, by omega, rfl, by go_num, N2, B2⟩
    · obtain rfl : k = n := by omega
      have hrow := O.out
      rw [List.take_of_length_le (by omega)] at hrow
      have O9 := hide hrow
      clear hrow O
      go_wp2
      go_ret
      exact ⟨_, rfl, O9.out, B.out⟩

end Go.Proofs.Ytonhahijblnfhaa
