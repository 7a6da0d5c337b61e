/- The contract of shdr.Bytes: a slice that holds the headers' bytes. -/
import Derived.Test.YtmmbahblnmhhmaaShdrParse
import Derived.Deep.RegionHeld3
import Derived.Deep.AppendLies
import Derived.Lib.OwnKind
namespace Go.Proofs.Ytmmbahblnmhhmaa
open Go.RowKit
set_option linter.unusedVariables false
set_option linter.unusedSimpArgs false

def w8 (s : Sh) : List Int := [((s.nm + 4294967296 * s.ty : Nat) : Int), (s.fl : Int), (s.ad : Int), (s.off : Int), (s.sz : Int), ((s.lk + 4294967296 * s.nf : Nat) : Int), (s.al : Int), (s.en : Int)]
def w8s (l : List Sh) : List Int := l.flatMap w8
theorem w8s_len : ∀ l : List Sh, (w8s l).length = 8 * l.length
  | [] => rfl
  | x :: l => by
    have h := w8s_len l
    unfold w8s at h ⊢
    rw [List.flatMap_cons, List.length_append, h, List.length_cons]
    simp [w8]
    omega
theorem w8s_take (l : List Sh) (k : Nat) (s : Sh) (h : l[k]? = some s) : w8s (l.take (k + 1)) = w8s (l.take k) ++ w8 s := by
  rw [List.take_add_one, h]
  simp [w8s]
theorem w8_fit {s : Sh} (h : s.Ok) : ∀ x ∈ w8 s, 0 ≤ x ∧ x ≤ 18446744073709551615 := by
  intro x hx
  have h0 := h.nm
  have h1 := h.ty
  have h2 := h.fl
  have h3 := h.ad
  have h4 := h.off
  have h5 := h.sz
  have h6 := h.lk
  have h7 := h.nf
  have h8 := h.al
  have h9 := h.en
  simp [w8] at hx
  omega
theorem w8s_fit {l : List Sh} (h : ∀ s ∈ l, s.Ok) : ∀ x ∈ w8s l, 0 ≤ x ∧ x ≤ 18446744073709551615 := by
  intro x hx
  obtain ⟨s, hs, hx⟩ := List.mem_flatMap.1 hx
  exact w8_fit (h s hs) x hx

theorem byteOf_two (a b : Nat) (ha : a < 4294967296) : bytesOf ((a + 4294967296 * b : Nat) : Int) 8 = bytesOf (a : Int) 4 ++ bytesOf (b : Int) 4 := by
  simp only [bytesOf, List.range, List.range.loop, List.map, byteOf, List.cons_append, List.nil_append]
  simp only [show (2 : Int) ^ (8 * 0) = 1 by decide, show (2 : Int) ^ (8 * 1) = 256 by decide, show (2 : Int) ^ (8 * 2) = 65536 by decide, show (2 : Int) ^ (8 * 3) = 16777216 by decide, show (2 : Int) ^ (8 * 4) = 4294967296 by decide, show (2 : Int) ^ (8 * 5) = 1099511627776 by decide, show (2 : Int) ^ (8 * 6) = 281474976710656 by decide, show (2 : Int) ^ (8 * 7) = 72057594037927936 by decide]
  congr 1
  · omega
  congr 1
  · omega
  congr 1
  · omega
  congr 1
  · omega
  congr 1
  · omega
  congr 1
  · omega
  congr 1
  · omega
  congr 1
  omega

theorem flat_w8 {s : Sh} (h : s.Ok) : flat 8 (w8 s) = shL s := by
  have h0 := byteOf_two s.nm s.ty h.nm
  have h1 := byteOf_two s.lk s.nf h.lk
  simp only [w8, flat, shL, h0, h1, List.append_assoc, List.append_nil]
theorem flat_w8s : ∀ {l : List Sh}, (∀ s ∈ l, s.Ok) → flat 8 (w8s l) = shsL l
  | [], _ => rfl
  | s :: l, h => by
    have e : w8s (s :: l) = w8 s ++ w8s l := by simp [w8s]
    rw [e, flat_append, flat_w8 (h s (by simp)), flat_w8s (fun t ht => h t (by simp [ht]))]
    rfl

theorem Try.info64 : (Try.prog.info? 23).map (fun i => (i.zero, i.size, i.bytes)) = some (some (.int .u64 0), 1, 8) := by kernel_rfl

set_option maxHeartbeats 3200000 in
set_option maxRecDepth 20000 in
theorem sbytes_any (a : Option Addr) (n cap : Nat) (l : List Sh) (w : World) (r : Rh w a n cap l) (hn : n ≤ 1000000) :
    Calls Try.prog 14 #[.slice a n cap] w fun e w' => ∃ a' c', e = .returned (.slice a' (64 * n) c') ∧ Rd w' a' (64 * n) c' (shsL l) ∧ Below w.heap.size w w' := by
  have hl := r.length
  have hle := r.le
  have hmx := r.max
  obtain ⟨i0, hi, hz0, hz1, hz2⟩ := info_parts Try.info64
  have HOK := hide r.ok
  have HR := hide r
  clear r
  go_enter Try.func14, Try.ntmps14
  go_upto_region 2 with (at_make; refine wpList_make_own _ rfl _ _ 65 rfl w.heap.size 23 i0 (.int .u64 0) 1 Try.underlying65 hi hz0 hz1 .i64 .i64 ((n : Int) * 8) (8 * n) rfl rfl (by omega) (by rw [hz2]; omega) (by unfold maxLen; omega) (Nat.le_refl _) ?_)
  intro W1 hown hgrow
  have O1 := hide hown
  have B1 := hide ((Below.refl w.heap.size w).grown hgrow (Nat.le_refl _) (fun k hk => by cases hk))
  clear hown hgrow
  go_wp2
  go_loopg [3, 12] n (fun gg v i wr => ∃ k : Nat, k ≤ n ∧ gg = n - k ∧ i = .int .i64 (k : Int) ∧ Hid (wr.ownsRow w.heap.size 23 1 v (8 * k) ((w8s (l.take k)).map (Value.int .u64))) ∧ Hid (Below w.heap.size w wr))
  case atStart => exact ⟨0, by omega, rfl, rfl, O1, B1⟩
  case round =>
    obtain ⟨k, hk, rfl, rfl, O, B⟩ := hrel
    clear O1 B1
    by_cases hlt : k < n
    · have hlt' : (k : Int) < (n : Int) := by omega
      obtain ⟨t, ht⟩ : ∃ t, l[k]? = some t := ⟨_, List.getElem?_eq_getElem (by omega)⟩
      have htok := HOK.out t (List.mem_of_getElem? ht)
      obtain ⟨b2, o2, rfl, hc⟩ := (HR.out.below B.out).addr (by omega)
      obtain ⟨c0, c1, c2, c3, c4, c5, c6, c7, c8, c9⟩ := hc k t ht
      clear hc
      have m0 := htok.nm
      have m1 := htok.ty
      have m2 := htok.lk
      have m3 := htok.nf
      have HT := hide ht
      have HTO := hide htok
      clear ht htok
      go_upto_region 5 with fail
      have H8 := hide (ShB.new wr t)
      have B8 := hide ((Below.refl wr.heap.size wr).alloc (Nat.le_refl _) (.cells t.cells.toArray 47))
      have O8 := hide (O.out.alloc (.cells t.cells.toArray 47))
      have ag : u3.ownBlock ≠ some wr.heap.size := fun e => by have := (O.out.lt _ e).2; omega
      obtain ⟨V, hV⟩ : ∃ V, wr.alloc (.cells #[.int .u32 (t.nm : Int), .int .u32 (t.ty : Int), .int .u64 (t.fl : Int), .int .u64 (t.ad : Int), .int .u64 (t.off : Int), .int .u64 (t.sz : Int), .int .u32 (t.lk : Int), .int .u32 (t.nf : Int), .int .u64 (t.al : Int), .int .u64 (t.en : Int)] 47) = V := ⟨_, rfl⟩
      change Hid (ShB (wr.alloc (.cells #[.int .u32 (t.nm : Int), .int .u32 (t.ty : Int), .int .u64 (t.fl : Int), .int .u64 (t.ad : Int), .int .u64 (t.off : Int), .int .u64 (t.sz : Int), .int .u32 (t.lk : Int), .int .u32 (t.nf : Int), .int .u64 (t.al : Int), .int .u64 (t.en : Int)] 47)) _ _) at H8
      change Hid (Below _ _ (wr.alloc (.cells #[.int .u32 (t.nm : Int), .int .u32 (t.ty : Int), .int .u64 (t.fl : Int), .int .u64 (t.ad : Int), .int .u64 (t.off : Int), .int .u64 (t.sz : Int), .int .u32 (t.lk : Int), .int .u32 (t.nf : Int), .int .u64 (t.al : Int), .int .u64 (t.en : Int)] 47))) at B8
      change Hid ((wr.alloc (.cells #[.int .u32 (t.nm : Int), .int .u32 (t.ty : Int), .int .u64 (t.fl : Int), .int .u64 (t.ad : Int), .int .u64 (t.off : Int), .int .u64 (t.sz : Int), .int .u32 (t.lk : Int), .int .u32 (t.nf : Int), .int .u64 (t.al : Int), .int .u64 (t.en : Int)] 47)).ownsRow _ _ _ _ _ _) at O8
      rw [hV] at H8 B8 O8 ⊢
      have hXV := H8.out.lt
      have zb := B.out.size
      have BF := hide (B.out.trans (B8.out.mono zb))
      obtain ⟨X, hX⟩ : ∃ X, wr.heap.size = X := ⟨_, rfl⟩
      rw [hX] at H8 hXV ag ⊢
      have zX : w.heap.size ≤ X := by omega
      have zV : w.heap.size ≤ V.heap.size := by omega
      clear hV c0 c1 c2 c3 c4 c5 c6 c7 c8 c9 hX O B8 zb
      obtain ⟨d0, d1, d2, d3, d4, d5, d6, d7, d8, d9⟩ := H8.out.at
      simp only [Nat.zero_add] at d0 d1 d2 d3 d4 d5 d6 d7 d8 d9
      obtain ⟨q, hq⟩ : ∃ q, 8 * k = q := ⟨_, rfl⟩
      have hq1 : q + 8 ≤ 8000000 := by omega
      rw [hq] at O8
      obtain ⟨xs, hxs⟩ : ∃ xs, (w8s (l.take k)).map (Value.int .u64) = xs := ⟨_, rfl⟩
      rw [hxs] at O8
      have HXS := hide hxs
      have HQ := hide hq
      clear hxs hq H8
      obtain ⟨p0, hp0⟩ : ∃ p : Nat, t.nm + 4294967296 * t.ty = p := ⟨_, rfl⟩
      obtain ⟨p1, hp1⟩ : ∃ p : Nat, t.lk + 4294967296 * t.nf = p := ⟨_, rfl⟩
      have P0 := pair_any t.nm t.ty
      have P1 := pair_any t.lk t.nf
      have HP0 := hide hp0
      have HP1 := hide hp1
      have PA := hide (fun W => pair_any t.nm t.ty W m0 m1)
      have PB := hide (fun W => pair_any t.lk t.nf W m2 m3)
      rw [hp0] at PA
      rw [hp1] at PB
      clear hp0 hp1 P0 P1
      go_region_held3 (fun w' => w'.cell? ⟨X, 0, none⟩ = some (.int .u32 (t.nm : Int)) ∧ w'.cell? ⟨X, 1, none⟩ = some (.int .u32 (t.ty : Int)) ∧ w'.cell? ⟨X, 2, none⟩ = some (.int .u64 (t.fl : Int)) ∧ w'.cell? ⟨X, 3, none⟩ = some (.int .u64 (t.ad : Int)) ∧ w'.cell? ⟨X, 4, none⟩ = some (.int .u64 (t.off : Int)) ∧ w'.cell? ⟨X, 5, none⟩ = some (.int .u64 (t.sz : Int)) ∧ w'.cell? ⟨X, 6, none⟩ = some (.int .u32 (t.lk : Int)) ∧ w'.cell? ⟨X, 7, none⟩ = some (.int .u32 (t.nf : Int)) ∧ w'.cell? ⟨X, 8, none⟩ = some (.int .u64 (t.al : Int)) ∧ w'.cell? ⟨X, 9, none⟩ = some (.int .u64 (t.en : Int)))
          (first
          | go_keep
          | (go_split_ands
             refine ⟨?_, ?_, ?_, ?_, ?_, ?_, ?_, ?_, ?_, ?_⟩
             · (rw [hgrow.cell_far _ (by simp; omega) (Ne.symm ag)]; assumption)
             · (rw [hgrow.cell_far _ (by simp; omega) (Ne.symm ag)]; assumption)
             · (rw [hgrow.cell_far _ (by simp; omega) (Ne.symm ag)]; assumption)
             · (rw [hgrow.cell_far _ (by simp; omega) (Ne.symm ag)]; assumption)
             · (rw [hgrow.cell_far _ (by simp; omega) (Ne.symm ag)]; assumption)
             · (rw [hgrow.cell_far _ (by simp; omega) (Ne.symm ag)]; assumption)
             · (rw [hgrow.cell_far _ (by simp; omega) (Ne.symm ag)]; assumption)
             · (rw [hgrow.cell_far _ (by simp; omega) (Ne.symm ag)]; assumption)
             · (rw [hgrow.cell_far _ (by simp; omega) (Ne.symm ag)]; assumption)
             · (rw [hgrow.cell_far _ (by simp; omega) (Ne.symm ag)]; assumption)))
          ((first
            | (refine step_append_lies _ (by rfl) _ _ _ (by rfl) w.heap.size 23 i0 _ 1 8 Try.underlying65 hi hz0 hz1 hz2 rfl (by omega) u3 _ _ (by rfl) (O8.out.drew.alloc _) ⟨V.heap.size, 0, none⟩ 8 8 [.int .u64 (p0 : Int), .int .u64 (t.fl : Int), .int .u64 (t.ad : Int), .int .u64 (t.off : Int), .int .u64 (t.sz : Int), .int .u64 (p1 : Int), .int .u64 (t.al : Int), .int .u64 (t.en : Int)] (by rfl) (by rfl) (World.news_of_block (cs := #[.int .u64 (p0 : Int), .int .u64 (t.fl : Int), .int .u64 (t.ad : Int), .int .u64 (t.off : Int), .int .u64 (t.sz : Int), .int .u64 (p1 : Int), .int .u64 (t.al : Int), .int .u64 (t.en : Int)]) (t := 23) (fr := (0, 0)) (heap_alloc_new V.drew _)) (by simp [Value.oneCell']) (by omega) (by unfold maxLen; omega) (by omega) (by simp; omega) (V.heap.size + 1) (by simp) ?_; intro gg cap2 W2 hown2 hgrow hat hlt2)
            | (go_at_call 28; first | (refine (PA.out _).mono ?_; rintro e W3 ⟨rfl, hW3⟩; rw [hW3]; clear hW3 W3 PA) | (refine (PB.out _).mono ?_; rintro e W3 ⟨rfl, hW3⟩; rw [hW3]; clear hW3 W3 PB))))
      have N2 : Hid (W2.ownsRow w.heap.size 23 1 (.slice (some ⟨gg, 0, none⟩) (q + 8) cap2) (8 * (k + 1)) ((w8s (l.take (k + 1))).map (Value.int .u64))) := by
        have e : (w8s (l.take (k + 1))).map (Value.int .u64) = xs ++ [.int .u64 (p0 : Int), .int .u64 (t.fl : Int), .int .u64 (t.ad : Int), .int .u64 (t.off : Int), .int .u64 (t.sz : Int), .int .u64 (p1 : Int), .int .u64 (t.al : Int), .int .u64 (t.en : Int)] := by
          rw [w8s_take l k t HT.out, List.map_append, HXS.out, ← HP0.out, ← HP1.out]
          rfl
        have e2 : 8 * (k + 1) = q + 8 := by have := HQ.out; omega
        rw [e, e2]
        exact hown2
      have B2 := hide ((BF.out.drew.alloc (by simp; omega) _).grown hgrow (by simp; omega) (fun j hj => (O8.out.lt j hj).1))
      clear hown2 hgrow hat hlt2 O8 BF HXS HP0 HP1 HQ HT HTO
      go_split_ands
      go_wp2
      go_roundg (n - (k + 1))
      case measure => omega
      case rel => exact ⟨k + 1, by omega, rfl, by go_num, N2, B2⟩
    · obtain rfl : k = n := by omega
      have hrow := O.out
      rw [List.take_of_length_le (by omega)] at hrow
      obtain ⟨a9, c9, h9, r9⟩ := Rn.own (top := 18446744073709551615) hrow (w8s_fit HOK.out) (by decide)
      subst h9
      have PT := hide (put64_any none 0 0 [] a9 (8 * k) c9 _ wr (Rd.nothing _) r9 (by omega))
      have B9 := hide B.out
      have zb := B.out.size
      clear hrow r9 O B
      have hl6 : ([] ++ flat 8 (w8s l)).length = 64 * k := by rw [List.nil_append, flat_w8s HOK.out, shsL_len, hl]
      have HL6 := hide hl6
      clear hl6
      go_wp2_with fail
      refine PT.out.mono ?_
      rintro e W6 ⟨a6, l6, c6, rfl, r6, b6⟩
      obtain rfl : l6 = 64 * k := r6.length.symm.trans HL6.out
      have R6 := hide r6
      have B6 := hide (B9.out.trans (b6.mono zb))
      clear b6 r6 PT B9
      go_wp2
      go_ret
      refine ⟨_, _, rfl, ?_, B6.out⟩
      have := R6.out
      rw [List.nil_append, flat_w8s HOK.out] at this
      exact this

end Go.Proofs.Ytmmbahblnmhhmaa
