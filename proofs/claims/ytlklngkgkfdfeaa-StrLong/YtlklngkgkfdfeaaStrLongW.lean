/- The walk of StrLong: just how long a name may be. -/
import Derived.Test.YtlklngkgkfdfeaaStrKnown
namespace Go.Proofs.Ytlklngkgkfdfeaa
open Go.RowKit Go.Maps
set_option linter.unusedVariables false

theorem mk8 (w : World) (n : Nat) (hn : n ≤ 1000000) : Sem.run Try.prog (Instr.makeSlice 22 (.int .i64 (n : Int)) (.int .i64 (n : Int))) w = .ok (.slice (some ⟨w.heap.size, 0, none⟩) n n) (w.alloc (.cells (madeCells #[.int .u8 0] n) 5)) := by
  obtain ⟨i0, hi, hz0, hz1, hz2⟩ := info_parts Try.info8
  have hmk := run_make (P := Try.prog) w 22 5 i0 (.int .u8 0) Try.underlying22 hi hz0 .i64 .i64 (n : Int) (n : Int) (by omega) (by omega) (by rw [hz2]; omega) (by omega)
  rw [hz1, Int.toNat_natCast] at hmk
  have hcs : (Value.int .u8 0).cells = #[.int .u8 0] := rfl
  rw [hcs, Nat.mul_one] at hmk
  exact hmk

/-- Noughts, then i letters, then noughts: n bytes in all. -/
def lng (f i n : Nat) : List Int := List.replicate f 0 ++ (List.replicate i 120 ++ List.replicate (n - f - i) 0)
theorem lng_len {f i n : Nat} (h : f + i ≤ n) : (lng f i n).length = n := by simp [lng]; omega
theorem lng_zero {f n : Nat} (h : f ≤ n) : lng f 0 n = List.replicate n 0 := by
  simp only [lng, List.replicate_zero, List.nil_append]
  rw [List.replicate_append_replicate]
  congr 1
  omega
theorem lng_set {f i n : Nat} (h : f + i < n) : (lng f i n).set (f + i) 120 = lng f (i + 1) n := by
  apply List.ext_getElem?
  intro j
  rw [List.getElem?_set, lng_len (by omega)]
  unfold lng
  simp only [List.getElem?_append, List.getElem?_replicate, List.length_replicate]
  repeat' split
  all_goals first | rfl | omega
theorem lng_bytes (f i n : Nat) : Bytes (lng f i n) := fun x hx => by
  unfold lng at hx
  rcases List.mem_append.1 hx with h | h
  · have := List.eq_of_mem_replicate h; omega
  · rcases List.mem_append.1 h with h | h
    · have := List.eq_of_mem_replicate h; omega
    · have := List.eq_of_mem_replicate h; omega
theorem lng_get {f k : Nat} : gtO (lng f k (f + k + 1)) f = if k ≤ 200 then some (List.replicate k 120) else none := by
  have e1 : (lng f k (f + k + 1)).drop f = List.replicate k 120 ++ [0] := by
    unfold lng
    rw [List.drop_left' (by simp)]
    rw [show f + k + 1 - f - k = 1 by omega]
    rfl
  have e2 : Lib.bytesOf (List.replicate k 120 ++ [0]) = List.replicate k 120 ++ 0 :: [] := by
    simp [Lib.bytesOf]
  have e3 : (0 : UInt8) ∉ List.replicate k (120 : UInt8) := fun h => by
    have := List.eq_of_mem_replicate h
    revert this; decide
  unfold gtO
  simp only []
  rw [e1, e2, nmO_app _ e3, List.length_replicate]
  by_cases h : k ≤ 200
  · rw [if_pos ⟨by simp, h⟩, if_pos h]
  · rw [if_neg (fun x => h x.2), if_neg h]

theorem made_zero (n : Nat) : (madeCells #[.int .u8 0] n).toList = (List.replicate n (0 : Int)).map (Value.int .u8) := by
  simp [madeCells, Nat.mod_one, List.map_const']

theorem map_set_int8 (l : List Int) (j : Nat) (x : Int) : (l.map (Value.int .u8)).set j (.int .u8 x) = (l.set j x).map (Value.int .u8) := by
  rw [List.map_set]

set_option maxHeartbeats 3200000 in
set_option maxRecDepth 20000 in
theorem long_walk (n off : Int) (w : World) (hn : 0 ≤ n ∧ n ≤ 255) (ho : 0 ≤ off ∧ off ≤ 255) :
    Calls Try.prog 6 #[.int .u8 n, .int .u8 off] w fun e w' => e = .returned (.bool true) ∧ Below w.heap.size w w' := by
  obtain ⟨p, hp⟩ : ∃ p : Nat, n % 7 = (p : Int) := ⟨(n % 7).toNat, by omega⟩
  obtain ⟨q, hq⟩ : ∃ q : Nat, off % 4 = (q : Int) := ⟨(off % 4).toNat, by omega⟩
  have hp' : p ≤ 6 := by omega
  have hq' : q ≤ 3 := by omega
  obtain ⟨k, hk⟩ : ∃ k : Nat, 197 + p = k := ⟨_, rfl⟩
  have hk1 : (197 : Int) + (p : Int) = (k : Int) := by omega
  obtain ⟨N, hN⟩ : ∃ N : Nat, k + 2 + q = N := ⟨_, rfl⟩
  have hN1 : (k : Int) + 2 + (q : Int) = (N : Int) := by omega
  have HN2 : Hid (N = (q + 1) + k + 1) := hide (by omega)
  have hN3 : q + 1 + k + 1 ≤ N ∧ N ≤ q + 1 + k + 1 := by omega
  have hkb : k ≤ 203 := by omega
  have hkl : 197 ≤ k := by omega
  clear hk hN
  go_enter Try.func6, Try.ntmps6
  go_wp2_with fail
  refine (known_9 _).mono ?_
  rintro e W1 ⟨rfl, hb⟩
  have HB := hide hb
  have hz := hb.size
  clear hb
  have hmk := mk8 W1 N (by omega)
  go_upto_region 5 with fail
  clear hmk
  have HB2 := hide (HB.out.alloc hz (.cells (madeCells #[.int .u8 0] N) 5))
  have HO := hide (show (W1.alloc (.cells (madeCells #[.int .u8 0] N) 5)).ownsRow w.heap.size 5 1 (.slice (some ⟨W1.heap.size, 0, none⟩) N N) N ((lng (q + 1) 0 N).map (Value.int .u8)) from
    ⟨by rw [List.length_map, lng_len (by omega)]; omega, .inr ⟨W1.heap.size, N, _, rfl, hz, heap_alloc_new W1 _, Nat.le_refl _, by unfold maxLen; omega, by simp [madeCells], by rw [lng_zero (by omega), made_zero]; simp⟩⟩)
  generalize hg : W1.heap.size = g at *
  generalize hW2 : W1.alloc (.cells (madeCells #[.int .u8 0] N) 5) = W2 at *
  clear hg hW2 HB
  go_wp2
  go_loopw [7] (fun i wr => ∃ j : Nat, j ≤ k ∧ i = .int .i64 (j : Int) ∧ wr.ownsRow w.heap.size 5 1 (.slice (some ⟨g, 0, none⟩) N N) N ((lng (q + 1) j N).map (Value.int .u8)) ∧ Below w.heap.size w wr) (fun i _ => k - (intOf i).toNat)
  case atStart => exact ⟨0, by omega, rfl, HO.out, HB2.out⟩
  case round =>
    obtain ⟨j, hj, rfl, hown2, hbel2⟩ := hrel
    clear HO HB2
    by_cases hlt : j < k
    · have hcell := hown2.cellAt (q + 1 + j) (by omega)
      have hfz := hown2.frozenAt (q + 1 + j)
      have hst := hown2.stored (q + 1 + j) (.int .u8 120)
      rw [map_set_int8, lng_set (by omega)] at hst
      have HST := hide hst
      have HB2 := hide hbel2
      clear hown2 hst hbel2
      obtain ⟨u0, hu0⟩ : ∃ u0, ((lng (q + 1) j N).map (Value.int .u8))[q + 1 + j]? = some u0 := ⟨_, List.getElem?_eq_getElem (by rw [List.length_map, lng_len (by omega)]; omega)⟩
      rw [hu0] at hcell
      clear hu0
      obtain ⟨t, ht⟩ : ∃ t : Nat, q + 1 + j = t := ⟨_, rfl⟩
      rw [ht] at hcell hfz HST
      have ht' : (q : Int) + 1 + (j : Int) = (t : Int) := by omega
      have htN : (t : Int) < (N : Int) := by omega
      go_wp2
      go_roundw
      case rel => exact ⟨j + 1, by omega, by go_num, HST.out.1, HB2.out.setCell hz _⟩
      case measure => simp [intOf]; omega
    · obtain rfl : j = k := by omega
      have hr := Rd.own hown2 (lng_bytes (q + 1) j N)
      obtain ⟨a', c', he, r⟩ := hr
      cases he
      have hg := get_any _ _ _ _ (q + 1) wr r (by omega)
      obtain rfl := HN2.out
      rw [lng_get] at hg
      have HB2 := hide hbel2
      have hs1 : (str (List.replicate j 120)).size = j := by rw [str_size]; simp
      clear hown2 hbel2 r
      have hqq : (((q + 1 : Nat)) : Int) = (q : Int) + 1 := by omega
      rw [hqq] at hg
      by_cases h2 : j ≤ 200
      · have h2' : (j : Int) ≤ 200 := by omega
        rw [if_pos h2, gtR_some] at hg
        have HG := hide hg
        clear hg
        generalize str (List.replicate j 120) = S at *
        go_wp2_with fail
        refine HG.out.mono ?_
        rintro e w' ⟨rfl, rfl⟩
        go_wp2
        go_ret
        exact ⟨rfl, HB2.out⟩
      · have h2' : (200 : Int) < (j : Int) := by omega
        have hd : decide ((j : Int) ≤ 200) = false := by simp; omega
        rw [if_neg h2, gtR_none] at hg
        have HG := hide hg
        clear hg hs1
        go_wp2_with fail
        refine HG.out.mono ?_
        rintro e w' ⟨rfl, rfl⟩
        go_wp2
        go_ret
        exact ⟨ret_bool (by simp), HB2.out⟩

end Go.Proofs.Ytlklngkgkfdfeaa
