/- Contracts of head.Bytes and of the document's HeadBytes: a row of the call's own that holds a head's bytes. -/
import Derived.Test.YtijjkhigomkokaaHeadOwn
import Derived.Lib.SlBytesConst
namespace Go.Proofs.Ytijjkhigomkokaa
open Go.RowKit
set_option linter.unusedVariables false
set_option linter.unusedSimpArgs false

/-- The document's Put behind a slice that is full, or the call's own: the call's own. -/
theorem rput_new (w0 : World) (v : Value) (len : Nat) (bs : List Int) (x n : Int) (w : World) (hext : Ext w0 w v len bs)
    (hx : 0 ≤ x) (hx' : x ≤ 18446744073709551615) (hn : 1 ≤ n) (h8 : n ≤ 8) (hb : len + n ≤ 140737488355328) :
    Calls Try.prog 24 #[v, .int .u64 x, .int .i64 n] w fun e w' =>
      ∃ v', e = .returned v' ∧ w'.ownsRow w0.heap.size 5 1 v' (len + n.toNat) ((bs ++ bytesOf x n.toNat).map (Value.int .u8)) ∧ Below w0.heap.size w0 w' := by
  obtain ⟨m, rfl⟩ := Int.eq_ofNat_of_zero_le (show 0 ≤ n by omega)
  have hm1 : 0 < m := by omega
  rw [Int.toNat_natCast]
  obtain ⟨i0, hi, hz0, hz1, hz2⟩ := info_parts Try.info8
  have HO := hide hext
  clear hext
  go_enter Try.func24, Try.ntmps24
  go_wp2
  go_loopg [0, 7] m (fun g u i wr => ∃ k : Nat, k ≤ m ∧ g = m - k ∧ i = .int .i64 k ∧ Ext w0 wr u (len + k) (bs ++ bytesOf x k) ∧ (0 < k → wr.ownsRow w0.heap.size 5 1 u (len + k) ((bs ++ bytesOf x k).map (Value.int .u8))))
  case atStart => exact ⟨0, by omega, rfl, rfl, by simpa [bytesOf] using HO.out, fun h => absurd h (by omega)⟩
  case round =>
    obtain ⟨k, hk, rfl, rfl, ⟨hbel, hcase⟩, hlast⟩ := hrel
    clear HO
    by_cases hlt : k < m
    · clear hlast
      rcases hcase with ⟨a, rfl, hr⟩ | ⟨hown, hby⟩
      · have hsz := hbel.size
        have hr2 := hr.below hbel
        have hbl := hr.length
        have HB := hide hbel
        have HR := hide hr2
        have HBY := hide hr.bytes
        have HC : Hid (∀ (o : Obj) (y : Addr), a = some y → ∀ (j : Nat) (u : Value), ((bs ++ bytesOf x k).map (Value.int .u8))[j]? = some u → (wr.alloc o).cell? (y.add j) = some u) :=
          fun o y hy j u h => (hr2.below ((Below.refl _ _).alloc (Nat.le_refl _) o)).cells y hy j u h
        have HN : Hid (a = none → len + k = 0 ∧ len + k = 0) := fun h => ⟨hr.nil h, hr.nil h⟩
        clear hbel hr hr2
        go_wp2_with (at_builtin; refine wpList_append_grows _ rfl _ _ 22 rfl 5 i0 (.int .u8 0) 1 1 Try.underlying22 hi hz0 hz1 hz2 rfl (by decide) a (len + k) (len + k) ((bs ++ bytesOf x k).map (Value.int .u8)) rfl HN.out (by rw [List.length_map, hbl]; omega) (HC.out _) ⟨wr.heap.size, 0, none⟩ 1 1 [.int .u8 (byteOf x k)] rfl rfl ?c1 ?c2 (by omega) (by unfold maxLen; omega) (by omega) ?_)
        case c1 =>
          intro j u hj
          match j, hj with
          | 0, hj => simp at hj; subst hj; simp [Addr.add, byteOf]
        case c2 => intro u hu; simp at hu; subst hu; rfl
        intro v' w1 hown' hgrow
        have R : w1.ownsRow w0.heap.size 5 1 v' (len + (k + 1)) ((bs ++ bytesOf x (k + 1)).map (Value.int .u8)) := by
          rw [bytesOf_succ]
          have := ownsRow_mono (B := w0.heap.size) hown' (by first | omega | (simp; omega))
          simpa [Nat.add_assoc] using this
        have B : Below w0.heap.size w0 w1 := (HB.out.alloc hsz _).grown hgrow (by simp; omega) (fun j hj => by cases hj)
        have E : Hid (Ext w0 w1 v' (len + (k + 1)) (bs ++ bytesOf x (k + 1))) := ⟨B, .inr ⟨R, by rw [bytesOf_succ, ← List.append_assoc]; exact HBY.out.append (fun y hy => by simp at hy; rw [hy]; exact byteOf_bd x k)⟩⟩
        have R' := hide R
        clear hown' hgrow HB HR HC HN HBY R B
        go_wp2
        go_roundg (m - (k + 1))
        case measure => omega
        case rel => exact ⟨k + 1, by omega, rfl, by go_num, E.out, fun _ => R'.out⟩
      · have hsz := hbel.size
        have HB := hide hbel
        have HO2 := hide hown
        have HLT := hide hown.lt
        have HBY := hide hby
        clear hbel hown hby
        go_wp2_with (at_builtin; refine wpList_append_own _ rfl _ _ 22 rfl w0.heap.size 5 i0 (.int .u8 0) 1 1 Try.underlying22 hi hz0 hz1 hz2 rfl (by decide) _ _ _ rfl (HO2.out.alloc _) ⟨wr.heap.size, 0, none⟩ 1 1 [.int .u8 (byteOf x k)] rfl rfl ?d1 ?d2 ?d3 ?d4 ?d5 ?_)
        case d1 =>
          intro j u hj
          match j, hj with
          | 0, hj => simp at hj; subst hj; simp [Addr.add, byteOf]
        case d2 => intro u hu; simp at hu; subst hu; rfl
        case d3 => unfold maxLen; omega
        case d4 => omega
        case d5 => simp; omega
        · intro v' w1 hown' hgrow _
          have R : w1.ownsRow w0.heap.size 5 1 v' (len + (k + 1)) ((bs ++ bytesOf x (k + 1)).map (Value.int .u8)) := by
            rw [bytesOf_succ]; simpa [Nat.add_assoc] using hown'
          have B : Below w0.heap.size w0 w1 := (HB.out.alloc hsz _).grown hgrow (by simp; omega) (fun j hj => (HLT.out j hj).1)
          have E : Hid (Ext w0 w1 v' (len + (k + 1)) (bs ++ bytesOf x (k + 1))) := ⟨B, .inr ⟨R, by rw [bytesOf_succ, ← List.append_assoc]; exact HBY.out.append (fun y hy => by simp at hy; rw [hy]; exact byteOf_bd x k)⟩⟩
          have R' := hide R
          clear hown' hgrow HO2 HB HLT HBY R B
          go_wp2
          go_roundg (m - (k + 1))
          case measure => omega
          case rel => exact ⟨k + 1, by omega, rfl, by go_num, E.out, fun _ => R'.out⟩
    · obtain rfl : k = m := by omega
      have HE := hide (hlast hm1)
      have HB := hide hbel
      clear hbel hcase hlast
      go_wp2
      go_ret
      exact ⟨_, rfl, HE.out, HB.out⟩


/-- Bytes written out in the text. -/
theorem Rd.litm {w : World} {X : Nat} {t : TypeId} {fr : Nat × Nat} (xs : List Int) (h : w.heap[X]? = some (.cells (xs.map (Value.int .u8)).toArray t fr)) (hf : Bytes xs) (hl : xs.length ≤ 9223372036854775807) : Rd w (some ⟨X, 0, none⟩) xs.length xs.length xs := by
  refine ⟨rfl, Nat.le_refl _, hl, hf, (fun h => by cases h), fun x hx i hi => ?_⟩
  cases hx
  have e : (⟨X, 0, none⟩ : Addr).add i = ⟨X, i, none⟩ := by unfold Addr.add; split <;> simp_all
  rw [e, cell_of_row _ _ i _ t fr h]
  simp [hi]

/-- A head as a value, and as three cells. -/
def hdV (o n x : Int) : Value := .agg #[.int .u64 o, .int .i64 n, .int .i64 x]
structure HdAt (w : World) (b : Nat) (o n x : Int) : Prop where
  o : w.cell? ⟨b, 0, none⟩ = some (.int .u64 o)
  n : w.cell? ⟨b, 1, none⟩ = some (.int .i64 n)
  x : w.cell? ⟨b, 2, none⟩ = some (.int .i64 x)
theorem HdAt.new (w : World) (t : TypeId) (o n x : Int) : HdAt (w.alloc (.cells #[.int .u64 o, .int .i64 n, .int .i64 x] t)) w.heap.size o n x :=
  ⟨by rw [cell_of_row _ _ 0 _ t (0, 0) (heap_alloc_new w _)]; rfl, by rw [cell_of_row _ _ 1 _ t (0, 0) (heap_alloc_new w _)]; rfl, by rw [cell_of_row _ _ 2 _ t (0, 0) (heap_alloc_new w _)]; rfl⟩
theorem HdAt.below {w w' : World} {b : Nat} {o n x : Int} (h : HdAt w b o n x) (hb : Below w.heap.size w w') : HdAt w' b o n x :=
  ⟨by rw [hb.cell (World.block_lt_of_cell? w _ h.o)]; exact h.o, by rw [hb.cell (World.block_lt_of_cell? w _ h.n)]; exact h.n, by rw [hb.cell (World.block_lt_of_cell? w _ h.x)]; exact h.x⟩

theorem kc_one (w1 : World) (o1 : Obj) (C : Array Value) (n c : Nat) : Sem.run Try.prog (convert 22 22 (.slice (some ⟨w1.heap.size + 1, 0, none⟩) n c)) ((w1.alloc o1).alloc (.cells C 5)) =
    .ok (.slice (some ⟨w1.heap.size + 1, 0, none⟩) n c) ((w1.alloc o1).alloc (.cells C 5 (C.size, C.size + 1))) := by
  have := Lib.run_convert_bytes_const (P := Try.prog) (w1.alloc o1) 22 5 C n c Try.underlying22 Try.underlying5
  rwa [show (w1.alloc o1).heap.size = w1.heap.size + 1 by simp] at this
theorem kc_zero (w : World) (C : Array Value) (n c : Nat) : Sem.run Try.prog (convert 22 22 (.slice (some ⟨w.heap.size, 0, none⟩) n c)) (w.alloc (.cells C 5)) =
    .ok (.slice (some ⟨w.heap.size, 0, none⟩) n c) (w.alloc (.cells C 5 (C.size, C.size + 1))) :=
  Lib.run_convert_bytes_const (P := Try.prog) w 22 5 C n c Try.underlying22 Try.underlying5

theorem bytesOf_u16 (n : Int) : bytesOf (n % 65536) 2 = bytesOf n 2 := by
  simp only [bytesOf, List.range, List.range.loop, List.map, byteOf]
  congr 1
  · omega
  · congr 1
    simp
    omega
theorem bytesOf_u64 (n : Int) : bytesOf (n % 18446744073709551616) 2 = bytesOf n 2 := by
  simp only [bytesOf, List.range, List.range.loop, List.map, byteOf]
  congr 1
  · omega
  · congr 1
    simp
    omega

theorem hbytes_any (o n x : Int) (w : World) (ho : 0 ≤ o) (ho' : o ≤ 18446744073709551615) (hn : -9223372036854775808 ≤ n) (hn' : n ≤ 9223372036854775807) (hx : -9223372036854775808 ≤ x) (hx' : x ≤ 9223372036854775807) :
    Calls Try.prog 13 #[hdV o n x] w fun e w' =>
      ∃ v', e = .returned v' ∧ w'.ownsRow w.heap.size 5 1 v' 64 ((hb o n x).map (Value.int .u8)) ∧ Below w.heap.size w w' := by
  have h0 := HdAt.new w 26 o n x
  have b0 : Below w.heap.size w (w.alloc (.cells #[.int .u64 o, .int .i64 n, .int .i64 x] 26)) := (Below.refl _ _).alloc (Nat.le_refl _) _
  have k1 := fun (C : Array Value) (l c : Nat) => kc_one w (.cells #[.int .u64 o, .int .i64 n, .int .i64 x] 26) C l c
  have z0 : (w.alloc (.cells #[.int .u64 o, .int .i64 n, .int .i64 x] 26)).heap.size = w.heap.size + 1 := by simp
  have H0 := hide h0
  have B0 := hide b0
  clear h0 b0
  unfold hdV
  go_enter Try.func13, Try.ntmps13
  go_wp2_with fail
  generalize hW : w.alloc (.cells #[.int .u64 o, .int .i64 n, .int .i64 x] 26) = W at *
  clear hW k1
  have r1 : Rd (W.alloc (.cells (identL.map (Value.int .u8)).toArray 5 (16, 17))) (some ⟨W.heap.size, 0, none⟩) 16 16 identL := Rd.litm identL (heap_alloc_new W _) identL_bytes (by decide)
  rw [z0] at r1
  have r2 := r1.below ((Below.refl _ _).alloc (Nat.le_refl _) (.cells ([1, 243].map (Value.int .u16)).toArray 34))
  have q2 := Rn.lit .u16 65535 34 (W.alloc (.cells (identL.map (Value.int .u8)).toArray 5 (16, 17))) [1, 243] (by intro x hx; simp at hx; omega) (by decide) (by decide)
  have e2 : (W.alloc (.cells (identL.map (Value.int .u8)).toArray 5 (16, 17))).heap.size = w.heap.size + 2 := by simp [z0]
  rw [e2] at q2
  have b2 : Below W.heap.size W ((W.alloc (.cells (identL.map (Value.int .u8)).toArray 5 (16, 17))).alloc (.cells ([1, 243].map (Value.int .u16)).toArray 34)) := ((Below.refl _ _).alloc (Nat.le_refl _) _).alloc (by simp) _
  refine (put16_any _ 16 16 identL _ 2 2 [1, 243] _ r2 q2 (by decide)).mono ?_
  rintro e W3 ⟨a3, l3, c3, rfl, hr3, hb3⟩
  have hl3 : l3 = 20 := by rw [← hr3.length]; rfl
  subst hl3
  have b3 : Below W.heap.size W W3 := b2.trans (hb3.mono (by simp; omega))
  have H3 := hide (H0.out.below b3)
  have B3 : Hid (Below w.heap.size w W3) := B0.out.trans (b3.mono (by omega))
  have R3 := hide hr3
  have z3 : w.heap.size ≤ W3.heap.size := B3.out.size
  clear r1 r2 q2 e2 b2 hr3 hb3 b3 H0 B0
  go_wp2_with fail
  refine (put32_any _ 20 c3 _ _ 1 1 [1] _ (R3.out.below ((Below.refl _ _).alloc (Nat.le_refl _) _)) (Rn.lit .u32 4294967295 51 W3 [1] (by intro x hx; simp at hx; omega) (by decide) (by decide)) (by decide)).mono ?_
  rintro e W4 ⟨a4, l4, c4, rfl, hr4, hb4⟩
  have hl4 : l4 = 24 := by rw [← hr4.length]; rfl
  subst hl4
  have b4 : Below W3.heap.size W3 W4 := ((Below.refl _ _).alloc (Nat.le_refl _) _).trans (hb4.mono (by simp))
  have H4 := hide (H3.out.below b4)
  have B4 : Hid (Below w.heap.size w W4) := B3.out.trans (b4.mono z3)
  have R4 := hide hr4
  have z4 : w.heap.size ≤ W4.heap.size := B4.out.size
  have c0 := H4.out.o
  clear hr4 hb4 b4 H3 B3 R3 z3
  go_wp2_with fail
  refine (put64_any _ 24 c4 _ _ 3 3 [0, 0, o] _ (R4.out.below ((Below.refl _ _).alloc (Nat.le_refl _) _)) (Rn.lit .u64 18446744073709551615 24 W4 [0, 0, o] (by intro x hx; simp at hx; omega) (by decide) (by simp)) (by decide)).mono ?_
  rintro e W5 ⟨a5, l5, c5, rfl, hr5, hb5⟩
  have hl5 : l5 = 48 := by rw [← hr5.length]; rfl
  subst hl5
  have b5 : Below W4.heap.size W4 W5 := ((Below.refl _ _).alloc (Nat.le_refl _) _).trans (hb5.mono (by simp))
  have H5 := hide (H4.out.below b5)
  have B5 : Hid (Below w.heap.size w W5) := B4.out.trans (b5.mono z4)
  have R5 := hide hr5
  have z5 : w.heap.size ≤ W5.heap.size := B5.out.size
  clear hr5 hb5 b5 H4 B4 R4 z4 c0
  go_wp2_with fail
  refine (put32_any _ 48 c5 _ _ 1 1 [0] _ (R5.out.below ((Below.refl _ _).alloc (Nat.le_refl _) _)) (Rn.lit .u32 4294967295 51 W5 [0] (by intro x hx; simp at hx; omega) (by decide) (by decide)) (by decide)).mono ?_
  rintro e W6 ⟨a6, l6, c6, rfl, hr6, hb6⟩
  have hl6 : l6 = 52 := by rw [← hr6.length]; rfl
  subst hl6
  have b6 : Below W5.heap.size W5 W6 := ((Below.refl _ _).alloc (Nat.le_refl _) _).trans (hb6.mono (by simp))
  have H6 := hide (H5.out.below b6)
  have B6 : Hid (Below w.heap.size w W6) := B5.out.trans (b6.mono z5)
  have R6 := hide hr6
  have z6 : w.heap.size ≤ W6.heap.size := B6.out.size
  have c1 := H6.out.n
  have c2 := H6.out.x
  clear hr6 hb6 b6 H5 B5 R5 z5
  go_wp2_with fail
  have wn : IntKind.u16.wrap n = n % 65536 := by simp [IntKind.wrap, IntKind.signed, IntKind.bits]
  have wx : IntKind.u16.wrap x = x % 65536 := by simp [IntKind.wrap, IntKind.signed, IntKind.bits]
  rw [wn, wx]
  refine (put16_own _ 52 c6 _ _ 6 6 [64, 0, 0, 64, n % 65536, x % 65536] _ (R6.out.below ((Below.refl _ _).alloc (Nat.le_refl _) _)) (Rn.lit .u16 65535 34 W6 [64, 0, 0, 64, n % 65536, x % 65536] (by intro y hy; simp at hy; omega) (by decide) (by simp)) (by decide)).mono ?_
  rintro e W7 ⟨v7, rfl, hr7, hb7⟩
  have b7 : Below W6.heap.size W6 W7 := ((Below.refl _ _).alloc (Nat.le_refl _) _).trans (hb7.mono (by simp))
  have B7 : Hid (Below w.heap.size w W7) := B6.out.trans (b7.mono z6)
  have e7 : identL ++ flat 2 [1, 243] ++ flat 4 [1] ++ flat 8 [0, 0, o] ++ flat 4 [0] ++ flat 2 [64, 0, 0, 64, n % 65536, x % 65536] = hb o n x := by
    simp only [flat, bytesOf_u16, List.append_assoc, List.append_nil]
    rfl
  rw [e7] at hr7
  have R7 := hide (ownsRow_mono hr7 (B := w.heap.size) (by simp; omega))
  clear hr7 hb7 b7 H6 B6 R6 e7 wn wx c1 c2
  go_wp2
  go_ret
  exact ⟨_, rfl, R7.out, B7.out⟩

end Go.Proofs.Ytijjkhigomkokaa
