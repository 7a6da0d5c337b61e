/- The walk of HeadKinds. -/
import Derived.Test.YtijjkhigomkokaaHeadRow
import Derived.Laws.IdiomStrings
namespace Go.Proofs.Ytijjkhigomkokaa
open Go.RowKit
set_option linter.unusedVariables false
set_option linter.unusedSimpArgs false

/-- The two beginnings, and what they begin. -/
def bgL (j : Nat) : List Int := if j = 0 then elfL else archL
def bgK (j : Nat) : Int := if j = 0 then 1 else 2

theorem kd_bg (j : Nat) (R : List Int) : kd (bgL j ++ R) = bgK j := by
  unfold bgL bgK kd
  split
  · rfl
  · rfl
theorem kd_cut (j : Nat) (R : List Int) : kd ((bgL j ++ R).take ((bgL j).length - 1)) = 0 := by
  unfold bgL kd
  split
  · rfl
  · rfl
theorem kd_set (j : Nat) (R : List Int) (p : Nat) (q : Int) (hp : p < (bgL j).length) (hq : q ≠ (bgL j).getD p 0) : kd ((bgL j ++ R).set p q) ≠ bgK j := by
  have hs : (bgL j ++ R).set p q = (bgL j).set p q ++ R := by rw [List.set_append_left _ _ hp]
  rw [hs]
  have hne : (bgL j).set p q ≠ bgL j := fun h => by
    have h1 := congrArg (fun l => l.getD p 0) h
    simp [hp] at h1
    apply hq
    simp [hp, h1]
  unfold bgK
  have e1 : elfL.length = 4 := rfl
  have e2 : archL.length = 8 := rfl
  unfold bgL at *
  split
  · next h0 =>
    rw [if_pos h0] at *
    have ht : (elfL.set p q ++ R).take 4 = elfL.set p q := by
      rw [List.take_append_of_le_length (by simp [e1])]
      exact List.take_of_length_le (by simp [e1])
    unfold kd
    rw [ht, if_neg hne]
    split <;> decide
  · next h0 =>
    rw [if_neg h0] at *
    have ht : (archL.set p q ++ R).take 8 = archL.set p q := by
      rw [List.take_append_of_le_length (by simp [e2])]
      exact List.take_of_length_le (by simp [e2])
    unfold kd
    rw [ht, if_neg hne]
    split <;> decide

theorem xor_same (a b : Nat) : a ^^^ b = a ↔ b = 0 := by
  constructor
  · intro h
    have h1 : a ^^^ (a ^^^ b) = a ^^^ a := by rw [h]
    rwa [← Nat.xor_assoc, Nat.xor_self, Nat.zero_xor] at h1
  · rintro rfl; simp

theorem kinds_walk (a : Option Addr) (l1 c1 : Nat) (bs : List Int) (a2 : Option Addr) (l2 c2 : Nat) (cs : List Int) (at' y : Int) (w : World) (r1 : Rd w a l1 c1 bs) (r2 : Rd w a2 l2 c2 cs) (hat : 0 ≤ at') (hat' : at' ≤ 255) (hy : 0 ≤ y) (hy' : y ≤ 255) :
    Calls Try.prog 7 #[.slice a l1 c1, .slice a2 l2 c2, .int .u8 at', .int .u8 y] w fun e w' => e = .returned (.bool true) ∧ Below w.heap.size w w' := by
  have hm1 := r1.max
  have hm2 := r2.max
  have hl1 := r1.le
  have hl2 := r2.le
  have R1 := hide r1
  have R2 := hide r2
  clear r1 r2
  obtain ⟨i0, hi, hz0, hz1, hz2⟩ := info_parts Try.info8
  have early : ∀ (t : decide ((100 : Int) < (l1 : Int)) = true ∨ (decide ((100 : Int) < (l1 : Int)) = false ∧ decide ((100 : Int) < (l2 : Int)) = true)),
      Calls Try.prog 7 #[.slice a l1 c1, .slice a2 l2 c2, .int .u8 at', .int .u8 y] w fun e w' => e = .returned (.bool true) ∧ Below w.heap.size w w' := by
    intro t
    rcases t with t1 | ⟨t1, t2⟩
    all_goals
      go_enter Try.func7, Try.ntmps7
      go_wp2_with fail
      refine (known_10 _).mono ?_
      rintro e W ⟨rfl, hb⟩
      have HB := hide hb
      clear hb
      go_wp2
      go_ret
      exact ⟨rfl, HB.out⟩
  by_cases q1 : 100 < l1
  · exact early (Or.inl (by simp; omega))
  have t1 : decide ((100 : Int) < (l1 : Int)) = false := by simp; omega
  by_cases q2 : 100 < l2
  · exact early (Or.inr ⟨t1, by simp; omega⟩)
  have t2 : decide ((100 : Int) < (l2 : Int)) = false := by simp; omega
  clear early
  go_enter Try.func7, Try.ntmps7
  go_wp2_with fail
  refine (known_10 _).mono ?_
  rintro e W ⟨rfl, hb⟩
  have HB := hide (hb.alloc hb.size (.cells #[.string ⟨#[127, 69, 76, 70]⟩, .string ⟨#[33, 60, 97, 114, 99, 104, 62, 10]⟩] 9))
  have hX : (W.alloc (.cells #[.string ⟨#[127, 69, 76, 70]⟩, .string ⟨#[33, 60, 97, 114, 99, 104, 62, 10]⟩] 9)).heap[W.heap.size]? = some (.cells #[.string ⟨#[127, 69, 76, 70]⟩, .string ⟨#[33, 60, 97, 114, 99, 104, 62, 10]⟩] 9 (0, 0)) := heap_alloc_new W _
  have HX := hide hX
  have z0 := hb.size
  clear hb hX
  go_wp2
  generalize hV : W.alloc (.cells #[.string ⟨#[127, 69, 76, 70]⟩, .string ⟨#[33, 60, 97, 114, 99, 104, 62, 10]⟩] 9) = V at *
  obtain ⟨X, hX⟩ : ∃ X, X = W.heap.size := ⟨_, rfl⟩
  rw [← hX] at HX z0 ⊢
  clear hV hX
  go_loopg [26] 2 (fun g i wr => ∃ j : Nat, j ≤ 2 ∧ g = 2 - j ∧ i = .int .i64 (j : Int) ∧ Hid (Below w.heap.size w wr ∧ wr.heap[X]? = some (.cells #[.string ⟨#[127, 69, 76, 70]⟩, .string ⟨#[33, 60, 97, 114, 99, 104, 62, 10]⟩] 9 (0, 0))))
  case atStart => exact ⟨0, by omega, rfl, rfl, HB.out, HX.out⟩
  case round =>
    obtain ⟨j, hj, rfl, rfl, HT⟩ := hrel
    clear HB HX
    by_cases h2 : j = 2
    · subst h2
      go_wp2
      go_ret
      exact ⟨rfl, HT.out.1⟩
    · have hj2 : j = 0 ∨ j = 1 := by omega
      rcases hj2 with rfl | rfl
      · have hcl : wr.cell? ⟨X, 0, none⟩ = some (.string ⟨#[127, 69, 76, 70]⟩) := by rw [cell_of_row _ _ 0 _ _ (0, 0) HT.out.2]; rfl
        have zw : w.heap.size ≤ wr.heap.size := HT.out.1.size
        have hXl : X < wr.heap.size := by
          rcases Nat.lt_or_ge X wr.heap.size with h5 | h5
          · exact h5
          · have h6 := HT.out.2
            rw [Array.getElem?_eq_none h5] at h6; cases h6
        have hsz : (⟨#[127, 69, 76, 70]⟩ : ByteArray).size = 4 := rfl
        have kb1 := run_bytes_of_string (P := Try.prog) wr 9 22 5 ⟨#[127, 69, 76, 70]⟩ Try.underlying9 Try.underlying22 Try.underlying5
        have hgc1 := grownCap_ge wr 4 0 5
        have hgm1 : grownCap wr 4 0 5 ≤ 9223372036854775807 := by have := grownCap_le_maxLen wr 4 0 5 (by decide); simpa [maxLen] using this
        rw [hsz] at kb1
        have hrow1 : Hid ((bytesRow ⟨#[127, 69, 76, 70]⟩ (grownCap wr 4 0 5)).size = grownCap wr 4 0 5 ∧ (bytesRow ⟨#[127, 69, 76, 70]⟩ (grownCap wr 4 0 5)).toList.take 4 = (elfL).map (Value.int .u8)) := by
          refine ⟨?_, ?_⟩
          · simp [bytesRow, ByteArray.size]; omega
          · simp [bytesRow, elfL]
        generalize grownCap wr 4 0 5 = C1 at *
        generalize bytesRow ⟨#[127, 69, 76, 70]⟩ C1 = D1 at *
        rw [hrow1.out.1] at kb1
        have hV1 : Hid ((wr.drew.alloc (.cells D1 5 (C1, C1 + 1))).heap[wr.heap.size]? = some (.cells D1 5 (C1, C1 + 1))) := heap_alloc_new wr.drew _
        have bV1 : Hid (Below wr.heap.size wr (wr.drew.alloc (.cells D1 5 (C1, C1 + 1)))) := ((Below.refl wr.heap.size wr).drew).alloc (Nat.le_refl _) _
        have RV1 := hide ((R1.out.below HT.out.1).below bV1.out)
        go_wp2_with (at_builtin; refine wpList_append_mark _ rfl _ _ rfl i0 hi hz0 hz1 hz2 wr.heap.size wr.heap.size 4 C1 D1 elfL rfl hV1.out hrow1.out.1 hrow1.out.2 rfl elf_bytes hgc1 (by decide) (by decide) hgm1 (Nat.le_refl _) a l1 c1 bs rfl RV1.out (by omega) ?_)
        intro g1 k1 W1 hcr1 hb1
        have E1 := hide (bV1.out.trans hb1)
        have CR1 := hide hcr1
        have hk1 := hcr1.le
        have hk1' := hcr1.max
        clear hcr1 hb1 RV1 hV1 bV1 hrow1 hgc1 hgm1 kb1 hcl
        have kb2 := run_bytes_of_string (P := Try.prog) W1 9 22 5 ⟨#[127, 69, 76, 70]⟩ Try.underlying9 Try.underlying22 Try.underlying5
        have hgc2 := grownCap_ge W1 4 0 5
        have hgm2 : grownCap W1 4 0 5 ≤ 9223372036854775807 := by have := grownCap_le_maxLen W1 4 0 5 (by decide); simpa [maxLen] using this
        rw [hsz] at kb2
        have hrow2 : Hid ((bytesRow ⟨#[127, 69, 76, 70]⟩ (grownCap W1 4 0 5)).size = grownCap W1 4 0 5 ∧ (bytesRow ⟨#[127, 69, 76, 70]⟩ (grownCap W1 4 0 5)).toList.take 4 = (elfL).map (Value.int .u8)) := by
          refine ⟨?_, ?_⟩
          · simp [bytesRow, ByteArray.size]; omega
          · simp [bytesRow, elfL]
        generalize grownCap W1 4 0 5 = C2 at *
        generalize bytesRow ⟨#[127, 69, 76, 70]⟩ C2 = D2 at *
        rw [hrow2.out.1] at kb2
        have hV2 : Hid ((W1.drew.alloc (.cells D2 5 (C2, C2 + 1))).heap[W1.heap.size]? = some (.cells D2 5 (C2, C2 + 1))) := heap_alloc_new W1.drew _
        have bV2 : Hid (Below W1.heap.size W1 (W1.drew.alloc (.cells D2 5 (C2, C2 + 1)))) := ((Below.refl W1.heap.size W1).drew).alloc (Nat.le_refl _) _
        have RV2 := hide (((R2.out.below HT.out.1).below E1.out).below bV2.out)
        go_wp2_with (at_builtin; refine wpList_append_mark _ rfl _ _ rfl i0 hi hz0 hz1 hz2 W1.heap.size W1.heap.size 4 C2 D2 elfL rfl hV2.out hrow2.out.1 hrow2.out.2 rfl elf_bytes hgc2 (by decide) (by decide) hgm2 (Nat.le_refl _) a2 l2 c2 cs rfl RV2.out (by omega) ?_)
        intro g2 k2 W2 hcr2 hb2
        have e2 : Below W1.heap.size W1 W2 := bV2.out.trans hb2
        have z1 := E1.out.size
        have E2 := hide (E1.out.trans (e2.mono z1))
        have CR2 := hide hcr2
        have CR12 := hide (CR1.out.below e2)
        have K1 := hide (kind_any _ _ _ _ W2 CR12.out.rd)
        have hk2 := hcr2.le
        have hk2' := hcr2.max
        have kk1 : kd (elfL ++ bs) = 1 := kd_bg 0 bs
        have kk2 : kd (elfL ++ cs) = 1 := kd_bg 0 cs
        rw [kk1] at K1
        clear hcr2 hb2 RV2 hV2 bV2 hrow2 hgc2 hgm2 kb2 e2 CR1 E1
        go_wp2_with fail
        refine K1.out.mono ?_
        rintro e W3 ⟨rfl, hb3⟩
        have z2 := E2.out.size
        have E3 := hide (E2.out.trans (hb3.mono z2))
        have CR3 := hide (CR12.out.below hb3)
        have K2 := hide (kind_any _ _ _ _ W3 (CR2.out.below hb3).rd)
        rw [kk2] at K2
        clear hb3 K1 E2 CR12 CR2
        go_wp2_with fail
        refine K2.out.mono ?_
        rintro e W4 ⟨rfl, hb4⟩
        have z3 := E3.out.size
        have E4 := hide (E3.out.trans (hb4.mono z3))
        have CR4 := hide (CR3.out.below hb4)
        have K3 := hide (kind_any _ _ _ _ W4 (CR4.out.rd.front 3 (by omega)))
        have kc := kd_cut 0 bs
        rw [show (bgL 0).length - 1 = 3 from rfl] at kc
        have kc3 : kd ((elfL ++ bs).take 3) = 0 := kc
        rw [kc3] at K3
        clear hb4 K2 E3 CR3 kc kc3 kk2
        go_wp2_with fail
        refine K3.out.mono ?_
        rintro e W5 ⟨rfl, hb5⟩
        have z4 := E4.out.size
        have E5 := hide (E4.out.trans (hb5.mono z4))
        have CR5 := hide (CR4.out.below hb5)
        clear hb5 K3 E4 CR4
        obtain ⟨p, hp⟩ : ∃ p : Nat, at' % 4 = (p : Int) := ⟨(at' % 4).toNat, by omega⟩
        have hp1 : p < 4 := by omega
        have hpl : p < 4 + l1 := by omega
        obtain ⟨u, hu⟩ : ∃ u, u = (elfL ++ bs).getD p 0 := ⟨_, rfl⟩
        have huL : u = (bgL 0).getD p 0 := by rw [hu]; simp [bgL, List.getElem?_append_left (show p < (elfL).length from hp1)]
        have hub : 0 ≤ u ∧ u ≤ 255 := by rw [hu]; have := CR5.out.bytes.at p; simpa using this
        have hcell := CR5.out.cell p hpl
        have hfz := CR5.out.free p hpl
        rw [← hu] at hcell
        obtain ⟨q, hq⟩ : ∃ q, bits .xor .u8 u y = q := ⟨_, rfl⟩
        have hqq : (0 ≤ q ∧ q ≤ 255) ∧ (q = u ↔ y = 0) := by
          obtain ⟨u', hu'⟩ := Int.eq_ofNat_of_zero_le hub.1
          obtain ⟨y', hy''⟩ := Int.eq_ofNat_of_zero_le hy
          have hx := xor_u8 u' y' (by omega) (by omega)
          have hs := xor_same u' y'
          rw [← hq, hu', hy'', hx.1]
          constructor
          · omega
          · constructor
            · intro h
              have h1 : u' ^^^ y' = u' := by exact_mod_cast h
              have := hs.1 h1
              omega
            · intro h
              have h1 : y' = 0 := by omega
              rw [hs.2 h1]
        have CR6 := hide (CR5.out.set p q hpl hqq.1)
        have E6 : Hid (Below wr.heap.size wr (W5.setCell ⟨g1, p, none⟩ (.int .u8 q))) := hide (E5.out.setCell CR5.out.lo _)
        have z5 := E6.out.size
        have K4 := hide (kind_any _ _ _ _ _ CR6.out.rd)
        obtain ⟨kq, hkq⟩ : ∃ kq, kd ((elfL ++ bs).set p q) = kq := ⟨_, rfl⟩
        have hkk : (kq == 1) = (y == 0) := by
          by_cases h0 : y = 0
          · have h1 : q = u := hqq.2.2 h0
            have h3 : (elfL ++ bs).set p q = elfL ++ bs := by
              rw [h1, hu]
              apply List.ext_getElem?
              intro i
              by_cases hi : p = i
              · subst hi
                have hlt : p < (elfL ++ bs).length := by have := CR5.out.length; omega
                rw [List.getElem?_set_self hlt, List.getElem?_eq_getElem hlt, List.getD_eq_getElem?_getD, List.getElem?_eq_getElem hlt]
                rfl
              · rw [List.getElem?_set_ne hi]
            rw [← hkq, h3, kk1, h0]
            rfl
          · have h1 : q ≠ (bgL 0).getD p 0 := fun h => h0 (hqq.2.1 (by rw [h, huL]))
            have h2 : kq ≠ 1 := by
              rw [← hkq]
              exact kd_set 0 bs p q hp1 h1
            rw [beq_eq_false_iff_ne.2 h2, beq_eq_false_iff_ne.2 h0]
        rw [hkq] at K4
        have hu0 := hub.1
        have hu1 := hub.2
        clear hub hqq CR5 E5 CR6 hu huL hkq kk1
        go_upto_region 16 with fail
        generalize W5.setCell ⟨g1, p, none⟩ (.int .u8 q) = V6 at *
        clear hcell hfz
        go_wp2_with fail
        refine K4.out.mono ?_
        rintro e W7 ⟨rfl, hb7⟩
        have E7 := hide (E6.out.trans (hb7.mono z5))
        have HF : Hid (Below w.heap.size w W7 ∧ W7.heap[X]? = some (.cells #[.string ⟨#[127, 69, 76, 70]⟩, .string ⟨#[33, 60, 97, 114, 99, 104, 62, 10]⟩] 9 (0, 0))) := ⟨HT.out.1.trans (E7.out.mono zw), (E7.out.block X hXl).trans HT.out.2⟩
        clear hb7 K4 E6 HT
        go_wp2
        go_roundg (1)
        case measure => omega
        case rel => exact ⟨1, by omega, rfl, rfl, HF.out⟩
      · have hcl : wr.cell? ⟨X, 1, none⟩ = some (.string ⟨#[33, 60, 97, 114, 99, 104, 62, 10]⟩) := by rw [cell_of_row _ _ 1 _ _ (0, 0) HT.out.2]; rfl
        have zw : w.heap.size ≤ wr.heap.size := HT.out.1.size
        have hXl : X < wr.heap.size := by
          rcases Nat.lt_or_ge X wr.heap.size with h5 | h5
          · exact h5
          · have h6 := HT.out.2
            rw [Array.getElem?_eq_none h5] at h6; cases h6
        have hsz : (⟨#[33, 60, 97, 114, 99, 104, 62, 10]⟩ : ByteArray).size = 8 := rfl
        have kb1 := run_bytes_of_string (P := Try.prog) wr 9 22 5 ⟨#[33, 60, 97, 114, 99, 104, 62, 10]⟩ Try.underlying9 Try.underlying22 Try.underlying5
        have hgc1 := grownCap_ge wr 8 0 5
        have hgm1 : grownCap wr 8 0 5 ≤ 9223372036854775807 := by have := grownCap_le_maxLen wr 8 0 5 (by decide); simpa [maxLen] using this
        rw [hsz] at kb1
        have hrow1 : Hid ((bytesRow ⟨#[33, 60, 97, 114, 99, 104, 62, 10]⟩ (grownCap wr 8 0 5)).size = grownCap wr 8 0 5 ∧ (bytesRow ⟨#[33, 60, 97, 114, 99, 104, 62, 10]⟩ (grownCap wr 8 0 5)).toList.take 8 = (archL).map (Value.int .u8)) := by
          refine ⟨?_, ?_⟩
          · simp [bytesRow, ByteArray.size]; omega
          · simp [bytesRow, archL]
        generalize grownCap wr 8 0 5 = C1 at *
        generalize bytesRow ⟨#[33, 60, 97, 114, 99, 104, 62, 10]⟩ C1 = D1 at *
        rw [hrow1.out.1] at kb1
        have hV1 : Hid ((wr.drew.alloc (.cells D1 5 (C1, C1 + 1))).heap[wr.heap.size]? = some (.cells D1 5 (C1, C1 + 1))) := heap_alloc_new wr.drew _
        have bV1 : Hid (Below wr.heap.size wr (wr.drew.alloc (.cells D1 5 (C1, C1 + 1)))) := ((Below.refl wr.heap.size wr).drew).alloc (Nat.le_refl _) _
        have RV1 := hide ((R1.out.below HT.out.1).below bV1.out)
        go_wp2_with (at_builtin; refine wpList_append_mark _ rfl _ _ rfl i0 hi hz0 hz1 hz2 wr.heap.size wr.heap.size 8 C1 D1 archL rfl hV1.out hrow1.out.1 hrow1.out.2 rfl arch_bytes hgc1 (by decide) (by decide) hgm1 (Nat.le_refl _) a l1 c1 bs rfl RV1.out (by omega) ?_)
        intro g1 k1 W1 hcr1 hb1
        have E1 := hide (bV1.out.trans hb1)
        have CR1 := hide hcr1
        have hk1 := hcr1.le
        have hk1' := hcr1.max
        clear hcr1 hb1 RV1 hV1 bV1 hrow1 hgc1 hgm1 kb1 hcl
        have kb2 := run_bytes_of_string (P := Try.prog) W1 9 22 5 ⟨#[33, 60, 97, 114, 99, 104, 62, 10]⟩ Try.underlying9 Try.underlying22 Try.underlying5
        have hgc2 := grownCap_ge W1 8 0 5
        have hgm2 : grownCap W1 8 0 5 ≤ 9223372036854775807 := by have := grownCap_le_maxLen W1 8 0 5 (by decide); simpa [maxLen] using this
        rw [hsz] at kb2
        have hrow2 : Hid ((bytesRow ⟨#[33, 60, 97, 114, 99, 104, 62, 10]⟩ (grownCap W1 8 0 5)).size = grownCap W1 8 0 5 ∧ (bytesRow ⟨#[33, 60, 97, 114, 99, 104, 62, 10]⟩ (grownCap W1 8 0 5)).toList.take 8 = (archL).map (Value.int .u8)) := by
          refine ⟨?_, ?_⟩
          · simp [bytesRow, ByteArray.size]; omega
          · simp [bytesRow, archL]
        generalize grownCap W1 8 0 5 = C2 at *
        generalize bytesRow ⟨#[33, 60, 97, 114, 99, 104, 62, 10]⟩ C2 = D2 at *
        rw [hrow2.out.1] at kb2
        have hV2 : Hid ((W1.drew.alloc (.cells D2 5 (C2, C2 + 1))).heap[W1.heap.size]? = some (.cells D2 5 (C2, C2 + 1))) := heap_alloc_new W1.drew _
        have bV2 : Hid (Below W1.heap.size W1 (W1.drew.alloc (.cells D2 5 (C2, C2 + 1)))) := ((Below.refl W1.heap.size W1).drew).alloc (Nat.le_refl _) _
        have RV2 := hide (((R2.out.below HT.out.1).below E1.out).below bV2.out)
        go_wp2_with (at_builtin; refine wpList_append_mark _ rfl _ _ rfl i0 hi hz0 hz1 hz2 W1.heap.size W1.heap.size 8 C2 D2 archL rfl hV2.out hrow2.out.1 hrow2.out.2 rfl arch_bytes hgc2 (by decide) (by decide) hgm2 (Nat.le_refl _) a2 l2 c2 cs rfl RV2.out (by omega) ?_)
        intro g2 k2 W2 hcr2 hb2
        have e2 : Below W1.heap.size W1 W2 := bV2.out.trans hb2
        have z1 := E1.out.size
        have E2 := hide (E1.out.trans (e2.mono z1))
        have CR2 := hide hcr2
        have CR12 := hide (CR1.out.below e2)
        have K1 := hide (kind_any _ _ _ _ W2 CR12.out.rd)
        have hk2 := hcr2.le
        have hk2' := hcr2.max
        have kk1 : kd (archL ++ bs) = 2 := kd_bg 1 bs
        have kk2 : kd (archL ++ cs) = 2 := kd_bg 1 cs
        rw [kk1] at K1
        clear hcr2 hb2 RV2 hV2 bV2 hrow2 hgc2 hgm2 kb2 e2 CR1 E1
        go_wp2_with fail
        refine K1.out.mono ?_
        rintro e W3 ⟨rfl, hb3⟩
        have z2 := E2.out.size
        have E3 := hide (E2.out.trans (hb3.mono z2))
        have CR3 := hide (CR12.out.below hb3)
        have K2 := hide (kind_any _ _ _ _ W3 (CR2.out.below hb3).rd)
        rw [kk2] at K2
        clear hb3 K1 E2 CR12 CR2
        go_wp2_with fail
        refine K2.out.mono ?_
        rintro e W4 ⟨rfl, hb4⟩
        have z3 := E3.out.size
        have E4 := hide (E3.out.trans (hb4.mono z3))
        have CR4 := hide (CR3.out.below hb4)
        have K3 := hide (kind_any _ _ _ _ W4 (CR4.out.rd.front 7 (by omega)))
        have kc := kd_cut 1 bs
        rw [show (bgL 1).length - 1 = 7 from rfl] at kc
        have kc3 : kd ((archL ++ bs).take 7) = 0 := kc
        rw [kc3] at K3
        clear hb4 K2 E3 CR3 kc kc3 kk2
        go_wp2_with fail
        refine K3.out.mono ?_
        rintro e W5 ⟨rfl, hb5⟩
        have z4 := E4.out.size
        have E5 := hide (E4.out.trans (hb5.mono z4))
        have CR5 := hide (CR4.out.below hb5)
        clear hb5 K3 E4 CR4
        obtain ⟨p, hp⟩ : ∃ p : Nat, at' % 8 = (p : Int) := ⟨(at' % 8).toNat, by omega⟩
        have hp1 : p < 8 := by omega
        have hpl : p < 8 + l1 := by omega
        obtain ⟨u, hu⟩ : ∃ u, u = (archL ++ bs).getD p 0 := ⟨_, rfl⟩
        have huL : u = (bgL 1).getD p 0 := by rw [hu]; simp [bgL, List.getElem?_append_left (show p < (archL).length from hp1)]
        have hub : 0 ≤ u ∧ u ≤ 255 := by rw [hu]; have := CR5.out.bytes.at p; simpa using this
        have hcell := CR5.out.cell p hpl
        have hfz := CR5.out.free p hpl
        rw [← hu] at hcell
        obtain ⟨q, hq⟩ : ∃ q, bits .xor .u8 u y = q := ⟨_, rfl⟩
        have hqq : (0 ≤ q ∧ q ≤ 255) ∧ (q = u ↔ y = 0) := by
          obtain ⟨u', hu'⟩ := Int.eq_ofNat_of_zero_le hub.1
          obtain ⟨y', hy''⟩ := Int.eq_ofNat_of_zero_le hy
          have hx := xor_u8 u' y' (by omega) (by omega)
          have hs := xor_same u' y'
          rw [← hq, hu', hy'', hx.1]
          constructor
          · omega
          · constructor
            · intro h
              have h1 : u' ^^^ y' = u' := by exact_mod_cast h
              have := hs.1 h1
              omega
            · intro h
              have h1 : y' = 0 := by omega
              rw [hs.2 h1]
        have CR6 := hide (CR5.out.set p q hpl hqq.1)
        have E6 : Hid (Below wr.heap.size wr (W5.setCell ⟨g1, p, none⟩ (.int .u8 q))) := hide (E5.out.setCell CR5.out.lo _)
        have z5 := E6.out.size
        have K4 := hide (kind_any _ _ _ _ _ CR6.out.rd)
        obtain ⟨kq, hkq⟩ : ∃ kq, kd ((archL ++ bs).set p q) = kq := ⟨_, rfl⟩
        have hkk : (kq == 2) = (y == 0) := by
          by_cases h0 : y = 0
          · have h1 : q = u := hqq.2.2 h0
            have h3 : (archL ++ bs).set p q = archL ++ bs := by
              rw [h1, hu]
              apply List.ext_getElem?
              intro i
              by_cases hi : p = i
              · subst hi
                have hlt : p < (archL ++ bs).length := by have := CR5.out.length; omega
                rw [List.getElem?_set_self hlt, List.getElem?_eq_getElem hlt, List.getD_eq_getElem?_getD, List.getElem?_eq_getElem hlt]
                rfl
              · rw [List.getElem?_set_ne hi]
            rw [← hkq, h3, kk1, h0]
            rfl
          · have h1 : q ≠ (bgL 1).getD p 0 := fun h => h0 (hqq.2.1 (by rw [h, huL]))
            have h2 : kq ≠ 2 := by
              rw [← hkq]
              exact kd_set 1 bs p q hp1 h1
            rw [beq_eq_false_iff_ne.2 h2, beq_eq_false_iff_ne.2 h0]
        rw [hkq] at K4
        have hu0 := hub.1
        have hu1 := hub.2
        clear hub hqq CR5 E5 CR6 hu huL hkq kk1
        go_upto_region 16 with fail
        generalize W5.setCell ⟨g1, p, none⟩ (.int .u8 q) = V6 at *
        clear hcell hfz
        go_wp2_with fail
        refine K4.out.mono ?_
        rintro e W7 ⟨rfl, hb7⟩
        have E7 := hide (E6.out.trans (hb7.mono z5))
        have HF : Hid (Below w.heap.size w W7 ∧ W7.heap[X]? = some (.cells #[.string ⟨#[127, 69, 76, 70]⟩, .string ⟨#[33, 60, 97, 114, 99, 104, 62, 10]⟩] 9 (0, 0))) := ⟨HT.out.1.trans (E7.out.mono zw), (E7.out.block X hXl).trans HT.out.2⟩
        clear hb7 K4 E6 HT
        go_wp2
        go_roundg (0)
        case measure => omega
        case rel => exact ⟨2, by omega, rfl, rfl, HF.out⟩

end Go.Proofs.Ytijjkhigomkokaa
