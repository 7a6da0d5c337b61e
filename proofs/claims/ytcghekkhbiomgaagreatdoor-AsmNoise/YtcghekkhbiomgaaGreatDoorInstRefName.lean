/- Contracts of the document's Name and Find. -/
import Derived.Test.YtcghekkhbiomgaaGreatDoorInstKnown
namespace Go.Proofs.YtcghekkhbiomgaaGreatDoor
open Go.RowKit
set_option linter.unusedVariables false
set_option maxRecDepth 100000
set_option linter.unusedSimpArgs false

/-- The document's names in one text, each closed by a blank. -/
def textL : List UInt8 := [108, 117, 105, 32, 97, 117, 105, 112, 99, 32, 106, 97, 108, 32, 106, 97, 108, 114, 32, 98, 101, 113, 32, 98, 110, 101, 32, 98, 108, 116, 32, 98, 103, 101, 32, 98, 108, 116, 117, 32, 98, 103, 101, 117, 32, 108, 98, 32, 108, 104, 32, 108, 119, 32, 108, 100, 32, 108, 98, 117, 32, 108, 104, 117, 32, 108, 119, 117, 32, 115, 98, 32, 115, 104, 32, 115, 119, 32, 115, 100, 32, 97, 100, 100, 105, 32, 115, 108, 116, 105, 32, 115, 108, 116, 105, 117, 32, 120, 111, 114, 105, 32, 111, 114, 105, 32, 97, 110, 100, 105, 32, 115, 108, 108, 105, 32, 115, 114, 108, 105, 32, 115, 114, 97, 105, 32, 97, 100, 100, 32, 115, 117, 98, 32, 115, 108, 108, 32, 115, 108, 116, 32, 115, 108, 116, 117, 32, 120, 111, 114, 32, 115, 114, 108, 32, 115, 114, 97, 32, 111, 114, 32, 97, 110, 100, 32, 97, 100, 100, 105, 119, 32, 115, 108, 108, 105, 119, 32, 115, 114, 108, 105, 119, 32, 115, 114, 97, 105, 119, 32, 97, 100, 100, 119, 32, 115, 117, 98, 119, 32, 115, 108, 108, 119, 32, 115, 114, 108, 119, 32, 115, 114, 97, 119, 32, 109, 117, 108, 32, 109, 117, 108, 104, 32, 109, 117, 108, 104, 115, 117, 32, 109, 117, 108, 104, 117, 32, 100, 105, 118, 32, 100, 105, 118, 117, 32, 114, 101, 109, 32, 114, 101, 109, 117, 32, 109, 117, 108, 119, 32, 100, 105, 118, 119, 32, 100, 105, 118, 117, 119, 32, 114, 101, 109, 119, 32, 114, 101, 109, 117, 119, 32, 102, 101, 110, 99, 101, 32, 101, 99, 97, 108, 108, 32, 101, 98, 114, 101, 97, 107, 32]
def posL : List Nat := [0, 3, 9, 13, 18, 22, 26, 30, 34, 39, 44, 47, 50, 53, 56, 60, 64, 68, 71, 74, 77, 80, 85, 90, 96, 101, 105, 110, 115, 120, 125, 129, 133, 137, 141, 146, 150, 154, 158, 161, 165, 171, 177, 183, 189, 194, 199, 204, 209, 214, 218, 223, 230, 236, 240, 245, 249, 254, 259, 264, 270, 275, 281, 287, 293, 300]
def txt : ByteArray := ⟨textL.toArray⟩
/-- Behind the first i signs: where the name begins, its number. -/
def st : Nat → Nat × Nat
  | 0 => (0, 1)
  | i + 1 => if textL.getD i 0 = 32 then (i + 1, (st i).2 + 1) else st i

theorem txt_len : textL.length = 301 := by decide +kernel
theorem st_le : ∀ n, (st n).1 ≤ n ∧ (st n).2 ≤ n + 1
  | 0 => by decide
  | n + 1 => by
    have := st_le n
    unfold st
    split
    · simp; omega
    · omega
theorem st_name : ∀ n, n < 301 → (textL.getD n 0 = 32 → txt.extract (st n).1 n = nm (st n).2 ∧ 1 ≤ (st n).2 ∧ (st n).2 < 66) := by decide +kernel
theorem st_pos : ∀ k, k < 66 → (1 ≤ k → posL.getD k 0 < 301 ∧ textL.getD (posL.getD k 0) 0 = 32 ∧ (st (posL.getD k 0)).2 = k) := by decide +kernel
theorem txt_at {n : Nat} (h : n < txt.size) (h' : n < 301) : ((txt[n]'h).toNat : Int) = ((textL.getD n 0).toNat : Int) := by
  have : (txt[n]'h) = textL.getD n 0 := by
    have hl : n < textL.length := by rw [txt_len]; exact h'
    rw [List.getD_eq_getElem?_getD, List.getElem?_eq_getElem hl]
    rfl
  rw [this]

theorem chr_32 {a : UInt8} {y : Int} (h : y = (a.toNat : Int)) (h2 : (y != 32) = false) : a = 32 := by
  have h3 : y = 32 := by simpa using h2
  have h4 : a.toNat = 32 := by omega
  exact UInt8.toNat_inj.1 h4

set_option maxRecDepth 100000 in
theorem rname_any (op : Int) (w : World) :
    Calls Tryz.prog 20 #[.int .i64 op] w fun e w' => e = .returned (.string (nmo op)) ∧ w' = w := by
  go_enter Tryz.func20, Tryz.ntmps20
  go_wp2
  go_loop [3, 4, 5] (fun f k i => ∃ n : Nat, n ≤ 301 ∧ i = .int .i64 n ∧ f = .int .i64 (st n).1 ∧ k = .int .i64 (st n).2 ∧ ∀ j, j < n → textL.getD j 0 = 32 → ((st j).2 : Int) ≠ op) (fun _ _ i => 301 - (intOf i).toNat)
  case atStart => exact ⟨0, by decide, rfl, rfl, rfl, fun j h => absurd h (by omega)⟩
  case round =>
    obtain ⟨n, hn, rfl, rfl, rfl, hno⟩ := hrel
    have HO := hide hno
    have hst := st_le n
    have HS : Hid (st (n + 1) = if textL.getD n 0 = 32 then (n + 1, (st n).2 + 1) else st n) := hide rfl
    have HN := hide (st_name n)
    clear hno
    obtain ⟨f, hf⟩ : ∃ f, f = (st n).1 := ⟨_, rfl⟩
    obtain ⟨k, hk⟩ : ∃ k, k = (st n).2 := ⟨_, rfl⟩
    rw [← hf, ← hk] at hst ⊢
    rw [← hf, ← hk] at HN
    rw [← hk] at HS
    have HF := hide hf
    have HK := hide hk
    clear hf hk
    obtain ⟨s1, s2⟩ := hst
    by_cases hlt : n < 301
    · have hlt' : (n : Int) < 301 := by omega
      have s1' : (f : Int) ≤ n := by omega
      have s2' : (k : Int) ≤ n + 1 := by omega
      have hsz : txt.size = 301 := by decide +kernel
      have hsl : (Instr.slice 9 (.string txt) (some (.int .i64 f)) (some (.int .i64 n)) none).run Tryz.prog w = .ok (.string (txt.extract f n)) w :=
        run_slice_string w 9 txt .i64 .i64 f n Tryz.underlying9 (by omega) (by omega) (by rw [hsz]; omega)
      have HX := hide (fun h : n < txt.size => txt_at h hlt)
      have HZ := hide (show n < txt.size by rw [hsz]; exact hlt)
      have HSL := hide hsl
      clear hsl hsz
      go_wp2
      · rename_i ht
        have hc : ¬ textL.getD n 0 = 32 := fun h => by
          have h1 := HX.out HZ.out
          rw [h] at h1
          have h2 : (((txt[n]'HZ.out).toNat : Int) != 32) = true := ht
          rw [h1] at h2
          exact absurd h2 (by decide)
        go_round
        case rel =>
          have hs := HS.out
          rw [if_neg hc] at hs
          refine ⟨n + 1, by omega, by go_num, by rw [hs, HF.out], by rw [hs, HK.out], fun j h1 h2 => ?_⟩
          rcases Nat.lt_or_ge j n with h3 | h3
          · exact HO.out j h3 h2
          · obtain rfl : j = n := by omega
            exact absurd h2 hc
        case measure => simp [intOf]; omega
      · have h1 := HX.out HZ.out
        have h2 : (((txt[n]'HZ.out).toNat : Int) != 32) = false := by assumption
        have h3 : ((k : Int) == op) = true := by assumption
        have hc := chr_32 h1 h2
        have hop : (k : Int) = op := by simpa using h3
        have hsl : (Instr.slice 9 (.string txt) (some (.int .i64 f)) (some (.int .i64 n)) none).run Tryz.prog w = .ok (.string (txt.extract f n)) w := HSL.out
        unfold txt textL at hsl
        rw [hsl]
        clear hsl h1 h2
        obtain ⟨n1, n2, n3⟩ := HN.out hlt hc
        have HE : Hid (Value.string (txt.extract f n) = .string (nmo op)) := hide (by rw [n1, ← hop]; unfold nmo knw; rw [if_pos (by simp; omega)]; rfl)
        clear hop n1 hc h3
        go_wp2
        go_ret
        refine ⟨?_, rfl⟩
        rw [← HE.out]
        rfl
      · have h1 := HX.out HZ.out
        have h2 : (((txt[n]'HZ.out).toNat : Int) != 32) = false := by assumption
        have h3 : ((k : Int) == op) = false := by assumption
        have hc := chr_32 h1 h2
        have hop : (k : Int) ≠ op := by simpa using h3
        go_round
        case rel =>
          have hs := HS.out
          rw [if_pos hc] at hs
          refine ⟨n + 1, by omega, by go_num, by rw [hs]; go_num, by rw [hs]; go_num, fun j h1 h2 => ?_⟩
          rcases Nat.lt_or_ge j n with h3 | h3
          · exact HO.out j h3 h2
          · obtain rfl : j = n := by omega
            rw [← HK.out]
            exact hop
        case measure => simp [intOf]; omega
    · have : n = 301 := by omega
      subst this
      go_wp2
      go_ret
      refine ⟨?_, rfl⟩
      have : nmo op = ⟨#[]⟩ := by
        unfold nmo
        by_cases h : knw op = true
        · exfalso
          have hr : 0 < op ∧ op < 66 := by simpa [knw] using h
          obtain ⟨p1, p2, p3⟩ := st_pos op.toNat (by omega) (by omega)
          exact HO.out _ p1 p2 (by rw [p3]; omega)
        · rw [if_neg h]
      rw [this]
      rfl

theorem nm_some : ∀ k, k < 66 → (1 ≤ k → nm k ≠ ⟨#[]⟩) := by decide +kernel
theorem nmo_k {k : Nat} (hk : 1 ≤ k) (hk' : k < 66) : nmo k = nm k := by
  unfold nmo knw
  rw [if_pos (by simp; omega)]; rfl

theorem str_some {s : ByteArray} (h : s ≠ ⟨#[]⟩) : s.toList.isEmpty = false := by
  rw [ByteArray.toList_eq]
  rw [Bool.eq_false_iff]
  intro h2
  apply h
  apply ByteArray.ext
  simpa using h2

theorem rfind_any (s : ByteArray) (w : World) :
    Calls Tryz.prog 34 #[.string s] w fun e w' => FindIs s e ∧ w' = w := by
  have HN := hide (fun op => rname_any op w)
  go_enter Tryz.func34, Tryz.ntmps34
  go_wp2
  go_loop [4] (fun i => ∃ k : Nat, 1 ≤ k ∧ k ≤ 66 ∧ i = .int .i64 k ∧ ∀ j : Nat, 1 ≤ j → j < k → nm j ≠ s) (fun i => 66 - (intOf i).toNat)
  case atStart => exact ⟨1, by decide, by decide, rfl, fun j h1 h2 => by omega⟩
  case round =>
    obtain ⟨k, hk1, hk, rfl, hno⟩ := hrel
    have HO := hide hno
    clear hno
    by_cases hlt : k < 66
    · have hn := HN.out k
      rw [nmo_k hk1 hlt] at hn
      have HM := hide hn
      have HZ := hide (nm_some k hlt hk1)
      clear hn HN
      obtain ⟨t, ht⟩ : ∃ t, t = nm k := ⟨_, rfl⟩
      rw [← ht] at HM HZ
      have HT := hide ht
      clear ht
      have hlt' : (k : Int) < 66 := by omega
      by_cases he : t = s
      · have he' := str_yes he
        have he2 := str_some (s := s) (by rw [← he]; exact HZ.out)
        have HE := hide he
        clear he
        go_wp2_with fail
        refine HM.out.mono ?_
        rintro e W ⟨rfl, hW⟩
        rw [hW]
        clear hW W HM
        go_wp2
        go_ret2
        exact ⟨Or.inl ⟨k, hk1, hlt, by rw [← HT.out, HE.out], rfl⟩, rfl⟩
      · have he' := str_no he
        have HE := hide he
        clear he
        go_wp2_with fail
        refine HM.out.mono ?_
        rintro e W ⟨rfl, hW⟩
        rw [hW]
        clear hW W HM
        go_wp2
        go_round
        case rel => exact ⟨k + 1, by omega, by omega, by go_num, fun j h1 h2 => by
          rcases Nat.lt_or_ge j k with h3 | h3
          · exact HO.out j h1 h3
          · obtain rfl : j = k := by omega
            rw [← HT.out]; exact HE.out⟩
        case measure => simp [intOf]; omega
    · have : k = 66 := by omega
      subst this
      clear HN
      go_wp2
      go_ret2
      exact ⟨Or.inr ⟨fun j h1 h2 => HO.out j h1 h2, rfl⟩, rfl⟩

end Go.Proofs.YtcghekkhbiomgaaGreatDoor
