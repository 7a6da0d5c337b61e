/- Contracts of asm's small calls: an operation's pattern, where a numeral ends. -/
import Derived.Test.YtcghekkhbiomgaaGreatDoorAsmPlain
import Derived.Test.YtcghekkhbiomgaaGreatDoorAsmLib
namespace Go.Proofs.YtcghekkhbiomgaaGreatDoor
open Go.RowKit
set_option linter.unusedVariables false
set_option maxRecDepth 100000

theorem thr_any (op : Int) (w : World) :
    Calls Tryz.prog 47 #[.int .i64 op] w fun e w' => e = .returned (.bool (thr op)) ∧ w' = w := by
  go_enter Tryz.func47, Tryz.ntmps47
  go_wp2
  all_goals go_ret
  all_goals exact ⟨ret_bool (by unfold thr; simp_all <;> omega), rfl⟩

theorem pat_any (op : Int) (w : World) (hL : Laid w) :
    Calls Tryz.prog 32 #[.int .i64 op] w fun e w' => e = .returned (.string (str (pat op))) ∧ w' = w := by
  have HF := hide (form_any op w hL)
  have HT := hide (thr_any op w)
  have hf := fmo_cases op
  unfold pat
  generalize fmo op = f at *
  generalize thr op = b at *
  clear hL
  rcases hf with rfl | rfl | rfl | rfl | rfl | rfl | rfl
  case inr.inl =>
    cases b
    all_goals
      go_enter Tryz.func32, Tryz.ntmps32
      go_wp2_with fail
      refine HF.out.mono ?_
      rintro e W ⟨rfl, hW⟩
      rw [hW]
      clear hW W HF
      go_wp2_with fail
      refine HT.out.mono ?_
      rintro e W ⟨rfl, hW⟩
      rw [hW]
      clear hW W HT
      go_wp2
      go_ret
      exact ⟨rfl, rfl⟩
  all_goals
    clear HT
    go_enter Tryz.func32, Tryz.ntmps32
    go_wp2_with fail
    refine HF.out.mono ?_
    rintro e W ⟨rfl, hW⟩
    rw [hW]
    clear hW W HF
    go_wp2
    go_ret
    exact ⟨rfl, rfl⟩

theorem tw_len {l : List UInt8} {n : Nat} (hn : n ≤ l.length) (h1 : ∀ (j : Nat) c, j < n → l[j]? = some c → isN c = true) (h2 : ∀ c, l[n]? = some c → isN c = false) : (l.takeWhile isN).length = n := by
  have e : l = l.take n ++ l.drop n := by simp
  have := takeWhile_app (p := isN) (a := l.take n) (r := l.drop n) (fun c hc => by
    obtain ⟨j, hj, rfl⟩ := List.getElem_of_mem hc
    simp at hj
    exact h1 j _ (by omega) (by simp)) (fun c hc => h2 c (by rw [← hc]; simp))
  rw [← e] at this
  rw [this.1]; simp; omega

theorem nend_any (l : List UInt8) (w : World) (hl : l.length ≤ 9223372036854775806) :
    Calls Tryz.prog 44 #[.string (str l)] w fun e w' => e = .returned (.int .i64 (l.takeWhile isN).length) ∧ w' = w := by
  have hsz := str_size l
  have HX : Hid (∀ (n : Nat) (h : n < (str l).size), l[n]? = some ((str l)[n]'h)) := hide (fun n h => Lib.getElem_mk l n h)
  have HE : Hid (∀ n : Nat, n ≤ l.length → (∀ (j : Nat) c, j < n → l[j]? = some c → isN c = true) → (∀ c, l[n]? = some c → isN c = false) → (l.takeWhile isN).length = n) := hide (fun n => tw_len)
  generalize (l.takeWhile isN).length = y at *
  generalize str l = s at *
  rw [← hsz] at HE hl
  go_enter Tryz.func44, Tryz.ntmps44
  go_wp2
  go_loop [3] (fun v => ∃ n : Nat, n ≤ s.size ∧ v = .int .i64 n ∧ Hid (∀ (j : Nat) c, j < n → l[j]? = some c → isN c = true)) (fun v => s.size - (intOf v).toNat)
  case atStart => exact ⟨0, Nat.zero_le _, rfl, fun j c hj => absurd hj (Nat.not_lt_zero _)⟩
  case round =>
    obtain ⟨n, hn, rfl, HO⟩ := hrel
    by_cases hlt : n < s.size
    · have hlt' : (n : Int) < s.size := by omega
      have hx := HX.out n hlt
      obtain ⟨c, hc⟩ : ∃ c, c = s[n]'hlt := ⟨_, rfl⟩
      rw [← hc] at hx
      have HX2 := hide hx
      clear hx
      have hy : ((s[n]'hlt).toNat : Int) = (c.toNat : Int) := by rw [hc]
      clear hc
      have hyes : isN c = true → ∀ (j : Nat) d, j < n + 1 → l[j]? = some d → isN d = true := fun hi j d hj hd => by
        by_cases e : j = n
        · subst e; have := HX2.out; rw [hd] at this; cases this; exact hi
        · exact HO.out j d (by omega) hd
      have HY := hide hyes
      clear hyes
      by_cases h1 : (c.toNat : Int) = 45
      · have hi : isN c = true := by unfold isN; simp; left; omega
        have HI := hide hi
        clear hi
        go_wp2
        go_round
        case rel => exact ⟨n + 1, by omega, by go_num, HY.out HI.out⟩
        case measure => simp [intOf]; omega
      · have h1' : ((c.toNat : Int) == 45) = false := by simpa using h1
        by_cases h2 : (48 : Int) ≤ c.toNat
        · by_cases h3 : (c.toNat : Int) ≤ 57
          · have hi : isN c = true := by unfold isN isD; simp; right; omega
            have HI := hide hi
            clear hi h1
            go_wp2
            go_round
            case rel => exact ⟨n + 1, by omega, by go_num, HY.out HI.out⟩
            case measure => simp [intOf]; omega
          · have hi : isN c = false := by unfold isN isD; simp; omega
            have HI := hide hi
            have h3' : (c.toNat : Int) > 57 := by omega
            clear hi h1
            go_wp2
            go_ret
            exact ⟨ret_int (by rw [HE.out n hn HO.out (fun d hd => by have := HX2.out; rw [hd] at this; cases this; exact HI.out)]), rfl⟩
        · have hi : isN c = false := by unfold isN isD; simp; omega
          have HI := hide hi
          have h2' : (c.toNat : Int) < 48 := by omega
          clear hi h1
          go_wp2
          go_ret
          exact ⟨ret_int (by rw [HE.out n hn HO.out (fun d hd => by have := HX2.out; rw [hd] at this; cases this; exact HI.out)]), rfl⟩
    · have hnl : l[n]? = none := List.getElem?_eq_none (by omega)
      have HN := hide hnl
      clear hnl
      go_wp2
      go_ret
      exact ⟨ret_int (by rw [HE.out n hn HO.out (fun d hd => by have := HN.out; rw [hd] at this; cases this)]), rfl⟩

end Go.Proofs.YtcghekkhbiomgaaGreatDoor
