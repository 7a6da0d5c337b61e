/- The document's digits, spaces, good: contracts. -/
import Derived.Test.YtmmcnkdefpfkiaaDoorArMay
namespace Go.Proofs.YtmmcnkdefpfkiaaDoor
open Go.RowKit Go.Maps
set_option linter.unusedVariables false
set_option maxRecDepth 100000
set_option maxRecDepth 20000
set_option linter.unusedSimpArgs false

theorem strAtD (l : T8) (j : Nat) (h : j < (str l).size) (h2 : j < l.length) : (str l)[j] = l[j] := rfl
theorem byte_sameD (c n : UInt8) : ((c.toNat : Int) == (n.toNat : Int)) = decide (c = n) := by
  by_cases h : c = n
  · simp [h]
  · rw [decide_eq_false h]
    have : c.toNat ≠ n.toNat := fun e => h (UInt8.toNat_inj.1 e)
    simp
    omega
theorem spc_step (l : T8) (k : Nat) (x : UInt8) (hx : l[k]? = some x) (h : spc (l.take k) = true) (hf : x = 32) : spc (l.take (k + 1)) = true := by
  unfold spc at *
  rw [List.take_add_one, hx, List.all_append, h]
  simp [hf]
theorem spc_bad (l : T8) (k : Nat) (x : UInt8) (hx : l[k]? = some x) (hf : x ≠ 32) : spc l = false := by
  unfold spc
  rw [List.all_eq_false]
  exact ⟨x, List.mem_of_getElem? hx, by simpa using hf⟩

set_option maxHeartbeats 4000000 in
theorem spaces_any (l : T8) (hl : l.length ≤ 1000000) (w : World) : Calls Tryd.prog 21 #[.string (str l)] w fun e w' => e = .returned (.bool (spc l)) ∧ w' = w := by
  have hn := str_size l
  go_enter Tryd.func21, Tryd.ntmps21
  go_wp2_with fail
  go_loopg [3] l.length (fun g v wx => ∃ j : Nat, j ≤ l.length ∧ g = l.length - j ∧ v = .int .i64 (j : Int) ∧ wx = w ∧ Hid (spc (l.take j) = true))
  case atStart => exact ⟨0, by omega, rfl, rfl, rfl, by show _ = _; rfl⟩
  case round =>
    obtain ⟨j, hj, rfl, rfl, rfl, HZ⟩ := hrel
    by_cases hjl : j < l.length
    · have hjd : decide ((j : Int) < (l.length : Int)) = true := decide_eq_true (by omega)
      have hjs : j < (str l).size := by omega
      have hat := strAtD l j hjs hjl
      have hcj : l[j]? = some l[j] := List.getElem?_eq_getElem hjl
      generalize l[j] = c at *
      have HC := hide hcj
      have q2 : ((c.toNat : Int) == 32) = decide (c = 32) := byte_sameD c 32
      have q3 : ((c.toNat : Int) != 32) = !decide (c = 32) := by show (!((c.toNat : Int) == 32)) = _; rw [q2]
      clear hcj
      by_cases hc : c = 32
      · rw [decide_eq_true hc] at q2 q3
        have HG := hide (spc_step l j c HC.out HZ.out hc)
        clear hc HZ
        go_wp2_with fail
        go_roundg (l.length - (j + 1))
        case measure => omega
        case rel => exact ⟨j + 1, by omega, rfl, by go_num, rfl, HG.out⟩
      · rw [decide_eq_false hc] at q2 q3
        have HG := hide (spc_bad l j c HC.out hc)
        clear hc HZ
        go_wp2_with fail
        go_ret
        exact ⟨by rw [HG.out]; rfl, rfl⟩
    · obtain rfl : j = l.length := by omega
      have HG : Hid (spc l = true) := by
        show _ = _
        have := HZ.out
        rwa [List.take_length] at this
      go_wp2_with fail
      go_ret
      exact ⟨by rw [HG.out]; rfl, rfl⟩

theorem dgs_at (l : T8) (k : Nat) (hk : k ≤ l.length) (h : (l.take k).all isD = true) (he : ∀ c, l[k]? = some c → isD c = false) : dgs l = l.take k ∧ dgR l = l.drop k := by
  have h1 := takeWhile_app (p := isD) (a := l.take k) (r := l.drop k) (fun c hc => List.all_eq_true.1 h c hc) (fun c hc => he c (by rw [List.head?_drop] at hc; exact hc))
  rw [List.take_append_drop] at h1
  exact h1
theorem dv_lt (l : T8) (h : l.all isD = true) : dv l < 10 ^ l.length := by
  have : ∀ (l : T8) (acc : Nat), l.all isD = true → l.foldl (fun n c => n * 10 + (c.toNat - 48)) acc < (acc + 1) * 10 ^ l.length := by
    intro l
    induction l with
    | nil => intro acc _; simp
    | cons c l ih =>
      intro acc h
      simp only [List.all_cons, Bool.and_eq_true] at h
      have hc : 48 ≤ c.toNat ∧ c.toNat ≤ 57 := by have := h.1; unfold isD at this; simpa using this
      have h2 := ih (acc * 10 + (c.toNat - 48)) h.2
      simp only [List.foldl_cons, List.length_cons, Nat.pow_succ]
      refine Nat.lt_of_lt_of_le h2 ?_
      have e : (acc + 1) * (10 ^ l.length * 10) = ((acc + 1) * 10) * 10 ^ l.length := by rw [Nat.mul_comm (10 ^ _) 10, Nat.mul_assoc]
      rw [e]
      exact Nat.mul_le_mul_right _ (by omega)
  have h2 := this l 0 h
  simpa [dv] using h2
theorem dv_take (l : T8) (k : Nat) (c : UInt8) (h : l[k]? = some c) : dv (l.take (k + 1)) = dv (l.take k) * 10 + (c.toNat - 48) := by
  rw [List.take_add_one, h]
  simp [dv]
theorem all_stepD (f : UInt8 → Bool) (l : T8) (k : Nat) (x : UInt8) (hx : l[k]? = some x) (h : (l.take k).all f = true) (hf : f x = true) : (l.take (k + 1)).all f = true := by
  rw [List.take_add_one, hx, List.all_append, h]
  simp [hf]

set_option maxHeartbeats 8000000 in
theorem dig_any (l : T8) (hl : l.length ≤ 16) (w : World) : Calls Tryd.prog 20 #[.string (str l)] w fun e w' => w' = w ∧ ∃ (n : Nat) (b : Bool), e = .returned (.tuple #[.int .i64 (n : Int), .bool b]) ∧ digO 10 l = (if b = true then some n else none) ∧ n ≤ 10000000000000000 := by
  have hn := str_size l
  go_enter Tryd.func20, Tryd.ntmps20
  go_wp2_with fail
  go_loopg [4, 5] l.length (fun g v v2 wx => ∃ j : Nat, j ≤ l.length ∧ g = l.length - j ∧ v = .int .i64 (dv (l.take j) : Int) ∧ v2 = .int .i64 (j : Int) ∧ wx = w ∧ Hid ((l.take j).all isD = true))
  case atStart => exact ⟨0, by omega, rfl, rfl, rfl, rfl, by show _ = _; rfl⟩
  case round =>
    obtain ⟨j, hj, rfl, rfl, rfl, rfl, HZ⟩ := hrel
    have hvl := dv_lt _ HZ.out
    have hp : 10 ^ (l.take j).length ≤ 10 ^ 16 := Nat.pow_le_pow_right (by decide) (by rw [List.length_take]; omega)
    have hp2 : (10 : Nat) ^ 16 = 10000000000000000 := by decide
    have hD : dv (l.take j) < 10000000000000000 := by omega
    clear hvl hp hp2
    by_cases hgo : ∃ c, l[j]? = some c ∧ isD c = true
    · obtain ⟨c0, hc0, hc1⟩ := hgo
      have hjl : j < l.length := (List.getElem?_eq_some_iff.1 hc0).1
      have hjd : decide ((j : Int) < (l.length : Int)) = true := decide_eq_true (by omega)
      have hjs : j < (str l).size := by omega
      have hat := strAtD l j hjs hjl
      have hcj : l[j]? = some l[j] := List.getElem?_eq_getElem hjl
      rw [hc0] at hcj
      generalize l[j] = c at *
      cases hcj
      have hcb := c0.toNat_lt
      have hc : 48 ≤ c0.toNat ∧ c0.toNat ≤ 57 := by unfold isD at hc1; simpa using hc1
      have d1 : decide ((48 : Int) ≤ (c0.toNat : Int)) = true := decide_eq_true (by omega)
      have d2 : decide ((c0.toNat : Int) ≤ 57) = true := decide_eq_true (by omega)
      have hv := dv_take l j c0 hc0
      have HG := hide (all_stepD isD l j c0 hc0 HZ.out hc1)
      have HV : Hid ((10 : Int) * (dv (l.take j) : Int) + ((c0.toNat : Int) - 48) = (dv (l.take (j + 1)) : Int)) := by show _ = _; rw [hv]; omega
      obtain ⟨hc1', hc2'⟩ := hc
      clear hv hc0 hc1 HZ
      generalize dv (l.take j) = D at *
      go_wp2_with fail
      go_roundg (l.length - (j + 1))
      case measure => omega
      case rel => exact ⟨j + 1, by omega, rfl, by rw [← HV.out], by go_num, rfl, HG.out⟩
    · have hE := dgs_at l j hj HZ.out (fun c hc => by
        cases hi : isD c with
        | false => rfl
        | true => exact absurd ⟨c, hc, hi⟩ hgo)
      have HE := hide hE
      have alt : (decide ((j : Int) < (l.length : Int)) = false ∧ ¬ (j : Int) < (l.length : Int)) ∨ (∃ (hjs : j < (str l).size) (c : UInt8), decide ((j : Int) < (l.length : Int)) = true ∧ j < l.length ∧ (str l)[j] = c ∧ decide ((48 : Int) ≤ (c.toNat : Int)) = false) ∨ (∃ (hjs : j < (str l).size) (c : UInt8), decide ((j : Int) < (l.length : Int)) = true ∧ j < l.length ∧ (str l)[j] = c ∧ decide ((48 : Int) ≤ (c.toNat : Int)) = true ∧ decide ((c.toNat : Int) ≤ 57) = false) := by
        rcases Nat.lt_or_ge j l.length with hjl | hjl
        · have hjs : j < (str l).size := by omega
          have hn : ¬ (48 ≤ l[j].toNat ∧ l[j].toNat ≤ 57) := fun h => hgo ⟨l[j], List.getElem?_eq_getElem hjl, by unfold isD; simpa using h⟩
          have hd := decide_eq_true (show (j : Int) < (l.length : Int) by omega)
          rcases Nat.lt_or_ge l[j].toNat 48 with h1 | h1
          · exact .inr (.inl ⟨hjs, l[j], hd, hjl, rfl, decide_eq_false (by omega)⟩)
          · exact .inr (.inr ⟨hjs, l[j], hd, hjl, rfl, decide_eq_true (by omega), decide_eq_false (by omega)⟩)
        · exact .inl ⟨decide_eq_false (by omega), by omega⟩
      have HV : Hid (∀ q : Bool, (spc (dgR l) = true ∧ 0 < j ∧ j ≤ 10 ↔ q = true) → digO 10 l = if q = true then some (dv (l.take j)) else none) := fun q hq => by
        unfold digO
        have hlen : (dgs l).length = j := by rw [hE.1, List.length_take]; omega
        rw [hlen, hE.1]
        cases q
        · rw [if_neg (fun h => by have := hq.1 h; cases this)]; rfl
        · rw [if_pos (hq.2 rfl)]; rfl
      have HJ : Hid (dgR l = l.drop j) := hE.2
      clear hE HE hgo HZ
      generalize dv (l.take j) = D at *
      rcases alt with ⟨hjd, hjn⟩ | ⟨hjs, c, hjd, hjl, hat, d1⟩ | ⟨hjs, c, hjd, hjl, hat, d1, d2⟩
      all_goals
        go_wp2_with fail
        go_loopg [6] (l.length - j) (fun g v wx => ∃ i : Nat, j ≤ i ∧ i ≤ l.length ∧ g = l.length - i ∧ v = .int .i64 (i : Int) ∧ wx = wr ∧ Hid (spc ((l.take i).drop j) = true))
        case atStart => exact ⟨j, by omega, by omega, by omega, rfl, rfl, by show _ = _; rw [List.drop_of_length_le (by simp; omega)]; rfl⟩
        case round =>
          obtain ⟨i, hji, hil, rfl, rfl, rfl, HS⟩ := hrel
          by_cases hlt : i < l.length
          · have hid : decide ((i : Int) < (l.length : Int)) = true := decide_eq_true (by omega)
            have his : i < (str l).size := by omega
            have hat2 := strAtD l i his hlt
            have hci : l[i]? = some l[i] := List.getElem?_eq_getElem hlt
            generalize l[i] = c2 at *
            have q2 : ((c2.toNat : Int) == 32) = decide (c2 = 32) := byte_sameD c2 32
            have q3 : ((c2.toNat : Int) != 32) = !decide (c2 = 32) := by show (!((c2.toNat : Int) == 32)) = _; rw [q2]
            have hdr : (l.drop j)[i - j]? = some c2 := by rw [List.getElem?_drop, show j + (i - j) = i by omega]; exact hci
            by_cases hc : c2 = 32
            · rw [decide_eq_true hc] at q2 q3
              have HG : Hid (spc ((l.take (i + 1)).drop j) = true) := by
                have h0 := HS.out
                rw [List.drop_take] at h0
                have h1 := spc_step (l.drop j) (i - j) c2 hdr h0 hc
                rw [show i - j + 1 = i + 1 - j by omega, ← List.drop_take] at h1
                exact h1
              clear hc HS hdr hci
              go_wp2_with fail
              go_roundg (l.length - (i + 1))
              case measure => omega
              case rel => exact ⟨i + 1, by omega, by omega, rfl, by go_num, rfl, HG.out⟩
            · rw [decide_eq_false hc] at q2 q3
              have HG := hide (HV.out false ⟨fun h => by rw [HJ.out, spc_bad _ _ _ hdr hc] at h; exact absurd h.1 (by decide), fun h => by cases h⟩)
              clear hc HS hdr hci
              go_wp2_with fail
              go_ret2
              exact ⟨rfl, 0, false, rfl, HG.out, by omega⟩
          · obtain rfl : i = l.length := by omega
            have hsp : spc (dgR l) = true := by
              have := HS.out
              rwa [List.take_length, ← HJ.out] at this
            have hid : decide ((l.length : Int) < (l.length : Int)) = false := decide_eq_false (by omega)
            have HG := hide (HV.out (decide ((0 : Int) < (j : Int)) && decide ((j : Int) ≤ 10)) (by simp [hsp]; omega))
            clear hsp
            go_wp2_with fail
            all_goals
              go_ret2
              exact ⟨rfl, D, _, rfl, by simpa [*] using HG.out, by omega⟩

theorem okN_bad (n : T8) (c : UInt8) (h : c ∈ n) (hb : badC c = true) : okN n = false := by
  have : n.any badC = true := List.any_eq_true.2 ⟨c, h, hb⟩
  unfold okN
  rw [this]
  simp
set_option maxHeartbeats 4000000 in
theorem good_any (n : T8) (hl : n.length ≤ 2000000) (w : World) : Calls Tryd.prog 22 #[.string (str n)] w fun e w' => e = .returned (.bool (okN n)) ∧ w' = w := by
  have hn := str_size n
  go_enter Tryd.func22, Tryd.ntmps22
  by_cases hn1 : n.length < 1
  · have d1 : decide ((n.length : Int) < 1) = true := decide_eq_true (by omega)
    have HG : Hid (okN n = false) := by show _ = _; unfold okN; rw [decide_eq_false (show ¬ 1 ≤ n.length by omega)]; rfl
    go_wp2_with fail
    go_ret
    exact ⟨by rw [HG.out]; rfl, rfl⟩
  have d1 : decide ((n.length : Int) < 1) = false := decide_eq_false (by omega)
  by_cases hn2 : 200 < n.length
  · have d2 : decide ((200 : Int) < (n.length : Int)) = true := decide_eq_true (by omega)
    have HG : Hid (okN n = false) := by show _ = _; unfold okN; rw [decide_eq_false (show ¬ n.length ≤ 200 by omega), Bool.and_false]; rfl
    go_wp2_with fail
    go_ret
    exact ⟨by rw [HG.out]; rfl, rfl⟩
  have d2 : decide ((200 : Int) < (n.length : Int)) = false := decide_eq_false (by omega)
  go_wp2_with fail
  go_loopg [3] n.length (fun gg v wx => ∃ j : Nat, j ≤ n.length ∧ gg = n.length - j ∧ v = .int .i64 (j : Int) ∧ wx = w ∧ Hid ((n.take j).any badC = false))
  case atStart => exact ⟨0, by omega, rfl, rfl, rfl, by show _ = _; simp⟩
  case round =>
    obtain ⟨j, hj, rfl, rfl, rfl, HZ⟩ := hrel
    by_cases hjl : j < n.length
    · have hjd : decide ((j : Int) < (n.length : Int)) = true := decide_eq_true (by omega)
      have hjs : j < (str n).size := by omega
      have hat := strAtD n j hjs hjl
      have hcj : n[j]? = some n[j] := List.getElem?_eq_getElem hjl
      generalize n[j] = c at *
      have HC := hide hcj
      have q0 : ((c.toNat : Int) == 0) = decide (c = 0) := byte_sameD c 0
      have q1 : ((c.toNat : Int) == 47) = decide (c = 47) := byte_sameD c 47
      have q2 : ((c.toNat : Int) == 10) = decide (c = 10) := byte_sameD c 10
      clear hcj
      by_cases hb : badC c = true
      · have HG := hide (okN_bad n c (List.mem_of_getElem? HC.out) hb)
        clear HZ
        by_cases c0 : c = 0
        · rw [decide_eq_true c0] at q0
          clear q1 q2 hb c0
          go_wp2_with fail
          go_ret
          exact ⟨by rw [HG.out]; rfl, rfl⟩
        rw [decide_eq_false c0] at q0
        by_cases c1 : c = 47
        · rw [decide_eq_true c1] at q1
          clear q2 hb c0 c1
          go_wp2_with fail
          go_ret
          exact ⟨by rw [HG.out]; rfl, rfl⟩
        rw [decide_eq_false c1] at q1
        have c2 : c = 10 := by
          unfold badC at hb
          rw [decide_eq_false c0, decide_eq_false c1] at hb
          simpa using hb
        rw [decide_eq_true c2] at q2
        clear hb c0 c1 c2
        go_wp2_with fail
        go_ret
        exact ⟨by rw [HG.out]; rfl, rfl⟩
      · have hb' := hb
        simp [badC] at hb'
        rw [decide_eq_false hb'.1.1] at q0
        rw [decide_eq_false hb'.1.2] at q1
        rw [decide_eq_false hb'.2] at q2
        have HZ2 : Hid ((n.take (j + 1)).any badC = false) := by
          show _ = _
          rw [List.take_add_one, HC.out, List.any_append, HZ.out]
          simpa using hb
        clear hb hb' HZ
        go_wp2_with fail
        go_roundg (n.length - (j + 1))
        case measure => omega
        case rel => exact ⟨j + 1, by omega, rfl, by go_num, rfl, HZ2.out⟩
    · obtain rfl : j = n.length := by omega
      have hjd : decide ((n.length : Int) < (n.length : Int)) = false := decide_eq_false (by omega)
      have HG : Hid (okN n = true) := by
        show _ = _
        have := HZ.out
        rw [List.take_length] at this
        unfold okN
        rw [this, decide_eq_true (show 1 ≤ n.length by omega), decide_eq_true (show n.length ≤ 200 by omega)]
        rfl
      clear HZ
      go_wp2_with fail
      go_ret
      exact ⟨by rw [HG.out]; rfl, rfl⟩

end Go.Proofs.YtmmcnkdefpfkiaaDoor
