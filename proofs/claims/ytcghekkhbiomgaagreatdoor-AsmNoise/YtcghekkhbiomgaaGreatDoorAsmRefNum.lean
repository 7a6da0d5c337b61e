/- The document's numbers: those that a text holds, in order. -/
import Derived.Test.YtcghekkhbiomgaaGreatDoorAsmRefT
import Derived.Deep.LoopGhost
namespace Go.Proofs.YtcghekkhbiomgaaGreatDoor
open Go.RowKit
set_option linter.unusedVariables false
set_option maxRecDepth 100000

/-- Whether a minus stands ahead of a place; the numbers from a place on; what the digits between two places come to. -/
def pm (l : List UInt8) (i : Nat) : Bool := decide (0 < i ∧ l[i - 1]? = some 45)
def nmsAt (l : List UInt8) (i : Nat) : List Int := nms (pm l i) (l.drop i)
def accAt (l : List UInt8) (i k : Nat) : Int := acc 0 ((l.drop i).take (k - i))
theorem nmsAt_zero (l : List UInt8) : nmsAt l 0 = nms false l := by simp [nmsAt, pm]
theorem nmsAt_end {l : List UInt8} {i : Nat} (h : l.length ≤ i) : nmsAt l i = [] := by
  unfold nmsAt
  rw [List.drop_eq_nil_of_le h]
  rfl
theorem pm_next {l : List UInt8} {i : Nat} {c : UInt8} (h : l[i]? = some c) : pm l (i + 1) = decide (c = 45) := by
  unfold pm
  simp [h]
theorem drop_at {l : List UInt8} {i : Nat} {c : UInt8} (h : l[i]? = some c) : l.drop i = c :: l.drop (i + 1) := by
  obtain ⟨hi, rfl⟩ := List.getElem?_eq_some_iff.1 h
  exact List.drop_eq_getElem_cons hi
theorem nmsAt_skip {l : List UInt8} {i : Nat} {c : UInt8} (h : l[i]? = some c) (hc : isD c = false) : nmsAt l i = nmsAt l (i + 1) := by
  unfold nmsAt
  rw [pm_next h, drop_at h, nms_skip hc]
theorem accAt_step {l : List UInt8} {i k : Nat} {d : UInt8} (h : l[k]? = some d) (hk : i ≤ k) : accAt l i (k + 1) = if accAt l i k < 1099511627776 then 10 * accAt l i k + ((d.toNat : Int) - 48) else accAt l i k := by
  unfold accAt
  rw [show k + 1 - i = (k - i) + 1 by omega, List.take_add_one, List.getElem?_drop, show i + (k - i) = k by omega, h, Option.toList_some, acc_app]
theorem acc_bd : ∀ (ds : List UInt8) (n : Int), (∀ d ∈ ds, isD d = true) → 0 ≤ n → n ≤ 10995116277769 → 0 ≤ acc n ds ∧ acc n ds ≤ 10995116277769
  | [], n, _, h0, h1 => ⟨h0, h1⟩
  | d :: ds, n, h, h0, h1 => by
    have hd : 48 ≤ d.toNat ∧ d.toNat ≤ 57 := by have := h d (by simp); simpa [isD] using this
    unfold acc
    refine acc_bd ds _ (fun e he => h e (by simp [he])) ?_ ?_ <;> split <;> omega
theorem digits_take {l : List UInt8} {i k : Nat} (hk : k ≤ l.length) (h : ∀ j, i ≤ j → j < k → ∃ d, l[j]? = some d ∧ isD d = true) : ∀ d ∈ (l.drop i).take (k - i), isD d = true := by
  intro d hd
  obtain ⟨j, hj, rfl⟩ := List.getElem_of_mem hd
  simp at hj
  obtain ⟨d, h1, h2⟩ := h (i + j) (by omega) (by omega)
  have h3 : l[i + j]? = some (l[i + j]'(by omega)) := List.getElem?_eq_getElem _
  rw [h1] at h3
  simp only [Option.some.injEq] at h3
  simp
  rw [← h3]
  exact h2
theorem accAt_bd {l : List UInt8} {i k : Nat} (hk : k ≤ l.length) (h : ∀ j, i ≤ j → j < k → ∃ d, l[j]? = some d ∧ isD d = true) : 0 ≤ accAt l i k ∧ accAt l i k ≤ 10995116277769 :=
  acc_bd _ 0 (digits_take hk h) (by decide) (by decide)
theorem accAt_self (l : List UInt8) (i : Nat) : accAt l i i = 0 := by simp [accAt, acc]
theorem nmsAt_num {l : List UInt8} {i k : Nat} (hi : i < k) (hk : k ≤ l.length) (h : ∀ j, i ≤ j → j < k → ∃ d, l[j]? = some d ∧ isD d = true) (hs : ∀ d, l[k]? = some d → isD d = false) :
    nmsAt l i = (if pm l i = true then -(accAt l i k) else accAt l i k) :: nmsAt l (k + 1) := by
  have hd := digits_take hk h
  have e : l.drop i = (l.drop i).take (k - i) ++ l.drop k := by
    have := List.take_append_drop (k - i) (l.drop i)
    rw [List.drop_drop, show i + (k - i) = k by omega] at this
    exact this.symm
  have ht := takeWhile_app (p := isD) (a := (l.drop i).take (k - i)) (r := l.drop k) hd (fun c hc => hs c (by rw [← hc]; simp))
  rw [← e] at ht
  obtain ⟨c, h1, h2⟩ := h i (Nat.le_refl _) hi
  rw [drop_at h1] at ht
  unfold nmsAt
  rw [drop_at h1]
  rw [show nms (pm l i) (c :: l.drop (i + 1)) = nmsG ((l.drop (i + 1)).length + 1) (pm l i) (c :: l.drop (i + 1)) from rfl, nmsG, if_pos h2, ht.1, ht.2]
  have e2 : acc 0 (List.take (k - i) (c :: l.drop (i + 1))) = accAt l i k := by unfold accAt; rw [drop_at h1]
  rw [e2]
  congr 1
  cases hl : l[k]? with
  | none =>
    have : l.length ≤ k := by simpa using hl
    rw [List.drop_eq_nil_of_le this, List.drop_eq_nil_of_le (show l.length ≤ k + 1 by omega)]
    rfl
  | some d =>
    rw [drop_at hl, pm_next hl]
    exact nms_fuel _ _ _ (by simp; omega)
theorem i64_row (xs : List Int) (y : Int) : xs.map (Value.int .i64) ++ [.int .i64 y] = (xs ++ [y]).map (Value.int .i64) := by simp
theorem infoI64 : (Tryz.prog.info? 2).map (fun i => (i.zero, i.size, i.bytes)) = some (some (.int .i64 0), 1, 8) := by kernel_rfl

set_option maxHeartbeats 12800000 in
theorem nums_any (l : List UInt8) (w : World) (hl : l.length ≤ 1000000) :
    Calls Tryz.prog 35 #[.string (str l)] w fun e w' => ∃ v, e = .returned v ∧ w'.ownsRow w.heap.size 2 1 v (nms false l).length ((nms false l).map (Value.int .i64)) ∧ Below w.heap.size w w' := by
  obtain ⟨i0, hi, hz0, hz1, hz2⟩ := info_parts infoI64
  have hsz := str_size l
  have HX : Hid (∀ (n : Nat) (h : n < (str l).size), l[n]? = some ((str l)[n]'h)) := hide (fun n h => Lib.getElem_mk l n h)
  have HS := hide (fun (i : Nat) (c : UInt8) => @nmsAt_skip l i c)
  have HE := hide (fun (i : Nat) => @nmsAt_end l i)
  have HN := hide (fun (i k : Nat) => @nmsAt_num l i k)
  have HA := hide (fun (i k : Nat) (d : UInt8) => @accAt_step l i k d)
  have HD := hide (fun (i k : Nat) => @accAt_bd l i k)
  have H0 := hide (nmsAt_zero l)
  have HA0 := hide (accAt_self l)
  have HP : Hid (∀ (i : Nat) (c : UInt8), l[i]? = some c → pm l (i + 1) = decide (c = 45)) := hide (fun i c => pm_next)
  have HP0 : Hid (pm l 0 = false) := hide (by simp [pm])
  have HLn : Hid (∀ i : Nat, l.length ≤ i → l[i]? = none) := hide (fun i h => List.getElem?_eq_none h)
  rw [← hsz] at hl HE HN HD HLn
  obtain ⟨tot, htot⟩ : ∃ tot, tot = nms false l := ⟨_, rfl⟩
  rw [← htot] at H0 ⊢
  generalize nmsAt l = NA at *
  generalize accAt l = AC at *
  generalize pm l = PM at *
  generalize str l = s at *
  clear hsz htot
  go_enter Tryz.func35, Tryz.ntmps35
  go_wp2
  go_loopg [3, 4] (s.size + 1) (fun g v iv wr => ∃ (i : Nat) (xs : List Int), i ≤ s.size + 1 ∧ g = s.size + 1 - i ∧ iv = .int .i64 i ∧ xs.length ≤ i ∧ Hid (xs ++ NA i = tot) ∧
      Hid (wr.ownsRow w.heap.size 2 1 v xs.length (xs.map (Value.int .i64))) ∧ Hid (Below w.heap.size w wr))
  case atStart => exact ⟨0, [], by omega, rfl, rfl, by simp, by rw [List.nil_append]; exact H0.out, World.ownsRow_nil _ _ _ _, Below.refl _ _⟩
  case round =>
    obtain ⟨i, xs, hi1, rfl, rfl, hxs, HT, HO, HB⟩ := hrel
    by_cases hlt : i < s.size
    · have hlt' : (i : Int) < s.size := by omega
      have hx := HX.out i hlt
      obtain ⟨c, hc⟩ : ∃ c, c = s[i]'hlt := ⟨_, rfl⟩
      rw [← hc] at hx
      have hy : ((s[i]'hlt).toNat : Int) = (c.toNat : Int) := by rw [hc]
      have HXc := hide hx
      clear hc hx
      by_cases hd : isD c = true
      · have hd' : 48 ≤ c.toNat ∧ c.toNat ≤ 57 := by simpa [isD] using hd
        have d1 : (48 : Int) ≤ c.toNat := by omega
        have d2 : (c.toNat : Int) ≤ 57 := by omega
        have HDc := hide hd
        clear hd hd'
        rcases Nat.eq_zero_or_pos i with hi0 | hi0
        · subst hi0
          have HBb := hide HP0.out
          go_wp2
          go_loopg [6, 7] (s.size - 0) (fun g nv kv wi => wi = wr ∧ ∃ k : Nat, 0 ≤ k ∧ k ≤ s.size ∧ g = s.size - k ∧ kv = .int .i64 k ∧ nv = .int .i64 (AC 0 k) ∧ Hid (∀ j, 0 ≤ j → j < k → ∃ d, l[j]? = some d ∧ isD d = true))
          case atStart => exact ⟨rfl, 0, by omega, by omega, rfl, rfl, by rw [HA0.out], fun j h1 h2 => by omega⟩
          case round =>
            obtain ⟨hwi, k, hk1, hk2, rfl, rfl, rfl, HDG⟩ := hrel
            subst hwi
            obtain ⟨y0, y1⟩ := HD.out 0 k hk2 HDG.out
            by_cases hkl : k < s.size
            · have hkl' : (k : Int) < s.size := by omega
              have hx := HX.out k hkl
              obtain ⟨d, hdd⟩ : ∃ d, d = s[k]'hkl := ⟨_, rfl⟩
              rw [← hdd] at hx
              have hy2 : ((s[k]'hkl).toNat : Int) = (d.toNat : Int) := by rw [hdd]
              have HXd := hide hx
              have hA := HA.out 0 k d hx hk1
              obtain ⟨y2, hy2e⟩ : ∃ y2, y2 = AC 0 (k + 1) := ⟨_, rfl⟩
              rw [← hy2e] at hA
              have HY2 := hide hy2e
              obtain ⟨y, hye⟩ : ∃ y, y = AC 0 k := ⟨_, rfl⟩
              rw [← hye] at hA y0 y1
              rw [← hye]
              have HYe := hide hye
              clear hdd hx hy2e hye
              by_cases hd : isD d = true
              · have hd' : 48 ≤ d.toNat ∧ d.toNat ≤ 57 := by simpa [isD] using hd
                have f1 : (48 : Int) ≤ d.toNat := by omega
                have f2 : (d.toNat : Int) ≤ 57 := by omega
                have HDG2 : Hid (∀ j, 0 ≤ j → j < k + 1 → ∃ d, l[j]? = some d ∧ isD d = true) := hide (fun j h1 h2 => by
                  by_cases e : j = k
                  · subst e; exact ⟨d, HXd.out, hd⟩
                  · exact HDG.out j h1 (by omega))
                by_cases hy40 : y < 1099511627776
                · rw [if_pos hy40] at hA
                  have HAA := hide hA
                  clear hA hd hd'
                  go_wp2
                  go_roundg (s.size - (k + 1))
                  case measure => omega
                  case rel => exact ⟨rfl, k + 1, by omega, by omega, rfl, by go_num, by rw [← HY2.out, HAA.out], HDG2.out⟩
                · rw [if_neg hy40] at hA
                  have HAA := hide hA
                  clear hA hd hd'
                  go_wp2
                  go_roundg (s.size - (k + 1))
                  case measure => omega
                  case rel => exact ⟨rfl, k + 1, by omega, by omega, rfl, by go_num, by rw [← HY2.out, HAA.out], HDG2.out⟩
              · have hd0 : isD d = false := by simpa using hd
                have hki : 0 < k := by
                  rcases Nat.eq_or_lt_of_le hk1 with e | e
                  · exfalso
                    have h1 := HXd.out
                    rw [← e] at h1
                    rw [HXc.out] at h1
                    cases h1
                    rw [HDc.out] at hd0
                    cases hd0
                  · exact e
                have HSt : Hid (∀ d', l[k]? = some d' → isD d' = false) := hide (fun d' h => by rw [HXd.out] at h; cases h; exact hd0)
                have hd' : d.toNat < 48 ∨ 57 < d.toNat := by
                  simp [isD] at hd0; omega
                clear hd hd0 hA HY2
                rcases hd' with hd' | hd'
                · have f1 : (d.toNat : Int) < 48 := by omega
                  clear hd'
                  have hNN := HN.out 0 k (by omega) hk2 HDG.out HSt.out
                  rw [HBb.out] at hNN
                  have HNN := hide hNN
                  clear hNN HSt HDG
                  go_wp2_with (at_builtin; refine wpList_append_own _ rfl _ _ 62 rfl w.heap.size 2 i0 (.int .i64 0) 1 8 Tryz.underlying62 hi hz0 hz1 hz2 rfl (by decide) _ _ _ rfl (HO.out.alloc _) ⟨wr.heap.size, 0, none⟩ 1 1 [Value.int .i64 y] rfl rfl (by intro j u' hj; match j, hj with | 0, hj => simp at hj; subst hj; simp [Addr.add]) (by intro u' hu'; simp at hu'; subst hu'; rfl) (by unfold maxLen; omega) (by omega) (by have := HB.out.size; simp; omega) ?_; intro v5 W5 r5 g5 n5; refine Hid.out ?_)
                  refine Lib.hid ?_
                  have hbz := HB.out.size
                  have b5 : Below w.heap.size w W5 := (HB.out.alloc hbz _).grown g5 (by simp; omega) (fun g hg => (World.ownsRow.lt HO.out _ hg).1)
                  rw [i64_row, show xs.length + 1 = (xs ++ [y]).length by simp] at r5
                  have HR5 := hide r5
                  have HB5 := hide b5
                  have HT5 : Hid ((xs ++ [y]) ++ NA (k + 1) = tot) := hide (by rw [← HT.out, HNN.out, ← HYe.out]; simp)
                  clear r5 b5 n5 g5
                  go_wp2
                  go_roundg (s.size + 1 - (k + 1))
                  case measure => omega
                  case rel => exact ⟨k + 1, xs ++ [y], by omega, rfl, by go_num, by simp; omega, HT5.out, HR5.out, HB5.out⟩
                · have f1 : (57 : Int) < d.toNat := by omega
                  have f2 : (48 : Int) ≤ d.toNat := by omega
                  clear hd'
                  have hNN := HN.out 0 k (by omega) hk2 HDG.out HSt.out
                  rw [HBb.out] at hNN
                  have HNN := hide hNN
                  clear hNN HSt HDG
                  go_wp2_with (at_builtin; refine wpList_append_own _ rfl _ _ 62 rfl w.heap.size 2 i0 (.int .i64 0) 1 8 Tryz.underlying62 hi hz0 hz1 hz2 rfl (by decide) _ _ _ rfl (HO.out.alloc _) ⟨wr.heap.size, 0, none⟩ 1 1 [Value.int .i64 y] rfl rfl (by intro j u' hj; match j, hj with | 0, hj => simp at hj; subst hj; simp [Addr.add]) (by intro u' hu'; simp at hu'; subst hu'; rfl) (by unfold maxLen; omega) (by omega) (by have := HB.out.size; simp; omega) ?_; intro v5 W5 r5 g5 n5; refine Hid.out ?_)
                  refine Lib.hid ?_
                  have hbz := HB.out.size
                  have b5 : Below w.heap.size w W5 := (HB.out.alloc hbz _).grown g5 (by simp; omega) (fun g hg => (World.ownsRow.lt HO.out _ hg).1)
                  rw [i64_row, show xs.length + 1 = (xs ++ [y]).length by simp] at r5
                  have HR5 := hide r5
                  have HB5 := hide b5
                  have HT5 : Hid ((xs ++ [y]) ++ NA (k + 1) = tot) := hide (by rw [← HT.out, HNN.out, ← HYe.out]; simp)
                  clear r5 b5 n5 g5
                  go_wp2
                  go_roundg (s.size + 1 - (k + 1))
                  case measure => omega
                  case rel => exact ⟨k + 1, xs ++ [y], by omega, rfl, by go_num, by simp; omega, HT5.out, HR5.out, HB5.out⟩
            · have hki : 0 < k := by omega
              have HSt : Hid (∀ d', l[k]? = some d' → isD d' = false) := hide (fun d' h => by rw [HLn.out k (by omega)] at h; cases h)
              obtain ⟨y, hye⟩ : ∃ y, y = AC 0 k := ⟨_, rfl⟩
              rw [← hye] at y0 y1
              rw [← hye]
              have HYe := hide hye
              clear hye
              have hNN := HN.out 0 k (by omega) hk2 HDG.out HSt.out
              rw [HBb.out] at hNN
              have HNN := hide hNN
              clear hNN HSt HDG
              go_wp2_with (at_builtin; refine wpList_append_own _ rfl _ _ 62 rfl w.heap.size 2 i0 (.int .i64 0) 1 8 Tryz.underlying62 hi hz0 hz1 hz2 rfl (by decide) _ _ _ rfl (HO.out.alloc _) ⟨wr.heap.size, 0, none⟩ 1 1 [Value.int .i64 y] rfl rfl (by intro j u' hj; match j, hj with | 0, hj => simp at hj; subst hj; simp [Addr.add]) (by intro u' hu'; simp at hu'; subst hu'; rfl) (by unfold maxLen; omega) (by omega) (by have := HB.out.size; simp; omega) ?_; intro v5 W5 r5 g5 n5; refine Hid.out ?_)
              refine Lib.hid ?_
              have hbz := HB.out.size
              have b5 : Below w.heap.size w W5 := (HB.out.alloc hbz _).grown g5 (by simp; omega) (fun g hg => (World.ownsRow.lt HO.out _ hg).1)
              rw [i64_row, show xs.length + 1 = (xs ++ [y]).length by simp] at r5
              have HR5 := hide r5
              have HB5 := hide b5
              have HT5 : Hid ((xs ++ [y]) ++ NA (k + 1) = tot) := hide (by rw [← HT.out, HNN.out, ← HYe.out]; simp)
              clear r5 b5 n5 g5
              go_wp2
              go_roundg (s.size + 1 - (k + 1))
              case measure => omega
              case rel => exact ⟨k + 1, xs ++ [y], by omega, rfl, by go_num, by simp; omega, HT5.out, HR5.out, HB5.out⟩
        · obtain ⟨j0, rfl⟩ : ∃ j0, i = j0 + 1 := ⟨i - 1, by omega⟩
          have hj0 : j0 < s.size := by omega
          have hx0 := HX.out j0 hj0
          obtain ⟨e, he⟩ : ∃ e, e = s[j0]'hj0 := ⟨_, rfl⟩
          rw [← he] at hx0
          have hy0 : ((s[j0]'hj0).toNat : Int) = (e.toNat : Int) := by rw [he]
          obtain ⟨b, hb⟩ : ∃ b, b = decide (e = 45) := ⟨_, rfl⟩
          have HBb : Hid (PM (j0 + 1) = b) := hide (by rw [HP.out j0 e hx0, hb])
          have hbe : ((e.toNat : Int) == 45) = b := by
            rw [hb]
            by_cases h : e = 45
            · subst h; rfl
            · have := u8_ne h
              simp [h]
              simpa using this
          have hj1 : (j0 : Int) < s.size := by omega
          clear he hx0 hb hi0
          go_wp2
          go_loopg [6, 7] (s.size - (j0 + 1)) (fun g nv kv wi => wi = wr ∧ ∃ k : Nat, (j0 + 1) ≤ k ∧ k ≤ s.size ∧ g = s.size - k ∧ kv = .int .i64 k ∧ nv = .int .i64 (AC (j0 + 1) k) ∧ Hid (∀ j, (j0 + 1) ≤ j → j < k → ∃ d, l[j]? = some d ∧ isD d = true))
          case atStart => exact ⟨rfl, (j0 + 1), by omega, by omega, rfl, by go_num, by rw [HA0.out], fun j h1 h2 => by omega⟩
          case round =>
            obtain ⟨hwi, k, hk1, hk2, rfl, rfl, rfl, HDG⟩ := hrel
            subst hwi
            obtain ⟨y0, y1⟩ := HD.out (j0 + 1) k hk2 HDG.out
            by_cases hkl : k < s.size
            · have hkl' : (k : Int) < s.size := by omega
              have hx := HX.out k hkl
              obtain ⟨d, hdd⟩ : ∃ d, d = s[k]'hkl := ⟨_, rfl⟩
              rw [← hdd] at hx
              have hy2 : ((s[k]'hkl).toNat : Int) = (d.toNat : Int) := by rw [hdd]
              have HXd := hide hx
              have hA := HA.out (j0 + 1) k d hx hk1
              obtain ⟨y2, hy2e⟩ : ∃ y2, y2 = AC (j0 + 1) (k + 1) := ⟨_, rfl⟩
              rw [← hy2e] at hA
              have HY2 := hide hy2e
              obtain ⟨y, hye⟩ : ∃ y, y = AC (j0 + 1) k := ⟨_, rfl⟩
              rw [← hye] at hA y0 y1
              rw [← hye]
              have HYe := hide hye
              clear hdd hx hy2e hye
              by_cases hd : isD d = true
              · have hd' : 48 ≤ d.toNat ∧ d.toNat ≤ 57 := by simpa [isD] using hd
                have f1 : (48 : Int) ≤ d.toNat := by omega
                have f2 : (d.toNat : Int) ≤ 57 := by omega
                have HDG2 : Hid (∀ j, (j0 + 1) ≤ j → j < k + 1 → ∃ d, l[j]? = some d ∧ isD d = true) := hide (fun j h1 h2 => by
                  by_cases e : j = k
                  · subst e; exact ⟨d, HXd.out, hd⟩
                  · exact HDG.out j h1 (by omega))
                by_cases hy40 : y < 1099511627776
                · rw [if_pos hy40] at hA
                  have HAA := hide hA
                  clear hA hd hd'
                  go_wp2
                  go_roundg (s.size - (k + 1))
                  case measure => omega
                  case rel => exact ⟨rfl, k + 1, by omega, by omega, rfl, by go_num, by rw [← HY2.out, HAA.out], HDG2.out⟩
                · rw [if_neg hy40] at hA
                  have HAA := hide hA
                  clear hA hd hd'
                  go_wp2
                  go_roundg (s.size - (k + 1))
                  case measure => omega
                  case rel => exact ⟨rfl, k + 1, by omega, by omega, rfl, by go_num, by rw [← HY2.out, HAA.out], HDG2.out⟩
              · have hd0 : isD d = false := by simpa using hd
                have hki : (j0 + 1) < k := by
                  rcases Nat.eq_or_lt_of_le hk1 with e | e
                  · exfalso
                    have h1 := HXd.out
                    rw [← e] at h1
                    rw [HXc.out] at h1
                    cases h1
                    rw [HDc.out] at hd0
                    cases hd0
                  · exact e
                have HSt : Hid (∀ d', l[k]? = some d' → isD d' = false) := hide (fun d' h => by rw [HXd.out] at h; cases h; exact hd0)
                have hd' : d.toNat < 48 ∨ 57 < d.toNat := by
                  simp [isD] at hd0; omega
                clear hd hd0 hA HY2
                rcases hd' with hd' | hd'
                · have f1 : (d.toNat : Int) < 48 := by omega
                  clear hd'
                  have hNN := HN.out (j0 + 1) k (by omega) hk2 HDG.out HSt.out
                  rw [HBb.out] at hNN
                  have HNN := hide hNN
                  clear hNN HSt HDG
                  cases b with
                  | true =>
                    go_wp2_with (at_builtin; refine wpList_append_own _ rfl _ _ 62 rfl w.heap.size 2 i0 (.int .i64 0) 1 8 Tryz.underlying62 hi hz0 hz1 hz2 rfl (by decide) _ _ _ rfl (HO.out.alloc _) ⟨wr.heap.size, 0, none⟩ 1 1 [Value.int .i64 (-y)] rfl rfl (by intro j u' hj; match j, hj with | 0, hj => simp at hj; subst hj; simp [Addr.add]) (by intro u' hu'; simp at hu'; subst hu'; rfl) (by unfold maxLen; omega) (by omega) (by have := HB.out.size; simp; omega) ?_; intro v5 W5 r5 g5 n5; refine Hid.out ?_)
                    refine Lib.hid ?_
                    have hbz := HB.out.size
                    have b5 : Below w.heap.size w W5 := (HB.out.alloc hbz _).grown g5 (by simp; omega) (fun g hg => (World.ownsRow.lt HO.out _ hg).1)
                    rw [i64_row, show xs.length + 1 = (xs ++ [(-y)]).length by simp] at r5
                    have HR5 := hide r5
                    have HB5 := hide b5
                    have HT5 : Hid ((xs ++ [(-y)]) ++ NA (k + 1) = tot) := hide (by rw [← HT.out, HNN.out, ← HYe.out]; simp)
                    clear r5 b5 n5 g5
                    go_wp2
                    go_roundg (s.size + 1 - (k + 1))
                    case measure => omega
                    case rel => exact ⟨k + 1, xs ++ [(-y)], by omega, rfl, by go_num, by simp; omega, HT5.out, HR5.out, HB5.out⟩
                  | false =>
                    go_wp2_with (at_builtin; refine wpList_append_own _ rfl _ _ 62 rfl w.heap.size 2 i0 (.int .i64 0) 1 8 Tryz.underlying62 hi hz0 hz1 hz2 rfl (by decide) _ _ _ rfl (HO.out.alloc _) ⟨wr.heap.size, 0, none⟩ 1 1 [Value.int .i64 y] rfl rfl (by intro j u' hj; match j, hj with | 0, hj => simp at hj; subst hj; simp [Addr.add]) (by intro u' hu'; simp at hu'; subst hu'; rfl) (by unfold maxLen; omega) (by omega) (by have := HB.out.size; simp; omega) ?_; intro v5 W5 r5 g5 n5; refine Hid.out ?_)
                    refine Lib.hid ?_
                    have hbz := HB.out.size
                    have b5 : Below w.heap.size w W5 := (HB.out.alloc hbz _).grown g5 (by simp; omega) (fun g hg => (World.ownsRow.lt HO.out _ hg).1)
                    rw [i64_row, show xs.length + 1 = (xs ++ [y]).length by simp] at r5
                    have HR5 := hide r5
                    have HB5 := hide b5
                    have HT5 : Hid ((xs ++ [y]) ++ NA (k + 1) = tot) := hide (by rw [← HT.out, HNN.out, ← HYe.out]; simp)
                    clear r5 b5 n5 g5
                    go_wp2
                    go_roundg (s.size + 1 - (k + 1))
                    case measure => omega
                    case rel => exact ⟨k + 1, xs ++ [y], by omega, rfl, by go_num, by simp; omega, HT5.out, HR5.out, HB5.out⟩
                · have f1 : (57 : Int) < d.toNat := by omega
                  have f2 : (48 : Int) ≤ d.toNat := by omega
                  clear hd'
                  have hNN := HN.out (j0 + 1) k (by omega) hk2 HDG.out HSt.out
                  rw [HBb.out] at hNN
                  have HNN := hide hNN
                  clear hNN HSt HDG
                  cases b with
                  | true =>
                    go_wp2_with (at_builtin; refine wpList_append_own _ rfl _ _ 62 rfl w.heap.size 2 i0 (.int .i64 0) 1 8 Tryz.underlying62 hi hz0 hz1 hz2 rfl (by decide) _ _ _ rfl (HO.out.alloc _) ⟨wr.heap.size, 0, none⟩ 1 1 [Value.int .i64 (-y)] rfl rfl (by intro j u' hj; match j, hj with | 0, hj => simp at hj; subst hj; simp [Addr.add]) (by intro u' hu'; simp at hu'; subst hu'; rfl) (by unfold maxLen; omega) (by omega) (by have := HB.out.size; simp; omega) ?_; intro v5 W5 r5 g5 n5; refine Hid.out ?_)
                    refine Lib.hid ?_
                    have hbz := HB.out.size
                    have b5 : Below w.heap.size w W5 := (HB.out.alloc hbz _).grown g5 (by simp; omega) (fun g hg => (World.ownsRow.lt HO.out _ hg).1)
                    rw [i64_row, show xs.length + 1 = (xs ++ [(-y)]).length by simp] at r5
                    have HR5 := hide r5
                    have HB5 := hide b5
                    have HT5 : Hid ((xs ++ [(-y)]) ++ NA (k + 1) = tot) := hide (by rw [← HT.out, HNN.out, ← HYe.out]; simp)
                    clear r5 b5 n5 g5
                    go_wp2
                    go_roundg (s.size + 1 - (k + 1))
                    case measure => omega
                    case rel => exact ⟨k + 1, xs ++ [(-y)], by omega, rfl, by go_num, by simp; omega, HT5.out, HR5.out, HB5.out⟩
                  | false =>
                    go_wp2_with (at_builtin; refine wpList_append_own _ rfl _ _ 62 rfl w.heap.size 2 i0 (.int .i64 0) 1 8 Tryz.underlying62 hi hz0 hz1 hz2 rfl (by decide) _ _ _ rfl (HO.out.alloc _) ⟨wr.heap.size, 0, none⟩ 1 1 [Value.int .i64 y] rfl rfl (by intro j u' hj; match j, hj with | 0, hj => simp at hj; subst hj; simp [Addr.add]) (by intro u' hu'; simp at hu'; subst hu'; rfl) (by unfold maxLen; omega) (by omega) (by have := HB.out.size; simp; omega) ?_; intro v5 W5 r5 g5 n5; refine Hid.out ?_)
                    refine Lib.hid ?_
                    have hbz := HB.out.size
                    have b5 : Below w.heap.size w W5 := (HB.out.alloc hbz _).grown g5 (by simp; omega) (fun g hg => (World.ownsRow.lt HO.out _ hg).1)
                    rw [i64_row, show xs.length + 1 = (xs ++ [y]).length by simp] at r5
                    have HR5 := hide r5
                    have HB5 := hide b5
                    have HT5 : Hid ((xs ++ [y]) ++ NA (k + 1) = tot) := hide (by rw [← HT.out, HNN.out, ← HYe.out]; simp)
                    clear r5 b5 n5 g5
                    go_wp2
                    go_roundg (s.size + 1 - (k + 1))
                    case measure => omega
                    case rel => exact ⟨k + 1, xs ++ [y], by omega, rfl, by go_num, by simp; omega, HT5.out, HR5.out, HB5.out⟩
            · have hki : (j0 + 1) < k := by omega
              have HSt : Hid (∀ d', l[k]? = some d' → isD d' = false) := hide (fun d' h => by rw [HLn.out k (by omega)] at h; cases h)
              obtain ⟨y, hye⟩ : ∃ y, y = AC (j0 + 1) k := ⟨_, rfl⟩
              rw [← hye] at y0 y1
              rw [← hye]
              have HYe := hide hye
              clear hye
              have hNN := HN.out (j0 + 1) k (by omega) hk2 HDG.out HSt.out
              rw [HBb.out] at hNN
              have HNN := hide hNN
              clear hNN HSt HDG
              cases b with
              | true =>
                go_wp2_with (at_builtin; refine wpList_append_own _ rfl _ _ 62 rfl w.heap.size 2 i0 (.int .i64 0) 1 8 Tryz.underlying62 hi hz0 hz1 hz2 rfl (by decide) _ _ _ rfl (HO.out.alloc _) ⟨wr.heap.size, 0, none⟩ 1 1 [Value.int .i64 (-y)] rfl rfl (by intro j u' hj; match j, hj with | 0, hj => simp at hj; subst hj; simp [Addr.add]) (by intro u' hu'; simp at hu'; subst hu'; rfl) (by unfold maxLen; omega) (by omega) (by have := HB.out.size; simp; omega) ?_; intro v5 W5 r5 g5 n5; refine Hid.out ?_)
                refine Lib.hid ?_
                have hbz := HB.out.size
                have b5 : Below w.heap.size w W5 := (HB.out.alloc hbz _).grown g5 (by simp; omega) (fun g hg => (World.ownsRow.lt HO.out _ hg).1)
                rw [i64_row, show xs.length + 1 = (xs ++ [(-y)]).length by simp] at r5
                have HR5 := hide r5
                have HB5 := hide b5
                have HT5 : Hid ((xs ++ [(-y)]) ++ NA (k + 1) = tot) := hide (by rw [← HT.out, HNN.out, ← HYe.out]; simp)
                clear r5 b5 n5 g5
                go_wp2
                go_roundg (s.size + 1 - (k + 1))
                case measure => omega
                case rel => exact ⟨k + 1, xs ++ [(-y)], by omega, rfl, by go_num, by simp; omega, HT5.out, HR5.out, HB5.out⟩
              | false =>
                go_wp2_with (at_builtin; refine wpList_append_own _ rfl _ _ 62 rfl w.heap.size 2 i0 (.int .i64 0) 1 8 Tryz.underlying62 hi hz0 hz1 hz2 rfl (by decide) _ _ _ rfl (HO.out.alloc _) ⟨wr.heap.size, 0, none⟩ 1 1 [Value.int .i64 y] rfl rfl (by intro j u' hj; match j, hj with | 0, hj => simp at hj; subst hj; simp [Addr.add]) (by intro u' hu'; simp at hu'; subst hu'; rfl) (by unfold maxLen; omega) (by omega) (by have := HB.out.size; simp; omega) ?_; intro v5 W5 r5 g5 n5; refine Hid.out ?_)
                refine Lib.hid ?_
                have hbz := HB.out.size
                have b5 : Below w.heap.size w W5 := (HB.out.alloc hbz _).grown g5 (by simp; omega) (fun g hg => (World.ownsRow.lt HO.out _ hg).1)
                rw [i64_row, show xs.length + 1 = (xs ++ [y]).length by simp] at r5
                have HR5 := hide r5
                have HB5 := hide b5
                have HT5 : Hid ((xs ++ [y]) ++ NA (k + 1) = tot) := hide (by rw [← HT.out, HNN.out, ← HYe.out]; simp)
                clear r5 b5 n5 g5
                go_wp2
                go_roundg (s.size + 1 - (k + 1))
                case measure => omega
                case rel => exact ⟨k + 1, xs ++ [y], by omega, rfl, by go_num, by simp; omega, HT5.out, HR5.out, HB5.out⟩
      · have hd0 : isD c = false := by simpa using hd
        have HTT := hide (HS.out i c HXc.out hd0)
        have HT2 : Hid (xs ++ NA (i + 1) = tot) := hide (by rw [← HTT.out]; exact HT.out)
        have hd' : c.toNat < 48 ∨ 57 < c.toNat := by simp [isD] at hd0; omega
        clear hd hd0
        rcases hd' with hd' | hd'
        · have f1 : (c.toNat : Int) < 48 := by omega
          clear hd'
          go_wp2
          go_roundg (s.size + 1 - (i + 1))
          case measure => omega
          case rel => exact ⟨i + 1, xs, by omega, rfl, by go_num, by omega, HT2.out, HO.out, HB.out⟩
        · have f1 : (57 : Int) < c.toNat := by omega
          have f2 : (48 : Int) ≤ c.toNat := by omega
          clear hd'
          go_wp2
          go_roundg (s.size + 1 - (i + 1))
          case measure => omega
          case rel => exact ⟨i + 1, xs, by omega, rfl, by go_num, by omega, HT2.out, HO.out, HB.out⟩
    · have HT2 : Hid (xs = tot) := hide (by rw [← HT.out, HE.out i (by omega), List.append_nil])
      go_wp2
      go_ret
      exact ⟨_, rfl, by rw [← HT2.out]; exact HO.out, HB.out⟩

end Go.Proofs.YtcghekkhbiomgaaGreatDoor
