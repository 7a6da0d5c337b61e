/- A name added in order: the contract of the document's Add. -/
import Derived.Test.YteknmlcgdjoccaaArmDef
import Derived.Test.YteknmlcgdjoccaaTxtSame
import Derived.Deep.RegionHeld3
import Derived.Deep.RegionLaw
import Derived.Deep.RegionLawGrows
import Derived.ArgAppend
import Derived.Laws.AppendOwnNone
import Derived.Sort.Walk0
namespace Go.Proofs.Yteknmlcgdjoccaa
open Go.RowKit Go.Maps
set_option linter.unusedVariables false
set_option maxRecDepth 20000
set_option linter.unusedSimpArgs false

/-- How many names ahead are less. -/
def posS (s : T8) (N : List T8) : Nat := (N.takeWhile (fun x => decide (x < s))).length
def insS (s : T8) (N : List T8) : List T8 := if N[posS s N]? = some s then N else N.take (posS s N) ++ s :: N.drop (posS s N)
theorem posS_le (s : T8) (N : List T8) : posS s N ≤ N.length := by
  unfold posS
  exact (List.takeWhile_sublist _).length_le
theorem posS_lt (s : T8) : ∀ (N : List T8) (j : Nat), j < posS s N → N.getD j [] < s
  | [], j, h => by simp [posS] at h
  | a :: N, j, h => by
    unfold posS at h
    by_cases ha : a < s
    · rw [List.takeWhile_cons_of_pos (by simpa using ha)] at h
      cases j with
      | zero => simpa using ha
      | succ j => simpa using posS_lt s N j (by simpa [posS] using h)
    · rw [List.takeWhile_cons_of_neg (by simpa using ha)] at h
      simp at h
theorem posS_end (s : T8) : ∀ (N : List T8), posS s N < N.length → ¬ N.getD (posS s N) [] < s
  | [], h => by simp at h
  | a :: N, h => by
    by_cases ha : a < s
    · have e : posS s (a :: N) = posS s N + 1 := by unfold posS; rw [List.takeWhile_cons_of_pos (by simpa using ha)]; rfl
      rw [e] at h ⊢
      simpa using posS_end s N (by simpa using h)
    · have e : posS s (a :: N) = 0 := by unfold posS; rw [List.takeWhile_cons_of_neg (by simpa using ha)]; rfl
      rw [e]
      simpa using ha

theorem row_form {w : World} {B : Nat} {e : TypeId} {size : Nat} {v : Value} {n : Nat} {xs : List Value} (h : w.ownsRow B e size v n xs) (hn : 0 < n) : ∃ g c, v = .slice (some ⟨g, 0, none⟩) n c ∧ B ≤ g := by
  rcases h.2 with ⟨_, h3⟩ | ⟨g, c, cur, h3, h4, _⟩
  · omega
  · exact ⟨g, c, h3, h4⟩

set_option maxHeartbeats 8000000 in
theorem radd_any (B : Nat) (v : Value) (N : List T8) (s : T8) (W : World) (h : W.ownsRow B 9 1 v N.length (csT N)) (hB : B ≤ W.heap.size) (hN : N.length ≤ 1000000) :
    Calls Try.prog 22 #[v, .string (str s)] W fun e w' => ∃ v', e = .returned v' ∧ w'.ownsRow B 9 1 v' (insS s N).length (csT (insS s N)) ∧ Below W.heap.size W w' := by
  obtain ⟨i0, hi, hz0, hz1, hz2⟩ := info_parts Try.infoStr
  obtain ⟨a, c, hv, hr⟩ := Rs.own h
  subst hv
  have hle := hr.le
  have hmx := hr.max
  have hnil := hr.nil
  have HW := hide h
  have HR := hide hr
  have hp := posS_le s N
  have HLT := hide (posS_lt s N)
  have HEND := hide (posS_end s N)
  obtain ⟨p, hpe⟩ : ∃ p, posS s N = p := ⟨_, rfl⟩
  rw [hpe] at hp HLT HEND
  have HP := hide hpe
  clear h hr hpe
  go_enter Try.func22, Try.ntmps22
  go_wp2_with fail
  go_loopg [5] p (fun gg i wx => ∃ j : Nat, j ≤ p ∧ gg = p - j ∧ i = .int .i64 (j : Int) ∧ wx = W)
  case atStart => exact ⟨0, by omega, rfl, rfl, rfl⟩
  case round =>
    obtain ⟨j, hj, rfl, rfl, rfl⟩ := hrel
    by_cases hjp : j < p
    · obtain ⟨b, o, rfl, hc⟩ := Rs.addr HR.out (by omega)
      have c0 := hc j (by omega)
      have hlt := HLT.out j hjp
      have hjd : decide ((j : Int) < (N.length : Int)) = true := decide_eq_true (by omega)
      have hjd2 : decide (j < N.length) = true := decide_eq_true (by omega)
      generalize N.getD j [] = x at *
      clear hc
      have hbl : Op.bytesLess x s = true := (bytesLess_eq x s).trans (decide_eq_true hlt)
      go_wp2_with fail
      go_roundg (p - (j + 1))
      case measure => omega
      case rel => exact ⟨j + 1, by omega, rfl, by go_num, rfl⟩
    · obtain rfl : j = p := by omega
      by_cases hjn : j < N.length
      · obtain ⟨b, o, rfl, hc⟩ := Rs.addr HR.out (by omega)
        have c0 := hc j (by omega)
        have hnl := HEND.out hjn
        have hjd : decide ((j : Int) < (N.length : Int)) = true := decide_eq_true (by omega)
        have hjd2 : decide (j < N.length) = true := decide_eq_true (by omega)
        have hx : N[j]? = some (N.getD j []) := by simp [List.getD, hjn]
        have HX := hide hx
        generalize hxe : N.getD j [] = x at *
        have hbl : Op.bytesLess x s = false := (bytesLess_eq x s).trans (decide_eq_false hnl)
        clear hc hx
        by_cases hxs : x = s
        · have hqs : (x == s) = true := by simp [hxs]
          have HI : Hid (insS s N = N) := by
            show _ = _
            unfold insS
            rw [HP.out, if_pos (by rw [HX.out, hxs])]
          clear hxs
          go_wp2_with fail
          go_ret
          exact ⟨_, rfl, by rw [HI.out]; exact HW.out, Below.refl _ _⟩
        · have hqs : (x == s) = false := by simp [hxs]
          have HI : Hid (insS s N = N.take j ++ s :: N.drop j) := by
            show _ = _
            unfold insS
            rw [HP.out, if_neg (by rw [HX.out]; intro e; exact hxs (Option.some.inj e))]
          clear hxs
          have hnd : (csT (N.drop j)).length = (N.length - j) * 1 := by simp [csT]
          have hone : ∀ u ∈ csT (N.drop j), u.oneCell' = true := fun u hu => by
            obtain ⟨y, _, rfl⟩ := List.mem_map.1 hu
            rfl
          have hcl : ∀ (q : Nat) (u : Value), (csT N)[q]? = some u → wr.cell? ⟨b, o + q, none⟩ = some u := fun q u hu => by
            have := HR.out.cells _ rfl q u hu
            rwa [addN] at this
          have htk : (csT (N.take j)).length = j * 1 := by simp [csT]; omega
          obtain ⟨dr, hdr⟩ : ∃ dr, csT (N.drop j) = dr := ⟨_, rfl⟩
          obtain ⟨tk, htk2⟩ : ∃ tk, csT (N.take j) = tk := ⟨_, rfl⟩
          have HDR : Hid (∀ (V : World), Below wr.heap.size wr V → ∀ (q : Nat) (u : Value), dr[q]? = some u → V.cell? ((⟨b, o + j, none⟩ : Addr).add q) = some u) := fun V hV q u hu => by
            rw [← hdr] at hu
            have h1 := hcl (j + q) u (by simpa [csT, List.getElem?_drop] using hu)
            rw [addN, Nat.add_assoc]
            exact (hV.cell (p := ⟨b, o + (j + q), none⟩) (World.block_lt_of_cell? wr _ h1)).trans h1
          have HTK : Hid (∀ (V : World), Below wr.heap.size wr V → ∀ (q : Nat) (u : Value), tk[q]? = some u → V.cell? ((⟨b, o, none⟩ : Addr).add q) = some u) := fun V hV q u hu => by
            rw [← htk2] at hu
            have hq : q < j := by
              rcases Nat.lt_or_ge q j with h | h
              · exact h
              · rw [List.getElem?_eq_none (by simp [csT]; omega)] at hu; cases hu
            have h1 := hcl q u (by simpa [csT, List.getElem?_take, hq] using hu)
            rw [addN]
            exact (hV.cell (p := ⟨b, o + q, none⟩) (World.block_lt_of_cell? wr _ h1)).trans h1
          have hone2 : ∀ u ∈ tk, u.oneCell' = true := fun u hu => by
            rw [← htk2] at hu
            obtain ⟨y, _, rfl⟩ := List.mem_map.1 hu
            rfl
          rw [hdr] at hnd hone
          rw [htk2] at htk
          have HIc : Hid (csT (insS s N) = tk ++ (.string (str s) :: dr)) := by
            show _ = _
            rw [HI.out, ← hdr, ← htk2]
            simp [csT]
          have HIl : Hid ((insS s N).length = j + (1 + (N.length - j))) := by
            show _ = _
            rw [HI.out]
            simp
            omega
          have hcj : ¬ c = j := by omega
          have hcj2 : j ≤ c := by omega
          have B1 : Below wr.heap.size wr (wr.drew.alloc (.cells #[.string (str s)] 9)) := ((Below.refl wr.heap.size wr).drew).alloc (by simp) _
          have HB1 := hide B1
          have HS1 : Hid (∀ (q : Nat) (u : Value), ([Value.string (str s)] : List Value)[q]? = some u → (wr.drew.alloc (.cells #[.string (str s)] 9)).cell? ((⟨wr.heap.size, 0, none⟩ : Addr).add q) = some u) := by
            have := World.news_of_block (cs := #[.string (str s)]) (t := 9) (fr := (0, 0)) (heap_alloc_new wr.drew (.cells #[.string (str s)] 9))
            exact this
          clear hcl B1 HX HP HEND HLT hxe hdr htk2
          go_upto_region 6 with fail
          generalize str s = S at *
          clear hbl hqs hnl c0
          have hone3 : ∀ u ∈ ([.string S] ++ dr : List Value), u.oneCell' = true := fun u hu => by
            rcases List.mem_append.1 hu with h | h
            · rw [List.mem_singleton.1 h]; rfl
            · exact hone u h
          have hlen3 : ([.string S] ++ dr : List Value).length = (1 + (N.length - j)) * 1 := by rw [List.length_append, hnd]; simp
          have HON := hide hone3
          have HZB := HB1.out.size
          clear hone3
          go_region_law (first
            | (refine step_append_grows (by rfl) _ _ _ (by rfl) 9 i0 (.string ⟨#[]⟩) 1 16 Try.underlying31 hi hz0 hz1 hz2 rfl (by omega) (some ⟨wr.heap.size, 0, none⟩) 1 1 [.string S] (by rfl) (fun h => by cases h) (by rfl) (fun b hb => by cases hb; exact HS1.out) ⟨b, o + j, none⟩ (N.length - j) (c - j) dr (by rfl) hnd (HDR.out _ HB1.out) hone (by omega) (by unfold maxLen; omega) (by omega) ?_; intro v1 W1 own1 gr1; obtain ⟨g1, c1, hv1, hg1⟩ := row_form own1 (by omega); subst hv1; have HO1 := hide own1; have HBW := hide (HB1.out.grown gr1 HB1.out.size (fun k hk => by cases hk)); clear own1 gr1)
            | (refine step_append_grows (by rfl) _ _ _ (by rfl) 9 i0 (.string ⟨#[]⟩) 1 16 Try.underlying31 hi hz0 hz1 hz2 rfl (by omega) (some ⟨b, o, none⟩) j j tk (by rfl) (fun h => by cases h) htk (fun b' hb => by cases hb; exact HTK.out _ HBW.out) ⟨g1, 0, none⟩ (1 + (N.length - j)) c1 ([.string S] ++ dr) (by rfl) hlen3 (HO1.out.cells (g := g1) rfl) HON.out (by omega) (by unfold maxLen; omega) (by omega) ?_; intro v2 W2 own2 gr2; have HO2 := hide own2; have HBX := hide (HBW.out.grown gr2 HBW.out.size (fun k hk => by cases hk)); clear own2 gr2)
            | fail)
          all_goals
            have HF := hide (row_low HO2.out (show B ≤ W1.heap.size from Nat.le_trans hB HBW.out.size))
            clear HO2 HO1 HBW HS1 HB1 HTK HDR
            go_wp2_with fail
            go_ret
            refine ⟨_, rfl, ?_, HBX.out⟩
            rw [HIc.out, HIl.out]
            exact HF.out
      · have hjd : decide ((j : Int) < (N.length : Int)) = false := decide_eq_false (by omega)
        have hjd2 : decide (j < N.length) = false := decide_eq_false (by omega)
        have HI : Hid (insS s N = N ++ [s]) := by
          show _ = _
          unfold insS
          rw [HP.out, if_neg (by rw [List.getElem?_eq_none (by omega)]; simp), List.take_of_length_le (by omega), List.drop_of_length_le (by omega)]
        obtain rfl : j = N.length := by omega
        have hcl : Hid (∀ (V : World), Below wr.heap.size wr V → ∀ (y : Addr), a = some y → ∀ (q : Nat) (u : Value), (csT N)[q]? = some u → V.cell? (y.add q) = some u) := fun V hV y hy q u hu => by
          have h1 := HR.out.cells y hy q u hu
          have hb : (y.add q).block < wr.heap.size := World.block_lt_of_cell? wr _ h1
          exact (hV.cell hb).trans h1
        have htk : (csT N).length = N.length * 1 := by simp [csT]
        have HIc : Hid (csT (insS s N) = csT N ++ [.string (str s)]) := by
          show _ = _
          rw [HI.out]
          simp [csT]
        have HIl : Hid ((insS s N).length = N.length + 1) := by
          show _ = _
          rw [HI.out]
          simp
        have hcj2 : N.length ≤ c := by omega
        have HB1 : Hid (Below wr.heap.size wr (wr.drew.alloc (.cells #[.string (str s)] 9))) := ((Below.refl wr.heap.size wr).drew).alloc (by simp) _
        have HS1 : Hid (∀ (q : Nat) (u : Value), ([Value.string (str s)] : List Value)[q]? = some u → (wr.drew.alloc (.cells #[.string (str s)] 9)).cell? ((⟨wr.heap.size, 0, none⟩ : Addr).add q) = some u) := by
          have := World.news_of_block (cs := #[.string (str s)]) (t := 9) (fr := (0, 0)) (heap_alloc_new wr.drew (.cells #[.string (str s)] 9))
          exact this
        have HV0 : Hid ((wr.drew.alloc (.cells #[.string (str s)] 9)).ownsRow 0 9 1 (.slice (some ⟨wr.heap.size, 0, none⟩) 1 1) 1 [.string (str s)]) :=
          ⟨rfl, .inr ⟨wr.heap.size, 1, #[.string (str s)], rfl, Nat.zero_le _, heap_alloc_new wr.drew _, Nat.le_refl _, by decide, rfl, rfl⟩⟩
        have HHAP : Hid (∀ (ad : Addr) (c' : Nat) (V : World), (Builtin.append_ #[31, 31] 31 #[.slice (some ⟨wr.heap.size, 0, none⟩) 1 1, .slice (some ad) 0 c']).run Try.prog V = .ok (.slice (some ⟨wr.heap.size, 0, none⟩) 1 1) V) := fun ad c' V =>
          run_append_room_cells V 31 31 9 i0 Try.underlying31 hi wr.heap.size 0 1 1 ad 0 c' [] (by simp) (fun j u hu => by simp at hu) (fun u hu => by cases hu) (by omega) (fun j hj => by simp at hj) (fun j hj => by simp at hj)
        have hone : ∀ u ∈ csT N, u.oneCell' = true := fun u hu => by
          obtain ⟨y, _, rfl⟩ := List.mem_map.1 hu
          rfl
        have hnn : a = none → N.length = 0 ∧ N.length = 0 := fun h => by have := hnil h; omega
        have HNN := hide hnn
        generalize hxs : csT N = xs at *
        generalize hnl2 : N.length = ln at *
        go_upto_region 6 with fail
        generalize str s = S at *
        clear HP HEND HLT hxs hnn
        rcases (show (a = none ∧ c = 0) ∨ (∃ y, a = some y ∧ c = ln) ∨ (∃ y, a = some y ∧ ¬ c = ln) by
          cases a with
          | none => exact .inl ⟨rfl, hnil rfl⟩
          | some y => by_cases hc : c = ln; exact .inr (.inl ⟨y, rfl, hc⟩); exact .inr (.inr ⟨y, rfl, hc⟩)) with ⟨rfl, rfl⟩ | ⟨y, rfl, rfl⟩ | ⟨y, rfl, hcn⟩
        · obtain rfl : ln = 0 := by omega
          have hap := run_append_owned_none (wr.drew.alloc (.cells #[.string S] 9)) 0 31 31 9 i0 1 Try.underlying31 hi (.slice (some ⟨wr.heap.size, 0, none⟩) 1 1) 1 [.string S] HV0.out
          go_region_law (first
            | (refine step_append_grows (by rfl) _ _ _ (by rfl) 9 i0 (.string ⟨#[]⟩) 1 16 Try.underlying31 hi hz0 hz1 hz2 rfl (by omega) none 0 0 xs (by rfl) (fun _ => ⟨rfl, rfl⟩) htk (fun b' hb => by cases hb) ⟨wr.heap.size, 0, none⟩ 1 1 [.string S] (by rfl) (by rfl) HS1.out (by simp [Value.oneCell']) (by omega) (by unfold maxLen; omega) (by omega) ?_; intro v2 W2 own2 gr2; have HO2 := hide own2; have HBX := hide (HB1.out.grown gr2 HB1.out.size (fun k hk => by cases hk)); clear own2 gr2)
            | fail)
          all_goals
            have HF := hide (row_low HO2.out (show B ≤ _ from Nat.le_trans hB HB1.out.size))
            clear HO2 HB1 HS1 HV0 HHAP hcl hap
            go_wp2_with fail
            go_ret
            refine ⟨_, rfl, ?_, HBX.out⟩
            rw [HIc.out, HIl.out]
            exact HF.out
        · have hap := HHAP.out y 0
          go_region_law (first
            | (refine step_append_grows (by rfl) _ _ _ (by rfl) 9 i0 (.string ⟨#[]⟩) 1 16 Try.underlying31 hi hz0 hz1 hz2 rfl (by omega) (some y) c c xs (by rfl) (fun h => by cases h) htk (fun b' hb => by cases hb; exact hcl.out _ HB1.out y rfl) ⟨wr.heap.size, 0, none⟩ 1 1 [.string S] (by rfl) (by rfl) HS1.out (by simp [Value.oneCell']) (by omega) (by unfold maxLen; omega) (by omega) ?_; intro v2 W2 own2 gr2; have HO2 := hide own2; have HBX := hide (HB1.out.grown gr2 HB1.out.size (fun k hk => by cases hk)); clear own2 gr2)
            | fail)
          all_goals
            have HF := hide (row_low HO2.out (show B ≤ _ from Nat.le_trans hB HB1.out.size))
            clear HO2 HB1 HS1 HV0 HHAP hcl hap
            go_wp2_with fail
            go_ret
            refine ⟨_, rfl, ?_, HBX.out⟩
            rw [HIc.out, HIl.out]
            exact HF.out
        · have hap := HHAP.out (y.add ln) (c - ln)
          go_region_law (first
            | (refine step_append_grows (by rfl) _ _ _ (by rfl) 9 i0 (.string ⟨#[]⟩) 1 16 Try.underlying31 hi hz0 hz1 hz2 rfl (by omega) (some y) ln ln xs (by rfl) (fun h => by cases h) htk (fun b' hb => by cases hb; exact hcl.out _ HB1.out y rfl) ⟨wr.heap.size, 0, none⟩ 1 1 [.string S] (by rfl) (by rfl) HS1.out (by simp [Value.oneCell']) (by omega) (by unfold maxLen; omega) (by omega) ?_; intro v2 W2 own2 gr2; have HO2 := hide own2; have HBX := hide (HB1.out.grown gr2 HB1.out.size (fun k hk => by cases hk)); clear own2 gr2)
            | fail)
          all_goals
            have HF := hide (row_low HO2.out (show B ≤ _ from Nat.le_trans hB HB1.out.size))
            clear HO2 HB1 HS1 HV0 HHAP hcl hap
            go_wp2_with fail
            go_ret
            refine ⟨_, rfl, ?_, HBX.out⟩
            rw [HIc.out, HIl.out]
            exact HF.out

end Go.Proofs.Yteknmlcgdjoccaa
