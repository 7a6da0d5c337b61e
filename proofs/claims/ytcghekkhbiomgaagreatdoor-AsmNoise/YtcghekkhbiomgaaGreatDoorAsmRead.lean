/- The contract of asm's readNumbers: a text read by a pattern. -/
import Derived.Test.YtcghekkhbiomgaaGreatDoorAsmTxt
import Derived.Lib.ParseIntBTie
namespace Go.Proofs.YtcghekkhbiomgaaGreatDoor
open Go.RowKit Go.Maps
set_option linter.unusedVariables false
set_option maxRecDepth 100000

theorem pi_bds {l : List UInt8} {v : Int} (h : Lib.parseIntB 64 l = .ok v) : -9223372036854775808 ≤ v ∧ v ≤ 9223372036854775807 := by
  unfold Lib.parseIntB at h
  split at h
  · cases h
  · simp only at h
    split at h
    · cases h
    · cases h
    · split at h
      · cases h
      · split at h
        · cases h
        · rename_i h1 h2
          injection h with h
          subst h
          split <;> simp_all <;> omega

/-- What a map of numbers tells by the letters. -/
structure MapIs (D : DataW Unit) (m : Ns) : Prop where
  map : IsMap D
  d : D.atKey (.int .u8 68) (.lit (.int .i64 0)) = .lit (.int .i64 m.d)
  s : D.atKey (.int .u8 83) (.lit (.int .i64 0)) = .lit (.int .i64 m.s)
  t : D.atKey (.int .u8 84) (.lit (.int .i64 0)) = .lit (.int .i64 m.t)
  i : D.atKey (.int .u8 73) (.lit (.int .i64 0)) = .lit (.int .i64 m.i)
theorem mapIs_empty : MapIs (.map []) ⟨0, 0, 0, 0⟩ := ⟨isMap_empty, rfl, rfl, rfl, rfl⟩
theorem MapIs.put {D : DataW Unit} {m : Ns} (h : MapIs D m) (c : UInt8) (hc : isL c = true) (v : Int) : MapIs (D.put (.int .u8 c.toNat) (.lit (.int .i64 v))) (m.set c v) := by
  simp only [isL, Bool.or_eq_true, decide_eq_true_eq] at hc
  rcases hc with ((rfl | rfl) | rfl) | rfl
  · refine ⟨h.map.put _ _, atKey_put_same h.map (isKeyB 68) _ _, ?_, ?_, ?_⟩
    · exact (atKey_put_other (lit_ne (by decide)) _ _).trans h.s
    · exact (atKey_put_other (lit_ne (by decide)) _ _).trans h.t
    · exact (atKey_put_other (lit_ne (by decide)) _ _).trans h.i
  · refine ⟨h.map.put _ _, ?_, atKey_put_same h.map (isKeyB 83) _ _, ?_, ?_⟩
    · exact (atKey_put_other (lit_ne (by decide)) _ _).trans h.d
    · exact (atKey_put_other (lit_ne (by decide)) _ _).trans h.t
    · exact (atKey_put_other (lit_ne (by decide)) _ _).trans h.i
  · refine ⟨h.map.put _ _, ?_, ?_, atKey_put_same h.map (isKeyB 84) _ _, ?_⟩
    · exact (atKey_put_other (lit_ne (by decide)) _ _).trans h.d
    · exact (atKey_put_other (lit_ne (by decide)) _ _).trans h.s
    · exact (atKey_put_other (lit_ne (by decide)) _ _).trans h.i
  · refine ⟨h.map.put _ _, ?_, ?_, ?_, atKey_put_same h.map (isKeyB 73) _ _⟩
    · exact (atKey_put_other (lit_ne (by decide)) _ _).trans h.d
    · exact (atKey_put_other (lit_ne (by decide)) _ _).trans h.s
    · exact (atKey_put_other (lit_ne (by decide)) _ _).trans h.t
theorem Ns.Fit.set {m : Ns} (h : m.Fit) (c : UInt8) {v : Int} (hv : -9223372036854775808 ≤ v ∧ v ≤ 9223372036854775807) : (m.set c v).Fit := by
  obtain ⟨h1, h2, h3, h4⟩ := h
  unfold Ns.set
  repeat' split
  all_goals (unfold Ns.Fit; simp_all)

theorem zero_fit : (⟨0, 0, 0, 0⟩ : Ns).Fit := by unfold Ns.Fit; decide

/-- What the reading by a pattern tells. -/
def RdIs (o : Option Ns) (e : Ending) (w' : World) : Prop :=
  match o with
  | none => e = .returned (.tuple #[.map none, .bool false])
  | some m => ∃ b n D, e = .returned (.tuple #[.map (some b), .bool true]) ∧ w'.ownsMap Tryz.prog 5 (plainElem Tryz.prog 2) b n D ∧ MapIs D m ∧ m.Fit

theorem rdn_cons {p : List UInt8} {k : Nat} {c : UInt8} (h : p[k]? = some c) : p.drop k = c :: p.drop (k + 1) := by
  obtain ⟨hk, rfl⟩ := List.getElem?_eq_some_iff.1 h
  exact List.drop_eq_getElem_cons hk
theorem take_tw (r : List UInt8) : (str r).extract 0 (r.takeWhile isN).length = str (r.takeWhile isN) := by
  rw [Lib.extract_mk]
  congr 2
  simp only [List.drop_zero, Nat.sub_zero]
  have e : r.takeWhile isN ++ r.dropWhile isN = r := List.takeWhile_append_dropWhile
  generalize r.takeWhile isN = a at *
  generalize r.dropWhile isN = b at *
  rw [← e]
  simp
theorem drop_tw (r : List UInt8) : (str r).extract (r.takeWhile isN).length (str r).size = str (r.dropWhile isN) := by
  rw [Lib.extract_mk]
  congr 2
  rw [List.take_of_length_le (by rw [List.length_drop, str_size]; omega)]
  have e : r.takeWhile isN ++ r.dropWhile isN = r := List.takeWhile_append_dropWhile
  generalize r.takeWhile isN = a at *
  generalize r.dropWhile isN = b at *
  rw [← e]
  simp
theorem tw_le (r : List UInt8) : (r.takeWhile isN).length ≤ (str r).size := by rw [str_size]; exact (List.takeWhile_sublist _).length_le
theorem dw_le (r : List UInt8) : (r.dropWhile isN).length ≤ r.length := (List.dropWhile_sublist _).length_le
theorem drop_one (b : UInt8) (r : List UInt8) : (str (b :: r)).extract 1 (str (b :: r)).size = str r := by
  rw [Lib.extract_mk]
  congr 2
  rw [List.take_of_length_le (by rw [List.length_drop, str_size]; omega)]
  rfl
theorem str_zero {b : UInt8} {r : List UInt8} (h : 0 < (str (b :: r)).size) : (((str (b :: r))[0]'h).toNat : Int) = b.toNat := by
  have := Lib.getElem_mk (b :: r) 0 h
  simp at this
  rw [← this]

set_option maxHeartbeats 6400000 in
theorem rdn_any (p l : List UInt8) (w : World) (hp : p.length ≤ 64) (hl : l.length ≤ 1000000000) (hL : LaidA w) :
    Calls Tryz.prog 31 #[.string (str p), .string (str l)] w fun e w' => RdIs (rdn p l ⟨0, 0, 0, 0⟩) e w' ∧ Below w.heap.size w w' := by
  have hmm := @run_makeMap Tryz.prog
  have HX : Hid (∀ (n : Nat) (h : n < (str p).size), p[n]? = some ((str p)[n]'h)) := hide (fun n h => Lib.getElem_mk p n h)
  have hsz := str_size p
  have HP := hide hsz
  have hps : (str p).size ≤ 64 := by omega
  have HL := hide hL
  have HE := hide (fun (l : List UInt8) (w : World) (h : l.length ≤ 9223372036854775806) => nend_any l w h)
  have HI := hide (fun (l : List UInt8) (w : World) (h : l.length ≤ 281474976710656) (hL : LaidA w) => pint_any l w h hL)
  generalize str p = s at *
  clear hL hsz
  obtain ⟨tot, htot⟩ : ∃ tot, tot = rdn p l ⟨0, 0, 0, 0⟩ := ⟨_, rfl⟩
  rw [← htot]
  have HTot := hide htot
  clear htot
  go_enter Tryz.func31, Tryz.ntmps31
  go_wp2
  go_loopw [1, 15] (fun sv i wr => ∃ (k : Nat) (r : List UInt8) (m : Ns) (D : DataW Unit), k ≤ s.size ∧ i = .int .i64 k ∧ sv = .string (str r) ∧ r.length ≤ l.length ∧ Hid (rdn (p.drop k) r m = tot) ∧ Hid (MapIs D m) ∧ Hid m.Fit ∧
      Hid (wr.ownsMap Tryz.prog 5 (plainElem Tryz.prog 2) w.heap.size k D) ∧ Hid (Below w.heap.size w wr) ∧ w.heap.size < wr.heap.size)
    (fun _ i _ => s.size - (intOf i).toNat)
  case atStart =>
    exact ⟨0, l, ⟨0, 0, 0, 0⟩, .map [], Nat.zero_le _, rfl, rfl, Nat.le_refl _, by rw [HTot.out]; rfl, mapIs_empty, zero_fit, World.ownsMap_made (H := Unit) w _ _ _, (Below.refl _ _).alloc (Nat.le_refl _) _, by simp⟩
  case round =>
    obtain ⟨k, r, m, D, hk, rfl, rfl, hr, HR, HM, HMF, HO, HB, hz⟩ := hrel
    by_cases hlt : k < s.size
    · have hlt' : (k : Int) < s.size := by omega
      have hx := HX.out k hlt
      obtain ⟨c, hc⟩ : ∃ c, c = s[k]'hlt := ⟨_, rfl⟩
      rw [← hc] at hx
      have hR := HR.out
      rw [rdn_cons hx] at hR
      have hy : ((s[k]'hlt).toNat : Int) = (c.toNat : Int) := by rw [hc]
      clear hc hx HR
      by_cases hL : isL c = true
      · have hrd : (∃ v, Lib.parseIntB 64 (r.takeWhile isN) = .ok v ∧ rdn (p.drop (k + 1)) (r.dropWhile isN) (m.set c v) = tot) ∨ ((∀ v, Lib.parseIntB 64 (r.takeWhile isN) ≠ .ok v) ∧ tot = none) := by
          unfold rdn at hR
          rw [if_pos hL] at hR
          cases hpi : Lib.parseIntB 64 (r.takeWhile isN) with
          | ok v => rw [hpi] at hR; exact .inl ⟨v, rfl, hR⟩
          | «syntax» => rw [hpi] at hR; exact .inr ⟨(fun v h => by cases h), hR.symm⟩
          | range => rw [hpi] at hR; exact .inr ⟨(fun v h => by cases h), hR.symm⟩
        have HRD := hide hrd
        have e1 := take_tw r
        have e2 := drop_tw r
        have h2 := tw_le r
        have h3 := dw_le r
        have HE1 := hide (HE.out r wr (by omega))
        have h4 : (r.takeWhile isN).length ≤ r.length := (List.takeWhile_sublist _).length_le
        have HI1 := hide (HI.out (r.takeWhile isN) wr (by omega) (HL.out.then HB.out))
        have HD := hide hL
        have HKc := hide (keyByte c)
        have HPut := hide (fun v => HM.out.put c hL v)
        have HSet := hide (fun v hv => HMF.out.set c (v := v) hv)
        clear hrd hR
        generalize str (r.takeWhile isN) = t1 at *
        obtain ⟨r2, hr2⟩ : ∃ r2, r2 = r.dropWhile isN := ⟨_, rfl⟩
        rw [← hr2] at e2 h3 HRD
        obtain ⟨n, hn⟩ : ∃ n, n = (r.takeWhile isN).length := ⟨_, rfl⟩
        rw [← hn] at e1 e2 h2 HE1
        have HQ0 : Hid (∀ v, Lib.parseIntB 64 (r.takeWhile isN) = .ok v → rdn (p.drop (k + 1)) r2 (m.set c v) = tot) := hide (fun v hv => by
          rcases HRD.out with ⟨v', h1, h2⟩ | ⟨h1, _⟩
          · rw [hv] at h1; cases h1; exact h2
          · exact absurd hv (h1 v))
        have HN0 : Hid ((∀ v, Lib.parseIntB 64 (r.takeWhile isN) ≠ .ok v) → tot = none) := hide (fun hv => by
          rcases HRD.out with ⟨v', h1, h2⟩ | ⟨_, h1⟩
          · exact absurd h1 (hv v')
          · exact h1)
        clear hr2 hn h4 HE HI HM HMF HRD
        generalize str r = t at *
        have h2' : (n : Int) ≤ t.size := by omega
        have h68 : c = 68 ∨ c = 83 ∨ c = 84 ∨ c = 73 := by
          have := HD.out
          simp only [isL, Bool.or_eq_true, decide_eq_true_eq] at this
          rcases this with ((h | h) | h) | h <;> simp [h]
        clear hL
        rcases h68 with rfl | rfl | rfl | rfl
        all_goals
          first
          | replace hy : ((s[k]'hlt).toNat : Int) = 68 := hy
          | replace hy : ((s[k]'hlt).toNat : Int) = 83 := hy
          | replace hy : ((s[k]'hlt).toNat : Int) = 84 := hy
          | replace hy : ((s[k]'hlt).toNat : Int) = 73 := hy
        all_goals
          go_wp2_with fail
          refine HE1.out.mono ?_
          rintro e W ⟨rfl, hW⟩
          rw [hW]
          clear hW W HE1
          go_wp2_with fail
          refine HI1.out.mono ?_
          rintro e W2 ⟨hpi, hb2⟩
          have HB2 := hide hb2
          have z2 := hb2.size
          clear hb2 HI1
          rcases hpi with ⟨v, hv, rfl⟩ | ⟨hv, v, a, rfl⟩
          · have HQ := hide (HQ0.out v hv)
            have wv := wf_i64 (pi_bds hv)
            have HS := hide (HSet.out v (pi_bds hv))
            have HO2 := hide (HO.out.kept (row := none) (w' := W2) ⟨HB2.out.os, HB2.out.tape, HB2.out.output, HB2.out.size, fun i hi _ => HB2.out.block i hi⟩ (by simp))
            have HW := hide wv
            clear hv wv HSet HO HQ0 HN0
            go_wp2_with (at_mapUpdate; refine wpList_mapUpdate_own _ rfl _ _ _ 57 rfl 5 2 byteKey Tryz.underlying57 _ w.heap.size k _ rfl HO2.out (by unfold maxLen; omega) _ _ _ rfl rfl HKc.out _ [] (plainElem_int Tryz.underlying2 HW.out) ?_; intro W3 hown3 hgrow3; refine Hid.out ?_)
            refine Lib.hid ?_
            have z3 := hgrow3.size
            have HO3 := hide hown3
            have HB3 := hide ((HB.out.trans (HB2.out.mono (by omega))).grown hgrow3 (by omega) (fun j hj => by cases hj; omega))
            clear hown3 hgrow3
            go_wp2
            go_roundw
            case rel => exact ⟨k + 1, r2, _, _, by omega, by go_num, rfl, by omega, HQ.out, HPut.out v, HS.out, HO3.out, HB3.out, by omega⟩
            case measure => simp [intOf]; omega
          · have HT := hide (HN0.out hv)
            have HB3 := hide (HB.out.trans (HB2.out.mono (by omega)))
            clear hv HQ0 HN0 HSet HPut
            go_wp2
            go_ret2
            exact ⟨by rw [HT.out]; rfl, HB3.out⟩
      · have hL' : isL c = false := by simpa using hL
        have hc4 : c ≠ 68 ∧ c ≠ 83 ∧ c ≠ 84 ∧ c ≠ 73 := by simpa [isL, and_assoc] using hL'
        have n1 : ((c.toNat : Int) == 68) = false := by have := u8_ne hc4.1; simpa using this
        have n2 : ((c.toNat : Int) == 83) = false := by have := u8_ne hc4.2.1; simpa using this
        have n3 : ((c.toNat : Int) == 84) = false := by have := u8_ne hc4.2.2.1; simpa using this
        have n4 : ((c.toNat : Int) == 73) = false := by have := u8_ne hc4.2.2.2; simpa using this
        clear hL hc4 HE HI
        cases r with
        | nil =>
          have HT : Hid (tot = none) := hide (by rw [← hR]; simp [rdn, hL'])
          have he := str_empty []
          rw [decide_eq_true rfl] at he
          clear hR hL'
          generalize str [] = t at *
          go_wp2
          go_ret2
          exact ⟨by rw [HT.out]; rfl, HB.out⟩
        | cons b r' =>
          have he := str_empty (b :: r')
          rw [decide_eq_false (by simp)] at he
          have h0 : 0 < (str (b :: r')).size := by rw [str_size]; simp
          have hb0 := str_zero h0
          have e1 := drop_one b r'
          have hr' : r'.length ≤ l.length := by simp at hr; omega
          by_cases hbc : b = c
          · subst hbc
            rw [rdn_lit hL'] at hR
            have HR := hide hR
            have h1 : (1 : Int) ≤ (str (b :: r')).size := by omega
            clear hR hL' hr
            generalize str (b :: r') = t at *
            have HO1 := hide (HO.out.mono (n' := k + 1) (by omega))
            go_wp2
            go_roundw
            case rel => exact ⟨k + 1, r', m, D, by omega, by go_num, rfl, hr', HR.out, HM.out, HMF.out, HO1.out, HB.out, hz⟩
            case measure => simp [intOf]; omega
          · have HT : Hid (tot = none) := hide (by rw [← hR]; simp [rdn, hL', hbc])
            have hne : ((b.toNat : Int) == (c.toNat : Int)) = false := by have := u8_ne hbc; simpa using this
            clear hR hL' hr hbc
            generalize str (b :: r') = t at *
            go_wp2
            go_ret2
            exact ⟨by rw [HT.out]; rfl, HB.out⟩
    · obtain rfl : k = s.size := by omega
      have hR := HR.out
      rw [HP.out, List.drop_length] at hR
      have HR := hide (show tot = some m from hR.symm)
      clear hR HE HI
      go_wp2
      go_ret2
      exact ⟨by rw [HR.out]; exact ⟨_, _, D, rfl, HO.out, HM.out, HMF.out⟩, HB.out⟩

end Go.Proofs.YtcghekkhbiomgaaGreatDoor
