/- An archive's index as bytes: contracts of armap.Bytes and of the document's IndexBytes. -/
import Derived.Test.YteknmlcgdjoccaaArmNum
import Derived.Deep.LoopGhost
import Derived.Lib.AppendStr
namespace Go.Proofs.Yteknmlcgdjoccaa
open Go.RowKit
set_option linter.unusedVariables false
set_option maxRecDepth 20000
set_option linter.unusedSimpArgs false

/-- An entry: a name, a member's number. -/
structure En where
  nm : T8
  me : Int
structure En.Ok (e : En) : Prop where
  nm : e.nm.length ≤ 9223372036854775807
  lo : -9223372036854775808 ≤ e.me
  hi : e.me ≤ 9223372036854775807
def enC : Rc En := ⟨fun e => [.string (str e.nm), .int .i64 e.me], 2, by decide, fun _ => rfl, fun r u hu => by
  simp at hu
  rcases hu with rfl | rfl <;> rfl⟩
abbrev Ren (w : World) (a : Option Addr) (len cap : Nat) (l : List En) : Prop := Rr enC En.Ok w a len cap l
def ixM (l : List En) : T8 := l.flatMap (fun e => be4 e.me)
def ixN (l : List En) : T8 := l.flatMap (fun e => e.nm ++ [0])
/-- The index of entries. -/
def ixB (l : List En) : T8 := be4 l.length ++ (ixM l ++ ixN l)
theorem ixM_take (l : List En) (k : Nat) (e : En) (h : l[k]? = some e) : ixM (l.take (k + 1)) = ixM (l.take k) ++ be4 e.me := by
  unfold ixM
  rw [List.take_add_one, h, List.flatMap_append]
  simp
theorem ixN_take (l : List En) (k : Nat) (e : En) (h : l[k]? = some e) : ixN (l.take (k + 1)) = ixN (l.take k) ++ (e.nm ++ [0]) := by
  unfold ixN
  rw [List.take_add_one, h, List.flatMap_append]
  simp
theorem ixM_len (l : List En) : (ixM l).length = 4 * l.length := by
  induction l with
  | nil => rfl
  | cons a l ih =>
    have : ixM (a :: l) = be4 a.me ++ ixM l := rfl
    rw [this, List.length_append, ih, be4_len, List.length_cons]
    omega
/-- The names' bytes in all. -/
def ixT : List En → Nat
  | [] => 0
  | e :: l => e.nm.length + 1 + ixT l
theorem ixN_len (l : List En) : (ixN l).length = ixT l := by
  induction l with
  | nil => rfl
  | cons a l ih =>
    have : ixN (a :: l) = (a.nm ++ [0]) ++ ixN l := rfl
    rw [this, List.length_append, ih, List.length_append]
    rfl
theorem ixT_take (l : List En) (k : Nat) (e : En) (h : l[k]? = some e) : ixT (l.take k) + (e.nm.length + 1) ≤ ixT l := by
  induction l generalizing k with
  | nil => simp at h
  | cons a l ih =>
    cases k with
    | zero => simp at h; subst h; simp [ixT]
    | succ k => have := ih k (by simpa using h); simp only [List.take_succ_cons, ixT]; omega
theorem ixT_le (l : List En) (m : Nat) (h : ∀ e ∈ l, e.nm.length ≤ m) : ixT l ≤ l.length * (m + 1) := by
  induction l with
  | nil => simp [ixT]
  | cons a l ih =>
    have h1 := h a (by simp)
    have h2 := ih (fun e he => h e (List.mem_cons_of_mem _ he))
    simp only [ixT, List.length_cons, Nat.succ_mul]
    omega
theorem Ren.addr {w : World} {a : Option Addr} {len cap : Nat} {l : List En} (r : Ren w a len cap l) (h : 0 < len) : ∃ b o, a = some ⟨b, o, none⟩ ∧ ∀ i e, l[i]? = some e → w.cell? ⟨b, o + i * 2, none⟩ = some (.string (str e.nm)) ∧ w.cell? ⟨b, o + i * 2 + 1, none⟩ = some (.int .i64 e.me) := by
  obtain ⟨b, o, h1, h2⟩ := Rr.addr r h
  exact ⟨b, o, h1, fun i e he => ⟨h2 i e he 0 (by decide), h2 i e he 1 (by decide)⟩⟩

set_option maxHeartbeats 3200000 in
theorem ixbytes_any (a : Option Addr) (n cap : Nat) (l : List En) (w : World) (r : Ren w a n cap l) (hn : n ≤ 1000000) (ht : ixT l ≤ 100000000) :
    Calls Try.prog 7 #[.slice a n cap] w fun e w' => ∃ v, e = .returned v ∧ PB w w' v (ixB l) := by
  have hl := r.length
  have hle := r.le
  have hmx := r.max
  have HO := hide r.ok
  have HR := hide r
  obtain ⟨i8, hi8, hz80, hz81, hz82⟩ := info_parts Try.info8
  clear r
  go_enter Try.func7, Try.ntmps7
  go_wp2_with (go_at_call 14; refine (apn_any w w _ [] (n : Int) (PB.nil w) (by simp) (by omega) (by omega)).mono ?_; rintro e W1 ⟨v1, rfl, h1⟩; have P1 := hide h1; clear h1)
  have HE0 : Hid (be4 (l.length : Int) = be4 (n : Int)) := by show _ = _; rw [hl]
  have HP1 : Hid (PB w W1 v1 (be4 (n : Int) ++ ixM (l.take 0))) := by
    have e : be4 (n : Int) ++ ixM (l.take 0) = be4 (n : Int) := by simp [ixM]
    show PB _ _ _ _
    rw [e]
    exact P1.out
  clear P1
  go_loopg [3, 5, 13] n (fun gg v s5 i wr => ∃ k : Nat, k ≤ n ∧ gg = n - k ∧ i = .int .i64 (k : Int) ∧ Hid (PB w wr v (be4 (n : Int) ++ ixM (l.take k))))
  case atStart => exact ⟨0, by omega, rfl, rfl, HP1⟩
  case round =>
    obtain ⟨k, hk, rfl, rfl, P⟩ := hrel
    clear HP1
    by_cases hlt : k < n
    · have hlt' : (k : Int) < (n : Int) := by omega
      obtain ⟨t, ht⟩ : ∃ t, l[k]? = some t := ⟨_, List.getElem?_eq_getElem (by omega)⟩
      have hok := HO.out t (List.mem_of_getElem? ht)
      obtain ⟨b2, o2, rfl, hc⟩ := Ren.addr (Rr.below HR.out P.out.bel) (by omega)
      obtain ⟨c0, c1⟩ := hc k t ht
      have HM := hide (ixM_take l k t ht)
      have hlen : (be4 (n : Int) ++ ixM (l.take k)).length ≤ 1000000000 := by rw [List.length_append, ixM_len, be4_len, List.length_take]; omega
      have m1 := hok.lo
      have m2 := hok.hi
      generalize str t.nm = S at *
      generalize ht2 : t.me = me at *
      clear hc ht
      go_wp2_with fail
      refine (apn_any _ _ _ _ _ (P.out.on ((Below.refl _ _).alloc (Nat.le_refl _) _)) hlen m1 m2).mono ?_
      rintro e W4 ⟨v4, rfl, h4⟩
      have N4 : Hid (PB w W4 v4 (be4 (n : Int) ++ ixM (l.take (k + 1)))) := by
        show PB _ _ _ _
        rw [HM.out, ← List.append_assoc]
        exact h4
      clear h4 P HM c0 c1
      go_wp2
      go_roundg (n - (k + 1))
      case measure => omega
      case rel => exact ⟨k + 1, by omega, rfl, by go_num, N4⟩
    · obtain rfl : k = n := by omega
      have HP2 : Hid (PB w wr u3 (be4 (k : Int) ++ ixM l ++ ixN (l.take 0))) := by
        have hrow := P.out
        rw [List.take_of_length_le (by omega)] at hrow
        have e : be4 (k : Int) ++ ixM l ++ ixN (l.take 0) = be4 (k : Int) ++ ixM l := by simp [ixN]
        show PB _ _ _ _
        rw [e]
        exact hrow
      clear P
      go_wp2
      go_loopg [3, 7, 24] k (fun gg v s5 i wx => ∃ j : Nat, j ≤ k ∧ gg = k - j ∧ i = .int .i64 (j : Int) ∧ Hid (PB w wx v (be4 (k : Int) ++ ixM l ++ ixN (l.take j))))
      case atStart => exact ⟨0, by omega, rfl, rfl, HP2⟩
      case round =>
        obtain ⟨j, hj, rfl, rfl, P⟩ := hrel
        clear HP2
        by_cases hlt : j < k
        · have hlt' : (j : Int) < (k : Int) := by omega
          obtain ⟨t, ht⟩ : ∃ t, l[j]? = some t := ⟨_, List.getElem?_eq_getElem (by omega)⟩
          obtain ⟨b2, o2, rfl, hc⟩ := Ren.addr (Rr.below HR.out P.out.bel) (by omega)
          obtain ⟨c0, c1⟩ := hc j t ht
          have HM := hide (ixN_take l j t ht)
          have hlen : (be4 (k : Int) ++ ixM l ++ ixN (l.take j)).length + (t.nm.length + 1) ≤ 1000000000 := by
            have := ixT_take l j t ht
            rw [List.length_append, List.length_append, ixM_len, be4_len, ixN_len]; omega
          clear hc ht
          go_upto_region 11 with (at_builtin; refine wpList_pb_str (w := w) rfl _ _ rfl _ _ t.nm _ rfl rfl rfl (P.out.on ((Below.refl _ _).alloc (Nat.le_refl _) _)) (by omega) ?_; intro v5 W5 h5; refine Hid.out ?_)
          refine hide ?_
          have P5 := hide h5
          have hlen5 : (be4 (k : Int) ++ ixM l ++ ixN (l.take j) ++ t.nm).length + 1 ≤ 1000000000 := by rw [List.length_append]; omega
          clear h5 P c0 c1
          go_wp2_with (at_builtin; refine wpList_pb_row (w := w) rfl _ _ rfl _ _ [0] 1 1 ⟨W5.heap.size, 0, none⟩ rfl rfl rfl (P5.out.on ((Below.refl _ _).alloc (Nat.le_refl _) _)) (blkRt (l := [0]) (heap_alloc_new W5 _) (by decide)) (by decide) (by omega) ?_; intro v6 W6 h6; refine Hid.out ?_)
          refine hide ?_
          have N6 : Hid (PB w W6 v6 (be4 (k : Int) ++ ixM l ++ ixN (l.take (j + 1)))) := by
            show PB _ _ _ _
            have e : be4 (k : Int) ++ ixM l ++ ixN (l.take (j + 1)) = be4 (k : Int) ++ ixM l ++ ixN (l.take j) ++ t.nm ++ [0] := by rw [HM.out]; simp [List.append_assoc]
            rw [e]
            exact h6
          clear h6 P5 HM
          go_wp2
          go_roundg (k - (j + 1))
          case measure => omega
          case rel => exact ⟨j + 1, by omega, rfl, by go_num, N6⟩
        · obtain rfl : j = k := by omega
          have HP9 : Hid (PB w wr u3 (ixB l)) := by
            have hrow := P.out
            rw [List.take_of_length_le (by omega)] at hrow
            have e : ixB l = be4 (j : Int) ++ ixM l ++ ixN l := by unfold ixB; rw [hl, List.append_assoc]
            show PB _ _ _ _
            rw [e]
            exact hrow
          clear P
          go_wp2
          go_ret
          exact ⟨_, rfl, HP9.out⟩

set_option maxHeartbeats 3200000 in
theorem rixbytes_any (a : Option Addr) (n cap : Nat) (l : List En) (w : World) (r : Ren w a n cap l) (hn : n ≤ 1000000) (ht : ixT l ≤ 100000000) :
    Calls Try.prog 8 #[.slice a n cap] w fun e w' => ∃ v, e = .returned v ∧ PB w w' v (ixB l) := by
  have hl := r.length
  have hle := r.le
  have hmx := r.max
  have HO := hide r.ok
  have HR := hide r
  obtain ⟨i8, hi8, hz80, hz81, hz82⟩ := info_parts Try.info8
  clear r
  go_enter Try.func8, Try.ntmps8
  go_wp2_with (go_at_call 15; refine (rput18_any w w _ [] (n : Int) (PB.nil w) (by simp) (by omega) (by omega)).mono ?_; rintro e W1 ⟨v1, rfl, h1⟩; have P1 := hide h1; clear h1)
  have HP1 : Hid (PB w W1 v1 (be4 (n : Int) ++ ixM (l.take 0))) := by
    have e : be4 (n : Int) ++ ixM (l.take 0) = be4 (n : Int) := by simp [ixM]
    show PB _ _ _ _
    rw [e]
    exact P1.out
  clear P1
  go_loopg [3, 4] n (fun gg v i wr => ∃ k : Nat, k ≤ n ∧ gg = n - k ∧ i = .int .i64 (k : Int) ∧ Hid (PB w wr v (be4 (n : Int) ++ ixM (l.take k))))
  case atStart => exact ⟨0, by omega, rfl, rfl, HP1⟩
  case round =>
    obtain ⟨k, hk, rfl, rfl, P⟩ := hrel
    clear HP1
    by_cases hlt : k < n
    · have hlt' : (k : Int) < (n : Int) := by omega
      obtain ⟨t, ht⟩ : ∃ t, l[k]? = some t := ⟨_, List.getElem?_eq_getElem (by omega)⟩
      have hok := HO.out t (List.mem_of_getElem? ht)
      obtain ⟨b2, o2, rfl, hc⟩ := Ren.addr (Rr.below HR.out P.out.bel) (by omega)
      obtain ⟨c0, c1⟩ := hc k t ht
      have HM := hide (ixM_take l k t ht)
      have hlen : (be4 (n : Int) ++ ixM (l.take k)).length ≤ 1000000000 := by rw [List.length_append, ixM_len, be4_len, List.length_take]; omega
      have m1 := hok.lo
      have m2 := hok.hi
      generalize ht2 : t.me = me at *
      clear hc ht
      go_wp2_with fail
      refine (rput18_any _ _ _ _ _ P.out hlen m1 m2).mono ?_
      rintro e W4 ⟨v4, rfl, h4⟩
      have N4 : Hid (PB w W4 v4 (be4 (n : Int) ++ ixM (l.take (k + 1)))) := by
        show PB _ _ _ _
        rw [HM.out, ← List.append_assoc]
        exact h4
      clear h4 P HM c0 c1
      go_wp2
      go_roundg (n - (k + 1))
      case measure => omega
      case rel => exact ⟨k + 1, by omega, rfl, by go_num, N4⟩
    · obtain rfl : k = n := by omega
      have HP2 : Hid (PB w wr u3 (be4 (k : Int) ++ ixM l ++ ixN (l.take 0))) := by
        have hrow := P.out
        rw [List.take_of_length_le (by omega)] at hrow
        have e : be4 (k : Int) ++ ixM l ++ ixN (l.take 0) = be4 (k : Int) ++ ixM l := by simp [ixN]
        show PB _ _ _ _
        rw [e]
        exact hrow
      clear P
      go_wp2
      go_loopg [3, 5] k (fun gg v i wx => ∃ j : Nat, j ≤ k ∧ gg = k - j ∧ i = .int .i64 (j : Int) ∧ Hid (PB w wx v (be4 (k : Int) ++ ixM l ++ ixN (l.take j))))
      case atStart => exact ⟨0, by omega, rfl, rfl, HP2⟩
      case round =>
        obtain ⟨j, hj, rfl, rfl, P⟩ := hrel
        clear HP2
        by_cases hlt : j < k
        · have hlt' : (j : Int) < (k : Int) := by omega
          obtain ⟨t, ht⟩ : ∃ t, l[j]? = some t := ⟨_, List.getElem?_eq_getElem (by omega)⟩
          obtain ⟨b2, o2, rfl, hc⟩ := Ren.addr (Rr.below HR.out P.out.bel) (by omega)
          obtain ⟨c0, c1⟩ := hc j t ht
          have HM := hide (ixN_take l j t ht)
          have hlen : (be4 (k : Int) ++ ixM l ++ ixN (l.take j)).length + (t.nm.length + 1) ≤ 1000000000 := by
            have := ixT_take l j t ht
            rw [List.length_append, List.length_append, ixM_len, be4_len, ixN_len]; omega
          clear hc ht
          go_wp2_with (at_builtin; refine wpList_pb_str (w := w) rfl _ _ rfl _ _ t.nm _ rfl rfl rfl P.out (by omega) ?_; intro v5 W5 h5; refine Hid.out ?_)
          refine hide ?_
          have P5 := hide h5
          have hlen5 : (be4 (k : Int) ++ ixM l ++ ixN (l.take j) ++ t.nm).length + 1 ≤ 1000000000 := by rw [List.length_append]; omega
          clear h5 P c0 c1
          go_wp2_with (at_builtin; refine wpList_pb_row (w := w) rfl _ _ rfl _ _ [0] 1 1 ⟨W5.heap.size, 0, none⟩ rfl rfl rfl (P5.out.on ((Below.refl _ _).alloc (Nat.le_refl _) _)) (blkRt (l := [0]) (heap_alloc_new W5 _) (by decide)) (by decide) (by omega) ?_; intro v6 W6 h6; refine Hid.out ?_)
          refine hide ?_
          have N6 : Hid (PB w W6 v6 (be4 (k : Int) ++ ixM l ++ ixN (l.take (j + 1)))) := by
            show PB _ _ _ _
            have e : be4 (k : Int) ++ ixM l ++ ixN (l.take (j + 1)) = be4 (k : Int) ++ ixM l ++ ixN (l.take j) ++ t.nm ++ [0] := by rw [HM.out]; simp [List.append_assoc]
            rw [e]
            exact h6
          clear h6 P5 HM
          go_wp2
          go_roundg (k - (j + 1))
          case measure => omega
          case rel => exact ⟨j + 1, by omega, rfl, by go_num, N6⟩
        · obtain rfl : j = k := by omega
          have HP9 : Hid (PB w wr u3 (ixB l)) := by
            have hrow := P.out
            rw [List.take_of_length_le (by omega)] at hrow
            have e : ixB l = be4 (j : Int) ++ ixM l ++ ixN l := by unfold ixB; rw [hl, List.append_assoc]
            show PB _ _ _ _
            rw [e]
            exact hrow
          clear P
          go_wp2
          go_ret
          exact ⟨_, rfl, HP9.out⟩

end Go.Proofs.Yteknmlcgdjoccaa
