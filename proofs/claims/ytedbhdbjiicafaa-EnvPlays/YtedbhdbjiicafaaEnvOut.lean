/- Contracts of env's Output and of the document's: the bytes of all writes to a file, in new memory. -/
import Derived.Test.YtedbhdbjiicafaaEnvTrace
namespace Go.Proofs.Ytedbhdbjiicafaa
open Go.RowKit
set_option linter.unusedVariables false

/-- The bytes of all writes to a file. -/
noncomputable def outOf (fd : Int) (tr : List Says) : List Int := tr.flatMap fun s => if s.kind = 0 ∧ s.fd = fd then s.bs else []

theorem outOf_nil (fd : Int) : outOf fd [] = [] := rfl
theorem outOf_snoc (fd : Int) (tr : List Says) (s : Says) : outOf fd (tr ++ [s]) = outOf fd tr ++ (if s.kind = 0 ∧ s.fd = fd then s.bs else []) := by simp [outOf]
theorem outOf_app (fd : Int) (tr tr' : List Says) : outOf fd (tr ++ tr') = outOf fd tr ++ outOf fd tr' := by simp [outOf]
theorem outOf_le (fd : Int) (tr : List Says) (j : Nat) : (outOf fd (tr.take j)).length ≤ (outOf fd tr).length := by
  have h := outOf_app fd (tr.take j) (tr.drop j)
  rw [List.take_append_drop] at h
  rw [h, List.length_append]
  omega
theorem outOf_bytes {fd : Int} : ∀ {tr : List Says}, (∀ s ∈ tr, Bytes s.bs) → Bytes (outOf fd tr)
  | [], h => Bytes.nil
  | s :: tr, h => by
    have h1 := outOf_bytes (fd := fd) (tr := tr) (fun x hx => h x (List.mem_cons_of_mem _ hx))
    have e : outOf fd (s :: tr) = (if s.kind = 0 ∧ s.fd = fd then s.bs else []) ++ outOf fd tr := by simp [outOf]
    rw [e]
    refine Bytes.append ?_ h1
    split
    · exact h s (List.mem_cons_self ..)
    · exact Bytes.nil

/-- A row of bytes of the call's own. -/
def RowB (B : Nat) (w : World) (v : Value) (l : List Int) : Prop := w.ownsRow B 5 1 v l.length (l.map (Value.int .u8))

set_option maxHeartbeats 3200000 in
theorem output_any (B : Nat) (m : Nat) (ins : List Int) (tr : List Says) (w : World) (F : Nat → Prop) (fd : Int) (h : EV B 46 m ins tr w F) (hn : tr.length ≤ 1000000) (ho : (outOf fd tr).length ≤ 140737488355328) :
    Calls Try.prog 14 #[.pointer (some ⟨m, 0, none⟩), .int .i64 fd] w fun e w' => ∃ a l c, e = .returned (.slice a l c) ∧ Rd w' a l c (outOf fd tr) ∧ Below w.heap.size w w' := by
  obtain ⟨i0, hi, hz0, hz1, hz2⟩ := info_parts Try.info8
  obtain ⟨wa, wl, wc, ev, es, h, ht⟩ := h
  have c1 := h.cell1
  obtain ⟨a0, cap0, rfl, hE, hcap, hcm⟩ := Evs.own h.row h.ok
  have hml := h.lt
  obtain ⟨n, hlen⟩ : ∃ n, es.length = n := ⟨_, rfl⟩
  rw [hlen] at c1 hE hcap
  have hn' : n ≤ 1000000 := by
    rw [← ht, List.length_map] at hn
    omega
  have HBY : Hid (Bytes (outOf fd tr)) := hide (outOf_bytes (fun s hs => by
    rw [← ht] at hs
    obtain ⟨x, hx, rfl⟩ := List.mem_map.1 hs
    exact (h.ok x hx).b.bytes))
  have HTR := hide ht
  have HE := hide hE
  have HO := hide ho
  have HC1 := hide c1
  have HLEN := hide hlen
  have HML := hide hml
  clear h hE ht ho hn hml hlen
  go_enter Try.func14, Try.ntmps14
  go_wp2
  go_loopw [5, 13] (fun v i wr => ∃ (j : Nat), j ≤ n ∧ i = .int .i64 (j : Int) ∧ RowB w.heap.size wr v (outOf fd ((es.take j).map Evt.says)) ∧ Below w.heap.size w wr) (fun _ i _ => n - (intOf i).toNat)
  case atStart => exact ⟨0, by omega, rfl, World.ownsRow_nil _ _ _ _, Below.refl _ _⟩
  case round =>
    obtain ⟨j, hj, rfl, hR, hB⟩ := hrel
    by_cases hlt : j < n
    · have hlen := HLEN.out
      obtain ⟨x, hxj⟩ : ∃ x, es[j]? = some x := ⟨_, List.getElem?_eq_getElem (by omega)⟩
      have hxm : x ∈ es := List.mem_of_getElem? hxj
      have hE1 := HE.out.below hB
      obtain ⟨b, o, hab, hcx⟩ := hE1.cell j x hxj
      have hxo := hE1.ok x hxm
      have hsn : outOf fd ((es.take (j + 1)).map Evt.says) = outOf fd ((es.take j).map Evt.says) ++ (if x.kind = 0 ∧ x.fd = fd then x.bs else []) := by
        have h1 := says_snoc hxj []
        simp only [List.nil_append] at h1
        rw [← h1, outOf_snoc]
        rfl
      have hle : (outOf fd ((es.take (j + 1)).map Evt.says)).length ≤ 140737488355328 := by
        have h1 := outOf_le fd tr (j + 1)
        rw [← HTR.out, ← List.map_take] at h1
        have h2 := HO.out
        rw [← HTR.out] at h2
        omega
      subst hab
      obtain ⟨kind, fdx, xa, xl, xc, xn, xb⟩ := x
      have k0 : wr.cell? ⟨b, o + j * 4, none⟩ = some (.int .i64 kind) := hcx 0 (by omega)
      have k1 : wr.cell? ⟨b, o + j * 4 + 1, none⟩ = some (.int .i64 fdx) := hcx 1 (by omega)
      have k2 : wr.cell? ⟨b, o + j * 4 + 2, none⟩ = some (.slice xa xl xc) := hcx 2 (by omega)
      have k3 : wr.cell? ⟨b, o + j * 4 + 3, none⟩ = some (.int .i64 xn) := hcx 3 (by omega)
      have hxb : Rd wr xa xl xc xb := hxo.b
      dsimp only at hsn
      obtain ⟨O0, hO0⟩ : ∃ O0, outOf fd ((es.take j).map Evt.says) = O0 := ⟨_, rfl⟩
      rw [hO0] at hsn hR
      have HSN := hide hsn
      have HLE := hide hle
      have HR := hide hR
      have HB := hide hB
      have HXB := hide hxb
      clear hcx hxo hR hB hxm hxj hE1 hsn hle hxb hO0 hlen
      by_cases hk : kind = 0 ∧ fdx = fd
      · obtain ⟨rfl, rfl⟩ := hk
        have HSN' : Hid (outOf fdx ((es.take (j + 1)).map Evt.says) = O0 ++ xb) := by
          refine hide ?_
          rw [HSN.out, if_pos ⟨rfl, rfl⟩]
        have hxl := HXB.out.length
        have hsum : O0.length + xl ≤ 140737488355328 := by
          have h1 := HLE.out
          rw [HSN'.out, List.length_append] at h1
          omega
        obtain ⟨L, hL⟩ : ∃ L, O0.length = L := ⟨_, rfl⟩
        rw [hL] at hsum
        have HL := hide hL
        clear HSN hL
        go_upto_region 6 with fail
        obtain ⟨X, hXe⟩ : ∃ X, X = wr.heap.size := ⟨_, rfl⟩
        rw [← hXe]
        obtain ⟨V, hV⟩ : ∃ V, V = wr.alloc (.cells #[.int .i64 0, .int .i64 fdx, .slice xa xl xc, .int .i64 xn] 32) := ⟨_, rfl⟩
        rw [← hV]
        have bV : Below wr.heap.size wr V := by rw [hV]; exact (Below.refl _ _).alloc (Nat.le_refl _) _
        obtain ⟨c0, c1, c2, c3, f0, f1, f2, f3⟩ : Box4 V X (.int .i64 0) (.int .i64 fdx) (.slice xa xl xc) (.int .i64 xn) := box4_of (t := 32) (by rw [hV, hXe]; exact heap_alloc_new wr _)
        clear k0 k1 k2 k3 f0 f1 f2 f3 hV hXe
        have HROW : Hid (V.ownsRow w.heap.size 5 1 u5 L (O0.map (Value.int .u8))) := hide (by
          have h1 := HR.out
          unfold RowB at h1
          rw [HL.out] at h1
          exact ownsRow_kept h1 (fun g hg => (bV).block g (ownsRow_blk h1 g hg)))
        have hbV : Below w.heap.size w V := HB.out.trans ((bV).mono HB.out.size)
        have hszV := hbV.size
        have HBV := hide hbV
        clear hbV
        cases xa with
        | none =>
          obtain rfl : xc = 0 := HXB.out.nil rfl
          obtain rfl : xl = 0 := by have := HXB.out.le; omega
          obtain rfl : xb = [] := List.eq_nil_of_length_eq_zero hxl
          go_wp2_with (at_builtin; refine wpList_append_own_none rfl _ _ 22 rfl w.heap.size 5 i0 1 Try.underlying22 hi u5 L (O0.map (Value.int .u8)) rfl HROW.out rfl ?_; refine Hid.out ?_)
          refine hide ?_
          have HR2 : Hid (RowB w.heap.size V u5 (outOf fdx ((es.take (j + 1)).map Evt.says))) := by
            refine hide ?_
            rw [HSN'.out, List.append_nil]
            unfold RowB
            rw [HL.out]
            exact HROW.out
          have HB2 := HBV
          clear HROW HBV hszV HR HB HSN' HL
          go_wp2
          go_roundw
          case rel => exact ⟨j + 1, by omega, by go_num, HR2.out, HB2.out⟩
          case measure => simp [intOf]; omega
        | some y =>
          have HXC : Hid (∀ j u, (xb.map (Value.int .u8))[j]? = some u → V.cell? (y.add j) = some u) := hide ((HXB.out.below (bV)).cells y rfl)
          go_wp2_with (at_builtin; refine wpList_append_own _ rfl _ _ 22 rfl w.heap.size 5 i0 (.int .u8 0) 1 1 Try.underlying22 hi hz0 hz1 hz2 rfl (by decide) u5 L (O0.map (Value.int .u8)) rfl HROW.out y xl xc (xb.map (Value.int .u8)) rfl (by rw [List.length_map, hxl, Nat.mul_one]) HXC.out (ints_oneCell _ _) (by unfold maxLen; omega) (by omega) hszV ?_; intro v2 W2 hown2 hgrow2 hnn2; refine Hid.out ?_)
          refine hide ?_
          have HR2 : Hid (RowB w.heap.size W2 v2 (outOf fdx ((es.take (j + 1)).map Evt.says))) := by
            refine hide ?_
            rw [HSN'.out]
            unfold RowB
            rw [List.length_append, List.map_append, HL.out, hxl]
            exact hown2
          have HB2 : Hid (Below w.heap.size w W2) := hide (HBV.out.grown hgrow2 hszV (fun k hk => by
            rcases HROW.out.2 with ⟨h1, _⟩ | ⟨g, c, cur, h1, h2, _⟩
            · rw [h1] at hk; cases hk
            · rw [h1] at hk; cases hk; exact h2))
          clear hown2 hgrow2 hnn2 HROW HXC HBV hszV HR HB HSN' HL
          go_wp2
          go_roundw
          case rel => exact ⟨j + 1, by omega, by go_num, HR2.out, HB2.out⟩
          case measure => simp [intOf]; omega
      · have HSN' : Hid (outOf fd ((es.take (j + 1)).map Evt.says) = O0) := by
          refine hide ?_
          rw [HSN.out, if_neg hk, List.append_nil]
        clear HSN
        have HR2 : Hid (∀ W, Below wr.heap.size wr W → RowB w.heap.size W u5 (outOf fd ((es.take (j + 1)).map Evt.says)) ∧ Below w.heap.size w W) := by
          refine hide (fun W hW => ?_)
          rw [HSN'.out]
          have h1 := HR.out
          exact ⟨ownsRow_kept h1 (fun g hg => hW.block g (ownsRow_blk h1 g hg)), HB.out.trans (hW.mono HB.out.size)⟩
        by_cases hk0 : kind = 0
        · subst hk0
          have hf : fdx ≠ fd := fun e => hk ⟨rfl, e⟩
          have hf1 : (fdx == fd) = false := by simpa using hf
          have hf2 : decide (fdx = fd) = false := by simpa using hf
          clear hk hf
          go_wp2
          go_roundw
          case rel =>
            obtain ⟨h1, h2⟩ := HR2.out _ ((Below.refl _ _).alloc (Nat.le_refl _) _)
            exact ⟨j + 1, by omega, by go_num, h1, h2⟩
          case measure => simp [intOf]; omega
        · have hf1 : (kind == 0) = false := by simpa using hk0
          have hf2 : decide (kind = 0) = false := by simpa using hk0
          clear hk hk0
          go_wp2
          go_roundw
          case rel =>
            obtain ⟨h1, h2⟩ := HR2.out _ ((Below.refl _ _).alloc (Nat.le_refl _) _)
            exact ⟨j + 1, by omega, by go_num, h1, h2⟩
          case measure => simp [intOf]; omega
    · obtain rfl : j = n := by omega
      have hb : Bytes (outOf fd ((es.take j).map Evt.says)) := by
        rw [List.take_of_length_le (by have := HLEN.out; omega), HTR.out]
        exact HBY.out
      obtain ⟨a', c', hv, hr⟩ := Rd.own hR hb
      subst hv
      rw [List.take_of_length_le (by have := HLEN.out; omega), HTR.out] at hr
      have HRR := hide hr
      have HB := hide hB
      clear hR hB hb hr
      go_wp2
      go_ret
      rw [List.take_of_length_le (by have := HLEN.out; omega), HTR.out]
      exact ⟨_, _, _, rfl, HRR.out, HB.out⟩

set_option maxHeartbeats 3200000 in
theorem routput_any (B : Nat) (m : Nat) (ins : List Int) (tr : List Says) (w : World) (F : Nat → Prop) (fd : Int) (h : EV B 30 m ins tr w F) (hn : tr.length ≤ 1000000) (ho : (outOf fd tr).length ≤ 140737488355328) :
    Calls Try.prog 15 #[.pointer (some ⟨m, 0, none⟩), .int .i64 fd] w fun e w' => ∃ a l c, e = .returned (.slice a l c) ∧ Rd w' a l c (outOf fd tr) ∧ Below w.heap.size w w' := by
  obtain ⟨i0, hi, hz0, hz1, hz2⟩ := info_parts Try.info8
  obtain ⟨wa, wl, wc, ev, es, h, ht⟩ := h
  have c1 := h.cell1
  obtain ⟨a0, cap0, rfl, hE, hcap, hcm⟩ := Evs.own h.row h.ok
  have hml := h.lt
  obtain ⟨n, hlen⟩ : ∃ n, es.length = n := ⟨_, rfl⟩
  rw [hlen] at c1 hE hcap
  have hn' : n ≤ 1000000 := by
    rw [← ht, List.length_map] at hn
    omega
  have HBY : Hid (Bytes (outOf fd tr)) := hide (outOf_bytes (fun s hs => by
    rw [← ht] at hs
    obtain ⟨x, hx, rfl⟩ := List.mem_map.1 hs
    exact (h.ok x hx).b.bytes))
  have HTR := hide ht
  have HE := hide hE
  have HO := hide ho
  have HC1 := hide c1
  have HLEN := hide hlen
  have HML := hide hml
  clear h hE ht ho hn hml hlen
  go_enter Try.func15, Try.ntmps15
  go_wp2
  go_loopw [5, 6] (fun v i wr => ∃ (j : Nat), j ≤ n ∧ i = .int .i64 (j : Int) ∧ RowB w.heap.size wr v (outOf fd ((es.take j).map Evt.says)) ∧ Below w.heap.size w wr) (fun _ i _ => n - (intOf i).toNat)
  case atStart => exact ⟨0, by omega, rfl, World.ownsRow_nil _ _ _ _, Below.refl _ _⟩
  case round =>
    obtain ⟨j, hj, rfl, hR, hB⟩ := hrel
    have cw : wr.cell? ⟨m, 1, none⟩ = some (.slice a0 n cap0) := (hB.cell HML.out).trans HC1.out
    clear c1
    by_cases hlt : j < n
    · have hlen := HLEN.out
      obtain ⟨x, hxj⟩ : ∃ x, es[j]? = some x := ⟨_, List.getElem?_eq_getElem (by omega)⟩
      have hxm : x ∈ es := List.mem_of_getElem? hxj
      have hE1 := HE.out.below hB
      obtain ⟨b, o, hab, hcx⟩ := hE1.cell j x hxj
      have hxo := hE1.ok x hxm
      have hsn : outOf fd ((es.take (j + 1)).map Evt.says) = outOf fd ((es.take j).map Evt.says) ++ (if x.kind = 0 ∧ x.fd = fd then x.bs else []) := by
        have h1 := says_snoc hxj []
        simp only [List.nil_append] at h1
        rw [← h1, outOf_snoc]
        rfl
      have hle : (outOf fd ((es.take (j + 1)).map Evt.says)).length ≤ 140737488355328 := by
        have h1 := outOf_le fd tr (j + 1)
        rw [← HTR.out, ← List.map_take] at h1
        have h2 := HO.out
        rw [← HTR.out] at h2
        omega
      subst hab
      obtain ⟨kind, fdx, xa, xl, xc, xn, xb⟩ := x
      have k0 : wr.cell? ⟨b, o + j * 4, none⟩ = some (.int .i64 kind) := hcx 0 (by omega)
      have k1 : wr.cell? ⟨b, o + j * 4 + 1, none⟩ = some (.int .i64 fdx) := hcx 1 (by omega)
      have k2 : wr.cell? ⟨b, o + j * 4 + 2, none⟩ = some (.slice xa xl xc) := hcx 2 (by omega)
      have k3 : wr.cell? ⟨b, o + j * 4 + 3, none⟩ = some (.int .i64 xn) := hcx 3 (by omega)
      have hxb : Rd wr xa xl xc xb := hxo.b
      dsimp only at hsn
      obtain ⟨O0, hO0⟩ : ∃ O0, outOf fd ((es.take j).map Evt.says) = O0 := ⟨_, rfl⟩
      rw [hO0] at hsn hR
      have HSN := hide hsn
      have HLE := hide hle
      have HR := hide hR
      have HB := hide hB
      have HXB := hide hxb
      clear hcx hxo hR hB hxm hxj hE1 hsn hle hxb hO0 hlen
      by_cases hk : kind = 0 ∧ fdx = fd
      · obtain ⟨rfl, rfl⟩ := hk
        have HSN' : Hid (outOf fdx ((es.take (j + 1)).map Evt.says) = O0 ++ xb) := by
          refine hide ?_
          rw [HSN.out, if_pos ⟨rfl, rfl⟩]
        have hxl := HXB.out.length
        have hsum : O0.length + xl ≤ 140737488355328 := by
          have h1 := HLE.out
          rw [HSN'.out, List.length_append] at h1
          omega
        obtain ⟨L, hL⟩ : ∃ L, O0.length = L := ⟨_, rfl⟩
        rw [hL] at hsum
        have HL := hide hL
        clear HSN hL
        have HROW : Hid (wr.ownsRow w.heap.size 5 1 u5 L (O0.map (Value.int .u8))) := hide (by
          have h1 := HR.out
          unfold RowB at h1
          rw [HL.out] at h1
          exact ownsRow_kept h1 (fun g hg => ((Below.refl _ _ : Below wr.heap.size wr wr)).block g (ownsRow_blk h1 g hg)))
        have hbV : Below w.heap.size w wr := HB.out.trans (((Below.refl _ _ : Below wr.heap.size wr wr)).mono HB.out.size)
        have hszV := hbV.size
        have HBV := hide hbV
        clear hbV
        cases xa with
        | none =>
          obtain rfl : xc = 0 := HXB.out.nil rfl
          obtain rfl : xl = 0 := by have := HXB.out.le; omega
          obtain rfl : xb = [] := List.eq_nil_of_length_eq_zero hxl
          go_wp2_with (at_builtin; refine wpList_append_own_none rfl _ _ 22 rfl w.heap.size 5 i0 1 Try.underlying22 hi u5 L (O0.map (Value.int .u8)) rfl HROW.out rfl ?_; refine Hid.out ?_)
          refine hide ?_
          have HR2 : Hid (RowB w.heap.size wr u5 (outOf fdx ((es.take (j + 1)).map Evt.says))) := by
            refine hide ?_
            rw [HSN'.out, List.append_nil]
            unfold RowB
            rw [HL.out]
            exact HROW.out
          have HB2 := HBV
          clear HROW HBV hszV HR HB HSN' HL
          go_wp2
          go_roundw
          case rel => exact ⟨j + 1, by omega, by go_num, HR2.out, HB2.out⟩
          case measure => simp [intOf]; omega
        | some y =>
          have HXC : Hid (∀ j u, (xb.map (Value.int .u8))[j]? = some u → wr.cell? (y.add j) = some u) := hide ((HXB.out.below (Below.refl _ _)).cells y rfl)
          go_wp2_with (at_builtin; refine wpList_append_own _ rfl _ _ 22 rfl w.heap.size 5 i0 (.int .u8 0) 1 1 Try.underlying22 hi hz0 hz1 hz2 rfl (by decide) u5 L (O0.map (Value.int .u8)) rfl HROW.out y xl xc (xb.map (Value.int .u8)) rfl (by rw [List.length_map, hxl, Nat.mul_one]) HXC.out (ints_oneCell _ _) (by unfold maxLen; omega) (by omega) hszV ?_; intro v2 W2 hown2 hgrow2 hnn2; refine Hid.out ?_)
          refine hide ?_
          have HR2 : Hid (RowB w.heap.size W2 v2 (outOf fdx ((es.take (j + 1)).map Evt.says))) := by
            refine hide ?_
            rw [HSN'.out]
            unfold RowB
            rw [List.length_append, List.map_append, HL.out, hxl]
            exact hown2
          have HB2 : Hid (Below w.heap.size w W2) := hide (HBV.out.grown hgrow2 hszV (fun k hk => by
            rcases HROW.out.2 with ⟨h1, _⟩ | ⟨g, c, cur, h1, h2, _⟩
            · rw [h1] at hk; cases hk
            · rw [h1] at hk; cases hk; exact h2))
          clear hown2 hgrow2 hnn2 HROW HXC HBV hszV HR HB HSN' HL
          go_wp2
          go_roundw
          case rel => exact ⟨j + 1, by omega, by go_num, HR2.out, HB2.out⟩
          case measure => simp [intOf]; omega
      · have HSN' : Hid (outOf fd ((es.take (j + 1)).map Evt.says) = O0) := by
          refine hide ?_
          rw [HSN.out, if_neg hk, List.append_nil]
        clear HSN
        have HR2 : Hid (∀ W, Below wr.heap.size wr W → RowB w.heap.size W u5 (outOf fd ((es.take (j + 1)).map Evt.says)) ∧ Below w.heap.size w W) := by
          refine hide (fun W hW => ?_)
          rw [HSN'.out]
          have h1 := HR.out
          exact ⟨ownsRow_kept h1 (fun g hg => hW.block g (ownsRow_blk h1 g hg)), HB.out.trans (hW.mono HB.out.size)⟩
        by_cases hk0 : kind = 0
        · subst hk0
          have hf : fdx ≠ fd := fun e => hk ⟨rfl, e⟩
          have hf1 : (fdx == fd) = false := by simpa using hf
          have hf2 : decide (fdx = fd) = false := by simpa using hf
          clear hk hf
          go_wp2
          go_roundw
          case rel =>
            obtain ⟨h1, h2⟩ := HR2.out _ (Below.refl _ _)
            exact ⟨j + 1, by omega, by go_num, h1, h2⟩
          case measure => simp [intOf]; omega
        · have hf1 : (kind == 0) = false := by simpa using hk0
          have hf2 : decide (kind = 0) = false := by simpa using hk0
          clear hk hk0
          go_wp2
          go_roundw
          case rel =>
            obtain ⟨h1, h2⟩ := HR2.out _ (Below.refl _ _)
            exact ⟨j + 1, by omega, by go_num, h1, h2⟩
          case measure => simp [intOf]; omega
    · obtain rfl : j = n := by omega
      have hb : Bytes (outOf fd ((es.take j).map Evt.says)) := by
        rw [List.take_of_length_le (by have := HLEN.out; omega), HTR.out]
        exact HBY.out
      obtain ⟨a', c', hv, hr⟩ := Rd.own hR hb
      subst hv
      rw [List.take_of_length_le (by have := HLEN.out; omega), HTR.out] at hr
      have HRR := hide hr
      have HB := hide hB
      clear hR hB hb hr
      go_wp2
      go_ret
      rw [List.take_of_length_le (by have := HLEN.out; omega), HTR.out]
      exact ⟨_, _, _, rfl, HRR.out, HB.out⟩

end Go.Proofs.Ytedbhdbjiicafaa
