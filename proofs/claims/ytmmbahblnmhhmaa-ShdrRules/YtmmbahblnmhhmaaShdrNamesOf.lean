/- The contract of shdr.namesOf. -/
import Derived.Test.YtmmbahblnmhhmaaShdrNames
namespace Go.Proofs.Ytmmbahblnmhhmaa
open Go.RowKit
set_option linter.unusedVariables false
set_option linter.unusedSimpArgs false

theorem nm_none {bs : List Int} {l : List Sh} {at' : Int} (h : nmPr bs l at') : 0 ≤ at' ∧ at' < (l.length : Int) ∧ (tbS l at').ty = 3 := ⟨h.1, h.2.1, h.2.2.1⟩

/-- What namesOf tells. -/
def NmR (bs : List Int) (l : List Sh) (at' : Int) (e : Ending) (w : World) : Prop :=
  (nmPr bs l at' ∧ ∃ a c, e = .returned (.tuple #[.slice a l.length c, .bool true]) ∧ Rs w a l.length c (nmL bs l at')) ∨ (¬ nmPr bs l at' ∧ e = .returned (.tuple #[.slice none 0 0, .bool false]))

theorem nmL_len (bs : List Int) (l : List Sh) (at' : Int) : (nmL bs l at').length = l.length := by simp [nmL]

structure NmS (w wr : World) (B g n : Nat) (N : List (List UInt8)) (k : Nat) : Prop where
  row : wr.ownsRow B 9 1 (.slice (some ⟨g, 0, none⟩) n n) n (csT (nmK N k))
  bel : Below B w wr
  gB : B ≤ g
theorem NmS.below {w wr W : World} {B g n : Nat} {N : List (List UInt8)} {k : Nat} (h : NmS w wr B g n N k) (hB : B ≤ w.heap.size) (hb : Below wr.heap.size wr W) : NmS w W B g n N k := by
  have gg : wr.grownBy W none := ⟨hb.os, hb.tape, hb.output, hb.size, fun i hi _ => hb.block i hi⟩
  exact ⟨h.row.kept gg (.inr (by simp [Value.ownBlock])), h.bel.trans (hb.mono (Nat.le_trans hB h.bel.size)), h.gB⟩
theorem NmS.set {w wr : World} {B g n : Nat} {N : List (List UInt8)} {k : Nat} (h : NmS w wr B g n N k) (hk : k < N.length) (x : List UInt8) (hx : N[k]? = some x) : NmS w (wr.setCell ⟨g, k, none⟩ (.string (str x))) B g n N (k + 1) := by
  refine ⟨?_, h.bel.setCell h.gB _, h.gB⟩
  rw [← nmK_set N k hk x hx]
  exact (h.row.stored k _).1

set_option maxHeartbeats 3200000 in
set_option maxRecDepth 20000 in
theorem namesOf_any (a : Option Addr) (len cap : Nat) (bs : List Int) (a2 : Option Addr) (n cap2 : Nat) (l : List Sh) (at' : Int) (w : World) (r : Rd w a len cap bs) (r2 : Rh w a2 n cap2 l) (hb : len ≤ 140737488355328) (hn : n ≤ 2199023255552)
    (ha : -9223372036854775808 ≤ at') (ha' : at' ≤ 9223372036854775807) :
    Calls Try.prog 22 #[.slice a len cap, .slice a2 n cap2, .int .i64 at'] w fun e w' => NmR bs l at' e w' ∧ Below w.heap.size w w' := by
  have hl := r2.length
  have hle := r2.le
  have hmx := r2.max
  obtain ⟨iS, hiS, hzS0, hzS1, hzS2⟩ := info_parts Try.infoStr
  by_cases h0 : at' < 0
  · have hno : ¬ nmPr bs l at' := fun h => by have := nm_none h; omega
    have HNO := hide hno
    clear hno r r2
    go_enter Try.func22, Try.ntmps22
    go_wp2
    go_ret2
    exact ⟨.inr ⟨HNO.out, rfl⟩, Below.refl _ _⟩
  by_cases h1 : (n : Int) ≤ at'
  · have hno : ¬ nmPr bs l at' := fun h => by have := nm_none h; omega
    have HNO := hide hno
    clear hno r r2
    go_enter Try.func22, Try.ntmps22
    go_wp2
    go_ret2
    exact ⟨.inr ⟨HNO.out, rfl⟩, Below.refl _ _⟩
  obtain ⟨p, rfl⟩ := Int.eq_ofNat_of_zero_le (show 0 ≤ at' by omega)
  have hp : p < n := by omega
  obtain ⟨b2, o2, rfl, hc⟩ := r2.addr (by omega)
  obtain ⟨s, hs⟩ : ∃ s, l[p]? = some s := ⟨_, List.getElem?_eq_getElem (by omega)⟩
  have hsok := r2.ok s (List.mem_of_getElem? hs)
  have hts : tbS l (p : Int) = s := by unfold tbS; simp [hs]
  obtain ⟨c0, c1, c2, c3, c4, c5, c6, c7, c8, c9⟩ := hc p s hs
  have hp' : (p : Int) < (n : Int) := by omega
  have hsty := hsok.ty
  by_cases h3 : s.ty = 3
  · have h3' : ((s.ty : Int) != 3) = false := by simp; omega
    have DT := hide (sdata_any a len cap bs s w r hsok hb)
    unfold shV at DT
    have R := hide r
    have R2 := hide r2
    have HC := hide hc
    have HTS := hide hts
    have PR : Hid (nmPr bs l (p : Int) ↔ ∀ (k : Nat) (t : Sh), l[k]? = some t → (gtO (dtL bs s) t.nm).isSome = true) := by
      constructor
      · intro h; rw [← hts]; exact h.2.2.2
      · intro h; exact ⟨by omega, by omega, by rw [hts]; exact h3, by rw [hts]; exact h⟩
    have LN : Hid (nmL bs l (p : Int) = l.map (fun t => (gtO (dtL bs s) t.nm).getD [])) := by
      show nmL bs l (p : Int) = _
      unfold nmL
      rw [hts]
    clear r r2 hc h3 hsok hts hs
    go_enter Try.func22, Try.ntmps22
    go_upto_region 4 with (go_at_call 16; refine DT.out.mono ?_; rintro e W1 ⟨a1, l1, k1, rfl, r1, b1⟩)
    have RT := hide r1
    have B1 := hide b1
    have z1 := b1.size
    have R2' := hide (R2.out.below b1)
    obtain ⟨N, hN⟩ : ∃ N, l.map (fun t => (gtO (dtL bs s) t.nm).getD []) = N := ⟨_, rfl⟩
    have hNl : N.length = n := by rw [← hN]; simp [hl]
    have hNat : ∀ (k : Nat) (t : Sh), l[k]? = some t → N[k]? = some ((gtO (dtL bs s) t.nm).getD []) := fun k t ht => by rw [← hN]; simp [ht]
    have LN2 := hide (LN.out.trans hN)
    have HNat := hide hNat
    clear r1 b1 R R2 HC DT HTS LN hN hNat c0 c1 c2 c3 c4 c5 c6 c7 c8 c9 h3'
    generalize dtL bs s = T at *
    generalize dtB bs s = tb at *
    go_upto_region 5 with (at_make; refine wpList_make_full _ rfl _ _ 32 rfl W1.heap.size 9 iS (.string ⟨#[]⟩) 1 Try.underlying32 hiS hzS0 hzS1 .i64 .i64 (n : Int) (n : Int) n rfl rfl rfl rfl (by rw [hzS2]; omega) (by unfold maxLen; omega) (Nat.le_refl _) ?_)
    intro W2 hown hgrow
    have S0 : Hid (NmS W1 W2 W1.heap.size W1.heap.size n N 0) := by
      refine ⟨?_, (Below.refl _ _).grown hgrow (Nat.le_refl _) (fun k hk => by cases hk), Nat.le_refl _⟩
      rw [nmK_zero, hNl]
      rw [toList_madeCells_one] at hown
      exact hown
    clear hown hgrow
    go_wp2
    go_loopg [45] n (fun gg i wr => ∃ k : Nat, k ≤ n ∧ gg = n - k ∧ i = .int .i64 (k : Int) ∧ Hid (NmS W1 wr W1.heap.size W1.heap.size n N k) ∧ Hid (∀ (j : Nat) (t : Sh), j < k → l[j]? = some t → (gtO T t.nm).isSome = true))
    case atStart => exact ⟨0, by omega, rfl, rfl, S0, fun j t hj => by omega⟩
    case round =>
      obtain ⟨k, hk, rfl, rfl, S, HP⟩ := hrel
      clear S0
      have hbW := S.out.bel
      by_cases hlt : k < n
      · obtain ⟨t, ht⟩ : ∃ t, l[k]? = some t := ⟨_, List.getElem?_eq_getElem (by omega)⟩
        have htok := R2'.out.ok t (List.mem_of_getElem? ht)
        obtain ⟨b3, o3, e3, hc⟩ := (R2'.out.below hbW).addr (by omega)
        cases e3
        obtain ⟨c0, c1, c2, c3, c4, c5, c6, c7, c8, c9⟩ := hc k t ht
        have hlt' : (k : Int) < (n : Int) := by omega
        have htn := htok.nm
        have BA := hide (fun o => (Below.refl wr.heap.size wr).alloc (Nat.le_refl _) o)
        have GT := hide (fun W (hW : Below wr.heap.size wr W) => sget_any a1 l1 k1 T t.nm W ((RT.out.below hbW).below hW) (by omega))
        have HT := hide ht
        have HNk := hide (HNat.out k t ht)
        have zr := hbW.size
        have HBW := hide hbW
        clear hc htok ht hbW
        rcases hg : gtO T t.nm with _ | x
        · have hno : ¬ nmPr bs l (p : Int) := fun h => by have := PR.out.1 h k t HT.out; rw [hg] at this; cases this
          have HNO := hide hno
          rw [hg, gtR_none] at GT
          clear hno hg HNk
          go_upto_region 8 with fail
          have H8 := hide (ShB.new wr t)
          have B8 := hide ((Below.refl wr.heap.size wr).alloc (Nat.le_refl _) (.cells t.cells.toArray 47))
          obtain ⟨V, hV⟩ : ∃ V, wr.alloc (.cells #[.int .u32 (t.nm : Int), .int .u32 (t.ty : Int), .int .u64 (t.fl : Int), .int .u64 (t.ad : Int), .int .u64 (t.off : Int), .int .u64 (t.sz : Int), .int .u32 (t.lk : Int), .int .u32 (t.nf : Int), .int .u64 (t.al : Int), .int .u64 (t.en : Int)] 47) = V := ⟨_, rfl⟩
          change Hid (ShB (wr.alloc (.cells #[.int .u32 (t.nm : Int), .int .u32 (t.ty : Int), .int .u64 (t.fl : Int), .int .u64 (t.ad : Int), .int .u64 (t.off : Int), .int .u64 (t.sz : Int), .int .u32 (t.lk : Int), .int .u32 (t.nf : Int), .int .u64 (t.al : Int), .int .u64 (t.en : Int)] 47)) _ _) at H8
          change Hid (Below _ _ (wr.alloc (.cells #[.int .u32 (t.nm : Int), .int .u32 (t.ty : Int), .int .u64 (t.fl : Int), .int .u64 (t.ad : Int), .int .u64 (t.off : Int), .int .u64 (t.sz : Int), .int .u32 (t.lk : Int), .int .u32 (t.nf : Int), .int .u64 (t.al : Int), .int .u64 (t.en : Int)] 47))) at B8
          rw [hV] at H8 B8 ⊢
          have G8 := hide (GT.out V B8.out)
          clear hV GT BA c0 c1 c2 c3 c4 c5 c6 c7 c8 c9
          have d0 := H8.out.at.c0
          have z8 := B8.out.size
          have BF := hide (B1.out.trans ((HBW.out.trans (B8.out.mono zr)).mono z1))
          clear S HP HNat
          go_wp2_with (go_at_call 39; refine G8.out.mono ?_; rintro e w' ⟨rfl, hw'⟩; rw [hw']; clear hw' w')
          go_ret2
          exact ⟨.inr ⟨HNO.out, rfl⟩, BF.out⟩
        · rw [hg, gtR_some] at GT
          rw [hg] at HNk
          have HP2 : Hid (∀ (j : Nat) (t : Sh), j < k + 1 → l[j]? = some t → (gtO T t.nm).isSome = true) := fun j u hj hu => by
            rcases (show j < k ∨ j = k by omega) with h5 | h5
            · exact HP.out j u h5 hu
            · subst h5
              have e := HT.out.symm.trans hu
              cases e
              rw [hg]
              rfl
          clear hg HP
          go_upto_region 8 with fail
          have H8 := hide (ShB.new wr t)
          have B8 := hide ((Below.refl wr.heap.size wr).alloc (Nat.le_refl _) (.cells t.cells.toArray 47))
          obtain ⟨V, hV⟩ : ∃ V, wr.alloc (.cells #[.int .u32 (t.nm : Int), .int .u32 (t.ty : Int), .int .u64 (t.fl : Int), .int .u64 (t.ad : Int), .int .u64 (t.off : Int), .int .u64 (t.sz : Int), .int .u32 (t.lk : Int), .int .u32 (t.nf : Int), .int .u64 (t.al : Int), .int .u64 (t.en : Int)] 47) = V := ⟨_, rfl⟩
          change Hid (ShB (wr.alloc (.cells #[.int .u32 (t.nm : Int), .int .u32 (t.ty : Int), .int .u64 (t.fl : Int), .int .u64 (t.ad : Int), .int .u64 (t.off : Int), .int .u64 (t.sz : Int), .int .u32 (t.lk : Int), .int .u32 (t.nf : Int), .int .u64 (t.al : Int), .int .u64 (t.en : Int)] 47)) _ _) at H8
          change Hid (Below _ _ (wr.alloc (.cells #[.int .u32 (t.nm : Int), .int .u32 (t.ty : Int), .int .u64 (t.fl : Int), .int .u64 (t.ad : Int), .int .u64 (t.off : Int), .int .u64 (t.sz : Int), .int .u32 (t.lk : Int), .int .u32 (t.nf : Int), .int .u64 (t.al : Int), .int .u64 (t.en : Int)] 47))) at B8
          rw [hV] at H8 B8 ⊢
          have G8 := hide (GT.out V B8.out)
          clear hV GT BA c0 c1 c2 c3 c4 c5 c6 c7 c8 c9
          have d0 := H8.out.at.c0
          have z8 := B8.out.size
          have S8 := hide (S.out.below (Nat.le_refl _) B8.out)
          have N8 := hide (S8.out.set (by omega) x HNk.out)
          have hcl := S8.out.row.cellAt k (by omega)
          obtain ⟨u, hu⟩ : ∃ u, (csT (nmK N k))[k]? = some u := ⟨_, List.getElem?_eq_getElem (by rw [List.length_map, nmK_len _ _ (by omega)]; omega)⟩
          rw [hu] at hcl
          have hfz := S8.out.row.frozenAt k
          have hx := str_size x
          clear S HNat hu HNk
          go_wp2_with (go_at_call 39; refine G8.out.mono ?_; rintro e w' ⟨rfl, hw'⟩; rw [hw']; clear hw' w')
          go_roundg (n - (k + 1))
          case measure => omega
          case rel => exact ⟨k + 1, by omega, rfl, by go_num, N8, HP2⟩
      · obtain rfl : k = n := by omega
        have hyes : nmPr bs l (p : Int) := PR.out.2 (fun j t ht => HP.out j t (by have := (List.getElem?_eq_some_iff.1 ht).1; omega) ht)
        have hrow := S.out.row
        rw [← hNl, nmK_all, hNl] at hrow
        obtain ⟨a9, c9', h9, r9⟩ := Rs.own hrow
        cases h9
        rw [← LN2.out, ← hl] at r9
        have R9 := hide r9
        have HY := hide hyes
        have BF := hide (B1.out.trans (hbW.mono z1))
        clear S HP HNat hrow r9 hyes hbW
        go_wp2
        go_ret2
        refine ⟨.inl ⟨HY.out, _, _, ?_, R9.out⟩, BF.out⟩
        rw [hl]
        rfl
  · have h3' : ((s.ty : Int) != 3) = true := by simp; omega
    have hno : ¬ nmPr bs l (p : Int) := fun h => h3 (by rw [← hts]; exact (nm_none h).2.2)
    have HNO := hide hno
    clear hno r r2 hc hts hs h3
    go_enter Try.func22, Try.ntmps22
    go_wp2
    go_ret2
    exact ⟨.inr ⟨HNO.out, rfl⟩, Below.refl _ _⟩

end Go.Proofs.Ytmmbahblnmhhmaa
