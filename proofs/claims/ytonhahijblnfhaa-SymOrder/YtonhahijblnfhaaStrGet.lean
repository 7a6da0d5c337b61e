/- The contracts of strtab.Get and of the document's Name: each tells the bytes up to the next nought, or none. -/
import Derived.Test.YtonhahijblnfhaaStrCut
namespace Go.Proofs.Ytonhahijblnfhaa
open Go.RowKit
set_option linter.unusedVariables false

/-- The bytes from a place on, up to the next nought: none if there is no nought, or they are more than 200. -/
def gtO (bs : List Int) (off : Nat) : Option (List UInt8) :=
  let r := Lib.bytesOf (bs.drop off)
  if (0 : UInt8) ∈ r ∧ (nmO r).length ≤ 200 then some (nmO r) else none

theorem bytesOf_len (bs : List Int) : (Lib.bytesOf bs).length = bs.length := by simp [Lib.bytesOf]
theorem bytesOf_drop (bs : List Int) (k : Nat) : Lib.bytesOf (bs.drop k) = (Lib.bytesOf bs).drop k := by simp [Lib.bytesOf]
theorem bytesOf_take (bs : List Int) (k : Nat) : Lib.bytesOf (bs.take k) = (Lib.bytesOf bs).take k := by simp [Lib.bytesOf]

theorem gtO_far {bs : List Int} {off : Nat} (h : bs.length ≤ off) : gtO bs off = none := by
  unfold gtO
  rw [List.drop_eq_nil_of_le h]
  simp [Lib.bytesOf]

/-- A nought within the first 201 bytes: the name ends there. -/
theorem nm_take201 {r : List UInt8} (h : (0 : UInt8) ∈ r.take 201) : (0 : UInt8) ∈ r ∧ nmO r = nmO (r.take 201) ∧ (nmO r).length ≤ 200 := by
  have h1 : (0 : UInt8) ∈ r := List.mem_of_mem_take h
  have h2 : nmO (r.take 201) = nmO r := by
    generalize 201 = k at h
    induction r generalizing k with
    | nil => simp at h
    | cons b r ih =>
      cases k with
      | zero => simp at h
      | succ k =>
        rw [List.take_succ_cons] at h ⊢
        by_cases hb : b = 0
        · subst hb; rw [nmO_zero, nmO_zero]
        · rw [nmO_cons hb, nmO_cons hb, ih (by simpa [Ne.symm hb] using h1) k (by simpa [Ne.symm hb] using h)]
  refine ⟨h1, h2.symm, ?_⟩
  have h3 := nmO_lt h
  rw [h2] at h3
  simp at h3
  omega
theorem nm_not201 {r : List UInt8} (h : (0 : UInt8) ∉ r.take 201) : ¬ ((0 : UInt8) ∈ r ∧ (nmO r).length ≤ 200) := by
  rintro ⟨h1, h2⟩
  apply h
  generalize hk : 201 = k at *
  have h3 : (nmO r).length < k := by omega
  clear h hk h2
  induction r generalizing k with
  | nil => simp at h1
  | cons b r ih =>
    cases k with
    | zero => omega
    | succ k =>
      rw [List.take_succ_cons]
      by_cases hb : b = 0
      · subst hb; simp
      · rw [nmO_cons hb] at h3
        simp at h3
        simp [Ne.symm hb]
        exact ih (by simpa [Ne.symm hb] using h1) k h3

theorem gtO_hit {bs : List Int} {off : Nat} (h : (0 : UInt8) ∈ Lib.bytesOf ((bs.drop off).take 201)) : gtO bs off = some (nmO (Lib.bytesOf ((bs.drop off).take 201))) := by
  rw [bytesOf_take] at h ⊢
  obtain ⟨h1, h2, h3⟩ := nm_take201 h
  unfold gtO
  simp only []
  rw [if_pos ⟨h1, h3⟩, h2]
theorem gtO_miss {bs : List Int} {off : Nat} (h : (0 : UInt8) ∉ Lib.bytesOf ((bs.drop off).take 201)) : gtO bs off = none := by
  rw [bytesOf_take] at h
  unfold gtO
  simp only []
  rw [if_neg (nm_not201 h)]

/-- What is told of a name. -/
def gtR (o : Option (List UInt8)) : Ending := .returned (.tuple #[.string (str (o.getD [])), .bool o.isSome])

theorem gtR_some (l : List UInt8) : gtR (some l) = .returned (.tuple #[.string (str l), .bool true]) := rfl
theorem gtR_none : gtR none = .returned (.tuple #[.string (str []), .bool false]) := rfl
theorem strOfNums_str (xs : List Int) : strOfNums xs = str (Lib.bytesOf xs) := rfl

set_option maxHeartbeats 1600000 in
set_option maxRecDepth 20000 in
theorem sget_any (a : Option Addr) (len cap : Nat) (bs : List Int) (off : Nat) (w : World) (r : Rd w a len cap bs) (ho : off ≤ 4294967295) :
    Calls Try.prog 25 #[.slice a len cap, .int .u32 (off : Int)] w fun e w' => e = gtR (gtO bs off) ∧ w' = w := by
  have hl := r.length
  have h1 := r.le
  have h2 := r.max
  by_cases hoff : len ≤ off
  · rw [gtO_far (by omega)]
    go_enter Try.func25, Try.ntmps25
    go_wp2
    go_ret2
    exact ⟨rfl, rfl⟩
  · obtain ⟨b, o, rfl, hc⟩ := r.addr (by omega)
    obtain ⟨k, hk⟩ : ∃ k, min (len - off) 201 = k := ⟨_, rfl⟩
    obtain ⟨rl, hrl⟩ : ∃ rl, len - off = rl := ⟨_, rfl⟩
    have hoff' : (off : Int) < (len : Int) := by omega
    have hcap : ¬ cap = off := by omega
    have r2 : Rd w (some ⟨b, o + off, none⟩) k (cap - off) ((bs.drop off).take k) := by
      have := r.part off k (by omega)
      rwa [show (⟨b, o, none⟩ : Addr).add off = ⟨b, o + off, none⟩ by unfold Addr.add; split <;> simp_all] at this
    have e201 : (bs.drop off).take k = (bs.drop off).take 201 := by
      rcases Nat.le_total (len - off) 201 with h3 | h3
      · rw [← hk, Nat.min_eq_left h3, List.take_of_length_le (by simp; omega), List.take_of_length_le (by simp; omega)]
      · rw [← hk, Nat.min_eq_right h3]
    have hx := bix_any _ _ _ _ w r2
    by_cases h0 : (0 : UInt8) ∈ Lib.bytesOf ((bs.drop off).take 201)
    · rw [gtO_hit h0, gtR_some]
      rw [e201, index_some h0] at hx
      have h3 := nmO_lt h0
      rw [bytesOf_len, ← e201, r2.length] at h3
      rw [e201] at h3
      obtain ⟨m, hm⟩ : ∃ m, (nmO (Lib.bytesOf ((bs.drop off).take 201))).length = m := ⟨_, rfl⟩
      rw [hm] at h3 hx
      have r3 : Rd w (some ⟨b, o + off, none⟩) m (cap - off) (((bs.drop off).take k).take m) := by
        have := r2.part 0 m (by omega)
        simpa [Addr.add] using this
      have s3 := r3.str
      have es : strOfNums (((bs.drop off).take k).take m) = str (nmO (Lib.bytesOf ((bs.drop off).take 201))) := by
        rw [strOfNums_str, bytesOf_take, e201, ← hm, nmO_take]
      rw [es] at s3
      have hmin : min (rl : Int) 201 = (k : Int) := by omega
      have hrl' : (len : Int) - (off : Int) = (rl : Int) := by omega
      generalize str (nmO (Lib.bytesOf ((bs.drop off).take 201))) = S at *
      clear r r2 r3 es e201 hc h0 hm
      rcases Nat.lt_or_ge 201 (len - off) with h4 | h4
      · obtain rfl : k = 201 := by omega
        have hq : (201 : Int) < ((len - off : Nat) : Int) := by omega
        clear hmin hrl' hrl hk
        go_enter Try.func25, Try.ntmps25
        go_wp2_with (go_at_call 28; refine hx.mono ?_; rintro e w' ⟨rfl, rfl⟩)
        go_ret2
        exact ⟨rfl, rfl⟩
      · obtain rfl : k = len - off := by omega
        have hq : ((len - off : Nat) : Int) ≤ 201 := by omega
        have hn : len - off ≤ 201 := h4
        clear hmin hrl' hrl hk
        go_enter Try.func25, Try.ntmps25
        go_wp2_with (go_at_call 28; refine hx.mono ?_; rintro e w' ⟨rfl, rfl⟩)
        go_ret2
        exact ⟨rfl, rfl⟩
    · rw [gtO_miss h0, gtR_none]
      rw [e201, index_none h0] at hx
      have hmin : min (rl : Int) 201 = (k : Int) := by omega
      have hrl' : (len : Int) - (off : Int) = (rl : Int) := by omega
      clear r r2 e201 hc h0
      rcases Nat.lt_or_ge 201 (len - off) with h4 | h4
      · obtain rfl : k = 201 := by omega
        have hq : (201 : Int) < ((len - off : Nat) : Int) := by omega
        clear hmin hrl' hrl hk
        go_enter Try.func25, Try.ntmps25
        go_wp2_with (go_at_call 28; refine hx.mono ?_; rintro e w' ⟨rfl, rfl⟩)
        go_ret2
        exact ⟨rfl, rfl⟩
      · obtain rfl : k = len - off := by omega
        have hq : ((len - off : Nat) : Int) ≤ 201 := by omega
        have hn : len - off ≤ 201 := h4
        clear hmin hrl' hrl hk
        go_enter Try.func25, Try.ntmps25
        go_wp2_with (go_at_call 28; refine hx.mono ?_; rintro e w' ⟨rfl, rfl⟩)
        go_ret2
        exact ⟨rfl, rfl⟩

/-- The place of the next nought from off on, if the bytes go through k without one. -/
theorem gtO_at {bs : List Int} {off j : Nat} (hb : Bytes bs) (hj : off + j < bs.length) (h0 : bs[off + j]?.getD 0 = 0) (hn : ∀ i, i < j → bs[off + i]?.getD 0 ≠ 0) :
    (0 : UInt8) ∈ Lib.bytesOf (bs.drop off) ∧ nmO (Lib.bytesOf (bs.drop off)) = Lib.bytesOf ((bs.drop off).take j) := by
  have e : Lib.bytesOf (bs.drop off) = Lib.bytesOf ((bs.drop off).take j) ++ 0 :: Lib.bytesOf ((bs.drop off).drop (j + 1)) := by
    have h1 : (bs.drop off)[j]? = some 0 := by
      rw [List.getElem?_drop, List.getElem?_eq_getElem hj]
      rw [List.getElem?_eq_getElem hj] at h0
      exact congrArg some (by simpa using h0)
    have h2 : bs.drop off = (bs.drop off).take j ++ 0 :: (bs.drop off).drop (j + 1) := by
      have hlt : j < (bs.drop off).length := by simp; omega
      have h3 : (bs.drop off)[j] = 0 := by
        rw [List.getElem?_eq_getElem hlt] at h1
        exact Option.some.inj h1
      rw [← h3, ← List.drop_eq_getElem_cons hlt, List.take_append_drop]
    conv => lhs; rw [h2]
    simp [Lib.bytesOf]
  have hc : (0 : UInt8) ∉ Lib.bytesOf ((bs.drop off).take j) := by
    intro hm
    simp only [Lib.bytesOf, List.mem_map] at hm
    obtain ⟨x, hx, hx0⟩ := hm
    obtain ⟨i, hi, hxi⟩ := List.getElem_of_mem hx
    simp only [List.length_take, List.length_drop] at hi
    have hij : i < j := by omega
    have h1 : bs[off + i]?.getD 0 = x := by
      rw [← hxi]
      simp [show off + i < bs.length by omega]
    have h2 := hn i hij
    rw [h1] at h2
    have h3 := hb x (List.mem_of_mem_drop (List.mem_of_mem_take hx))
    apply h2
    have h4 : (UInt8.ofNat x.toNat).toNat = 0 := by rw [hx0]; rfl
    rw [UInt8.toNat_ofNat_of_lt' (by simp [UInt8.size]; omega)] at h4
    omega
  rw [e]
  exact ⟨by simp, nmO_app _ hc⟩

theorem gtO_end {bs : List Int} {off : Nat} (hb : Bytes bs) (hn : ∀ i, off + i < bs.length → bs[off + i]?.getD 0 ≠ 0) : gtO bs off = none := by
  have h0 : (0 : UInt8) ∉ Lib.bytesOf (bs.drop off) := by
    intro hm
    simp only [Lib.bytesOf, List.mem_map] at hm
    obtain ⟨x, hx, hx0⟩ := hm
    obtain ⟨i, hi, hxi⟩ := List.getElem_of_mem hx
    simp only [List.length_drop] at hi
    have h1 : bs[off + i]?.getD 0 = x := by
      rw [← hxi]
      simp [show off + i < bs.length by omega]
    have h2 := hn i (by omega)
    rw [h1] at h2
    have h3 := hb x (List.mem_of_mem_drop hx)
    apply h2
    have h4 : (UInt8.ofNat x.toNat).toNat = 0 := by rw [hx0]; rfl
    rw [UInt8.toNat_ofNat_of_lt' (by simp [UInt8.size]; omega)] at h4
    omega
  unfold gtO
  simp only []
  rw [if_neg (fun h => h0 h.1)]

set_option maxHeartbeats 1600000 in
set_option maxRecDepth 20000 in
theorem name_any (a : Option Addr) (len cap : Nat) (bs : List Int) (off : Nat) (w : World) (r : Rd w a len cap bs) (ho : off ≤ 4294967295) :
    Calls Try.prog 21 #[.slice a len cap, .int .u32 (off : Int)] w fun e w' => e = gtR (gtO bs off) ∧ w' = w := by
  have hl := r.length
  have h1 := r.le
  have h2 := r.max
  by_cases hoff : len ≤ off
  · rw [gtO_far (by omega)]
    go_enter Try.func21, Try.ntmps21
    go_wp2
    go_loop [6] (fun v => v = .int .u64 (off : Int)) (fun _ => 0)
    case atStart => rfl
    case round =>
      subst hrel
      go_wp2
      go_ret2
      exact ⟨rfl, rfl⟩
  · obtain ⟨b, o, rfl, hc⟩ := r.addr (by omega)
    have hby := r.bytes
    have HR := hide r
    clear r
    go_enter Try.func21, Try.ntmps21
    go_wp2
    go_loop [6] (fun v => ∃ j : Nat, off + j ≤ len ∧ v = .int .u64 ((off + j : Nat) : Int) ∧ ∀ i, i < j → bs[off + i]?.getD 0 ≠ 0) (fun v => len - (intOf v).toNat)
    case atStart => exact ⟨0, by omega, by simp, fun i hi => by omega⟩
    case round =>
      obtain ⟨j, hj, rfl, hn⟩ := hrel
      by_cases hlt : off + j < len
      · have hcell := hc (off + j) hlt
        have hyb := hby.at (off + j)
        obtain ⟨y, hy⟩ : ∃ y, bs[off + j]?.getD 0 = y := ⟨_, rfl⟩
        have hcell' : w.cell? ⟨b, o + (off + j), none⟩ = some (.int .u8 y) := by rw [hcell, ← hy]; simp
        rw [hy] at hyb
        have HY := hide hy
        have HN := hide hn
        clear hcell hc hy hn hby
        obtain ⟨t, ht⟩ : ∃ t : Nat, off + j = t := ⟨_, rfl⟩
        rw [ht] at hcell' hlt
        have hoj : ((t : Int) - (off : Int)) = (j : Int) := by omega
        rcases (show y = 0 ∨ y ≠ 0 by omega) with h0 | h0
        · subst h0
          obtain ⟨g1, g2⟩ := gtO_at HR.out.bytes (by omega) HY.out HN.out
          have hlen : (nmO (Lib.bytesOf (bs.drop off))).length = j := by
            rw [g2, bytesOf_len]; simp; omega
          rcases Nat.lt_or_ge 200 j with h3 | h3
          · have eG : gtO bs off = none := by
              unfold gtO
              simp only []
              rw [if_neg (by rw [hlen]; omega)]
            have HG := hide eG
            rw [ht]
            have h3' : (200 : Int) < (j : Int) := by omega
            clear HN HY g1 g2 hlen eG
            go_wp2
            go_ret2
            exact ⟨by rw [HG.out, gtR_none]; rfl, rfl⟩
          · have eG : gtO bs off = some (Lib.bytesOf ((bs.drop off).take j)) := by
              unfold gtO
              simp only []
              rw [if_pos ⟨g1, by omega⟩, g2]
            have hc0 : ¬ cap = off := by omega
            have r3 : Rd w (some ⟨b, o + off, none⟩) j (cap - off) ((bs.drop off).take j) := by
              have := HR.out.part off j (by omega)
              rwa [show (⟨b, o, none⟩ : Addr).add off = ⟨b, o + off, none⟩ by unfold Addr.add; split <;> simp_all] at this
            have s3 := r3.str
            rw [strOfNums_str] at s3
            rw [ht]
            have HG : Hid (gtR (gtO bs off) = .returned (.tuple #[.string (str (Lib.bytesOf ((bs.drop off).take j))), .bool true])) := hide (by rw [eG, gtR_some])
            clear eG
            generalize str (Lib.bytesOf ((bs.drop off).take j)) = S at *
            have h3' : (j : Int) ≤ 200 := by omega
            have htj : t - off = j := by omega
            clear HN HY g1 g2 hlen r3
            go_wp2
            go_ret2
            exact ⟨by rw [HG.out]; rfl, rfl⟩
        · have h0' : (y == 0) = false := by simpa using h0
          rw [ht]
          go_wp2
          go_round
          case rel =>
            refine ⟨j + 1, by omega, by go_num, fun i hi => ?_⟩
            rcases (show i < j ∨ i = j by omega) with h3 | rfl
            · exact HN.out i h3
            · rw [HY.out]; exact h0
          case measure => simp [intOf]; omega
      · have HN := hide hn
        obtain rfl : len = off + j := by omega
        have HG := hide (gtO_end (off := off) HR.out.bytes (fun i hi => HN.out i (by omega)))
        clear HN hn hc
        go_wp2
        go_ret2
        exact ⟨by rw [HG.out, gtR_none]; rfl, rfl⟩

end Go.Proofs.Ytonhahijblnfhaa
