/- Symbols in memory: as a value, in a block of their own, in a row; the numbers that a symbol is packed into; contracts of symtab.pack, symtab.nameOf, symtab.right. -/
import Derived.Test.YtonhahijblnfhaaSymPlain
import Derived.Test.YtonhahijblnfhaaRec
import Derived.Test.YtonhahijblnfhaaStrRs
namespace Go.Proofs.Ytonhahijblnfhaa
open Go.RowKit
set_option linter.unusedVariables false
set_option linter.unusedSimpArgs false

def Sy.cells (s : Sy) : List Value := [.int .u32 (s.nm : Int), .int .i64 s.bd, .int .i64 s.ty, .int .i64 s.ot, .int .i64 s.se, .int .u64 (s.va : Int), .int .u64 (s.sz : Int)]
/-- A symbol as a value. -/
def syV (s : Sy) : Value := .agg #[.int .u32 (s.nm : Int), .int .i64 s.bd, .int .i64 s.ty, .int .i64 s.ot, .int .i64 s.se, .int .u64 (s.va : Int), .int .u64 (s.sz : Int)]
def syC : Rc Sy := ⟨Sy.cells, 7, by decide, fun _ => rfl, fun r u hu => by
  simp [Sy.cells] at hu
  rcases hu with rfl | rfl | rfl | rfl | rfl | rfl | rfl <;> rfl⟩
/-- Symbols in a slice that is read. -/
abbrev Ry (w : World) (a : Option Addr) (len cap : Nat) (l : List Sy) : Prop := Rr syC Sy.Ok w a len cap l

/-- The cells of a symbol that lies at a place. -/
structure SyC (w : World) (b o : Nat) (s : Sy) : Prop where
  c0 : w.cell? ⟨b, o, none⟩ = some (.int .u32 (s.nm : Int))
  c1 : w.cell? ⟨b, o + 1, none⟩ = some (.int .i64 s.bd)
  c2 : w.cell? ⟨b, o + 2, none⟩ = some (.int .i64 s.ty)
  c3 : w.cell? ⟨b, o + 3, none⟩ = some (.int .i64 s.ot)
  c4 : w.cell? ⟨b, o + 4, none⟩ = some (.int .i64 s.se)
  c5 : w.cell? ⟨b, o + 5, none⟩ = some (.int .u64 (s.va : Int))
  c6 : w.cell? ⟨b, o + 6, none⟩ = some (.int .u64 (s.sz : Int))
theorem SyC.of {w : World} {b o : Nat} {s : Sy} (h : ∀ j, j < 7 → w.cell? ⟨b, o + j, none⟩ = s.cells[j]?) : SyC w b o s :=
  ⟨h 0 (by omega), h 1 (by omega), h 2 (by omega), h 3 (by omega), h 4 (by omega), h 5 (by omega), h 6 (by omega)⟩
/-- A symbol in a block of its own. -/
def SyB (w : World) (b : Nat) (s : Sy) : Prop := w.heap[b]? = some (.cells s.cells.toArray 40 (0, 0))
theorem SyB.new (w : World) (s : Sy) : SyB (w.alloc (.cells s.cells.toArray 40)) w.heap.size s := heap_alloc_new w _
theorem SyB.below {w w' : World} {B b : Nat} {s : Sy} (h : SyB w b s) (hB : b < B) (hb : Below B w w') : SyB w' b s := (hb.block b hB).trans h
theorem SyB.lt {w : World} {b : Nat} {s : Sy} (h : SyB w b s) : b < w.heap.size := (Array.getElem?_eq_some_iff.1 h).1
theorem SyB.drew {w : World} {b : Nat} {s : Sy} (h : SyB w b s) : SyB w.drew b s := h
theorem SyB.cell {w : World} {b : Nat} {s : Sy} (h : SyB w b s) (j : Nat) : w.cell? ⟨b, j, none⟩ = s.cells[j]? := by
  rw [cell_of_row _ _ j _ _ (0, 0) h]; simp
theorem SyB.at {w : World} {b : Nat} {s : Sy} (h : SyB w b s) : SyC w b 0 s := SyC.of (fun j hj => by rw [Nat.zero_add]; exact h.cell j)
theorem SyB.frozen {w : World} {b : Nat} {s : Sy} (h : SyB w b s) (j : Nat) : w.frozen? ⟨b, j, none⟩ = false := frozen_of_row _ _ _ _ _ h
theorem Ry.addr {w : World} {a : Option Addr} {len cap : Nat} {l : List Sy} (r : Ry w a len cap l) (h : 0 < len) : ∃ b o, a = some ⟨b, o, none⟩ ∧ ∀ i s, l[i]? = some s → SyC w b (o + i * 7) s := by
  obtain ⟨b, o, h1, h2⟩ := Rr.addr r h
  exact ⟨b, o, h1, fun i s hs => SyC.of (h2 i s hs)⟩

/-! ### Numbers -/

theorem and15_i64 (x : Int) (h0 : -9223372036854775808 ≤ x) (h1 : x ≤ 9223372036854775807) : bits .and .i64 x 15 = x % 16 := by
  show IntKind.i64.wrap ((BitVec.ofInt 64 x &&& BitVec.ofInt 64 15).toNat : Int) = _
  have e : (BitVec.ofInt 64 x &&& BitVec.ofInt 64 15).toNat = (BitVec.ofInt 64 x).toNat % 16 := by
    rw [BitVec.toNat_and, show (BitVec.ofInt 64 15).toNat = 2 ^ 4 - 1 from by decide, Nat.and_two_pow_sub_one_eq_mod]
  have e2 : ((BitVec.ofInt 64 x).toNat : Int) = x % 18446744073709551616 := by
    rw [BitVec.toNat_ofInt]
    omega
  rw [e, IntKind.wrap_i64]
  omega
theorem and15_u64 (n : Nat) (h : n < 18446744073709551616) : bits .and .u64 (n : Int) 15 = ((n % 16 : Nat) : Int) := by
  have := bits_mask .u64 64 (by decide) wraps_u64 4 (by decide) (n : Int) (by omega) (by omega)
  rw [show (2 : Int) ^ 4 - 1 = 15 by decide, show (2 : Int) ^ 4 = 16 by decide] at this
  rw [this]
  omega

/-- The first number of a symbol: all of it but value and size. -/
def syP (s : Sy) : Nat := (s.nm + 4294967296 * (s.ty % 16) + 68719476736 * (s.bd % 16) + 1099511627776 * (s.ot % 256) + 281474976710656 * (s.se % 65536)).toNat
theorem syP_eq (s : Sy) : (syP s : Int) = s.nm + 4294967296 * (s.ty % 16) + 68719476736 * (s.bd % 16) + 1099511627776 * (s.ot % 256) + 281474976710656 * (s.se % 65536) := by
  unfold syP; omega
theorem syP_lt (s : Sy) (h : s.Ok) : syP s < 18446744073709551616 := by
  have h1 := syP_eq s
  have h2 := h.nm
  omega
def sy3 (s : Sy) : List Int := [(syP s : Int), (s.va : Int), (s.sz : Int)]
def sy3s (l : List Sy) : List Int := l.flatMap sy3
theorem sy3s_len : ∀ l : List Sy, (sy3s l).length = 3 * l.length
  | [] => rfl
  | x :: l => by
    have h := sy3s_len l
    unfold sy3s at h ⊢
    rw [List.flatMap_cons, List.length_append, h, List.length_cons]
    simp [sy3]
    omega
theorem sy3s_take (l : List Sy) (k : Nat) (s : Sy) (h : l[k]? = some s) : sy3s (l.take (k + 1)) = sy3s (l.take k) ++ sy3 s := by
  rw [List.take_add_one, h]
  simp [sy3s]
theorem sy3_fit {s : Sy} (h : s.Ok) : ∀ x ∈ sy3 s, 0 ≤ x ∧ x ≤ 18446744073709551615 := by
  intro x hx
  have h0 := syP_lt s h
  have h1 := h.va
  have h2 := h.sz
  simp [sy3] at hx
  omega
theorem sy3s_fit {l : List Sy} (h : ∀ s ∈ l, s.Ok) : ∀ x ∈ sy3s l, 0 ≤ x ∧ x ≤ 18446744073709551615 := by
  intro x hx
  obtain ⟨s, hs, hx⟩ := List.mem_flatMap.1 hx
  exact sy3_fit (h s hs) x hx
theorem bytesOf_syP (s : Sy) (h : s.Ok) : bytesOf (syP s : Int) 8 = bytesOf (s.nm : Int) 4 ++ ([syI s, s.ot % 256] ++ bytesOf (s.se % 65536) 2) := by
  have h1 := h.nm
  rw [syP_eq]
  unfold syI
  simp only [bytesOf, List.range, List.range.loop, List.map, byteOf, List.cons_append, List.nil_append]
  simp only [show (2 : Int) ^ (8 * 0) = 1 by decide, show (2 : Int) ^ (8 * 1) = 256 by decide, show (2 : Int) ^ (8 * 2) = 65536 by decide, show (2 : Int) ^ (8 * 3) = 16777216 by decide, show (2 : Int) ^ (8 * 4) = 4294967296 by decide, show (2 : Int) ^ (8 * 5) = 1099511627776 by decide, show (2 : Int) ^ (8 * 6) = 281474976710656 by decide, show (2 : Int) ^ (8 * 7) = 72057594037927936 by decide]
  obtain ⟨b, hb⟩ : ∃ b, s.bd % 16 = b := ⟨_, rfl⟩
  obtain ⟨t, ht⟩ : ∃ t, s.ty % 16 = t := ⟨_, rfl⟩
  obtain ⟨o, ho⟩ : ∃ o, s.ot % 256 = o := ⟨_, rfl⟩
  obtain ⟨e, he⟩ : ∃ e, s.se % 65536 = e := ⟨_, rfl⟩
  have b0 : 0 ≤ b ∧ b ≤ 15 := by omega
  have t0 : 0 ≤ t ∧ t ≤ 15 := by omega
  have o0 : 0 ≤ o ∧ o ≤ 255 := by omega
  have e0 : 0 ≤ e ∧ e ≤ 65535 := by omega
  simp only [hb, ht, ho, he]
  clear hb ht ho he
  congr 1
  · omega
  congr 1
  · omega
  congr 1
  · omega
  congr 1
  · omega
  congr 1
  · omega
  congr 1
  · omega
  congr 1
  · omega
  congr 1
  omega
theorem flat_sy3 {s : Sy} (h : s.Ok) : flat 8 (sy3 s) = syL s := by
  have h0 := bytesOf_syP s h
  simp only [sy3, flat, syL, h0, List.append_assoc, List.append_nil, List.cons_append, List.nil_append]
theorem flat_sy3s : ∀ {l : List Sy}, (∀ s ∈ l, s.Ok) → flat 8 (sy3s l) = sysL l
  | [], _ => rfl
  | s :: l, h => by
    have e : sy3s (s :: l) = sy3 s ++ sy3s l := by simp [sy3s]
    rw [e, flat_append, flat_sy3 (h s (by simp)), flat_sy3s (fun t ht => h t (by simp [ht]))]
    rfl

theorem pack_any (s : Sy) (w : World) (hs : s.Ok) :
    Calls Try.prog 14 #[syV s] w fun e w' => e = .returned (.int .u64 (syP s : Int)) ∧ Below w.heap.size w w' := by
  have B0 := hide ((Below.refl w.heap.size w).alloc (Nat.le_refl _) (.cells s.cells.toArray 40))
  have h0 := hs.nm
  have hP := syP_eq s
  obtain ⟨b, hb⟩ : ∃ b : Nat, s.bd % 16 = (b : Int) := ⟨(s.bd % 16).toNat, by omega⟩
  obtain ⟨t, ht⟩ : ∃ t : Nat, s.ty % 16 = (t : Int) := ⟨(s.ty % 16).toNat, by omega⟩
  obtain ⟨o, ho⟩ : ∃ o : Nat, s.ot % 256 = (o : Int) := ⟨(s.ot % 256).toNat, by omega⟩
  obtain ⟨e, he⟩ : ∃ e : Nat, s.se % 65536 = (e : Int) := ⟨(s.se % 65536).toNat, by omega⟩
  have b0 : b ≤ 15 := by omega
  have t0 : t ≤ 15 := by omega
  have o0 : o ≤ 255 := by omega
  have e0 : e ≤ 65535 := by omega
  have a1 : bits .and .i64 s.ty 15 = (t : Int) := by rw [and15_i64 _ hs.ty.1 hs.ty.2, ht]
  have a2 : bits .and .i64 s.bd 15 = (b : Int) := by rw [and15_i64 _ hs.bd.1 hs.bd.2, hb]
  have a3 : IntKind.u8.wrap s.ot = (o : Int) := by rw [IntKind.wrap_u8, ho]
  have a4 : IntKind.u16.wrap s.se = (e : Int) := by rw [IntKind.wrap_u16, he]
  have w1 : IntKind.u64.wrap ((t : Int) * 4294967296) = (t : Int) * 4294967296 := u64_wrap_id _ (by omega) (by omega)
  have w2 : IntKind.u64.wrap ((b : Int) * 68719476736) = (b : Int) * 68719476736 := u64_wrap_id _ (by omega) (by omega)
  have w3 : IntKind.u64.wrap ((o : Int) * 1099511627776) = (o : Int) * 1099511627776 := u64_wrap_id _ (by omega) (by omega)
  have w4 : IntKind.u64.wrap ((e : Int) * 281474976710656) = (e : Int) * 281474976710656 := u64_wrap_id _ (by omega) (by omega)
  have j1 : bits .or .u64 (s.nm : Int) ((t : Int) * 4294967296) = (s.nm : Int) + (t : Int) * 4294967296 :=
    bits_join_low .u64 64 (by decide) wraps_u64 32 _ _ (by omega) (by omega) (by omega) (by omega) (by omega) (by omega)
  have j2 : bits .or .u64 ((s.nm : Int) + (t : Int) * 4294967296) ((b : Int) * 68719476736) = (s.nm : Int) + (t : Int) * 4294967296 + (b : Int) * 68719476736 :=
    bits_join_low .u64 64 (by decide) wraps_u64 36 _ _ (by omega) (by omega) (by omega) (by omega) (by omega) (by omega)
  have j3 : bits .or .u64 ((s.nm : Int) + (t : Int) * 4294967296 + (b : Int) * 68719476736) ((o : Int) * 1099511627776) = (s.nm : Int) + (t : Int) * 4294967296 + (b : Int) * 68719476736 + (o : Int) * 1099511627776 :=
    bits_join_low .u64 64 (by decide) wraps_u64 40 _ _ (by omega) (by omega) (by omega) (by omega) (by omega) (by omega)
  have j4 : bits .or .u64 ((s.nm : Int) + (t : Int) * 4294967296 + (b : Int) * 68719476736 + (o : Int) * 1099511627776) ((e : Int) * 281474976710656) = (syP s : Int) := by
    rw [bits_join_low .u64 64 (by decide) wraps_u64 48 _ _ (by omega) (by omega) (by omega) (by omega) (by omega) (by omega)]
    omega
  obtain ⟨p, hp⟩ : ∃ p, syP s = p := ⟨_, rfl⟩
  rw [hp] at j4 ⊢
  have hq : p < 18446744073709551616 := by rw [← hp]; exact syP_lt s hs
  clear hP hp hb ht ho he
  have y1 := hs.ty
  have y2 := hs.bd
  have y3 := hs.ot
  have y4 := hs.se
  clear hs
  unfold syV
  go_enter Try.func14, Try.ntmps14
  go_wp2
  go_ret
  exact ⟨rfl, B0.out⟩

/-- A symbol's name: the first has none. -/
def synO (nb : List Int) (s : Sy) (i : Nat) : Option (List UInt8) := if i = 0 then some [] else gtO nb s.nm
theorem nameOf_any (s : Sy) (i : Nat) (a : Option Addr) (len cap : Nat) (nb : List Int) (w : World) (hs : s.Ok) (r : Rd w a len cap nb) (hi : i ≤ 9223372036854775807) :
    Calls Try.prog 18 #[syV s, .int .i64 (i : Int), .slice a len cap] w fun e w' => e = gtR (synO nb s i) ∧ Below w.heap.size w w' := by
  have b0 := (Below.refl w.heap.size w).alloc (Nat.le_refl _) (.cells s.cells.toArray 40)
  have B0 := hide b0
  by_cases h0 : i = 0
  · subst h0
    clear b0
    unfold syV
    go_enter Try.func18, Try.ntmps18
    go_wp2
    go_ret2
    exact ⟨rfl, B0.out⟩
  · have i0 : ((i : Int) == 0) = false := by simp; omega
    have e : synO nb s i = gtO nb s.nm := by unfold synO; rw [if_neg h0]
    rw [e]
    have G := hide (sget_any a len cap nb s.nm _ (r.below b0) (by have := hs.nm; omega))
    have hn := hs.nm
    obtain ⟨o, ho⟩ : ∃ o, gtO nb s.nm = o := ⟨_, rfl⟩
    rw [ho] at G ⊢
    unfold gtR at G ⊢
    clear ho e h0 r b0 hs
    unfold syV
    go_enter Try.func18, Try.ntmps18
    go_wp2_with (go_at_call 25; refine G.out.mono ?_; rintro e w' ⟨rfl, hw'⟩; rw [hw']; clear hw' w')
    go_ret2
    exact ⟨rfl, B0.out⟩

end Go.Proofs.Ytonhahijblnfhaa
