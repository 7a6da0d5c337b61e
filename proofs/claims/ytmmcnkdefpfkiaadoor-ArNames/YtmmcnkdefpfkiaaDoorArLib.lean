/- What the program's package variables hold, as ar's road needs it; the library's calls of that road; contracts of unpadded, decimal. -/
import Derived.Test.YtmmcnkdefpfkiaaDoorArSmall
import Derived.Test.YtmmcnkdefpfkiaaDoorShelf
import Derived.Lib.LaidTab
import Derived.Lib.AppendIntMem
namespace Go.Proofs.YtmmcnkdefpfkiaaDoor
open Go.RowKit
set_option linter.unusedVariables false
set_option maxRecDepth 100000
set_option maxRecDepth 20000
set_option linter.unusedSimpArgs false

theorem gTab : Tryd.prog.globalNamed "internal/strconv.uint64pow10" = some 0 := by kernel_rfl
theorem gSyn : Tryd.prog.globalNamed "strconv.ErrSyntax" = some 1 := by kernel_rfl
theorem gRng : Tryd.prog.globalNamed "strconv.ErrRange" = some 2 := by kernel_rfl

structure LaidR (w : World) : Prop where
  size : 8 ≤ w.heap.size
  tab : Lib.TabIs Tryd.prog w "internal/strconv.uint64pow10" .u64 Lib.pow10Tab
  syn : ∃ tp p, w.var? Tryd.prog "strconv.ErrSyntax" = some #[.iface tp p]
  rng : ∃ tp p, w.var? Tryd.prog "strconv.ErrRange" = some #[.iface tp p]
  max : ∃ m, w.cell? ⟨3, 0, none⟩ = some (.int .i64 m)

theorem LaidR.below {w w' : World} (h : LaidR w) {B : Nat} (hb : Below B w w') (hB : 8 ≤ B) : LaidR w' := by
  obtain ⟨t1, p1, h1⟩ := h.syn
  obtain ⟨t2, p2, h2⟩ := h.rng
  obtain ⟨m, h3⟩ := h.max
  exact ⟨Nat.le_trans h.size hb.size, var?_below hb gTab (by omega) h.tab, ⟨t1, p1, var?_below hb gSyn (by omega) h1⟩, ⟨t2, p2, var?_below hb gRng (by omega) h2⟩,
    ⟨m, (hb.cell (p := ⟨3, 0, none⟩) (by show 3 < B; omega)).trans h3⟩⟩
theorem LaidR.then {w w' : World} (h : LaidR w) (hb : Below w.heap.size w w') : LaidR w' := h.below hb h.size
theorem LaidR.alloc {w : World} (h : LaidR w) (o : Obj) : LaidR (w.alloc o) := h.then ((Below.refl _ _).alloc (Nat.le_refl _) _)

theorem cutS_any (l m : T8) (w : World) (hl : l.length < 4294967281) (h : LaidR w) :
    Calls Tryd.prog 33 #[.string (str l), .string (str m)] w fun e w' => e = .returned (.tuple #[.string (str (Lib.cut l m).1), .string (str (Lib.cut l m).2.1), .bool (Lib.cut l m).2.2]) ∧ Below w.heap.size w w' := by
  obtain ⟨x, hx⟩ := h.max
  refine (Tryd.strings_Cut (str l) (str m) x w (by rw [str_size]; exact hl) hx).mono ?_
  rintro e w' ⟨rfl, n, rfl⟩
  rw [str_list, str_list]
  exact ⟨rfl, bel_drewN w n⟩

theorem cutA_any (l : T8) (w : World) (hl : l.length < 4294967281) (h : LaidR w) :
    Calls Tryd.prog 33 #[.string (str l), .string ⟨#[47]⟩] w fun e w' => e = .returned (.tuple #[.string (str (Lib.cut l [47]).1), .string (str (Lib.cut l [47]).2.1), .bool (Lib.cut l [47]).2.2]) ∧ Below w.heap.size w w' := cutS_any l [47] w hl h
theorem cutB_any (l : T8) (w : World) (hl : l.length < 4294967281) (h : LaidR w) :
    Calls Tryd.prog 33 #[.string (str l), .string ⟨#[47, 10]⟩] w fun e w' => e = .returned (.tuple #[.string (str (Lib.cut l [47, 10]).1), .string (str (Lib.cut l [47, 10]).2.1), .bool (Lib.cut l [47, 10]).2.2]) ∧ Below w.heap.size w w' := cutS_any l [47, 10] w hl h

theorem unpad_any (a : Option Addr) (cap : Nat) (l : T8) (w : World) (r : Rt w a cap l) (hl : l.length ≤ 1048576) :
    Calls Tryd.prog 26 #[.slice a l.length cap] w fun e w' => e = .returned (.string (str (Lib.trimRightB l 32))) ∧ w' = w := by
  have h1 := Rd.str r
  rw [nI_str] at h1
  have HT := hide (Tryd.strings_TrimRight_one (str l) 32 (by decide) w (by rw [str_size]; omega))
  rw [str_list] at HT
  generalize hS : str l = S at *
  generalize hS2 : str (Lib.trimRightB l 32) = S2 at *
  clear r hS
  go_enter Tryd.func26, Tryd.ntmps26
  go_wp2_with fail
  refine HT.out.mono ?_
  rintro e w' ⟨rfl, rfl⟩
  go_wp2
  go_ret
  exact ⟨by rw [← hS2]; rfl, rfl⟩

theorem decimal_yes (l : T8) (n : Nat) (w : World) (hl : l.length ≤ 1048576) (h : Lib.parseUintB 64 l = .ok n) :
    Calls Tryd.prog 25 #[.string (str l)] w fun e w' => e = .returned (.int .u64 (n : Int)) ∧ Below w.heap.size w w' := by
  have HP := hide (Tryd.strconv_ParseUint_10_at64_ok (str l) (by rw [str_size]; omega) n (by rw [str_list]; exact h) w)
  generalize str l = S at *
  clear h
  go_enter Tryd.func25, Tryd.ntmps25
  go_wp2_with fail
  refine HP.out.mono ?_
  rintro e w' ⟨rfl, hw⟩
  have HB : Hid (Below w.heap.size w w') := by
    rcases hw with rfl | rfl
    · exact Below.refl _ _
    · exact Lib.bytesWorld_below w _ S
  clear hw HP
  go_wp2_with (go_at_call 12; refine (need_yes _).mono ?_; rintro e w' ⟨rfl, rfl⟩)
  go_ret
  exact ⟨rfl, HB.out⟩

theorem decimal_no (l : T8) (w : World) (hl : l.length ≤ 1048576) (h : ∀ n, Lib.parseUintB 64 l ≠ .ok n) (L : LaidR w) :
    Calls Tryd.prog 25 #[.string (str l)] w fun e w' => e = .panicked pncL ∧ Below w.heap.size w w' := by
  have HP : Hid (Calls Tryd.prog 31 #[.string (str l), .int .i64 10, .int .i64 64] w fun e w' => ∃ v N, e = .returned (.tuple #[.int .u64 v, .iface 84 (.pointer (some ⟨N, 0, none⟩))]) ∧ Below w.heap.size w w') := by
    cases hp : Lib.parseUintB 64 l with
    | ok v => exact absurd hp (h v)
    | «syntax» =>
      obtain ⟨tp, p, hv⟩ := L.syn
      refine (Tryd.strconv_ParseUint_10_at64_syntax_var (str l) (by rw [str_size]; omega) (by rw [str_list]; exact hp) tp p w hv).mono ?_
      rintro e w' ⟨N, rfl, _, _, hb⟩
      exact ⟨_, N, rfl, hb⟩
    | range =>
      obtain ⟨tp, p, hv⟩ := L.rng
      refine (Tryd.strconv_ParseUint_10_at64_range_var (str l) (by rw [str_size]; omega) (by rw [str_list]; exact hp) tp p w hv).mono ?_
      rintro e w' ⟨N, rfl, _, _, hb⟩
      exact ⟨_, N, rfl, hb⟩
  generalize str l = S at *
  clear h L
  go_enter Tryd.func25, Tryd.ntmps25
  go_wp2_with fail
  refine HP.out.mono ?_
  rintro e w' ⟨v, N, rfl, hb⟩
  have HB := hide hb
  clear hb HP
  go_wp2_with (go_at_call 12; refine (need_no _).mono ?_; rintro e w' ⟨rfl, rfl⟩)
  exact ⟨rfl, rfl, HB.out⟩

theorem clone_any (a : Option Addr) (cap : Nat) (l : T8) (w : World) (r : Rt w a cap l) (hl : l.length ≤ 1048576) :
    Calls Tryd.prog 27 #[.slice a l.length cap] w fun e w' => ∃ a' c', e = .returned (.slice a' l.length c') ∧ w'.ownsRow w.heap.size 5 1 (.slice a' l.length c') l.length (cs8 l) ∧ Below w.heap.size w w' := by
  cases a with
  | none =>
    have h1 := r.nil rfl
    have h2 := r.le
    obtain rfl : l = [] := List.eq_nil_of_length_eq_zero (by omega)
    refine (Tryd.bytes_Clone_nil _ cap w).mono ?_
    rintro e w' ⟨rfl, rfl⟩
    exact ⟨_, _, rfl, World.ownsRow_nil _ _ _ _, Below.refl _ _⟩
  | some x =>
    refine (Tryd.bytes_Clone_at x l.length cap (nI l) w (nI_len l) (by omega) (fun i hi => r.cell x rfl i hi)).mono ?_
    rintro e w' ⟨v', rfl, h1, h2, h3⟩
    obtain ⟨a', c', rfl, _⟩ := Rd.own h1 (nI_bytes l)
    exact ⟨_, _, rfl, h1, h3⟩

theorem itoaS_any (n : Nat) (w : World) (hn : n ≤ 1000000000) (L : LaidR w) :
    Calls Tryd.prog 19 #[.int .i64 (n : Int)] w fun e w' => e = .returned (.string (str (Lib.decDigits n))) ∧ Below w.heap.size w w' := by
  refine (Tryd.strconv_Itoa (n : Int) (by omega) (by omega) w L.tab).mono ?_
  rintro e w' ⟨rfl, k, os, rfl⟩
  refine ⟨?_, ?_⟩
  · rw [Lib.itoa_nonneg]
  · exact Lib.below_grow w.heap.size w (Nat.le_refl _) k os

end Go.Proofs.YtmmcnkdefpfkiaaDoor
