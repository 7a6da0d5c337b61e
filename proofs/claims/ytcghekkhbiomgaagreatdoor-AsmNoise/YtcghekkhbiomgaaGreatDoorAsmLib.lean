/- What the program's package variables hold, as asm's road needs it; the library's calls of that road. -/
import Derived.Test.YtcghekkhbiomgaaGreatDoorInstKnown
import Derived.Test.YtcghekkhbiomgaaGreatDoorAsmText
import Derived.Test.YtcghekkhbiomgaaGreatDoorShelf
import Derived.Lib.LaidTab
import Derived.WalkSmall
namespace Go.Proofs.YtcghekkhbiomgaaGreatDoor
open Go.RowKit
set_option linter.unusedVariables false
set_option maxRecDepth 100000

structure LaidA (w : World) : Prop where
  laid : Laid w
  size : 10 ≤ w.heap.size
  tab : Lib.TabIs Tryz.prog w "internal/strconv.uint64pow10" .u64 Lib.pow10Tab
  syn : ∃ tp p, w.var? Tryz.prog "strconv.ErrSyntax" = some #[.iface tp p]
  rng : ∃ tp p, w.var? Tryz.prog "strconv.ErrRange" = some #[.iface tp p]
  max : ∃ m, w.cell? ⟨2, 0, none⟩ = some (.int .i64 m)

theorem gTab : Tryz.prog.globalNamed "internal/strconv.uint64pow10" = some 7 := by kernel_rfl
theorem gSyn : Tryz.prog.globalNamed "strconv.ErrSyntax" = some 3 := by kernel_rfl
theorem gRng : Tryz.prog.globalNamed "strconv.ErrRange" = some 4 := by kernel_rfl

theorem LaidA.below {w w' : World} (h : LaidA w) {B : Nat} (hb : Below B w w') (hB : 10 ≤ B) : LaidA w' := by
  obtain ⟨t1, p1, h1⟩ := h.syn
  obtain ⟨t2, p2, h2⟩ := h.rng
  obtain ⟨m, h3⟩ := h.max
  exact ⟨h.laid.below hb (by omega), Nat.le_trans h.size hb.size, var?_below hb gTab (by omega) h.tab, ⟨t1, p1, var?_below hb gSyn (by omega) h1⟩, ⟨t2, p2, var?_below hb gRng (by omega) h2⟩,
    ⟨m, (hb.cell (p := ⟨2, 0, none⟩) (by show 2 < B; omega)).trans h3⟩⟩
theorem LaidA.then {w w' : World} (h : LaidA w) (hb : Below w.heap.size w w') : LaidA w' := h.below hb h.size
theorem LaidA.alloc {w : World} (h : LaidA w) (o : Obj) : LaidA (w.alloc o) := h.then ((Below.refl _ _).alloc (Nat.le_refl _) _)
theorem bel_drewN (w : World) (n : Nat) : Below w.heap.size w (w.drewN n) := ⟨rfl, rfl, rfl, Nat.le_refl _, fun _ _ => rfl⟩
theorem LaidA.drewN {w : World} (h : LaidA w) (n : Nat) : LaidA (w.drewN n) := h.then (bel_drewN w n)

/-- A text of bytes. -/
abbrev str (l : List UInt8) : ByteArray := ⟨l.toArray⟩
theorem str_size (l : List UInt8) : (str l).size = l.length := Lib.size_mk l
theorem str_list (l : List UInt8) : (str l).data.toList = l := by simp

theorem cut_any (c : UInt8) (l : List UInt8) (w : World) (hl : l.length < 4294967281) (h : LaidA w) :
    Calls Tryz.prog 29 #[.string (str l), .string ⟨#[c]⟩] w fun e w' => ∃ b, e = .returned (.tuple #[.string (str (hdB c l)), .string (str (tlB c l)), .bool b]) ∧ ∃ n, w' = w.drewN n := by
  obtain ⟨m, hm⟩ := h.max
  refine (Tryz.strings_Cut (str l) ⟨#[c]⟩ m w (by rw [str_size]; exact hl) hm).mono ?_
  rintro e w' ⟨rfl, n, rfl⟩
  rw [str_list, show (⟨#[c]⟩ : ByteArray).data.toList = [c] from rfl, (cut1 c l).1, (cut1 c l).2]
  exact ⟨_, rfl, n, rfl⟩

theorem trim_any (l : List UInt8) (w : World) (hl : l.length ≤ 9223372036854775807) :
    Calls Tryz.prog 37 #[.string (str l), .string ⟨#[32]⟩] w fun e w' => e = .returned (.string (str (Lib.trimB l 32))) ∧ ∃ n, w' = w.drewN n := by
  refine (Tryz.strings_Trim_one (str l) 32 (by decide) w (by rw [str_size]; exact hl)).mono ?_
  rintro e w' ⟨rfl, h⟩
  rw [str_list]
  refine ⟨rfl, ?_⟩
  rcases h with rfl | rfl
  · exact ⟨0, rfl⟩
  · exact ⟨1, rfl⟩

/-- What a numeral is read as. -/
def PintIs (l : List UInt8) (e : Ending) : Prop :=
  (∃ v, Lib.parseIntB 64 l = .ok v ∧ e = .returned (.tuple #[.int .i64 v, .nilIface])) ∨ ((∀ v, Lib.parseIntB 64 l ≠ .ok v) ∧ ∃ v a, e = .returned (.tuple #[.int .i64 v, .iface 114 (.pointer (some a))]))

theorem pint_any (l : List UInt8) (w : World) (hl : l.length ≤ 281474976710656) (h : LaidA w) :
    Calls Tryz.prog 45 #[.string (str l), .int .i64 10, .int .i64 64] w fun e w' => PintIs l e ∧ Below w.heap.size w w' := by
  cases hp : Lib.parseIntB 64 l with
  | ok v =>
    refine (Tryz.strconv_ParseInt_10_at64_ok (str l) (by rw [str_size]; omega) v (by rw [str_list]; exact hp) w).mono ?_
    rintro e w' ⟨rfl, hw⟩
    refine ⟨.inl ⟨v, hp, rfl⟩, ?_⟩
    rcases hw with rfl | ⟨t, rfl⟩
    · exact Below.refl _ _
    · exact Lib.bytesWorld_below w _ t
  | «syntax» =>
    obtain ⟨tp, p, hv⟩ := h.syn
    refine (Tryz.strconv_ParseInt_10_at64_syntax_var (str l) (by rw [str_size]; exact hl) (by rw [str_list]; exact hp) tp p w hv).mono ?_
    rintro e w' ⟨N, rfl, _, _, hb⟩
    exact ⟨.inr ⟨(fun v hv' => by rw [hp] at hv'; cases hv'), _, _, rfl⟩, hb⟩
  | range =>
    obtain ⟨tp, p, hv⟩ := h.rng
    refine (Tryz.strconv_ParseInt_10_at64_range_var (str l) (by rw [str_size]; exact hl) (by rw [str_list]; exact hp) tp p w hv).mono ?_
    rintro e w' ⟨N, rfl, _, _, hb⟩
    exact ⟨.inr ⟨(fun v hv' => by rw [hp] at hv'; cases hv'), _, _, rfl⟩, hb⟩

end Go.Proofs.YtcghekkhbiomgaaGreatDoor
