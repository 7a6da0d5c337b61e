/- The library's calls of strtab's road: strings.Cut at a nought, bytes.IndexByte at a nought: what each returns; the world stays but for draws. -/
import Derived.Test.YtlklngkgkfdfeaaStrPlain
import Derived.Deep.QuietTactic
import Derived.BigQuiet
namespace Go.Proofs.Ytlklngkgkfdfeaa
open Go.RowKit
set_option linter.unusedVariables false

theorem sib_any (s : ByteArray) (c : Int) (w : World) :
    Calls Try.prog 18 #[.string s, .int .u8 c] w fun e w' => e = .returned (.int .i64 (Lib.indexByte s.data.toList c.toNat.toUInt8)) ∧ w' = w := by
  go_enter Try.func18, Try.ntmps18
  go_wp2
  rw [run_callFunc_extern Try.func22 (by kernel_rfl) (by kernel_rfl) (by kernel_rfl) (e := Extern.BytealgIndexByte.indexByte) (by kernel_rfl), Lib.run_indexByteString]
  simp only [Result.andThen]
  rw [Oper.upon_value]
  go_wp2
  go_ret
  exact ⟨rfl, rfl⟩

set_option maxRecDepth 20000 in
theorem six_any (l : List UInt8) (w : World) :
    Calls Try.prog 17 #[.string (str l), .string ⟨#[0]⟩] w fun e w' => e = .returned (.int .i64 (Lib.indexByte l 0)) ∧ w' = w := by
  by_cases h : l = [0]
  · subst h
    have e0 : Lib.indexByte [0] 0 = 0 := by decide
    rw [e0]
    go_enter Try.func17, Try.ntmps17
    go_wp2
    go_ret
    exact ⟨rfl, rfl⟩
  · have hb : ([0] == l) = false := by simpa using fun e => h e.symm
    go_enter Try.func17, Try.ntmps17
    go_wp2_with (go_at_call 18; refine (sib_any _ _ _).mono ?_; rintro e w' ⟨rfl, rfl⟩)
    go_ret
    exact ⟨rfl, rfl⟩

theorem scut_any (l : List UInt8) (w : World) (hl : l.length ≤ 9223372036854775806) :
    Calls Try.prog 16 #[.string (str l), .string ⟨#[0]⟩] w fun e w' => ∃ t b, e = .returned (.tuple #[.string (str (nmO l)), .string t, .bool b]) ∧ ∃ n, w' = w.drewN n := by
  have hc := six_any l w
  have hsz := str_size l
  by_cases h0 : (0 : UInt8) ∈ l
  · rw [index_some h0] at hc
    have hlt := nmO_lt h0
    have HT := hide (nmO_take l)
    generalize nmO l = m at *
    generalize m.length = k at *
    have c1 : (0 : Int) ≤ ↑k := by omega
    have c2 : (↑k : Int) ≤ ↑(str l).size := by omega
    have c3 : (0 : Int) ≤ ↑k + 1 := by omega
    have c4 : (↑k + 1 : Int) ≤ ↑(str l).size := by omega
    have HE : Hid ((str l).extract 0 k = str m) := hide (by
      apply ByteArray.ext
      apply Array.ext'
      simp [ByteArray.data_extract, HT.out])
    generalize str l = S at *
    go_enter Try.func16, Try.ntmps16
    go_wp2_with (go_at_call 17; refine hc.mono ?_; rintro e w' ⟨rfl, rfl⟩)
    go_quiet (fail)
    go_wp2
    go_ret3
    exact ⟨_, _, by rw [← HE.out]; rfl, _, rfl⟩
  · rw [index_none h0] at hc
    rw [nmO_same h0]
    go_enter Try.func16, Try.ntmps16
    go_wp2_with (go_at_call 17; refine hc.mono ?_; rintro e w' ⟨rfl, rfl⟩)
    go_ret3
    exact ⟨_, _, rfl, 0, rfl⟩

theorem cutO_any (l : List UInt8) (w : World) (hl : l.length ≤ 9223372036854775806) :
    Calls Try.prog 14 #[.string (str l), .string ⟨#[0]⟩] w fun e w' => ∃ t b, e = .returned (.tuple #[.string (str (nmO l)), .string t, .bool b]) ∧ ∃ n, w' = w.drewN n := by
  have hc := scut_any l w hl
  go_enter Try.func14, Try.ntmps14
  go_wp2_with (go_at_call 16; refine hc.mono ?_; rintro e w' ⟨t, b, rfl, n, rfl⟩)
  go_ret3
  exact ⟨_, _, rfl, _, rfl⟩

theorem bix_any (a : Option Addr) (len cap : Nat) (bs : List Int) (w : World) (r : Rd w a len cap bs) :
    Calls Try.prog 13 #[.slice a len cap, .int .u8 0] w fun e w' => e = .returned (.int .i64 (Lib.indexByte (Lib.bytesOf bs) 0)) ∧ w' = w := by
  have hl := r.length
  have h1 := r.le
  by_cases h0 : len = 0
  · subst h0
    obtain rfl : bs = [] := List.eq_nil_of_length_eq_zero hl
    cases a with
    | none =>
      obtain rfl : cap = 0 := r.nil rfl
      go_enter Try.func13, Try.ntmps13
      go_wp2
      rw [run_callFunc_extern Try.func15 (by kernel_rfl) (by kernel_rfl) (by kernel_rfl) (e := Extern.BytealgIndexByte.indexByte) (by kernel_rfl), Lib.run_indexByteNil w 0 0 0]
      simp only [Result.andThen]
      rw [Oper.upon_value]
      go_wp2
      go_ret
      exact ⟨rfl, rfl⟩
    | some x =>
      have hx : ∃ b o s, x = ⟨b, o, s⟩ := ⟨_, _, _, rfl⟩
      go_enter Try.func13, Try.ntmps13
      go_wp2
      have hr : ∀ w, (Extern.BytealgIndexByte.indexByte #[.slice (some x) 0 cap, .int .u8 0]).run Try.prog w = .ok (.int .i64 (-1)) w := fun w => rfl
      rw [run_callFunc_extern Try.func15 (by kernel_rfl) (by kernel_rfl) (by kernel_rfl) (e := Extern.BytealgIndexByte.indexByte) (by kernel_rfl), hr w]
      simp only [Result.andThen]
      rw [Oper.upon_value]
      go_wp2
      go_ret
      exact ⟨rfl, rfl⟩
  · obtain ⟨b, o, rfl, hc⟩ := r.addr (by omega)
    go_enter Try.func13, Try.ntmps13
    go_wp2
    rw [run_callFunc_extern Try.func15 (by kernel_rfl) (by kernel_rfl) (by kernel_rfl) (e := Extern.BytealgIndexByte.indexByte) (by kernel_rfl), Lib.run_indexByteSlice w b o len cap bs hl hc 0]
    simp only [Result.andThen]
    rw [Oper.upon_value]
    go_wp2
    go_ret
    exact ⟨rfl, rfl⟩

end Go.Proofs.Ytlklngkgkfdfeaa
