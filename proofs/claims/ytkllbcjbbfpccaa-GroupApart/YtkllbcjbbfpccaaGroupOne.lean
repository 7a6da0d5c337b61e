/- The contracts of group.number and of the statements' help Ints where both sides are the same; what is told of a group. -/
import Derived.Test.YtkllbcjbbfpccaaGroupPlain
import Derived.Test.YtkllbcjbbfpccaaValRow
import Derived.Test.YtkllbcjbbfpccaaTxtSame
namespace Go.Proofs.Ytkllbcjbbfpccaa
open Go.RowKit
set_option linter.unusedVariables false
set_option linter.unusedSimpArgs false

theorem Try.infoInt : (Try.prog.info? 3).map (fun i => (i.zero, i.size, i.bytes)) = some (some (.int .i64 0), 1, 8) := by kernel_rfl
theorem Try.infoW32 : (Try.prog.info? 43).map (fun i => (i.zero, i.size, i.bytes)) = some (some (.int .u32 0), 1, 4) := by kernel_rfl

/-- What is told of a group. -/
def GrR (bs : List Int) (sects : Int) (e : Ending) (w : World) : Prop :=
  (grOk bs sects ∧ ∃ a c, e = .returned (.tuple #[.slice a (bs.length / 4 - 1) c, .int .i64 0]) ∧ Ri w a (bs.length / 4 - 1) c (grM bs)) ∨
  (¬ grOk bs sects ∧ e = .returned (.tuple #[.slice none 0 0, .int .i64 34]))

theorem grM_fit {bs : List Int} (hb : Bytes bs) : ∀ x ∈ grM bs, -9223372036854775808 ≤ x ∧ x ≤ 9223372036854775807 := by
  intro x hx
  unfold grM at hx
  obtain ⟨i, _, rfl⟩ := List.mem_map.1 hx
  have := grAt_bd hb (i + 1)
  omega

theorem number_any (a : Option Addr) (len cap : Nat) (bs : List Int) (i : Nat) (w : World) (r : Rd w a len cap bs) (hi : 4 * i ≤ 9223372036854775807) :
    Calls Try.prog 19 #[.slice a len cap, .int .i64 (i : Int)] w fun e w' => e = .returned (.int .i64 (grAt bs i)) ∧ w' = w := by
  have hb := grAt_bd r.bytes i
  have hc := u32_any a len cap bs ((4 * i : Nat) : Int) w r (by omega) (by omega)
  have e0 : got bs ((4 * i : Nat) : Int) 4 = grAt bs i := rfl
  rw [e0] at hc
  generalize grAt bs i = g at *
  generalize has bs ((4 * i : Nat) : Int) 4 = t at *
  have x0 : IntKind.u64.wrap (i : Int) = (i : Int) := u64_wrap_id _ (by omega) (by omega)
  have x1 : IntKind.u64.wrap ((i : Int) * 4) = ((4 * i : Nat) : Int) := by rw [u64_wrap_id _ (by omega) (by omega)]; omega
  have x2 : IntKind.i64.wrap g = g := by rw [IntKind.wrap_i64]; omega
  go_enter Try.func19, Try.ntmps19
  go_wp2_with (go_at_call 18; refine hc.mono ?_; rintro e w' ⟨rfl, rfl⟩)
  go_ret
  exact ⟨rfl, rfl⟩

set_option maxHeartbeats 1600000 in
set_option maxRecDepth 20000 in
theorem ints_eq (a : Option Addr) (len cap : Nat) (l : List Int) (a2 : Option Addr) (cap2 : Nat) (w : World) (r : Ri w a len cap l) (r2 : Ri w a2 len cap2 l) :
    Calls Try.prog 12 #[.slice a len cap, .slice a2 len cap2] w fun e w' => e = .returned (.bool true) ∧ Below w.heap.size w w' := by
  have hl := r.length
  have hle := r.row.le
  have hmx := r.row.max
  have HR := hide r
  have HR2 := hide r2
  clear r r2
  by_cases h0 : len = 0
  · subst h0
    go_enter Try.func12, Try.ntmps12
    go_wp2
    go_loopg [5] 0 (fun g kv wi => wi = w ∧ kv = .int .i64 0)
    case atStart => exact ⟨rfl, rfl⟩
    case round =>
      obtain ⟨rfl, rfl⟩ := hrel
      go_wp2
      go_ret
      exact ⟨rfl, Below.refl _ _⟩
  · obtain ⟨b, o, rfl, hc⟩ := Ri.addr HR.out (by omega)
    obtain ⟨b2, o2, rfl, hc2⟩ := Ri.addr HR2.out (by omega)
    clear hc hc2 h0
    go_enter Try.func12, Try.ntmps12
    go_wp2
    go_loopg [5] len (fun g kv wi => ∃ i : Nat, i ≤ len ∧ g = len - i ∧ kv = .int .i64 (i : Int) ∧ Hid (Below w.heap.size w wi))
    case atStart => exact ⟨0, by omega, by omega, rfl, Below.refl _ _⟩
    case round =>
      obtain ⟨i, hi, rfl, rfl, HB⟩ := hrel
      by_cases hlt : i < len
      · have r1 := HR.out.below HB.out
        have r2 := HR2.out.below HB.out
        obtain ⟨b', o', e, hc⟩ := Ri.addr r1 (by omega)
        cases e
        obtain ⟨b', o', e, hc2⟩ := Ri.addr r2 (by omega)
        cases e
        obtain ⟨t, ht⟩ : ∃ t, l[i]? = some t := ⟨_, List.getElem?_eq_getElem (by omega)⟩
        have c0 := hc i t ht
        have d0 := hc2 i t ht
        have hlt' : (i : Int) < (len : Int) := by omega
        have HB2 := hide (fun q => HB.out.trans ((bel_drewS wr q).mono HB.out.size))
        clear HR HR2 r1 r2 hc hc2 HB ht
        go_upto_region 6 with fail
        go_quiet (fail)
        go_wp2
        go_roundg (len - (i + 1))
        case measure => omega
        case rel => exact ⟨i + 1, by omega, rfl, by go_num, HB2.out _⟩
      · go_wp2
        go_ret
        exact ⟨rfl, HB.out⟩

end Go.Proofs.Ytkllbcjbbfpccaa
