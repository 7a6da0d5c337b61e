/- MemApart: the ways of the store together. -/
import Derived.Test.YtggmeopohpbmlaaMemApartA
import Derived.Test.YtggmeopohpbmlaaMemApartB
namespace Go.Proofs.Ytggmeopohpbmlaa
open Go.RowKit Go.Maps
set_option linter.unusedVariables false

theorem apart_walk (a0 a1 v a3 : Int) (w : World) (p0 : 0 ≤ a0 ∧ a0 ≤ 65535) (p1 : 0 ≤ a1 ∧ a1 ≤ 255) (p2 : 0 ≤ v ∧ v ≤ 18446744073709551615) (p3 : 0 ≤ a3 ∧ a3 ≤ 255) :
    Calls Try.prog 5 #[.int .u16 a0, .int .u8 a1, .int .u64 v, .int .u8 a3] w fun e w' => e = .returned (.bool true) ∧ Below w.heap.size w w' := by
  obtain ⟨t, ht⟩ : ∃ t : Nat, a0 % 4120 = t := ⟨(a0 % 4120).toNat, by omega⟩
  obtain ⟨kq, hkq⟩ : ∃ t : Nat, a3 % 3 = t := ⟨(a3 % 3).toNat, by omega⟩
  obtain ⟨kw, hkw⟩ : ∃ t : Nat, a1 % 4 = t := ⟨(a1 % 4).toNat, by omega⟩
  have hq := aq_is kq
  by_cases hin : t + aw kw ≤ 4096
  · by_cases h0 : aq kq = 0
    · exact apart_in1 a0 a1 v a3 w t (aw kw) kq kw (aq kq) p0 p1 p2.1 p2.2 p3 ht (by omega) hkq (by omega) hkw (by omega) rfl rfl h0 hin
    · exact apart_in2 a0 a1 v a3 w t (aw kw) kq kw (aq kq) p0 p1 p2.1 p2.2 p3 ht (by omega) hkq (by omega) hkw (by omega) rfl rfl (by omega) hin
  · by_cases h0 : aq kq = 0
    · exact apart_no1 a0 a1 v a3 w t (aw kw) kq kw (aq kq) p0 p1 p2.1 p2.2 p3 ht (by omega) hkq (by omega) hkw (by omega) rfl rfl h0 hin
    · by_cases hz : bits .and .i64 (aq kq) 2 = 0
      · exact apart_no2 a0 a1 v a3 w t (aw kw) kq kw (aq kq) p0 p1 p2.1 p2.2 p3 ht (by omega) hkq (by omega) hkw (by omega) rfl rfl (by omega) hz hin
      · exact apart_out2 a0 a1 v a3 w t (aw kw) kq kw (aq kq) p0 p1 p2.1 p2.2 p3 ht (by omega) hkq (by omega) hkw (by omega) rfl rfl (by omega) hz hin

end Go.Proofs.Ytggmeopohpbmlaa
