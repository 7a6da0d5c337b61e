/- A slice of texts that came in, as one that is read. -/
import Derived.Test.YtlklngkgkfdfeaaStrSt
import Derived.SliceStrings
namespace Go.Proofs.Ytlklngkgkfdfeaa
open Go.ChangeShapes Go.WideShapes Go.RowKit
set_option linter.unusedVariables false

theorem Rs.nil0 (w : World) : Rs w none 0 0 [] := ⟨rfl, Nat.le_refl _, by omega, fun _ => rfl, fun x hx => by cases hx⟩

theorem Rs.some {w : World} {x : Addr} {l c : Nat} {ss : List ByteArray} (hl : l ≤ c) (hm : c ≤ maxLen) (hz : l ≤ ss.length) (hcell : ∀ i, i < ss.length → w.cell? (x.add i) = some (.string (ss.getD i ByteArray.empty))) :
    Rs w (Option.some x) l c ((ss.take l).map (fun s => s.data.toList)) := by
  refine ⟨by simp; omega, hl, by unfold maxLen at hm; omega, (fun h => by cases h), fun y hy i hi => ?_⟩
  cases hy
  rw [hcell i (by omega)]
  simp [show i < ss.length by omega, hi, str_of]

theorem open_names {H : Type} {enc : TypeId × Value → H} {w : World} {base : Nat} {spare : Nat → Bool} {held : Bool} {fuel : Nat} {a : Option Addr} {len cap : Nat} {x : DataW H × List MemPlace}
    (h : DataW.trod enc Try.prog w base spare held fuel 28 [.slice a len cap] = Option.some x) : ∃ ns, Rs w a len cap ns ∧ ∀ n ∈ ns, n.length ≤ 9223372036854775807 := by
  rcases open_strings Try.underlying28 Try.underlying9 (by kernel_rfl) h with ⟨hcs, _⟩ | ⟨y, l, c, ss, hcs, _, hl, hm, hz, _, hcell, hsz⟩
  · simp at hcs
    obtain ⟨rfl, rfl, rfl⟩ := hcs
    exact ⟨[], Rs.nil0 w, fun n hn => by cases hn⟩
  · simp at hcs
    obtain ⟨rfl, rfl, rfl⟩ := hcs
    have hll : len ≤ ss.length := by rw [hz]; split <;> omega
    refine ⟨_, Rs.some hl hm hll hcell, fun n hn => ?_⟩
    obtain ⟨s, hs, rfl⟩ := List.mem_map.1 hn
    have := hsz s (List.mem_of_mem_take hs)
    unfold maxLen at this
    have h2 : s.data.toList.length = s.size := by rw [Array.length_toList]; rfl
    omega

end Go.Proofs.Ytlklngkgkfdfeaa
