/- A drawn region under a condition that grows stronger on the way. -/
import Derived.Test.YtonhahijblnfhaaNums
import Derived.Deep.RegionHeld3
namespace Go.Proofs.Ytonhahijblnfhaa
open Go.RowKit
set_option linter.unusedVariables false

/-- A stronger condition on the worlds from here on serves too. -/
theorem wpAnyH_up {P : Program} {md : Region.Mode} {ops : Array Oper} {Q : Exit → Act → World → Prop} {S S' : World → Prop} (h : ∀ w, S' w → S w) : ∀ (fuel : Nat) (listed : Array Bool) (a : Act) (w : World), wpAnyH P md ops Q S' fuel listed a w → wpAnyH P md ops Q S fuel listed a w
  | 0, _, _, _, x => x
  | fuel + 1, _, _, _, x => ⟨x.1, fun i hi => wpOp_mono (fun a' w' h' => ⟨h w' h'.1, wpAnyH_up h fuel _ a' w' h'.2⟩) (x.2 i hi)⟩

end Go.Proofs.Ytonhahijblnfhaa
