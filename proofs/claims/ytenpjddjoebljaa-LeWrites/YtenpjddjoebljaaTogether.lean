/- Plain facts for the walk over LeTogether: numbers set one behind another into zeros; a text cut in two. -/
import Derived.Test.YtenpjddjoebljaaArg
import Derived.Deep.LoopGhost
import Derived.Deep.RegionWith
namespace Go.Proofs.Ytenpjddjoebljaa
open Go.RowKit
set_option linter.unusedVariables false

def tg (l : List Int) (k : Nat) : List Int := flat 8 (l.take k) ++ List.replicate (8 * (l.length - k)) 0
theorem tg_zero (l : List Int) : tg l 0 = List.replicate (8 * l.length) 0 := by simp [tg, flat]
theorem tg_end (l : List Int) : tg l l.length = flat 8 l := by simp [tg]
theorem tg_bytes (l : List Int) (k : Nat) : Bytes (tg l k) := (flat_bytes 8 _).append (fun x hx => by rw [List.mem_replicate] at hx; omega)
theorem tg_length (l : List Int) (k : Nat) (h : k ≤ l.length) : (tg l k).length = 8 * l.length := by simp [tg, flat_length]; omega
theorem tg_succ (l : List Int) (k : Nat) (h : k < l.length) : setOf (tg l k) (8 * k) (l[k]?.getD 0) 8 = tg l (k + 1) := by
  have hA : (flat 8 (l.take k)).length = 8 * k := by simp [flat_length]; omega
  unfold setOf tg
  rw [List.take_left' hA, show 8 * k + 8 = (flat 8 (l.take k)).length + 8 from by omega, List.drop_length_add_append, List.drop_replicate, take_snoc l k h, flat_append]
  simp only [flat, List.append_nil, List.append_assoc]
  rw [show 8 * (l.length - k) - 8 = 8 * (l.length - (k + 1)) from by omega]

theorem strOfNums_append (a b : List Int) : strOfNums a ++ strOfNums b = strOfNums (a ++ b) := by
  apply ByteArray.ext
  simp [strOfNums]

theorem Rd.drew {w : World} {a : Option Addr} {len cap : Nat} {bs : List Int} (r : Rd w a len cap bs) : Rd w.drew a len cap bs :=
  ⟨r.length, r.le, r.max, r.bytes, r.nil, fun x hx i hi => by simpa using r.cell x hx i hi⟩
theorem Rn.drew {k : IntKind} {top : Int} {w : World} {a : Option Addr} {len cap : Nat} {bs : List Int} (r : Rn k top w a len cap bs) : Rn k top w.drew a len cap bs :=
  ⟨r.length, r.le, r.max, r.fit, r.top0, r.nil, fun x hx i hi => by simpa using r.cell x hx i hi⟩

theorem cutOf_head (bs : List Int) (k : Int) (h0 : 0 ≤ k) (h : k ≤ bs.length) : cutOf bs 0 k = bs.take k.toNat := by unfold cutOf; rw [if_pos (by omega)]; simp
theorem cutOk_head (bs : List Int) (k : Int) (h : k ≤ bs.length) : cutOk bs 0 k = true := by unfold cutOk; exact decide_eq_true (by omega)
theorem cutOf_tail (bs : List Int) (k : Int) (h0 : 0 ≤ k) (h : k ≤ bs.length) : cutOf bs k (bs.length - k) = bs.drop k.toNat := by
  unfold cutOf; rw [if_pos (by omega)]; exact List.take_of_length_le (by simp; omega)
theorem cutOk_tail (bs : List Int) (k : Int) (h : k ≤ bs.length) : cutOk bs k (bs.length - k) = true := by unfold cutOk; exact decide_eq_true (by omega)

end Go.Proofs.Ytenpjddjoebljaa
