/- Members that are alike: dovetailhelp's Members tells so; the law's light. -/
import Derived.Test.YtmmcnkdefpfkiaaDoorArRw
namespace Go.Proofs.YtmmcnkdefpfkiaaDoor
open Go.RowKit Go.Maps
set_option linter.unusedVariables false
set_option maxRecDepth 100000
set_option maxRecDepth 20000
set_option linter.unusedSimpArgs false

theorem bel_drewM (w : World) (n : Nat) : Below w.heap.size w (w.drewN n) := ⟨rfl, rfl, rfl, Nat.le_refl _, fun _ _ => rfl⟩
theorem strq_same (a : ByteArray) : (a.toList == a.toList) = true := by simp
set_option maxHeartbeats 4000000 in
theorem members_eq (ms : List Mb) (a a2 : Option Addr) (cap cap2 : Nat) (w : World) (r : Rmb w a ms.length cap ms) (r2 : Rmb w a2 ms.length cap2 ms) :
    Calls Tryd.prog 10 #[.slice a ms.length cap, .slice a2 ms.length cap2] w fun e w' => e = .returned (.bool true) ∧ Below w.heap.size w w' := by
  have hle := r.le
  have hmx := r.max
  have hle2 := r2.le
  have hmx2 := r2.max
  have HR := hide r
  have HR2 := hide r2
  clear r r2
  go_enter Tryd.func10, Tryd.ntmps10
  go_wp2_with fail
  go_loopg [5] ms.length (fun g kv wi => ∃ i : Nat, i ≤ ms.length ∧ g = ms.length - i ∧ kv = .int .i64 (i : Int) ∧ Hid (Below w.heap.size w wi))
  case atStart => exact ⟨0, by omega, by omega, rfl, Below.refl _ _⟩
  case round =>
    obtain ⟨i, hi, rfl, rfl, HB⟩ := hrel
    by_cases hlt : i < ms.length
    · obtain ⟨x, hx⟩ : ∃ x, ms[i]? = some x := ⟨_, List.getElem?_eq_getElem hlt⟩
      obtain ⟨b, o, a', c', rfl, h0, h1, hr⟩ := (HR.out.below HB.out).at_ i x hx
      obtain ⟨b2, o2, a2', c2', rfl, g0, g1, gr⟩ := (HR2.out.below HB.out).at_ i x hx
      have hlt' : (i : Int) < (ms.length : Int) := by omega
      have HB2 := hide (fun q => HB.out.trans ((bel_drewM wr q).mono HB.out.size))
      have k1 := fun q => Rt.txt (Rd.below hr (bel_drewM wr q)) _ rfl
      have k2 := fun q => Rt.txt (Rd.below gr (bel_drewM wr q)) _ rfl
      have hs := strq_same (str x.n)
      have hs2 := strq_same (str x.b)
      have z1 := hr.le
      have z2 := hr.max
      have z3 := gr.le
      have z4 := gr.max
      generalize str x.n = S at *
      generalize str x.b = T at *
      clear hx hr gr HB HR HR2
      go_upto_region 6 with fail
      go_quiet (fail)
      go_wp2_with fail
      go_roundg (ms.length - (i + 1))
      case measure => omega
      case rel => exact ⟨i + 1, by omega, rfl, by go_num, HB2.out _⟩
    · go_wp2_with fail
      go_ret
      exact ⟨rfl, HB.out⟩

def ltm (m : Mb) : Bool := !(decide (250 < m.n.length) || decide (200 < m.b.length))
def ltB (ms : List Mb) : Bool := decide (ms.length ≤ 12) && ms.all ltm
theorem all_step {R : Type} (f : R → Bool) (l : List R) (k : Nat) (x : R) (hx : l[k]? = some x) (h : (l.take k).all f = true) (hf : f x = true) : (l.take (k + 1)).all f = true := by
  rw [List.take_add_one, hx, List.all_append, h]
  simp [hf]
theorem all_bad {R : Type} (f : R → Bool) (l : List R) (k : Nat) (x : R) (hx : l[k]? = some x) (hf : f x = false) : l.all f = false := by
  rw [List.all_eq_false]
  exact ⟨x, List.mem_of_getElem? hx, by rw [hf]; simp⟩



end Go.Proofs.YtmmcnkdefpfkiaaDoor
