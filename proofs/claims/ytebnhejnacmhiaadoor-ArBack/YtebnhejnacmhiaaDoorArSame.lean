/- Members that are alike: dovetailhelp's Members tells so; the law's light. -/
import Derived.Test.YtebnhejnacmhiaaDoorArRw
namespace Go.Proofs.YtebnhejnacmhiaaDoor
open Go.RowKit Go.Maps
set_option linter.unusedVariables false
set_option maxRecDepth 100000
set_option maxRecDepth 20000
set_option linter.unusedSimpArgs false

theorem bel_drewM (w : World) (n : Nat) : Below w.heap.size w (w.drewN n) := ⟨rfl, rfl, rfl, Nat.le_refl _, fun _ _ => rfl⟩
theorem strq_same (a : ByteArray) : (a.toList == a.toList) = true := by simp
set_option maxHeartbeats 4000000 in
theorem members_eq (ms : List Mb) (a a2 : Option Addr) (cap cap2 : Nat) (w : World) (r : Rmb w a ms.length cap ms) (r2 : Rmb w a2 ms.length cap2 ms) :
    Calls Tryd.prog 13 #[.slice a ms.length cap, .slice a2 ms.length cap2] w fun e w' => e = .returned (.bool true) ∧ Below w.heap.size w w' := by
  have hle := r.le
  have hmx := r.max
  have hle2 := r2.le
  have hmx2 := r2.max
  have HR := hide r
  have HR2 := hide r2
  clear r r2
  go_enter Tryd.func13, Tryd.ntmps13
  go_wp2_with fail
  go_loopg [5] ms.length (fun g kv wi => ∃ i : Nat, i ≤ ms.length ∧ g = ms.length - i ∧ kv = .int .i64 (i : Int) ∧ Hid (Below w.heap.size w wi))
  case atStart => exact ⟨0, by omega, by omega, rfl, Below.refl _ _⟩
  case round =>
    obtain ⟨i, hi, rfl, rfl, HB⟩ := hrel
    by_cases hlt : i < ms.length
    · obtain ⟨x, hx⟩ : ∃ x, ms[i]? = some x := ⟨_, List.getElem?_eq_getElem hlt⟩
      obtain ⟨b, o, a', c', rfl, h0, h1, hr⟩ := (HR.out.below HB.out).at_ i x hx
      obtain ⟨b2, o2, a2', c2', rfl, g0, g1, gr⟩ := (HR2.out.below HB.out).at_ i x hx
      have hlt' : (i : Int) < (ms.length : Int) := by omega
      have HB2 := hide (fun q => HB.out.trans ((bel_drewM wr q).mono HB.out.size))
      have k1 := fun q => Rt.txt (Rd.below hr (bel_drewM wr q)) _ rfl
      have k2 := fun q => Rt.txt (Rd.below gr (bel_drewM wr q)) _ rfl
      have hs := strq_same (str x.n)
      have hs2 := strq_same (str x.b)
      have z1 := hr.le
      have z2 := hr.max
      have z3 := gr.le
      have z4 := gr.max
      generalize str x.n = S at *
      generalize str x.b = T at *
      clear hx hr gr HB HR HR2
      go_upto_region 6 with fail
      go_quiet (fail)
      go_wp2_with fail
      go_roundg (ms.length - (i + 1))
      case measure => omega
      case rel => exact ⟨i + 1, by omega, rfl, by go_num, HB2.out _⟩
    · go_wp2_with fail
      go_ret
      exact ⟨rfl, HB.out⟩

def ltm (m : Mb) : Bool := !(decide (250 < m.n.length) || decide (200 < m.b.length))
def ltB (ms : List Mb) : Bool := decide (ms.length ≤ 12) && ms.all ltm
theorem all_step {R : Type} (f : R → Bool) (l : List R) (k : Nat) (x : R) (hx : l[k]? = some x) (h : (l.take k).all f = true) (hf : f x = true) : (l.take (k + 1)).all f = true := by
  rw [List.take_add_one, hx, List.all_append, h]
  simp [hf]
theorem all_bad {R : Type} (f : R → Bool) (l : List R) (k : Nat) (x : R) (hx : l[k]? = some x) (hf : f x = false) : l.all f = false := by
  rw [List.all_eq_false]
  exact ⟨x, List.mem_of_getElem? hx, by rw [hf]; simp⟩
set_option maxHeartbeats 4000000 in
theorem light_any (ms : List Mb) (a : Option Addr) (cap : Nat) (w : World) (r : Rmb w a ms.length cap ms) :
    Calls Tryd.prog 8 #[.slice a ms.length cap] w fun e w' => e = .returned (.bool (ltB ms)) ∧ w' = w := by
  have hle := r.le
  have hmx := r.max
  have HR := hide r
  clear r
  go_enter Tryd.func8, Tryd.ntmps8
  by_cases h12 : 12 < ms.length
  · have h12' : (12 : Int) < (ms.length : Int) := by omega
    have hd : decide ((12 : Int) < (ms.length : Int)) = true := decide_eq_true h12'
    have HF : Hid (ltB ms = false) := by
      show _ = _
      unfold ltB
      rw [decide_eq_false (by omega)]
      rfl
    go_wp2_with fail
    go_ret
    exact ⟨by rw [HF.out]; rfl, rfl⟩
  · have h12' : ¬ (12 : Int) < (ms.length : Int) := by omega
    have hd : decide ((12 : Int) < (ms.length : Int)) = false := decide_eq_false h12'
    go_wp2_with fail
    go_loopg [3] ms.length (fun g kv wi => ∃ i : Nat, i ≤ ms.length ∧ g = ms.length - i ∧ kv = .int .i64 (i : Int) ∧ wi = w ∧ Hid ((ms.take i).all ltm = true))
    case atStart => exact ⟨0, by omega, by omega, rfl, rfl, by show _ = _; simp⟩
    case round =>
      obtain ⟨i, hi, rfl, rfl, rfl, HA⟩ := hrel
      by_cases hlt : i < ms.length
      · obtain ⟨x, hx⟩ : ∃ x, ms[i]? = some x := ⟨_, List.getElem?_eq_getElem hlt⟩
        obtain ⟨b, o, a', c', rfl, h0, h1, hr⟩ := HR.out.at_ i x hx
        have hlt' : (i : Int) < (ms.length : Int) := by omega
        have hlt2 : decide ((i : Int) < (ms.length : Int)) = true := decide_eq_true hlt'
        have z1 := hr.le
        have z2 := hr.max
        have hn := str_size x.n
        have HX := hide hx
        clear hx hr
        by_cases hb : ltm x = true
        · have HA2 := hide (all_step ltm ms i x HX.out HA.out hb)
          have hb' := hb
          simp [ltm] at hb'
          have d1 : decide ((250 : Int) < (x.n.length : Int)) = false := decide_eq_false (by omega)
          have d2 : decide ((200 : Int) < (x.b.length : Int)) = false := decide_eq_false (by omega)
          clear hb hb' HA
          go_wp2_with fail
          go_roundg (ms.length - (i + 1))
          case measure => omega
          case rel => exact ⟨i + 1, by omega, rfl, by go_num, rfl, HA2.out⟩
        · have HF : Hid (ltB ms = false) := by
            show _ = _
            unfold ltB
            rw [all_bad ltm ms i x HX.out (by simpa using hb), Bool.and_false]
          by_cases hn1 : 250 < x.n.length
          · have d1 : decide ((250 : Int) < (x.n.length : Int)) = true := decide_eq_true (by omega)
            clear hb HA
            go_wp2_with fail
            go_ret
            exact ⟨by rw [HF.out]; rfl, rfl⟩
          · have hb2 : 200 < x.b.length := by simp [ltm] at hb; omega
            have d1 : decide ((250 : Int) < (x.n.length : Int)) = false := decide_eq_false (by omega)
            have d2 : decide ((200 : Int) < (x.b.length : Int)) = true := decide_eq_true (by omega)
            clear hb HA
            go_wp2_with fail
            go_ret
            exact ⟨by rw [HF.out]; rfl, rfl⟩
      · obtain rfl : i = ms.length := by omega
        have HT : Hid (ltB ms = true) := by
          show _ = _
          have := HA.out
          rw [List.take_length] at this
          unfold ltB
          rw [this, decide_eq_true (by omega)]
          rfl
        go_wp2_with fail
        go_ret
        exact ⟨by rw [HT.out]; rfl, rfl⟩

end Go.Proofs.YtebnhejnacmhiaaDoor
