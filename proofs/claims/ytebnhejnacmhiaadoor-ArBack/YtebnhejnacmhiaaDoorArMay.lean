/- Names that may be: the law's may. -/
import Derived.Test.YtebnhejnacmhiaaDoorArSame
namespace Go.Proofs.YtebnhejnacmhiaaDoor
open Go.RowKit Go.Maps
set_option linter.unusedVariables false
set_option maxRecDepth 100000
set_option maxRecDepth 20000
set_option linter.unusedSimpArgs false

theorem byte_same (c n : UInt8) : ((c.toNat : Int) == (n.toNat : Int)) = decide (c = n) := by
  by_cases h : c = n
  · simp [h]
  · rw [decide_eq_false h]
    have : c.toNat ≠ n.toNat := fun e => h (UInt8.toNat_inj.1 e)
    simp
    omega
theorem strAtM (l : T8) (j : Nat) (h : j < (str l).size) (h2 : j < l.length) : (str l)[j] = l[j] := rfl
def okm (m : Mb) : Bool := okN m.n
set_option maxHeartbeats 4000000 in
theorem may_any (ms : List Mb) (a : Option Addr) (cap : Nat) (w : World) (r : Rmb w a ms.length cap ms) :
    Calls Tryd.prog 9 #[.slice a ms.length cap] w fun e w' => e = .returned (.bool (ms.all okm)) ∧ w' = w := by
  have hle := r.le
  have hmx := r.max
  have HR := hide r
  clear r
  go_enter Tryd.func9, Tryd.ntmps9
  go_wp2_with fail
  go_loopg [3] ms.length (fun g kv wi => ∃ i : Nat, i ≤ ms.length ∧ g = ms.length - i ∧ kv = .int .i64 (i : Int) ∧ wi = w ∧ Hid ((ms.take i).all okm = true))
  case atStart => exact ⟨0, by omega, by omega, rfl, rfl, by show _ = _; simp⟩
  case round =>
    obtain ⟨i, hi, rfl, rfl, rfl, HA⟩ := hrel
    by_cases hlt : i < ms.length
    · obtain ⟨x, hx⟩ : ∃ x, ms[i]? = some x := ⟨_, List.getElem?_eq_getElem hlt⟩
      obtain ⟨b, o, a', c', rfl, h0, h1, hr⟩ := HR.out.at_ i x hx
      have hlt' : (i : Int) < (ms.length : Int) := by omega
      have hlt2 : decide ((i : Int) < (ms.length : Int)) = true := decide_eq_true hlt'
      have hn := str_size x.n
      have HX := hide hx
      have HF : Hid (okm x = false → ms.all okm = false) := fun h => all_bad okm ms i x HX.out h
      clear hx hr h1
      by_cases hn1 : x.n.length < 1
      · have d1 : decide ((x.n.length : Int) < 1) = true := decide_eq_true (by omega)
        have HG : Hid (ms.all okm = false) := HF.out (by unfold okm okN; rw [decide_eq_false (show ¬ 1 ≤ x.n.length by omega)]; rfl)
        clear HA HF
        go_wp2_with fail
        go_ret
        exact ⟨by rw [HG.out]; rfl, rfl⟩
      have d1 : decide ((x.n.length : Int) < 1) = false := decide_eq_false (by omega)
      by_cases hn2 : 200 < x.n.length
      · have d2 : decide ((200 : Int) < (x.n.length : Int)) = true := decide_eq_true (by omega)
        have HG : Hid (ms.all okm = false) := HF.out (by unfold okm okN; rw [decide_eq_false (show ¬ x.n.length ≤ 200 by omega), Bool.and_false]; rfl)
        clear HA HF
        go_wp2_with fail
        go_ret
        exact ⟨by rw [HG.out]; rfl, rfl⟩
      have d2 : decide ((200 : Int) < (x.n.length : Int)) = false := decide_eq_false (by omega)
      go_wp2_with fail
      go_loopg [4] x.n.length (fun gg v wx => ∃ j : Nat, j ≤ x.n.length ∧ gg = x.n.length - j ∧ v = .int .i64 (j : Int) ∧ wx = wr ∧ Hid ((x.n.take j).any badC = false))
      case atStart => exact ⟨0, by omega, rfl, rfl, rfl, by show _ = _; simp⟩
      case round =>
        obtain ⟨j, hj, rfl, rfl, rfl, HZ⟩ := hrel
        by_cases hjl : j < x.n.length
        · have hjd : decide ((j : Int) < (x.n.length : Int)) = true := decide_eq_true (by omega)
          have hjs : j < (str x.n).size := by omega
          have hat := strAtM x.n j hjs hjl
          have hcj : x.n[j]? = some x.n[j] := List.getElem?_eq_getElem hjl
          generalize x.n[j] = c at *
          have HC := hide hcj
          have q0 : ((c.toNat : Int) == 0) = decide (c = 0) := byte_same c 0
          have q1 : ((c.toNat : Int) == 47) = decide (c = 47) := byte_same c 47
          have q2 : ((c.toNat : Int) == 10) = decide (c = 10) := byte_same c 10
          clear hcj
          by_cases hb : badC c = true
          · have HG : Hid (ms.all okm = false) := HF.out (by
              have : x.n.any badC = true := List.any_eq_true.2 ⟨c, List.mem_of_getElem? HC.out, hb⟩
              unfold okm okN
              rw [this]
              simp)
            clear HA HF HZ
            by_cases c0 : c = 0
            · rw [decide_eq_true c0] at q0
              clear q1 q2 hb c0
              go_wp2_with fail
              go_ret
              exact ⟨by rw [HG.out]; rfl, rfl⟩
            rw [decide_eq_false c0] at q0
            by_cases c1 : c = 47
            · rw [decide_eq_true c1] at q1
              clear q2 hb c0 c1
              go_wp2_with fail
              go_ret
              exact ⟨by rw [HG.out]; rfl, rfl⟩
            rw [decide_eq_false c1] at q1
            have c2 : c = 10 := by
              unfold badC at hb
              rw [decide_eq_false c0, decide_eq_false c1] at hb
              simpa using hb
            rw [decide_eq_true c2] at q2
            clear hb c0 c1 c2
            go_wp2_with fail
            go_ret
            exact ⟨by rw [HG.out]; rfl, rfl⟩
          · have hb' := hb
            simp [badC] at hb'
            rw [decide_eq_false hb'.1.1] at q0
            rw [decide_eq_false hb'.1.2] at q1
            rw [decide_eq_false hb'.2] at q2
            have HZ2 : Hid ((x.n.take (j + 1)).any badC = false) := by
              show _ = _
              rw [List.take_add_one, HC.out, List.any_append, HZ.out]
              simpa using hb
            clear hb hb' HZ
            go_wp2_with fail
            go_roundg (x.n.length - (j + 1))
            case measure => omega
            case rel => exact ⟨j + 1, by omega, rfl, by go_num, rfl, HZ2.out⟩
        · obtain rfl : j = x.n.length := by omega
          have hjd : decide ((x.n.length : Int) < (x.n.length : Int)) = false := decide_eq_false (by omega)
          have HA2 := hide (all_step okm ms i x HX.out HA.out (by
            have := HZ.out
            rw [List.take_length] at this
            unfold okm okN
            rw [this, decide_eq_true (show 1 ≤ x.n.length by omega), decide_eq_true (show x.n.length ≤ 200 by omega)]
            rfl))
          clear HA HF HZ
          go_wp2_with fail
          go_roundg (ms.length - (i + 1))
          case measure => omega
          case rel => exact ⟨i + 1, by omega, rfl, by go_num, rfl, HA2.out⟩
    · obtain rfl : i = ms.length := by omega
      have HT : Hid (ms.all okm = true) := by
        show _ = _
        have := HA.out
        rwa [List.take_length] at this
      go_wp2_with fail
      go_ret
      exact ⟨by rw [HT.out]; rfl, rfl⟩

end Go.Proofs.YtebnhejnacmhiaaDoor
