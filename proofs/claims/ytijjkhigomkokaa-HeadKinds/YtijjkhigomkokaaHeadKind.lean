/- Contracts of bytes.Equal, bytes.HasPrefix, head.Kind and of the document's Kind. -/
import Derived.Test.YtijjkhigomkokaaHeadMake
namespace Go.Proofs.Ytijjkhigomkokaa
open Go.RowKit
set_option linter.unusedVariables false
set_option linter.unusedSimpArgs false

theorem Rd.front {w : World} {a : Option Addr} {len cap : Nat} {bs : List Int} (r : Rd w a len cap bs) (m : Nat) (h : m ≤ len) : Rd w a m cap (bs.take m) := by
  have hl := r.length
  have h1 := r.le
  refine ⟨by simp; omega, by omega, r.max, r.bytes.take m, r.nil, fun x hx i hi => ?_⟩
  rw [r.cell x hx i (by omega)]
  simp [hi]

theorem strN_beqL {l m : List Int} (hl : Bytes l) (hm : Bytes m) : ((strOfNums l).toList == (strOfNums m).toList) = decide (l = m) := by
  rw [← strN_beq hl hm, ba_beq, Bool.eq_iff_iff]
  simp [ByteArray.toList_eq, ByteArray.ext_iff]

theorem equal_any (a : Option Addr) (len cap : Nat) (bs : List Int) (a2 : Option Addr) (len2 cap2 : Nat) (cs : List Int) (w : World) (r : Rd w a len cap bs) (r2 : Rd w a2 len2 cap2 cs) :
    Calls Try.prog 28 #[.slice a len cap, .slice a2 len2 cap2] w fun e w' => e = .returned (.bool (decide (bs = cs))) ∧ w' = w := by
  have s1 := r.str
  have s2 := r2.str
  have HE := hide (strN_beqL r.bytes r2.bytes)
  generalize strOfNums bs = S at *
  generalize strOfNums cs = T at *
  clear r r2
  go_enter Try.func28, Try.ntmps28
  go_wp2
  go_ret
  exact ⟨ret_bool HE.out, rfl⟩

theorem prefix_any (a : Option Addr) (len cap : Nat) (bs : List Int) (a2 : Option Addr) (len2 cap2 : Nat) (cs : List Int) (w : World) (r : Rd w a len cap bs) (r2 : Rd w a2 len2 cap2 cs) (hp : 0 < len2) :
    Calls Try.prog 20 #[.slice a len cap, .slice a2 len2 cap2] w fun e w' => e = .returned (.bool (decide (bs.take len2 = cs))) ∧ w' = w := by
  have hl := r.length
  have hle := r.le
  have hmx := r.max
  have hl2 := r2.length
  have hle2 := r2.le
  have hmx2 := r2.max
  by_cases h : len2 ≤ len
  · have hc := equal_any a len2 cap _ a2 len2 cap2 cs w (r.front len2 h) r2
    obtain ⟨b, o, rfl, _⟩ := r.addr (by omega)
    have HC := hide hc
    generalize decide (bs.take len2 = cs) = t at *
    clear r r2 hc
    go_enter Try.func20, Try.ntmps20
    go_wp2_with (go_at_call 28; refine HC.out.mono ?_; rintro e w' ⟨rfl, rfl⟩)
    go_ret
    exact ⟨rfl, rfl⟩
  · have e : decide (bs.take len2 = cs) = false := decide_eq_false (fun h2 => by have := congrArg List.length h2; simp at this; omega)
    rw [e]
    clear r r2 e
    go_enter Try.func20, Try.ntmps20
    go_wp2_with fail
    go_ret
    exact ⟨rfl, rfl⟩

theorem elf_bytes : Bytes elfL := by intro x hx; simp [elfL] at hx; omega
theorem arch_bytes : Bytes archL := by intro x hx; simp [archL] at hx; omega

theorem kind_any (a : Option Addr) (len cap : Nat) (bs : List Int) (w : World) (r : Rd w a len cap bs) :
    Calls Try.prog 11 #[.slice a len cap] w fun e w' => e = .returned (.int .i64 (kd bs)) ∧ Below w.heap.size w w' := by
  have k0 := fun (W : World) (C : Array Value) (l c : Nat) => kc_zero W C l c
  have HR := hide r
  clear r
  have p1 : Calls Try.prog 20 #[.slice a len cap, .slice (some ⟨w.heap.size, 0, none⟩) 4 4] (w.alloc (.cells #[.int .u8 127, .int .u8 69, .int .u8 76, .int .u8 70] 5 (4, 5))) fun e w' => e = .returned (.bool (decide (bs.take 4 = elfL))) ∧ w' = w.alloc (.cells #[.int .u8 127, .int .u8 69, .int .u8 76, .int .u8 70] 5 (4, 5)) :=
    prefix_any _ _ _ _ _ _ _ elfL _ (HR.out.below ((Below.refl _ _).alloc (Nat.le_refl _) _)) (Rd.litm elfL (heap_alloc_new w _) elf_bytes (by decide)) (by decide)
  have P1 := hide p1
  clear p1
  have b1 : Below w.heap.size w (w.alloc (.cells #[.int .u8 127, .int .u8 69, .int .u8 76, .int .u8 70] 5 (4, 5))) := (Below.refl _ _).alloc (Nat.le_refl _) _
  have B1 := hide b1
  clear b1
  by_cases h1 : bs.take 4 = elfL
  · have e : kd bs = 1 := by unfold kd; rw [if_pos h1]
    rw [decide_eq_true h1] at P1
    rw [e]
    clear e h1
    go_enter Try.func11, Try.ntmps11
    go_wp2_with (go_at_call 20; refine P1.out.mono ?_; rintro e w' ⟨rfl, rfl⟩)
    go_ret
    exact ⟨rfl, B1.out⟩
  · rw [decide_eq_false h1] at P1
    have p2 : ∀ W, Below w.heap.size w W → Calls Try.prog 20 #[.slice a len cap, .slice (some ⟨W.heap.size, 0, none⟩) 8 8] (W.alloc (.cells #[.int .u8 33, .int .u8 60, .int .u8 97, .int .u8 114, .int .u8 99, .int .u8 104, .int .u8 62, .int .u8 10] 5 (8, 9))) fun e w' => e = .returned (.bool (decide (bs.take 8 = archL))) ∧ Hid (Below w.heap.size w w') := by
      intro W hW
      refine (prefix_any _ _ _ _ _ _ _ archL _ ((HR.out.below hW).below ((Below.refl _ _).alloc (Nat.le_refl _) _)) (Rd.litm archL (heap_alloc_new W _) arch_bytes (by decide)) (by decide)).mono ?_
      rintro e w' ⟨rfl, rfl⟩
      exact ⟨rfl, hW.alloc hW.size _⟩
    have P2 := hide p2
    clear p2
    by_cases h2 : bs.take 8 = archL
    · have e : kd bs = 2 := by unfold kd; rw [if_neg h1, if_pos h2]
      rw [decide_eq_true h2] at P2
      rw [e]
      clear e h1 h2
      go_enter Try.func11, Try.ntmps11
      go_wp2_with fail
      refine P1.out.mono ?_
      rintro e w' ⟨rfl, hw⟩
      rw [← hw] at B1
      clear hw P1
      go_wp2_with fail
      refine (P2.out w' B1.out).mono ?_
      rintro e w2 ⟨rfl, B2⟩
      go_wp2
      go_ret
      exact ⟨rfl, B2.out⟩
    · have e : kd bs = 0 := by unfold kd; rw [if_neg h1, if_neg h2]
      rw [decide_eq_false h2] at P2
      rw [e]
      clear e h1 h2
      go_enter Try.func11, Try.ntmps11
      go_wp2_with fail
      refine P1.out.mono ?_
      rintro e w' ⟨rfl, hw⟩
      rw [← hw] at B1
      clear hw P1
      go_wp2_with fail
      refine (P2.out w' B1.out).mono ?_
      rintro e w2 ⟨rfl, B2⟩
      go_wp2
      go_ret
      exact ⟨rfl, B2.out⟩

theorem elf_strL : (strOfNums elfL).toList = [127, 69, 76, 70] := by rw [ByteArray.toList_eq]; rfl
theorem arch_strL : (strOfNums archL).toList = [33, 60, 97, 114, 99, 104, 62, 10] := by rw [ByteArray.toList_eq]; rfl
theorem elf_str : strOfNums elfL = ⟨#[127, 69, 76, 70]⟩ := by decide
theorem arch_str : strOfNums archL = ⟨#[33, 60, 97, 114, 99, 104, 62, 10]⟩ := by decide

theorem rkind_any (a : Option Addr) (len cap : Nat) (bs : List Int) (w : World) (r : Rd w a len cap bs) :
    Calls Try.prog 12 #[.slice a len cap] w fun e w' => e = .returned (.int .i64 (kd bs)) ∧ w' = w := by
  have hl := r.length
  have hle := r.le
  have hmx := r.max
  by_cases h4 : 4 ≤ len
  · obtain ⟨b, o, rfl, _⟩ := r.addr (by omega)
    have s4 := (r.front 4 h4).str
    by_cases h1 : bs.take 4 = elfL
    · have e : kd bs = 1 := by unfold kd; rw [if_pos h1]
      rw [h1, elf_str] at s4
      rw [e]
      clear e h1 r
      go_enter Try.func12, Try.ntmps12
      go_wp2
      go_ret
      exact ⟨rfl, rfl⟩
    · have n4 : ((strOfNums (bs.take 4)).toList == [127, 69, 76, 70]) = false := by rw [← elf_strL]; exact (strN_beqL (r.bytes.take 4) elf_bytes).trans (decide_eq_false h1)
      generalize strOfNums (bs.take 4) = S at *
      by_cases h8 : 8 ≤ len
      · have s8 := (r.front 8 h8).str
        by_cases h2 : bs.take 8 = archL
        · have e : kd bs = 2 := by unfold kd; rw [if_neg h1, if_pos h2]
          rw [h2, arch_str] at s8
          rw [e]
          clear e h1 r h2
          go_enter Try.func12, Try.ntmps12
          go_wp2
          go_ret
          exact ⟨rfl, rfl⟩
        · have n8 : ((strOfNums (bs.take 8)).toList == [33, 60, 97, 114, 99, 104, 62, 10]) = false := by rw [← arch_strL]; exact (strN_beqL (r.bytes.take 8) arch_bytes).trans (decide_eq_false h2)
          generalize strOfNums (bs.take 8) = T at *
          have e : kd bs = 0 := by unfold kd; rw [if_neg h1, if_neg h2]
          rw [e]
          clear e h1 r h2
          go_enter Try.func12, Try.ntmps12
          go_wp2
          go_ret
          exact ⟨rfl, rfl⟩
      · have e : kd bs = 0 := by
          unfold kd; rw [if_neg h1, if_neg]
          intro h2; have := congrArg List.length h2; simp [archL] at this; omega
        rw [e]
        clear e h1 r
        go_enter Try.func12, Try.ntmps12
        go_wp2
        go_ret
        exact ⟨rfl, rfl⟩
  · have e : kd bs = 0 := by
      unfold kd; rw [if_neg, if_neg]
      · intro h2; have := congrArg List.length h2; simp [archL] at this; omega
      · intro h2; have := congrArg List.length h2; simp [elfL] at this; omega
    rw [e]
    clear e r
    go_enter Try.func12, Try.ntmps12
    go_wp2
    go_ret
    exact ⟨rfl, rfl⟩

end Go.Proofs.Ytijjkhigomkokaa
