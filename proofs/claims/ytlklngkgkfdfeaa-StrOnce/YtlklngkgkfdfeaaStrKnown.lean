/- Build as what is read of it; the chapter's example (known of layer 9); the walk of StrGets. -/
import Derived.Test.YtlklngkgkfdfeaaStrBuild
namespace Go.Proofs.Ytlklngkgkfdfeaa
open Go.RowKit Go.Maps
set_option linter.unusedVariables false

def tabI (l : List UInt8) : List Int := l.map (fun b => (b.toNat : Int))
def atI (l : List Nat) : List Int := l.map (fun (o : Nat) => (o : Int))
theorem tabI_len (l : List UInt8) : (tabI l).length = l.length := by simp [tabI]
theorem atI_len (l : List Nat) : (atI l).length = l.length := by simp [atI]
theorem tabI_bytes (l : List UInt8) : Bytes (tabI l) := fun x hx => by
  obtain ⟨b, _, rfl⟩ := List.mem_map.1 hx
  have := b.toNat_lt
  omega
theorem bytesOf_tabI (l : List UInt8) : Lib.bytesOf (tabI l) = l := by
  simp [Lib.bytesOf, tabI, Function.comp_def]
theorem cs8_tabI (l : List UInt8) : cs8 l = (tabI l).map (Value.int .u8) := by simp [cs8, tabI, Function.comp_def]
theorem cs32_atI (l : List Nat) : cs32 l = (atI l).map (Value.int .u32) := by simp [cs32, atI, Function.comp_def]

theorem built_any (a : Option Addr) (len cap : Nat) (ns : List (List UInt8)) (w : World) (r : Rs w a len cap ns) (hr : room ns ≤ 1000000) :
    Calls Try.prog 10 #[.slice a len cap] w fun e w' => ∃ a4 c4 a5 c5, e = .returned (.tuple #[.slice a4 (bld ns).tab.length c4, .slice a5 (bld ns).at_.length c5]) ∧
      Rd w' a4 (bld ns).tab.length c4 (tabI (bld ns).tab) ∧ Rn .u32 4294967295 w' a5 (bld ns).at_.length c5 (atI (bld ns).at_) ∧ Below w.heap.size w w' := by
  refine (build_any a len cap ns w r hr).mono ?_
  rintro e w' ⟨v4, v5, m, k, rfl, h⟩
  have h4 := h.tab
  have h5 := h.at_
  rw [cs8_tabI] at h4
  rw [cs32_atI] at h5
  obtain ⟨a4, c4, rfl, r4⟩ := Rd.own h4 (tabI_bytes _)
  obtain ⟨a5, c5, rfl, r5⟩ := Rn.own (top := 4294967295) h5 (fun x hx => by
    obtain ⟨o, ho, rfl⟩ := List.mem_map.1 hx
    have := (bld_good ns).ats o ho
    omega) (by omega)
  exact ⟨a4, c4, a5, c5, rfl, r4, r5, h.bel⟩

theorem Rs.lit {w : World} {X : Nat} {t : TypeId} {fr : Nat × Nat} (ns : List (List UInt8)) (h : w.heap[X]? = some (.cells (ns.map (fun l => Value.string (str l))).toArray t fr)) (hl : ns.length ≤ 9223372036854775807) :
    Rs w (some ⟨X, 0, none⟩) ns.length ns.length ns := by
  refine ⟨rfl, Nat.le_refl _, hl, (fun h => by cases h), fun x hx i hi => ?_⟩
  cases hx
  have e : (⟨X, 0, none⟩ : Addr).add i = ⟨X, i, none⟩ := by unfold Addr.add; split <;> simp_all
  rw [e, cell_of_row _ _ i _ t fr h]
  simp [hi]

theorem bld_known : bld [[97], [], [97]] = ⟨[0, 97, 0], [1, 0, 1], [([97], 1)]⟩ := by kernel_rfl

set_option maxHeartbeats 1600000 in
set_option maxRecDepth 20000 in
theorem known_9 (w : World) : Calls Try.prog 7 #[] w fun e w' => e = .returned (.bool true) ∧ Below w.heap.size w w' := by
  have hR : Rs (w.alloc (.cells #[.string ⟨#[97]⟩, .string ⟨#[]⟩, .string ⟨#[97]⟩] 9)) (some ⟨w.heap.size, 0, none⟩) 3 3 [[97], [], [97]] := Rs.lit (t := 9) (fr := (0, 0)) [[97], [], [97]] (heap_alloc_new w _) (by simp)
  have hC := built_any _ _ _ _ _ hR (by decide +kernel)
  rw [bld_known] at hC
  have hB0 : Below w.heap.size w (w.alloc (.cells #[.string ⟨#[97]⟩, .string ⟨#[]⟩, .string ⟨#[97]⟩] 9)) := (Below.refl _ _).alloc (Nat.le_refl _) _
  have HC := hide hC
  have HB0 := hide hB0
  have hz0 : w.heap.size ≤ (w.alloc (.cells #[.string ⟨#[97]⟩, .string ⟨#[]⟩, .string ⟨#[97]⟩] 9)).heap.size := by simp
  clear hR hC hB0
  go_enter Try.func7, Try.ntmps7
  go_wp2_with fail
  generalize hW0 : w.alloc (.cells #[.string ⟨#[97]⟩, .string ⟨#[]⟩, .string ⟨#[97]⟩] 9) = W0 at *
  clear hW0
  refine HC.out.mono ?_
  rintro e W1 ⟨a4, c4, a5, c5, rfl, r4, r5, hb⟩
  have HB1 := hide (HB0.out.trans (hb.mono hz0))
  obtain ⟨b5, o5, rfl, hc5⟩ := r5.addr (by simp)
  have q0 := hc5 0 (by simp)
  have q1 := hc5 1 (by simp)
  have q2 := hc5 2 (by simp)
  replace q0 : W1.cell? ⟨b5, o5, none⟩ = some (.int .u32 1) := q0
  replace q1 : W1.cell? ⟨b5, o5 + 1, none⟩ = some (.int .u32 0) := q1
  replace q2 : W1.cell? ⟨b5, o5 + 2, none⟩ = some (.int .u32 1) := q2
  have g1 := get_any _ _ _ _ 1 W1 r4 (by omega)
  have g3 := get_any _ _ _ _ 3 W1 r4 (by omega)
  have e1 : gtO (tabI [0, 97, 0]) 1 = some [97] := by decide +kernel
  have e3 : gtO (tabI [0, 97, 0]) 3 = none := by decide +kernel
  have s4 := r4.str
  have e4 : strOfNums (tabI [0, 97, 0]) = ⟨#[0, 97, 0]⟩ := by decide +kernel
  rw [e4] at s4
  rw [e1, gtR_some] at g1
  rw [e3, gtR_none] at g3
  have H1 := hide g1
  have H3 := hide g3
  have hle5 := r5.le
  clear g1 g3 e1 e3 e4 r4 r5 hb hc5 HC HB0
  simp only [List.length_cons, List.length_nil] at *
  go_wp2_with fail
  refine H1.out.mono ?_
  rintro e w' ⟨rfl, rfl⟩
  go_wp2_with fail
  refine H3.out.mono ?_
  rintro e w' ⟨rfl, rfl⟩
  go_wp2
  go_ret
  exact ⟨rfl, HB1.out⟩

theorem gets_walk (a : Option Addr) (len cap : Nat) (bs : List Int) (off : Nat) (w : World) (r : Rd w a len cap bs) (ho : off ≤ 4294967295) :
    Calls Try.prog 3 #[.slice a len cap, .int .u32 (off : Int)] w fun e w' => e = .returned (.bool true) ∧ Below w.heap.size w w' := by
  have hmx := r.max
  have hle := r.le
  have HR := hide r
  clear r
  by_cases h : 600 < len
  · have h' : (600 : Int) < (len : Int) := by omega
    go_enter Try.func3, Try.ntmps3
    go_wp2_with fail
    refine (known_9 _).mono ?_
    rintro e W1 ⟨rfl, hb⟩
    have HB := hide hb
    clear hb
    go_wp2
    go_ret
    exact ⟨rfl, HB.out⟩
  · have h' : (len : Int) ≤ 600 := by omega
    go_enter Try.func3, Try.ntmps3
    go_wp2_with fail
    refine (known_9 _).mono ?_
    rintro e W1 ⟨rfl, hb⟩
    have r1 := HR.out.below hb
    have g1 := get_any _ _ _ _ off W1 r1 ho
    have g2 := name_any _ _ _ _ off W1 r1 ho
    obtain ⟨S, hS⟩ : ∃ S, str ((gtO bs off).getD []) = S := ⟨_, rfl⟩
    obtain ⟨B, hB⟩ : ∃ B, (gtO bs off).isSome = B := ⟨_, rfl⟩
    have e1 : gtR (gtO bs off) = .returned (.tuple #[.string S, .bool B]) := by unfold gtR; rw [hS, hB]
    rw [e1] at g1 g2
    have HB := hide hb
    have G1 := hide g1
    have G2 := hide g2
    clear hb r1 g1 g2 hS hB e1 HR
    go_wp2_with fail
    refine G1.out.mono ?_
    rintro e w' ⟨rfl, rfl⟩
    go_wp2_with fail
    refine G2.out.mono ?_
    rintro e w' ⟨rfl, rfl⟩
    cases B
    all_goals
      go_wp2
      go_ret
      exact ⟨rfl, HB.out⟩

end Go.Proofs.Ytlklngkgkfdfeaa
