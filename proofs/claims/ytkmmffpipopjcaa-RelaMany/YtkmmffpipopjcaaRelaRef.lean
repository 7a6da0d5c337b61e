/- The contract of the document's RelaBytes: a row of the call's own that holds the relocations' bytes. -/
import Derived.Test.YtkmmffpipopjcaaRelaOne
import Derived.Test.YtkmmffpipopjcaaRputKeep
import Derived.Deep.RegionHeld3
namespace Go.Proofs.Ytkmmffpipopjcaa
open Go.RowKit
set_option linter.unusedVariables false
set_option linter.unusedSimpArgs false

/-- The bytes so far; what came in stays. -/
structure PR (w W : World) (v : Value) (len : Nat) (bs : List Int) : Prop where
  bel : Below w.heap.size w W
  own : W.ownsRow w.heap.size 5 1 v len (bs.map (Value.int .u8))
theorem PR.drew {w W : World} {v : Value} {len : Nat} {bs : List Int} (h : PR w W v len bs) : PR w W.drew v len bs := ⟨h.bel.drew, h.own.drew⟩
theorem pr_put {w W : World} {v : Value} {len : Nat} {bs : List Int} (h : PR w W v len bs) (y : Int) (k : Nat) (hy : 0 ≤ y) (hy' : y ≤ 18446744073709551615) (hk : k ≤ 8) (hl : len ≤ 100000000) :
    Calls Try.prog 18 #[v, .int .u64 y, .int .i64 k] W fun e w' => ∃ v', e = .returned v' ∧ PR w w' v' (len + k) (bs ++ bytesOf y k) := by
  refine (rput_keep w.heap.size v len bs y k W h.own h.bel.size hy hy' (by omega) (by omega) (by omega)).mono ?_
  rintro e w' ⟨v', rfl, ho, hb, ht⟩
  rw [Int.toNat_natCast] at ho
  exact ⟨v', rfl, h.bel.trans hb, ho⟩

set_option maxHeartbeats 6400000 in
set_option maxRecDepth 20000 in
theorem rrelb_any (a : Option Addr) (n cap : Nat) (l : List Re) (w : World) (r : Rl w a n cap l) (hn : n ≤ 1000000) :
    Calls Try.prog 9 #[.slice a n cap] w fun e w' => ∃ v', e = .returned v' ∧ w'.ownsRow w.heap.size 5 1 v' (24 * n) ((resL l).map (Value.int .u8)) ∧ Below w.heap.size w w' := by
  have hl := r.length
  have hle := r.le
  have hmx := r.max
  have HOK := hide r.ok
  have HR := hide r
  clear r
  go_enter Try.func9, Try.ntmps9
  go_wp2
  go_loopg [3, 4] n (fun gg v i wr => ∃ k : Nat, k ≤ n ∧ gg = n - k ∧ i = .int .i64 (k : Int) ∧ Hid (PR w wr v (24 * k) (resL (l.take k))))
  case atStart => exact ⟨0, by omega, rfl, rfl, ⟨Below.refl _ _, World.ownsRow_nil _ _ _ _⟩⟩
  case round =>
    obtain ⟨k, hk, rfl, rfl, O⟩ := hrel
    by_cases hlt : k < n
    · have hlt' : (k : Int) < (n : Int) := by omega
      obtain ⟨t, ht⟩ : ∃ t, l[k]? = some t := ⟨_, List.getElem?_eq_getElem (by omega)⟩
      have htok := HOK.out t (List.mem_of_getElem? ht)
      obtain ⟨b2, o2, rfl, hc0⟩ := Rl.addr HR.out (by omega)
      have HC : Hid (∀ W, Below w.heap.size w W → ReC W b2 (o2 + k * 4) t) := fun W hW => by
        obtain ⟨b', o', e', hc⟩ := Rl.addr (HR.out.below hW) (by omega)
        cases e'
        exact hc k t ht
      obtain ⟨c0, c1, c2, c3⟩ := HC.out _ O.out.bel
      have m0 := htok.off
      have m1 := htok.ty
      have m2 := htok.sy
      obtain ⟨p, hp⟩ : ∃ p : Nat, adU t.ad = p := ⟨_, rfl⟩
      have p0 : p < 18446744073709551616 := by rw [← hp]; exact adU_lt _
      have x0 : IntKind.u64.wrap (t.ty : Int) = (t.ty : Int) := u64_wrap_id _ (by omega) (by omega)
      have x1 : IntKind.u64.wrap (t.sy : Int) = (t.sy : Int) := u64_wrap_id _ (by omega) (by omega)
      have x2 : IntKind.u64.wrap t.ad = (p : Int) := by rw [IntKind.wrap_u64, ← adU_eq, hp]
      have HT := hide ht
      have HCAT : Hid (∀ bs, bs ++ bytesOf (t.off : Int) 8 ++ bytesOf (t.ty : Int) 4 ++ bytesOf (t.sy : Int) 4 ++ bytesOf (p : Int) 8 = bs ++ reL t) := fun bs => by rw [← hp]; exact reL_cat t bs
      clear hc0 ht htok hp
      obtain ⟨q, hq⟩ : ∃ q, 24 * k = q := ⟨_, rfl⟩
      have hq1 : q + 24 ≤ 24000000 := by omega
      obtain ⟨bs, hbs⟩ : ∃ bs, resL (l.take k) = bs := ⟨_, rfl⟩
      rw [hq, hbs] at O
      have HQ := hide hq
      have HBS := hide hbs
      clear hq hbs
      go_upto_region 6 with (go_at_call 18; refine (pr_put O.out (t.off : Int) 8 (by omega) (by omega) (by decide) (by omega)).mono ?_; rintro e W1 ⟨v1, rfl, h1⟩; have H1 := hide h1; obtain ⟨c0, c1, c2, c3⟩ := HC.out _ h1.bel; clear h1 O)
      have z1 := H1.out.bel.size
      have H1d := hide H1.out.drew
      clear H1
      go_region_held3 (fun w' => w'.cell? ⟨b2, o2 + k * 4 + 1, none⟩ = some (.int .u32 (t.ty : Int)) ∧ w'.cell? ⟨b2, o2 + k * 4 + 2, none⟩ = some (.int .u32 (t.sy : Int)))
        (go_keep)
        ((first
          | (go_at_call 18; first
            | (refine (pr_put H2.out (t.sy : Int) 4 (by omega) (by omega) (by decide) (by omega)).mono ?_; rintro e W3 ⟨v3, rfl, h3⟩; have H3 := hide h3; obtain ⟨c0, c1, c2, c3⟩ := HC.out _ h3.bel; clear h3 H2)
            | (refine (pr_put H1d.out (t.ty : Int) 4 (by omega) (by omega) (by decide) (by omega)).mono ?_; rintro e W2 ⟨v2, rfl, h2⟩; have H2 := hide h2; obtain ⟨c0, c1, c2, c3⟩ := HC.out _ h2.bel; clear h2 H1d))))
      go_split_ands
      have z3 := H3.out.bel.size
      obtain ⟨c0, c1, c2, c3⟩ := HC.out _ H3.out.bel
      go_wp2_with (go_at_call 18; refine (pr_put H3.out (p : Int) 8 (by omega) (by omega) (by decide) (by omega)).mono ?_; rintro e W4 ⟨v4, rfl, h4⟩; have H4 := hide h4; clear h4 H3)
      have N2 : Hid (PR w W4 v4 (24 * (k + 1)) (resL (l.take (k + 1)))) := by
        have h := H4.out
        rw [HCAT.out, ← HBS.out] at h
        rw [resL_take l k t HT.out, show 24 * (k + 1) = q + 8 + 4 + 4 + 8 by have := HQ.out; omega]
        exact h
      clear H4 HBS HQ HT HCAT
      go_roundg (n - (k + 1))
      case measure => omega
      case rel => exact ⟨k + 1, by omega, rfl, by go_num, N2⟩
    · obtain rfl : k = n := by omega
      have hrow := O.out
      rw [List.take_of_length_le (by omega)] at hrow
      have O9 := hide hrow
      clear hrow O
      go_wp2
      go_ret
      exact ⟨_, rfl, O9.out.own, O9.out.bel⟩

end Go.Proofs.Ytkmmffpipopjcaa
