/- The contract of the document's ecall: what x10 becomes, what is read, written, noted. -/
import Derived.Test.YtgjfelkbblbjfaaGreatDoorJ33
import Derived.Deep.RegionLaw
import Derived.Deep.QuietTactic
import Derived.BigQuiet
namespace Go.Proofs.YtgjfelkbblbjfaaGreatDoor
open Go.RowKit Go.Maps
set_option linter.unusedVariables false
set_option maxRecDepth 100000

set_option maxHeartbeats 1600000 in
theorem rread_new (m : Nat) (S : Mm) (F : Nat → Prop) (a n : Nat) (w : World) (h : RM w m S F) (ha : a ≤ 18446744073709551615) (hle : n ≤ 65536) (hm : Mayp S a n 4) :
    Calls Tryz.prog 21 #[.pointer (some ⟨m, 0, none⟩), .int .u64 (a : Int), .int .u64 (n : Int)] w fun e w' =>
      ∃ b c, e = .returned (.tuple #[.slice b n c, .bool true]) ∧ Rd w' b n c (S.read a n) ∧ (∀ x, b = some x → w.heap.size ≤ x.block) ∧ Below w.heap.size w w' := by
  have HMay := hide (rmay_any m S F a n 4 w h ha (by omega) and_4)
  have hle' : decide ((65536 : Int) < (n : Int)) = false := by simp; omega
  rw [mayB_yes hm] at HMay
  have HM := hide hm
  have HP := hide h
  have HBd := hide (show 0 < n → a + n ≤ 140737488355328 from fun h9 => hm.bd h.good and_4 (by omega))
  have HGd := hide h.good
  obtain ⟨i0, hi, hz0, hz1, hz2⟩ := info_parts Tryz.info8
  clear h hm
  go_enter Tryz.func21, Tryz.ntmps21
  go_wp2_with fail
  refine HMay.out.mono ?_
  rintro e w' ⟨rfl, rfl⟩
  clear HMay
  go_wp2
  go_loopw [8, 9] (fun v i wr => ∃ (k : Nat) (v0 : Value), k ≤ n ∧ v0 = v ∧ i = .int .u64 (k : Int) ∧ Hid (wr.ownsRow w'.heap.size 5 1 v0 k ((S.read a k).map (Value.int .u8))) ∧ Hid (Below w'.heap.size w' wr)) (fun _ i _ => n - (intOf i).toNat)
  case atStart => exact ⟨0, _, by omega, rfl, rfl, World.ownsRow_nil _ _ _ _, Below.refl _ _⟩
  case round =>
    obtain ⟨k, v0, hk, rfl, rfl, HO, HB⟩ := hrel
    by_cases hlt : k < n
    · have hbd := HBd.out (by omega)
      have hsz : w'.heap.size ≤ wr.heap.size := HB.out.size
      have HLT := hide HO.out.lt
      obtain ⟨A, hA⟩ : ∃ A : Nat, A = a + k := ⟨_, rfl⟩
      have hA' : (a : Int) + (k : Int) = (A : Int) := by omega
      have hbb := HGd.out.byte A
      have HGt := hide (mrget_any m S F A wr (HP.out.below HB.out) (by omega) (HM.out.mapped and_4 (i := A / 4096) (by omega) (by omega) (by omega)))
      have HS : Hid (S.read a (k + 1) = S.read a k ++ [S.byte A]) := by show _ = _; rw [Mm.read_succ, hA]
      clear hA
      generalize S.byte A = y at *
      go_wp2_with fail
      refine HGt.out.mono ?_
      rintro e wr ⟨rfl, rfl⟩
      clear HGt
      go_wp2_with (at_builtin; refine wpList_append_own _ rfl _ _ 24 rfl w'.heap.size 5 i0 (.int .u8 0) 1 1 Tryz.underlying24 hi hz0 hz1 hz2 rfl (by decide) _ _ _ rfl (HO.out.alloc _) ⟨wr.heap.size, 0, none⟩ 1 1 [.int .u8 y] rfl rfl ?d1 ?d2 ?d3 ?d4 ?d5 ?_)
      case d1 =>
        intro j u hj
        match j, hj with
        | 0, hj => simp at hj; subst hj; simp [Addr.add]
      case d2 => intro u hu; simp at hu; subst hu; rfl
      case d3 => unfold maxLen; omega
      case d4 => omega
      case d5 => simp; omega
      · intro v' w1 hown' hgrow _
        have R : Hid (w1.ownsRow w'.heap.size 5 1 v' (k + 1) ((S.read a (k + 1)).map (Value.int .u8))) := by
          rw [HS.out]; simpa using hide hown'
        have B1 : Hid (Below w'.heap.size w' w1) := hide ((HB.out.alloc hsz _).grown hgrow (by simp; omega) (fun j hj => (HLT.out j hj).1))
        clear hown' hgrow HO HB HLT HS
        go_wp2
        go_roundw
        case rel => exact ⟨k + 1, v', by omega, rfl, by go_num, R.out, B1.out⟩
        case measure => simp [intOf]; omega
    · obtain rfl : k = n := by omega
      have hr := Rd.own HO.out (Mm.read_bytes HGd.out a k)
      obtain ⟨b, c, rfl, hr⟩ := hr
      have HR := hide hr
      have HN : Hid (∀ x, b = some x → w'.heap.size ≤ x.block) := hide (fun x hx => by subst hx; exact (HO.out.lt x.block rfl).1)
      clear hr HO
      go_wp2
      go_ret2
      exact ⟨b, c, rfl, HR.out, HN.out, HB.out⟩

section
variable {w0 w w' : World} {m mm me : Nat} {M : Mc} {l : List (World → (Nat → Prop) → Prop)}

/-- The machine's environment, with the machine's own block beside it. -/
theorem RH.env (h : RH w0 w m mm me M l) : ∃ F G, EV w0.heap.size 48 me M.ins M.tr w F ∧ RD m mm me M.x M.pc M.kind M.code M.trap w G ∧ (∀ k, F k → ¬ G k) ∧ (∀ k, F k → w0.heap.size ≤ k) ∧
    ∀ (w' : World) (ins : List Int) (tr : List Says) (F' : Nat → Prop), EV w0.heap.size 48 me ins tr w' F' → Went F w F' w' → RH w0 w' m mm me ⟨M.mem, ins, tr, M.x, M.pc, M.kind, M.code, M.trap⟩ l := by
  obtain ⟨F, G, h1, h2, h3, h4, h5⟩ := (Has.back h).open2
  exact ⟨F, G, h1, h2, h3, h4, fun w' ins tr F' g1 g2 => (h5 w' _ F' g1 g2 (ev_stays _ _ _ _ _)).rot⟩
theorem rh_take (h : RH w0 w m mm me M l) (n : Int) (hl : M.ins.length ≤ 140737488355328) :
    Calls Tryz.prog 93 #[.pointer (some ⟨me, 0, none⟩), .int .i64 n] w fun e w' => ∃ a' c', e = .returned (.slice a' (M.ins.take n.toNat).length c') ∧ RH w0 w' m mm me { M with ins := M.ins.drop n.toNat } (RdT a' (M.ins.take n.toNat).length c' (M.ins.take n.toNat) :: l) := by
  refine (has_rtake (Has.back h) n hl).mono ?_
  rintro e w' ⟨a', c', h1, h2⟩
  exact ⟨a', c', h1, h2.rot.rot.perm (List.Perm.cons _ p_back)⟩
theorem rh_write {a' : Option Addr} {len c' : Nat} {bs : List Int} (h : RH w0 w m mm me M (RdT a' len c' bs :: l)) (a0 : Nat) (ha : a0 ≤ 18446744073709551615) (hk : manyOk M.mem a0 len 2 = true) :
    Calls Tryz.prog 94 #[.pointer (some ⟨mm, 0, none⟩), .int .u64 (a0 : Int), .slice a' len c'] w fun e w' => e = .returned (.bool true) ∧ RH w0 w' m mm me { M with mem := M.mem.lay a0 bs } (RdT a' len c' bs :: l) := by
  have h1 := (Has.swap h).perm (List.Perm.cons _ p_back)
  obtain ⟨F, G, g1, g2, g3, g4, g5⟩ := h1.open2
  refine (rwrite_any mm M.mem F a0 a' len c' bs w g1 ha g2.1 (fun hl x hx hf => g3 _ hf (g2.2.1 hl x hx))).mono ?_
  rintro e w' ⟨k1, k2, k3⟩
  rw [hk] at k1 k2
  rw [if_pos rfl] at k2
  have k4 := g5 w' (RMt mm (M.mem.lay a0 bs)) F k2 ⟨k3, fun j hj => Or.inl hj⟩ (rmt_stays _ _ _)
  exact ⟨k1, (k4.perm (List.Perm.cons _ p_rot)).swap⟩

end

end Go.Proofs.YtgjfelkbblbjfaaGreatDoor
