/- Texts of this claim, joined: MemBoth, MadeRow. -/
import Derived.Test.YtgjfelkbblbjfaaGreatDoorJ20
import Derived.Test.YtgjfelkbblbjfaaGreatDoorJ45
import Derived.Test.YtgjfelkbblbjfaaGreatDoorJ21
import Derived.Maps.AppendAt
/- The program's memory and the document's side by side: each call of one leaves the other. -/
namespace Go.Proofs.YtgjfelkbblbjfaaGreatDoor
open Go.RowKit Go.Maps
set_option linter.unusedVariables false
set_option maxRecDepth 100000

/-- An argument's bytes lie in no memory of the call's own. -/
theorem arg_off {w0 : World} {a : Option Addr} {len cap : Nat} {bs : List Int} (r : Rd w0 a len cap bs) {F : Nat → Prop} (h : ∀ k, F k → w0.heap.size ≤ k) : 0 < len → ∀ x, a = some x → ¬ F x.block := by
  intro hl x hx hf
  have h1 := World.block_lt_of_cell? w0 _ (r.cell x hx 0 hl)
  have e : (x.add 0).block = x.block := by unfold Addr.add; split <;> rfl
  rw [e] at h1
  have := h _ hf
  omega

/-- What Map answers. -/
noncomputable def mapE (S : Mm) (a size : Nat) (p : Int) (len : Nat) : Int := if mapB S a size p len = true then 0 else 20

def Bo (w0 w : World) (m m2 : Nat) (S T : Mm) : Prop := Pair w0 w (fun w F => PM w m S F) (fun w F => RM w m2 T F)

section
variable {w0 w w' : World} {m m2 : Nat} {S T : Mm}

theorem Bo.bel (h : Bo w0 w m m2 S T) : Below w0.heap.size w0 w := Pair.bel h
theorem Bo.below (h : Bo w0 w m m2 S T) (hb : Below w.heap.size w w') : Bo w0 w' m m2 S T := Pair.below h (pm_lasts m S) (rm_lasts m2 T) hb

theorem bo_new (h : Own w0 w m S) :
    Calls Tryz.prog 9 #[] w fun e w' => ∃ m2, e = .returned (.pointer (some ⟨m2, 0, none⟩)) ∧ Bo w0 w' m m2 S Mm.new := by
  obtain ⟨F, h1, h2⟩ := h.ex
  refine (rnew_any w).mono ?_
  rintro e w' ⟨m2, G, h3, h4, h5, h6⟩
  exact ⟨m2, h3, F, G, h1.below h6, h4, h2, fun k hk => Nat.le_trans h.bel.size (h5 k hk), fun k hf hg => by have := h1.flt k hf; have := h5 k hg; omega, h.bel.trans (h6.mono h.bel.size)⟩

theorem bo_map (h : Bo w0 w m m2 S T) (a0 size : Nat) (p : Int) {a : Option Addr} {len cap : Nat} {bs : List Int} (r : Rd w0 a len cap bs) (ha : a0 ≤ 18446744073709551615) (hs : size ≤ 18446744073709551615) (hp0 : -9223372036854775808 ≤ p) (hp1 : p ≤ 9223372036854775807) :
    Calls Tryz.prog 11 #[.pointer (some ⟨m, 0, none⟩), .int .u64 (a0 : Int), .int .u64 (size : Int), .int .i64 p, .slice a len cap] w fun e w' =>
      e = .returned (.int .i64 (mapE S a0 size p len)) ∧ Bo w0 w' m m2 (mappedTo S a0 size p bs) T :=
  have hb := h.bel
  Pair.left (C := fun _ => True) h (rm_lasts m2 T) _ _ (fun e => e = .returned (.int .i64 (mapE S a0 size p len))) (fun F h1 h2 => map_any m S F a0 size p a len cap bs w h1 ha hs hp0 hp1 (r.below hb) (arg_off r h2))

theorem bo_rmap (h : Bo w0 w m m2 S T) (a0 size : Nat) (p : Int) {a : Option Addr} {len cap : Nat} {bs : List Int} (r : Rd w0 a len cap bs) (ha : a0 ≤ 18446744073709551615) (hs : size ≤ 18446744073709551615) (hp0 : -9223372036854775808 ≤ p) (hp1 : p ≤ 9223372036854775807) :
    Calls Tryz.prog 12 #[.pointer (some ⟨m2, 0, none⟩), .int .u64 (a0 : Int), .int .u64 (size : Int), .int .i64 p, .slice a len cap] w fun e w' =>
      e = .returned (.int .i64 (mapE T a0 size p len)) ∧ Bo w0 w' m m2 S (mappedTo T a0 size p bs) := by
  have hb := h.bel
  refine (Pair.left (C := fun _ => True) (P' := fun w F => RM w m2 (mappedTo T a0 size p bs) F) (Pair.symm h) (pm_lasts m S) _ _ (fun e => e = .returned (.int .i64 (mapE T a0 size p len))) (fun F h1 h2 => rmap_any m2 T F a0 size p a len cap bs w h1 ha hs hp0 hp1 (r.below hb) (arg_off r h2))).mono ?_
  rintro e w' ⟨h1, h2⟩
  exact ⟨h1, Pair.symm h2⟩

theorem bo_load (h : Bo w0 w m m2 S T) (a : Nat) (n : Int) (ha : a ≤ 18446744073709551615) (hn0 : -9223372036854775808 ≤ n) (hn1 : n ≤ 9223372036854775807) :
    Calls Tryz.prog 112 #[.pointer (some ⟨m, 0, none⟩), .int .u64 (a : Int), .int .i64 n] w fun e w' =>
      e = .returned (.tuple #[.int .u64 (loadV S a n), .bool (numOk S a n 4)]) ∧ Bo w0 w' m m2 S T :=
  Pair.ask h (pm_lasts m S) (rm_lasts m2 T) _ _ (fun e _ => e = .returned (.tuple #[.int .u64 (loadV S a n), .bool (numOk S a n 4)])) (fun F h1 => load_any m S F a n w h1 ha hn0 hn1)
theorem bo_rload (h : Bo w0 w m m2 S T) (a : Nat) (n : Int) (ha : a ≤ 18446744073709551615) (hn0 : -9223372036854775808 ≤ n) (hn1 : n ≤ 9223372036854775807) :
    Calls Tryz.prog 64 #[.pointer (some ⟨m2, 0, none⟩), .int .u64 (a : Int), .int .i64 n] w fun e w' =>
      e = .returned (.tuple #[.int .u64 (loadV T a n), .bool (numOk T a n 4)]) ∧ w' = w := by
  obtain ⟨F, G, h1, h2, _⟩ := h
  exact rload_any m2 T G a n w h2 ha hn0 hn1

theorem bo_fetch (h : Bo w0 w m m2 S T) (a : Nat) (ha : a ≤ 18446744073709551615) :
    Calls Tryz.prog 76 #[.pointer (some ⟨m, 0, none⟩), .int .u64 (a : Int)] w fun e w' =>
      e = .returned (.tuple #[.int .u32 (fetchV S a), .bool (mayB S a 4 1)]) ∧ Bo w0 w' m m2 S T :=
  Pair.ask h (pm_lasts m S) (rm_lasts m2 T) _ _ (fun e _ => e = .returned (.tuple #[.int .u32 (fetchV S a), .bool (mayB S a 4 1)])) (fun F h1 => fetch_any m S F a w h1 ha)
theorem bo_rfetch (h : Bo w0 w m m2 S T) (a : Nat) (ha : a ≤ 18446744073709551615) :
    Calls Tryz.prog 59 #[.pointer (some ⟨m2, 0, none⟩), .int .u64 (a : Int)] w fun e w' =>
      e = .returned (.tuple #[.int .u32 (fetchV T a), .bool (mayB T a 4 1)]) ∧ w' = w := by
  obtain ⟨F, G, h1, h2, _⟩ := h
  exact rfetch_any m2 T G a w h2 ha

theorem bo_store (h : Bo w0 w m m2 S T) (a : Nat) (n v : Int) (ha : a ≤ 18446744073709551615) (hn0 : -9223372036854775808 ≤ n) (hn1 : n ≤ 9223372036854775807) (hv0 : 0 ≤ v) (hv1 : v ≤ 18446744073709551615) :
    Calls Tryz.prog 113 #[.pointer (some ⟨m, 0, none⟩), .int .u64 (a : Int), .int .i64 n, .int .u64 v] w fun e w' =>
      e = .returned (.bool (numOk S a n 2)) ∧ Bo w0 w' m m2 (stored S a n v) T :=
  Pair.left (C := fun _ => True) h (rm_lasts m2 T) _ _ (fun e => e = .returned (.bool (numOk S a n 2))) (fun F h1 h2 => store_any m S F a n v w h1 ha hn0 hn1 hv0 hv1)
theorem bo_rstore (h : Bo w0 w m m2 S T) (a : Nat) (n v : Int) (ha : a ≤ 18446744073709551615) (hn0 : -9223372036854775808 ≤ n) (hn1 : n ≤ 9223372036854775807) (hv0 : 0 ≤ v) (hv1 : v ≤ 18446744073709551615) :
    Calls Tryz.prog 66 #[.pointer (some ⟨m2, 0, none⟩), .int .u64 (a : Int), .int .i64 n, .int .u64 v] w fun e w' =>
      e = .returned (.bool (numOk T a n 2)) ∧ Bo w0 w' m m2 S (stored T a n v) := by
  refine (Pair.left (C := fun _ => True) (P' := fun w F => RM w m2 (stored T a n v) F) (Pair.symm h) (pm_lasts m S) _ _ (fun e => e = .returned (.bool (numOk T a n 2))) (fun F h1 h2 => (rstore_any m2 T F a n v w h1 ha hn0 hn1 hv0 hv1).mono fun e w' ⟨h3, h4, h5⟩ => ⟨h3, F, h4, h5, fun k hk => Or.inl hk⟩)).mono ?_
  rintro e w' ⟨h1, h2⟩
  exact ⟨h1, Pair.symm h2⟩

theorem bo_write (h : Bo w0 w m m2 S T) (a0 : Nat) {a : Option Addr} {len cap : Nat} {bs : List Int} (r : Rd w0 a len cap bs) (ha : a0 ≤ 18446744073709551615) :
    Calls Tryz.prog 127 #[.pointer (some ⟨m, 0, none⟩), .int .u64 (a0 : Int), .slice a len cap] w fun e w' =>
      e = .returned (.bool (manyOk S a0 len 2)) ∧ Bo w0 w' m m2 (if manyOk S a0 len 2 = true then S.lay a0 bs else S) T :=
  have hb := h.bel
  Pair.left (C := fun _ => True) h (rm_lasts m2 T) _ _ (fun e => e = .returned (.bool (manyOk S a0 len 2))) (fun F h1 h2 => write_any m S F a0 a len cap bs w h1 ha (r.below hb) (arg_off r h2))
theorem bo_rwrite (h : Bo w0 w m m2 S T) (a0 : Nat) {a : Option Addr} {len cap : Nat} {bs : List Int} (r : Rd w0 a len cap bs) (ha : a0 ≤ 18446744073709551615) :
    Calls Tryz.prog 94 #[.pointer (some ⟨m2, 0, none⟩), .int .u64 (a0 : Int), .slice a len cap] w fun e w' =>
      e = .returned (.bool (manyOk T a0 len 2)) ∧ Bo w0 w' m m2 S (if manyOk T a0 len 2 = true then T.lay a0 bs else T) := by
  have hb := h.bel
  refine (Pair.left (C := fun _ => True) (P' := fun w F => RM w m2 (if manyOk T a0 len 2 = true then T.lay a0 bs else T) F) (Pair.symm h) (pm_lasts m S) _ _ (fun e => e = .returned (.bool (manyOk T a0 len 2))) (fun F h1 h2 => (rwrite_any m2 T F a0 a len cap bs w h1 ha (r.below hb) (arg_off r h2)).mono fun e w' ⟨h3, h4, h5⟩ => ⟨h3, F, h4, h5, fun k hk => Or.inl hk⟩)).mono ?_
  rintro e w' ⟨h1, h2⟩
  exact ⟨h1, Pair.symm h2⟩

theorem read_rd' (m : Nat) (S : Mm) (F : Nat → Prop) (a n : Nat) (w : World) (h : PM w m S F) (ha : a ≤ 18446744073709551615) (hn : n ≤ 18446744073709551615) :
    Calls Tryz.prog 20 #[.pointer (some ⟨m, 0, none⟩), .int .u64 (a : Int), .int .u64 (n : Int)] w fun e w' =>
      (∃ b l c, e = .returned (.tuple #[.slice b l c, .bool (manyOk S a n 4)]) ∧ Rd w' b l c (if manyOk S a n 4 = true then S.read a n else [])) ∧ Below w.heap.size w w' := by
  refine (read_any m S F a n w h ha hn).mono ?_
  rintro e w' ⟨h3, h4, h5⟩
  refine ⟨?_, h5⟩
  cases hm : manyOk S a n 4 with
  | false => exact ⟨none, 0, 0, h3 hm, Rd.nothing w'⟩
  | true =>
    obtain ⟨O, h6, h7, h8⟩ := h4 hm
    have hn6 : n ≤ 65536 := by
      unfold manyOk at hm
      simp at hm
      exact hm.1
    refine ⟨_, n, n, h6, ?_, Nat.le_refl _, by omega, ?_, (fun h => by cases h), fun x hx i hi => ?_⟩
    · simp [Mm.read_length]
    · simpa using Mm.read_bytes h.good a n
    · cases hx
      rw [addr_add, Nat.zero_add, cell_of_row _ _ _ _ _ _ h8]
      simp [Mm.read_at S a n i hi]

theorem bo_read (h : Bo w0 w m m2 S T) (a n : Nat) (ha : a ≤ 18446744073709551615) (hn : n ≤ 18446744073709551615) :
    Calls Tryz.prog 20 #[.pointer (some ⟨m, 0, none⟩), .int .u64 (a : Int), .int .u64 (n : Int)] w fun e w' =>
      (∃ b l c, e = .returned (.tuple #[.slice b l c, .bool (manyOk S a n 4)]) ∧ Rd w' b l c (if manyOk S a n 4 = true then S.read a n else [])) ∧ Bo w0 w' m m2 S T :=
  Pair.ask h (pm_lasts m S) (rm_lasts m2 T) _ _ (fun e w' => ∃ b l c, e = .returned (.tuple #[.slice b l c, .bool (manyOk S a n 4)]) ∧ Rd w' b l c (if manyOk S a n 4 = true then S.read a n else [])) (fun F h1 => read_rd' m S F a n w h1 ha hn)
theorem bo_rread (h : Bo w0 w m m2 S T) (a n : Nat) (ha : a ≤ 18446744073709551615) (hn : n ≤ 18446744073709551615) :
    Calls Tryz.prog 21 #[.pointer (some ⟨m2, 0, none⟩), .int .u64 (a : Int), .int .u64 (n : Int)] w fun e w' =>
      (∃ b l c, e = .returned (.tuple #[.slice b l c, .bool (manyOk T a n 4)]) ∧ Rd w' b l c (if manyOk T a n 4 = true then T.read a n else [])) ∧ Below w.heap.size w w' ∧ Bo w0 w' m m2 S T := by
  obtain ⟨F, G, h1, h2, h3⟩ := h
  refine (rread_any m2 T G a n w h2 ha hn).mono ?_
  rintro e w' ⟨h4, h5⟩
  exact ⟨h4, h5, Bo.below ⟨F, G, h1, h2, h3⟩ h5⟩



end

end Go.Proofs.YtgjfelkbblbjfaaGreatDoor

/- Words that are read beside other things; the registers that MachMade sets. -/
namespace Go.Proofs.YtgjfelkbblbjfaaGreatDoor
open Go.RowKit Go.Maps
set_option linter.unusedVariables false
set_option maxRecDepth 100000

/-- Words that are read. -/
def RnT (a : Option Addr) (len cap : Nat) (ns : List Int) (w : World) (F : Nat → Prop) : Prop := Rn .u32 4294967295 w a len cap ns ∧ (0 < len → ∀ x, a = some x → F x.block) ∧ ∀ k, F k → k < w.heap.size

theorem Kept.rn {F : Nat → Prop} {w w' : World} (h : Kept F w w') {a : Option Addr} {len cap : Nat} {ns : List Int} (r : Rn .u32 4294967295 w a len cap ns) (hs : 0 < len → ∀ x, a = some x → ¬ F x.block) : Rn .u32 4294967295 w' a len cap ns :=
  ⟨r.length, r.le, r.max, r.fit, r.top0, r.nil, fun x hx i hi => by
    have h1 := r.cell x hx i hi
    refine h.cell h1 ?_
    have e : (x.add i).block = x.block := by unfold Addr.add; split <;> rfl
    rw [e]; exact hs (by omega) x hx⟩

theorem rn_stays (B : Nat) (a : Option Addr) (len cap : Nat) (ns : List Int) : Stays B (RnT a len cap ns) :=
  ⟨fun ⟨h1, h2, h3⟩ hk hd hG => ⟨hk.rn h1 (fun hl x hx => hd _ (h2 hl x hx)), h2, fun k hF => Nat.lt_of_lt_of_le (h3 k hF) hk.size⟩, fun ⟨h1, h2, h3⟩ => h3⟩

theorem Has.rn {w0 w : World} {l : List (World → (Nat → Prop) → Prop)} {a : Option Addr} {len cap : Nat} {ns : List Int} (h : Has w0 w (RnT a len cap ns :: l)) : Rn .u32 4294967295 w a len cap ns := by
  obtain ⟨F, h1⟩ := h.top
  exact h1.1

theorem WS.has {w wr : World} {v9 : Value} {ns : List Int} (h : WS w wr v9 ns) : ∃ a cap, v9 = .slice a ns.length cap ∧ Has w wr [RnT a ns.length cap ns] := by
  obtain ⟨a, cap, hv, hr⟩ := Rn.own (top := 4294967295) h.row h.fit (by decide)
  refine ⟨a, cap, hv, ?_⟩
  refine (Has.start (Below.refl _ w)).more h.bel (P := RnT a ns.length cap ns) (F := fun k => v9.ownBlock = some k) ⟨hr, fun hl x hx => ?_, fun k hk => ownsRow_blk h.row k hk⟩ (fun k hk => (h.row.lt k hk).1) (rn_stays _ _ _ _ _)
  subst hx
  rw [hv]
  rfl

/-- What a register is set to. -/
def vf (r : Int) : Int := if r % 3 = 0 then r else 131072 + r % 200
def xsV (rs : List Int) : Nat → Nat → Int
  | 0 => fun _ => 0
  | j + 1 => xset (xsV rs j) (j + 1) (vf (rs.getD j 0))
noncomputable def mdM (ws ds is rs : List Int) (j : Nat) : Mc := { madeM ws ds is with x := xsV rs j }

end Go.Proofs.YtgjfelkbblbjfaaGreatDoor
