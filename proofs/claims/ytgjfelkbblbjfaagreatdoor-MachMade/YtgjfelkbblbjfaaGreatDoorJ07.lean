/- Texts of this claim, joined: InstDecs, MachPlain, MachMap, MachHead, AluMath. -/
import Derived.Test.YtgjfelkbblbjfaaGreatDoorInstDec
import Derived.Test.YtgjfelkbblbjfaaGreatDoorJ00
import Derived.Test.YtgjfelkbblbjfaaGreatDoorJ03
/- The contract of package inst's Decode, of a word that is an instruction. -/
namespace Go.Proofs.YtgjfelkbblbjfaaGreatDoor
open Go.RowKit Go.Maps
set_option linter.unusedVariables false
set_option maxRecDepth 100000
set_option linter.unusedSimpArgs false

theorem shb_form {x : Int} (h : shb x ≠ 0) : fmc (cd x) = 1 := by
  unfold shb at h
  split at h
  · exact absurd rfl h
  · split at h
    · rename_i h2; rw [h2]; decide
    · split at h
      · rename_i h2; rw [h2]; decide
      · exact absurd rfl h
theorem fmo_of {o : Nat} (ho : 1 ≤ o) (ho' : o < 66) : fmo o = fmc (cd (wd o)) := by
  unfold fmo knw
  rw [if_pos (by simp; omega)]; rfl

theorem dec_some (x : Int) (o : Nat) (w : World) (h0 : 0 ≤ x) (h1 : x ≤ 4294967295) (ho : 1 ≤ o) (ho' : o < 66) (hM : Mt o x) (hL : Laid w) :
    Calls Tryz.prog 77 #[.int .u32 x] w fun e w' => e = .returned (.tuple #[inst o (rdO (fmo o) x) (r1O (fmo o) x) (r2O (fmo o) x) (imO (fmo o) x), .bool true]) ∧ Below w.heap.size w w' := by
  have hoo : decide (o ≠ 0) = true := by simp; omega
  have HO := fun w hL => op_any x o w h0 h1 (Or.inr ⟨ho, ho', hM⟩) hL
  rw [hoo] at HO
  have HF := fun w hL => form_any o w hL
  have HS := fun w => slots_any (fmo o) w
  have HG := fun w => get_any (fmo o) x w h0 h1
  have HT := fun w => shift_any x w h0 h1
  have HI := fun n w hn => ifield_any x 20 n w h0 h1 (by decide) hn
  have HR0 := fun w => reg_any x 7 w h0 h1 (by decide)
  have HR1 := fun w => reg_any x 15 w h0 h1 (by decide)
  have HR2 := fun w => reg_any x 20 w h0 h1 (by decide)
  have hf : shb x ≠ 0 → fmo o = 1 := fun h => by rw [fmo_of ho ho', hM.1]; exact shb_form h
  have b6 : 0 ≤ x / 2 ^ 20 % 2 ^ 6 ∧ x / 2 ^ 20 % 2 ^ 6 ≤ 63 := by simp; omega
  have b5 : 0 ≤ x / 2 ^ 20 % 2 ^ 5 ∧ x / 2 ^ 20 % 2 ^ 5 ≤ 63 := by simp; omega
  unfold rdO r1O r2O imO
  rcases shb_cases x with hs | hs | hs
  · rw [hs] at HT
    simp only [hs, show ¬ ((0 : Int) = 6) by decide, show ¬ ((0 : Int) = 5) by decide, if_false]
    rcases has_cases (fmo o) with ⟨e0, e1, e2⟩ | ⟨e0, e1, e2⟩ | ⟨e0, e1, e2⟩ | ⟨e0, e1, e2⟩ | ⟨e0, e1, e2⟩
    · rw [e0, e1, e2] at HS
      simp only [e0, e1, e2, if_true, Bool.false_eq_true, if_false]
      exact dec_0_0 x _ _ 0 _ _ _ o w h0 h1 ho ho' (by decide) HO hL HF HS HG HT HR0 HR1 HR2
    · rw [e0, e1, e2] at HS
      simp only [e0, e1, e2, if_true, Bool.false_eq_true, if_false]
      exact dec_0_1 x _ _ 0 _ _ 0 o w h0 h1 ho ho' (by decide) HO hL HF HS HG HT HR0 HR1
    · rw [e0, e1, e2] at HS
      simp only [e0, e1, e2, if_true, Bool.false_eq_true, if_false]
      exact dec_0_2 x _ _ 0 0 _ _ o w h0 h1 ho ho' (by decide) HO hL HF HS HG HT HR1 HR2
    · rw [e0, e1, e2] at HS
      simp only [e0, e1, e2, if_true, Bool.false_eq_true, if_false]
      exact dec_0_3 x _ _ 0 _ 0 0 o w h0 h1 ho ho' (by decide) HO hL HF HS HG HT HR0
    · rw [e0, e1, e2] at HS
      simp only [e0, e1, e2, if_true, Bool.false_eq_true, if_false]
      exact dec_0_4 x _ _ 0 0 0 0 o w h0 h1 ho ho' (by decide) HO hL HF HS HG HT
  · have h5 := hf (by rw [hs]; decide)
    rw [hs] at HT
    simp only [hs, show ¬ ((5 : Int) = 6) by decide, if_false, if_true]
    rw [h5] at HF HS HG ⊢
    rw [show hasD 1 = true by decide, show has1 1 = true by decide, show has2 1 = false by decide] at HS
    simp only [show hasD 1 = true by decide, show has1 1 = true by decide, show has2 1 = false by decide, if_true, Bool.false_eq_true, if_false]
    exact dec_5_1 x _ _ _ _ _ 0 o w h0 h1 ho ho' b5 HO hL HF HS HG HT (fun w => HI 5 w (by decide)) HR0 HR1
  · have h5 := hf (by rw [hs]; decide)
    rw [hs] at HT
    simp only [hs, if_true]
    rw [h5] at HF HS HG ⊢
    rw [show hasD 1 = true by decide, show has1 1 = true by decide, show has2 1 = false by decide] at HS
    simp only [show hasD 1 = true by decide, show has1 1 = true by decide, show has2 1 = false by decide, if_true, Bool.false_eq_true, if_false]
    exact dec_6_1 x _ _ _ _ _ 0 o w h0 h1 ho ho' b6 HO hL HF HS HG HT (fun w => HI 6 w (by decide)) HR0 HR1

end Go.Proofs.YtgjfelkbblbjfaaGreatDoor

/- The machine as the document has it, in numbers: what each operation makes of two numbers, what a step makes of registers, place, status, memory, input, events. Nothing is walked here. -/
namespace Go.Proofs.YtgjfelkbblbjfaaGreatDoor
open Go.RowKit Go.Maps
set_option linter.unusedVariables false
set_option maxRecDepth 100000

/-- A machine. -/
structure Mc where
  mem : Mm
  ins : List Int
  tr : List Says
  x : Nat → Int
  pc : Nat
  kind : Int
  code : Int
  trap : Int

/-- Its registers, place, status alone are numbers that fit. -/
structure Fits (x : Nat → Int) (pc : Nat) (k c t : Int) : Prop where
  reg : ∀ i, 0 ≤ x i ∧ x i ≤ 18446744073709551615
  zero : x 0 = 0
  top : ∀ i, 32 ≤ i → x i = 0
  place : pc ≤ 18446744073709551615
  kind : -9223372036854775808 ≤ k ∧ k ≤ 9223372036854775807
  code : -9223372036854775808 ≤ c ∧ c ≤ 9223372036854775807
  trap : -9223372036854775808 ≤ t ∧ t ≤ 9223372036854775807

def xset (x : Nat → Int) (rd v : Int) (i : Nat) : Int := if (i : Int) = rd ∧ 1 ≤ i ∧ i ≤ 31 then v else x i

def Mc.put (M : Mc) (rd v : Int) : Mc := { M with x := xset M.x rd v, pc := (u64 (M.pc + 4)).toNat }
def Mc.next (M : Mc) : Mc := { M with pc := (u64 (M.pc + 4)).toNat }
def Mc.trapped (M : Mc) (k : Int) : Mc := { M with kind := 2, code := 0, trap := k }
def Mc.jump (M : Mc) (rd p : Int) : Mc := if p % 4 = 0 then { M with x := xset M.x rd (u64 (M.pc + 4)), pc := p.toNat } else M.trapped 5

/-- Whether a branch is taken. -/
def takenF (o : Nat) (a b : Int) : Bool :=
  match o with
  | 5 => decide (a = b)
  | 6 => decide (a ≠ b)
  | 7 => decide (s64 a < s64 b)
  | 8 => decide (s64 b ≤ s64 a)
  | 9 => decide (a < b)
  | _ => decide (b ≤ a)

/-- How many bytes a load, a store is of. -/
def widthF (o : Nat) : Int :=
  match o with
  | 11 => 1 | 15 => 1 | 18 => 1
  | 12 => 2 | 16 => 2 | 19 => 2
  | 13 => 4 | 17 => 4 | 20 => 4
  | _ => 8

/-- What a load makes of the number. -/
def loadS (o : Nat) (v : Int) : Int :=
  match o with
  | 11 => u64 ((v + 128) % 256 - 128)
  | 12 => u64 ((v + 32768) % 65536 - 32768)
  | 13 => u64 ((v + 2147483648) % 4294967296 - 2147483648)
  | _ => v

/-- What a call of the service does. -/
noncomputable def Mc.call (M : Mc) : Mc :=
  if M.x 17 = 93 then { M with kind := 1, code := s64 (M.x 10), trap := 0 }
  else if M.x 17 = 64 then
    if 65536 < M.x 12 then M.put 10 18446744073709551594
    else if mayB M.mem (M.x 11).toNat (M.x 12).toNat 4 = true then
      { M.put 10 (M.x 12) with tr := M.tr ++ [⟨0, s64 (M.x 10), M.mem.read (M.x 11).toNat (M.x 12).toNat, 0⟩] }
    else M.put 10 18446744073709551602
  else if M.x 17 = 63 then
    if 65536 < M.x 12 then M.put 10 18446744073709551594
    else if mayB M.mem (M.x 11).toNat (M.x 12).toNat 2 = true then
      { M.put 10 (M.ins.take (M.x 12).toNat).length with
          mem := M.mem.lay (M.x 11).toNat (M.ins.take (M.x 12).toNat)
          ins := M.ins.drop (M.x 12).toNat
          tr := M.tr ++ [⟨1, s64 (M.x 10), [], (M.ins.take (M.x 12).toNat).length⟩] }
    else M.put 10 18446744073709551602
  else M.put 10 18446744073709551578

/-- What an instruction does. -/
noncomputable def Mc.doF (M : Mc) (o : Nat) (rd r1 r2 im : Int) : Mc :=
  if o = 1 then M.put rd (u64 (im * 4096))
  else if o = 2 then M.put rd (u64 (M.pc + im * 4096))
  else if o = 3 then M.jump rd (u64 (M.pc + im))
  else if o = 4 then M.jump rd (u64 (M.x r1.toNat + im) / 2 * 2)
  else if o ≤ 10 then if takenF o (M.x r1.toNat) (M.x r2.toNat) = true then M.jump 0 (u64 (M.pc + im)) else M.next
  else if o ≤ 17 then
    if numOk M.mem (u64 (M.x r1.toNat + im)).toNat (widthF o) 4 = true then M.put rd (loadS o (loadV M.mem (u64 (M.x r1.toNat + im)).toNat (widthF o)))
    else M.trapped 3
  else if o ≤ 21 then
    if numOk M.mem (u64 (M.x r1.toNat + im)).toNat (widthF o) 2 = true then { M.next with mem := stored M.mem (u64 (M.x r1.toNat + im)).toNat (widthF o) (M.x r2.toNat) }
    else M.trapped 4
  else if o ≤ 62 then M.put rd (aluF o (M.x r1.toNat) (if fmo o = 1 then u64 im else M.x r2.toNat))
  else if o = 63 then M.next
  else if o = 64 then M.call
  else M.trapped 6

/-- The operation of a word (0: it is none). -/
noncomputable def opOf (v : Int) : Nat := Classical.choose (isOp_ex v)
theorem opOf_is (v : Int) : IsOp v (opOf v) := Classical.choose_spec (isOp_ex v)

/-- A step. -/
noncomputable def Mc.step (M : Mc) : Mc :=
  if M.kind = 0 then
    if M.pc % 4 = 0 then
      if mayB M.mem M.pc 4 1 = true then
        if opOf (fetchV M.mem M.pc) = 0 then M.trapped 2
        else M.doF (opOf (fetchV M.mem M.pc)) (rdO (fmo (opOf (fetchV M.mem M.pc))) (fetchV M.mem M.pc)) (r1O (fmo (opOf (fetchV M.mem M.pc))) (fetchV M.mem M.pc)) (r2O (fmo (opOf (fetchV M.mem M.pc))) (fetchV M.mem M.pc)) (imO (fmo (opOf (fetchV M.mem M.pc))) (fetchV M.mem M.pc))
      else M.trapped 1
    else M.trapped 5
  else M

end Go.Proofs.YtgjfelkbblbjfaaGreatDoor

/- The machine's registers as the program keeps them: a map by their numbers. -/
namespace Go.Proofs.YtgjfelkbblbjfaaGreatDoor
open Go.RowKit Go.Maps
set_option linter.unusedVariables false
set_option maxRecDepth 100000

theorem lawInt : Keyed Tryz.prog 3 := int_keyed Tryz.underlying3

def InI (z : Int) : Prop := -9223372036854775808 ≤ z ∧ z ≤ 9223372036854775807

/-- A key. -/
def ki (z : Int) : Lit := .int .i64 z
theorem ki_key (z : Int) : WideAt.IsKeyLit (ki z) := trivial
theorem ki_of (z : Int) (h : InI z) : keyOf Tryz.prog 3 (.int .i64 z) = some (ki z) :=
  keyOf_int_mk Tryz.underlying3 (by unfold InI at h; simp [Lit.wf, IntKind.min, IntKind.max, IntKind.signed, IntKind.bits]; omega)
theorem ki_ne {i j : Int} (h : i ≠ j) : ki i ≠ ki j := by
  unfold ki; intro e; injection e with e1 e2; omega

/-- Block b is a map of n entries that holds f z at the key z. -/
def MapI (w : World) (b n : Nat) (f : Int → Option Value) : Prop :=
  ∃ D : DataW Value, w.ownsMap Tryz.prog 3 raw b n D ∧ Maps.size D = n ∧
    ∀ z, InI z → Maps.has D (ki z) = (f z).isSome ∧ ∀ v, f z = some v → ∀ y, D.atKey (ki z) y = .held v

theorem MapI.lt {w : World} {b n : Nat} {f : Int → Option Value} (h : MapI w b n f) : b < w.heap.size := by
  obtain ⟨D, h1, _⟩ := h
  exact h1.lt
theorem MapI.kept {w w' : World} {b n : Nat} {f : Int → Option Value} (h : MapI w b n f) (hb : w'.heap[b]? = w.heap[b]?) : MapI w' b n f := by
  obtain ⟨D, ⟨es, clock, h1, h2⟩, h3⟩ := h
  exact ⟨D, ⟨es, clock, hb.trans h1, h2⟩, h3⟩
theorem MapI.made (w : World) : MapI (w.alloc (.map #[] 0)) w.heap.size 0 (fun _ => none) :=
  ⟨.map [], World.ownsMap_made w _ _ _, rfl, fun i hi => ⟨rfl, fun v hv => by cases hv⟩⟩
theorem MapI.noCells {w : World} {b n : Nat} {f : Int → Option Value} (h : MapI w b n f) {cs : Array Value} {t : TypeId} {fz : Nat × Nat} (hc : w.heap[b]? = some (.cells cs t fz)) : False := by
  obtain ⟨D, ⟨es, clock, h1, h2⟩, h3⟩ := h
  rw [h1] at hc
  cases hc
theorem MapI.look {w : World} {b n : Nat} {f : Int → Option Value} (h : MapI w b n f) {t e : TypeId} (ht : Tryz.prog.underlying t = some (.map 3 e)) {y : Value} (hy : (zeroValue e).run Tryz.prog w = .ok y w) (z : Int) (hz : InI z) :
    (Instr.lookup t (.map (some b)) (.int .i64 z) false).run Tryz.prog w = .ok ((f z).getD y) w := by
  obtain ⟨D, hown, _, hf⟩ := h
  obtain ⟨h1, h2⟩ := hf z hz
  obtain ⟨v, ps, hrun, hv⟩ := hown.lookup lawInt ht hy (zd := .held y) (zp := []) rfl (ki_of z hz)
  have hv' : DataW.held v = D.atKey (ki z) (.held y) := by have h9 := hv; simp [raw] at h9; exact h9.1
  cases hfi : f z with
  | none =>
    rw [hfi] at h1
    rw [atKey_of_not_has h1] at hv'
    injection hv' with e
    subst e
    exact hrun
  | some u =>
    rw [h2 u hfi] at hv'
    injection hv' with e
    subst e
    exact hrun

/-- f with v at i. -/
def updI (f : Int → Option Value) (i : Int) (v : Value) (j : Int) : Option Value := if j = i then some v else f j

theorem MapI.store {w : World} {b n : Nat} {f : Int → Option Value} (h : MapI w b n f) {t e : TypeId} (ht : Tryz.prog.underlying t = some (.map 3 e)) (hn : n < maxLen) (i : Int) (hi : InI i) (v : Value) :
    ∃ w', (Instr.mapUpdate t (.map (some b)) (.int .i64 i) v).run Tryz.prog w = .ok () w' ∧ MapI w' b (if (f i).isSome then n else n + 1) (updI f i v) ∧ w.grownBy w' (some b) ∧ w'.heap.size = w.heap.size := by
  obtain ⟨D, hown, hs, hf⟩ := h
  obtain ⟨w', hrun, hown', hturn⟩ := hown.store lawInt ht hn (ki_of i hi) (d := .held v) (ps := []) rfl
  have htd := hown.tidy lawInt
  have hsz : Maps.size (D.put (ki i) (.held v)) = if (f i).isSome then n else n + 1 := by
    rw [size_put htd, (hf i hi).1, hs]
  refine ⟨w', hrun, ⟨D.put (ki i) (.held v), ?_, hsz, fun j hj => ?_⟩, hturn.grown, ?_⟩
  · obtain ⟨es, clock, h1, h2, h3, h4⟩ := hown'
    refine ⟨es, clock, h1, h2, ?_, h4⟩
    have e1 : Maps.size (D.put (ki i) (.held v)) = es.size := by rw [h4]; simp [Maps.size, length_sorted]
    omega
  · by_cases hji : j = i
    · subst hji
      refine ⟨by rw [has_put_same htd.isMap (ki_key _)]; simp [updI], fun u hu z => ?_⟩
      rw [atKey_put_same htd.isMap (ki_key _)]
      simp [updI] at hu
      rw [hu]
    · rw [has_put_other (ki_ne hji), (hf j hj).1]
      refine ⟨by simp [updI, hji], fun u hu z => ?_⟩
      rw [atKey_put_other (ki_ne hji)]
      exact (hf j hj).2 u (by simpa [updI, hji] using hu) z
  · obtain ⟨es, clock, es', clock', hb, rfl⟩ := hturn
    simp [ChangeMaps.setBlock]

/-! ### How many entries there are -/

theorem cnt_more {p q : Nat → Bool} {i : Nat} (hp : p i = false) (hq : q i = true) (hpq : ∀ j, p j = true → q j = true) : ∀ l : List Nat, i ∈ l → l.countP p + 1 ≤ l.countP q
  | [], h => by cases h
  | a :: l, h => by
    have hm : l.countP p ≤ l.countP q := List.countP_mono_left (fun j _ => hpq j)
    rw [List.countP_cons, List.countP_cons]
    by_cases ha : a = i
    · subst ha
      rw [hp, hq]
      simp
      omega
    · have h1 := cnt_more hp hq hpq l (by simpa [Ne.symm ha] using h)
      cases hpa : p a with
      | false => simp; omega
      | true => rw [hpq a hpa]; simp; omega

def cnt (f : Int → Option Value) : Nat := (List.range 32).countP (fun i : Nat => (f (i : Int)).isSome)
theorem cnt_le (f : Int → Option Value) : cnt f ≤ 32 := by
  have := List.countP_le_length (p := fun i : Nat => (f i).isSome) (l := List.range 32)
  simpa [cnt] using this
theorem cnt_upd {f : Int → Option Value} {i : Nat} (hi : i < 32) (v : Value) {n : Nat} (hn : n ≤ cnt f) : (if (f i).isSome then n else n + 1) ≤ cnt (updI f i v) := by
  have hm : ∀ j : Nat, (f j).isSome = true → (updI f i v j).isSome = true := fun j hj => by unfold updI; split; rfl; exact hj
  by_cases h : (f i).isSome = true
  · rw [if_pos h]
    exact Nat.le_trans hn (List.countP_mono_left (fun (j : Nat) _ => hm j))
  · rw [if_neg h]
    have h1 := cnt_more (p := fun j : Nat => (f j).isSome) (q := fun j : Nat => (updI f i v j).isSome) (i := i) (by simpa using h) (by simp [updI]) hm (List.range 32) (by simpa using hi)
    unfold cnt at hn ⊢
    omega

/-! ### The machine's own block -/

/-- Register i, as Reg tells it. -/
def rg (x : Nat → Int) (i : Int) : Int := if 0 ≤ i ∧ i < 32 then x i.toNat else 0

/-- Block m is the program's machine over the memory mm and the environment me: registers, place, status. -/
structure HDx (w : World) (m mm me b n : Nat) (f : Int → Option Value) (x : Nat → Int) (pc : Nat) (k c t : Int) (F : Nat → Prop) : Prop where
  head : w.heap[m]? = some (.cells #[.pointer (some ⟨mm, 0, none⟩), .pointer (some ⟨me, 0, none⟩), .map (some b), .int .u64 (pc : Int), .int .i64 k, .int .i64 c, .int .i64 t] 95 (0, 0))
  map : MapI w b n f
  cnt : n ≤ cnt f
  val : ∀ z, InI z → (f z).getD (.int .u64 0) = .int .u64 (rg x z)
  fits : Fits x pc k c t
  fm : F m
  fb : F b
  flt : ∀ k, F k → k < w.heap.size

def HD (m mm me : Nat) (x : Nat → Int) (pc : Nat) (k c t : Int) (w : World) (F : Nat → Prop) : Prop := ∃ b n f, HDx w m mm me b n f x pc k c t F

section
variable {w w' : World} {m mm me b n : Nat} {f : Int → Option Value} {x : Nat → Int} {pc : Nat} {k c t : Int} {F G : Nat → Prop}

theorem HDx.kept (h : HDx w m mm me b n f x pc k c t F) (hk : Kept G w w') (hd : ∀ k, F k → ¬ G k) : HDx w' m mm me b n f x pc k c t F :=
  have same : ∀ k, F k → w'.heap[k]? = w.heap[k]? := fun k hF => hk.block k (h.flt k hF) (hd k hF)
  ⟨(same m h.fm).trans h.head, h.map.kept (same b h.fb), h.cnt, h.val, h.fits, h.fm, h.fb, fun k hF => Nat.lt_of_lt_of_le (h.flt k hF) hk.size⟩

theorem hd_stays (B : Nat) (m mm me : Nat) (x : Nat → Int) (pc : Nat) (k c t : Int) : Stays B (HD m mm me x pc k c t) :=
  ⟨fun ⟨b, n, f, h⟩ hk hd hG => ⟨b, n, f, h.kept hk hd⟩, fun ⟨b, n, f, h⟩ => h.flt⟩

theorem HDx.mb (h : HDx w m mm me b n f x pc k c t F) : m ≠ b := fun e => by
  have h1 := h.head
  rw [e] at h1
  exact h.map.noCells h1
theorem HDx.cell (h : HDx w m mm me b n f x pc k c t F) (i : Nat) : w.cell? ⟨m, i, none⟩ = (#[.pointer (some ⟨mm, 0, none⟩), .pointer (some ⟨me, 0, none⟩), .map (some b), .int .u64 (pc : Int), .int .i64 k, .int .i64 c, .int .i64 t] : Array Value)[i]? := cell_of_row _ _ i _ _ _ h.head
theorem HDx.frozen (h : HDx w m mm me b n f x pc k c t F) (i : Nat) : w.frozen? ⟨m, i, none⟩ = false := by
  unfold World.frozen?
  simp only [h.head]
  simp

end

end Go.Proofs.YtgjfelkbblbjfaaGreatDoor

/- Contracts of package mach's calls that touch the machine's own block alone: registers, place, status. -/
namespace Go.Proofs.YtgjfelkbblbjfaaGreatDoor
open Go.RowKit Go.Maps
set_option linter.unusedVariables false
set_option maxRecDepth 100000

section
variable {w w' : World} {m mm me b n : Nat} {f : Int → Option Value} {x : Nat → Int} {pc : Nat} {k c t : Int} {F G : Nat → Prop}

theorem HDx.look (h : HDx w m mm me b n f x pc k c t F) (z : Int) (hz : InI z) : (Instr.lookup 93 (.map (some b)) (.int .i64 z) false).run Tryz.prog w = .ok (.int .u64 (rg x z)) w := by
  have h1 := h.map.look Tryz.underlying93 (y := .int .u64 0) (by kernel_rfl) z hz
  rwa [h.val z hz] at h1

theorem mreg_any (z : Int) (w : World) (h : HD m mm me x pc k c t w F) (hz : InI z) :
    Calls Tryz.prog 26 #[.pointer (some ⟨m, 0, none⟩), .int .i64 z] w fun e w' => e = .returned (.int .u64 (rg x z)) ∧ w' = w := by
  obtain ⟨b, n, f, h⟩ := h
  have hc := h.cell 2
  have hl := h.look z hz
  generalize rg x z = v at *
  clear h hz
  go_enter Tryz.func26, Tryz.ntmps26
  go_wp2
  go_ret
  exact ⟨rfl, rfl⟩

theorem rg_xset (x : Nat → Int) (i v z : Int) (h : 1 ≤ i ∧ i ≤ 31) : rg (xset x i v) z = if z = i then v else rg x z := by
  unfold rg xset
  by_cases h1 : 0 ≤ z ∧ z < 32
  · rw [if_pos h1, if_pos h1]
    by_cases h2 : z = i
    · rw [if_pos h2, if_pos (by omega)]
    · rw [if_neg h2, if_neg (by omega)]
  · rw [if_neg h1, if_neg h1, if_neg (by omega)]

theorem xset_no {x : Nat → Int} {i v : Int} (h : ¬ (1 ≤ i ∧ i ≤ 31)) : xset x i v = x := by
  funext j
  unfold xset
  rw [if_neg (by omega)]

theorem Fits.set (h : Fits x pc k c t) {i v : Int} (hv : 0 ≤ v ∧ v ≤ 18446744073709551615) : Fits (xset x i v) pc k c t :=
  ⟨fun j => by
    unfold xset
    split
    · exact hv
    · exact h.reg j, by unfold xset; rw [if_neg (by omega)]; exact h.zero, fun j hj => by unfold xset; rw [if_neg (by omega)]; exact h.top j hj, h.place, h.kind, h.code, h.trap⟩

theorem set_any (i v : Int) (w : World) (h : HD m mm me x pc k c t w F) (hi : InI i) (hv : 0 ≤ v ∧ v ≤ 18446744073709551615) :
    Calls Tryz.prog 16 #[.pointer (some ⟨m, 0, none⟩), .int .i64 i, .int .u64 v] w fun e w' => e = .returned (.tuple #[]) ∧ HD m mm me (xset x i v) pc k c t w' F ∧ Went F w F w' := by
  by_cases hr : 1 ≤ i ∧ i ≤ 31
  · obtain ⟨b, n, f, h⟩ := h
    have hc := h.cell 2
    have hn : n < maxLen := by have := cnt_le f; have := h.cnt; unfold maxLen; omega
    obtain ⟨w2, hrun, hmap, hgrow, hsz⟩ := h.map.store Tryz.underlying93 hn i hi (.int .u64 v)
    have H : Hid (HD m mm me (xset x i v) pc k c t w2 F ∧ Went F w F w2) := by
      obtain ⟨j, rfl⟩ : ∃ j : Nat, i = j := ⟨i.toNat, by omega⟩
      have hK : Kept F w w2 := Kept.of_grown hgrow (fun k hk => by cases hk; exact h.fb)
      refine ⟨⟨b, _, _, ⟨?_, hmap, cnt_upd (by omega) _ h.cnt, fun z hz => ?_, h.fits.set hv, h.fm, h.fb, fun k hk => by rw [hsz]; exact h.flt k hk⟩⟩, hK, fun k hk => Or.inl hk⟩
      · rw [hgrow.block m (h.flt m h.fm) (fun e => h.mb (Option.some.inj e))]
        exact h.head
      · rw [rg_xset x j v z hr]
        unfold updI
        split
        · rfl
        · exact h.val z hz
    obtain ⟨r1, r2⟩ := hr
    clear h hmap hgrow hsz hn
    go_enter Tryz.func16, Tryz.ntmps16
    go_wp2
    go_end0
    exact ⟨rfl, H.out⟩
  · rw [xset_no hr]
    have H := hide h
    clear h
    by_cases h1 : 1 ≤ i
    · have h2 : ¬ i ≤ 31 := fun e => hr ⟨h1, e⟩
      go_enter Tryz.func16, Tryz.ntmps16
      go_wp2
      go_end0
      exact ⟨rfl, H.out, Went.refl _ _⟩
    · go_enter Tryz.func16, Tryz.ntmps16
      go_wp2
      go_end0
      exact ⟨rfl, H.out, Went.refl _ _⟩

theorem pcset_head {p : Nat} (h : w.heap[m]? = some (.cells #[.pointer (some ⟨mm, 0, none⟩), .pointer (some ⟨me, 0, none⟩), .map (some b), .int .u64 (pc : Int), .int .i64 k, .int .i64 c, .int .i64 t] 95 (0, 0))) :
    (w.setCell ⟨m, 3, none⟩ (.int .u64 (p : Int))).heap[m]? = some (.cells #[.pointer (some ⟨mm, 0, none⟩), .pointer (some ⟨me, 0, none⟩), .map (some b), .int .u64 (p : Int), .int .i64 k, .int .i64 c, .int .i64 t] 95 (0, 0)) := by
  unfold World.setCell
  simp [Array.getElem?_modify, h]

theorem Fits.at (h : Fits x pc k c t) {p : Nat} (hp : p ≤ 18446744073709551615) : Fits x p k c t := ⟨h.reg, h.zero, h.top, hp, h.kind, h.code, h.trap⟩

theorem HDx.moved (h : HDx w m mm me b n f x pc k c t F) {p : Nat} (hp : p ≤ 18446744073709551615) : HD m mm me x p k c t (w.setCell ⟨m, 3, none⟩ (.int .u64 (p : Int))) F ∧ Went F w F (w.setCell ⟨m, 3, none⟩ (.int .u64 (p : Int))) := by
  have hK : Kept F w (w.setCell ⟨m, 3, none⟩ (.int .u64 (p : Int))) := (Kept.refl F w).setCell _ _ (Or.inl h.fm)
  refine ⟨⟨b, n, f, ⟨pcset_head h.head, h.map.kept (Below.heap_setCell _ _ _ _ h.mb.symm), h.cnt, h.val, h.fits.at hp, h.fm, h.fb, fun k hk => Nat.lt_of_lt_of_le (h.flt k hk) hK.size⟩⟩, hK, fun k hk => Or.inl hk⟩

theorem next_any (w : World) (h : HD m mm me x pc k c t w F) :
    Calls Tryz.prog 85 #[.pointer (some ⟨m, 0, none⟩)] w fun e w' => e = .returned (.int .i64 0) ∧ HD m mm me x (u64 (pc + 4)).toNat k c t w' F ∧ Went F w F w' := by
  obtain ⟨b, n, f, h⟩ := h
  have hc := h.cell 3
  have hz := h.frozen 3
  have hb := u64_bd (pc + 4)
  obtain ⟨p, hp⟩ : ∃ p : Nat, p = (u64 (pc + 4)).toNat := ⟨_, rfl⟩
  have hp' : IntKind.u64.wrap ((pc : Int) + 4) = (p : Int) := by rw [wrap_u64]; omega
  rw [← hp]
  have H := hide (h.moved (p := p) (by omega))
  have hpc := h.fits.place
  clear h hp hb
  go_enter Tryz.func85, Tryz.ntmps85
  go_wp2
  go_ret
  exact ⟨rfl, H.out⟩

theorem put_reg (rd v : Int) (w : World) (h : HD m mm me x pc k c t w F) (hi : InI rd) (hv : 0 ≤ v ∧ v ≤ 18446744073709551615) :
    Calls Tryz.prog 78 #[.pointer (some ⟨m, 0, none⟩), .int .i64 rd, .int .u64 v] w fun e w' => e = .returned (.int .i64 0) ∧ HD m mm me (xset x rd v) (u64 (pc + 4)).toNat k c t w' F ∧ Went F w F w' := by
  have HS := hide (set_any rd v w h hi hv)
  clear h hi hv
  go_enter Tryz.func78, Tryz.ntmps78
  go_wp2_with fail
  refine HS.out.mono ?_
  rintro e w' ⟨rfl, h1, h2⟩
  clear HS
  go_wp2_with fail
  refine (next_any _ h1).mono ?_
  rintro e w'' ⟨rfl, h3, h4⟩
  have H := hide (And.intro h3 (h2.trans h4))
  clear h1 h2 h3 h4
  go_wp2
  go_ret
  exact ⟨rfl, H.out⟩

theorem aligned_any (a : Nat) (w : World) (ha : a ≤ 18446744073709551615) :
    Calls Tryz.prog 75 #[.int .u64 (a : Int)] w fun e w' => e = .returned (.bool (decide (a % 4 = 0))) ∧ w' = w := by
  go_enter Tryz.func75, Tryz.ntmps75
  go_wp2
  go_ret
  refine ⟨ret_bool ?_, rfl⟩
  rw [Bool.eq_iff_iff]
  simp
  omega

theorem jump_any (rd : Int) (a : Nat) (w : World) (h : HD m mm me x pc k c t w F) (hi : InI rd) (ha : a ≤ 18446744073709551615) :
    Calls Tryz.prog 80 #[.pointer (some ⟨m, 0, none⟩), .int .i64 rd, .int .u64 (a : Int)] w fun e w' =>
      (a % 4 = 0 → e = .returned (.int .i64 0) ∧ HD m mm me (xset x rd (u64 (pc + 4))) a k c t w' F ∧ Went F w F w') ∧ (a % 4 ≠ 0 → e = .returned (.int .i64 5) ∧ w' = w) := by
  have HA := hide (aligned_any a w ha)
  by_cases h4 : a % 4 = 0
  · rw [decide_eq_true h4] at HA
    have hpc : pc ≤ 18446744073709551615 := by obtain ⟨b, n, f, h⟩ := h; exact h.fits.place
    have hc : w.cell? ⟨m, 3, none⟩ = some (.int .u64 (pc : Int)) := by obtain ⟨b, n, f, h⟩ := h; exact h.cell 3
    obtain ⟨p, hp⟩ : ∃ p : Int, p = u64 (pc + 4) := ⟨_, rfl⟩
    have hp' : IntKind.u64.wrap ((pc : Int) + 4) = p := by rw [wrap_u64, hp]
    have hv := u64_bd (pc + 4)
    rw [← hp] at hv ⊢
    have HS := hide (set_any rd p w h hi hv)
    have H4 := hide h4
    clear h hi hp h4
    go_enter Tryz.func80, Tryz.ntmps80
    go_wp2_with fail
    refine HA.out.mono ?_
    rintro e w' ⟨rfl, rfl⟩
    go_wp2_with fail
    refine HS.out.mono ?_
    rintro e w2 ⟨rfl, h1, h2⟩
    obtain ⟨b, n, f, h1⟩ := h1
    have hz := h1.frozen 3
    have hc3 := h1.cell 3
    have h3 := h1.moved (p := a) ha
    have H := hide (And.intro h3.1 (h2.trans h3.2))
    clear h1 h2 h3 HS HA
    go_wp2
    go_ret
    exact ⟨fun _ => ⟨rfl, H.out⟩, fun h => absurd H4.out h⟩
  · rw [decide_eq_false h4] at HA
    have H4 := hide h4
    clear h hi h4
    go_enter Tryz.func80, Tryz.ntmps80
    go_wp2_with fail
    refine HA.out.mono ?_
    rintro e w' ⟨rfl, rfl⟩
    go_wp2
    go_ret
    exact ⟨fun h => absurd h H4.out, fun _ => ⟨rfl, rfl⟩⟩

theorem pc_any (w : World) (h : HD m mm me x pc k c t w F) :
    Calls Tryz.prog 19 #[.pointer (some ⟨m, 0, none⟩)] w fun e w' => e = .returned (.int .u64 (pc : Int)) ∧ w' = w := by
  obtain ⟨b, n, f, h⟩ := h
  have hc := h.cell 3
  clear h
  go_enter Tryz.func19, Tryz.ntmps19
  go_wp2
  go_ret
  exact ⟨rfl, rfl⟩

theorem cell_new (w : World) (cs : Array Value) (ty : TypeId) (i : Nat) : (w.alloc (.cells cs ty)).cell? ⟨w.heap.size, i, none⟩ = cs[i]? := cell_of_row _ _ i _ _ _ (heap_alloc_new w _)



end

end Go.Proofs.YtgjfelkbblbjfaaGreatDoor

/- Facts on numbers of 64 and 32 bits that the contracts of the operations stand on. -/
namespace Go.Proofs.YtgjfelkbblbjfaaGreatDoor
open Go.RowKit
set_option linter.unusedVariables false
set_option maxRecDepth 100000

theorem wrap64_is (z : Int) : wrap64 z = s64 z := by unfold wrap64 s64; rfl
theorem wrap32_is (z : Int) : wrap32 z = s32 z := by unfold wrap32 s32; rfl
theorem s64_s32 (z : Int) : s64 (s32 z) = s32 z := by unfold s64 s32; omega
theorem sx_def (z : Int) : u64 (s64 (s32 z)) = sx z := by unfold sx; rw [s64_s32]
theorem s64_id {z : Int} (h0 : -9223372036854775808 ≤ z) (h1 : z ≤ 9223372036854775807) : s64 z = z := by unfold s64; omega
theorem s32_id {z : Int} (h0 : -2147483648 ≤ z) (h1 : z ≤ 2147483647) : s32 z = z := by unfold s32; omega
theorem u64_id {z : Int} (h0 : 0 ≤ z) (h1 : z ≤ 18446744073709551615) : u64 z = z := by unfold u64; omega
theorem u32_id {z : Int} (h0 : 0 ≤ z) (h1 : z ≤ 4294967295) : u32 z = z := by unfold u32; omega

theorem and63 {b : Int} (h0 : 0 ≤ b) (h1 : b ≤ 18446744073709551615) : ∃ k : Nat, bits .and .u64 b 63 = (k : Int) ∧ k ≤ 63 ∧ (b % 64).toNat = k :=
  ⟨(b % 64).toNat, by
    have := bits_mask .u64 64 (by decide) wraps_u64 6 (by omega) b h0 (by omega)
    rw [show (2 : Int) ^ 6 - 1 = 63 by decide, show (2 : Int) ^ 6 = 64 by decide] at this
    rw [this]; omega, by omega, rfl⟩
theorem and31 {b : Int} (h0 : 0 ≤ b) (h1 : b ≤ 18446744073709551615) : ∃ k : Nat, bits .and .u64 b 31 = (k : Int) ∧ k ≤ 31 ∧ (b % 32).toNat = k :=
  ⟨(b % 32).toNat, by
    have := bits_mask .u64 64 (by decide) wraps_u64 5 (by omega) b h0 (by omega)
    rw [show (2 : Int) ^ 5 - 1 = 31 by decide, show (2 : Int) ^ 5 = 32 by decide] at this
    rw [this]; omega, by omega, rfl⟩
theorem and31w {b : Int} (h0 : 0 ≤ b) (h1 : b ≤ 4294967295) : ∃ k : Nat, bits .and .u32 b 31 = (k : Int) ∧ k ≤ 31 ∧ (b % 32).toNat = k :=
  ⟨(b % 32).toNat, by
    have := bits_mask .u32 32 (by decide) wraps_u32 5 (by omega) b h0 (by omega)
    rw [show (2 : Int) ^ 5 - 1 = 31 by decide, show (2 : Int) ^ 5 = 32 by decide] at this
    rw [this]; omega, by omega, rfl⟩

theorem hi_bd {x y : Nat} (hx : x ≤ 18446744073709551615) (hy : y ≤ 18446744073709551615) : x * y / 18446744073709551616 ≤ 18446744073709551615 := by
  have h : x * y ≤ 18446744073709551615 * 18446744073709551615 := Nat.mul_le_mul hx hy
  omega

theorem sx_congr {y z : Int} (h : y % 4294967296 = z % 4294967296) : sx y = sx z := by
  have e : ∀ t : Int, s32 t = (t % 4294967296 + 2147483648) % 4294967296 - 2147483648 := fun t => by unfold s32; omega
  unfold sx
  rw [e y, e z, h]
theorem sx_u32 (z : Int) : sx (u32 z) = sx z := sx_congr (by unfold u32; omega)
theorem sx_u64 (z : Int) : sx (u64 z) = sx z := sx_congr (by unfold u64; omega)
theorem sx_add (a b : Int) : sx (u32 a + u32 b) = sx (a + b) := sx_congr (by unfold u32; omega)
theorem sx_sub (a b : Int) : sx (u32 a - u32 b) = sx (a - b) := sx_congr (by unfold u32; omega)
theorem sx_mul (a b : Int) : sx (u32 a * u32 b) = sx (a * b) := sx_congr (by unfold u32; rw [← Int.mul_emod])
theorem sx_mul1 (a c : Int) : sx (u32 a * c) = sx (a * c) := sx_congr (by unfold u32; rw [Int.mul_emod, Int.emod_emod, ← Int.mul_emod])
theorem sx_s32 (z : Int) : sx (s32 z) = sx z := sx_congr (by unfold s32; omega)
theorem sx_s64 (z : Int) : sx (s64 z) = sx z := sx_congr (by unfold s64; omega)
theorem s32_u32 (z : Int) : s32 (u32 z) = s32 z := by unfold s32 u32; omega
theorem s64_u64 (z : Int) : s64 (u64 z) = s64 z := by unfold s64 u64; omega
theorem u32_u64 (z : Int) : u32 (u64 z) = u32 z := by unfold u32 u64; omega
theorem u64_s64 (z : Int) : u64 (s64 z) = u64 z := by unfold u64 s64; omega
theorem u32_mod (b : Int) : u32 b % 32 = b % 32 := by unfold u32; omega

theorem ediv_pow_bd (z : Int) (k : Nat) (lo hi : Int) (h0 : lo ≤ z) (h1 : z ≤ hi) (hl : lo ≤ 0) (hh : 0 ≤ hi) : lo ≤ z / 2 ^ k ∧ z / 2 ^ k ≤ hi := by
  have hp : (0 : Int) < 2 ^ k := Int.pow_pos (by decide)
  constructor
  · rw [Int.le_ediv_iff_mul_le hp]
    have : (-lo) * 1 ≤ (-lo) * 2 ^ k := Int.mul_le_mul_of_nonneg_left (by omega) (by omega)
    rw [Int.mul_one, Int.neg_mul] at this
    exact Int.le_trans (Int.le_of_neg_le_neg this) h0
  · apply Int.le_of_lt_add_one
    rw [Int.ediv_lt_iff_lt_mul hp]
    have : (hi + 1) * 1 ≤ (hi + 1) * 2 ^ k := Int.mul_le_mul_of_nonneg_left (by omega) (by omega)
    rw [Int.mul_one] at this
    exact Int.lt_of_lt_of_le (by omega) this
theorem sx_sra (a : Int) (k : Nat) : sx (s32 a / 2 ^ k) = u64 (s32 a / 2 ^ k) := by
  have h := s32_bd a
  have := ediv_pow_bd (s32 a) k (-2147483648) 2147483647 h.1 h.2 (by decide) (by decide)
  unfold sx
  rw [s32_id this.1 this.2]

theorem s64_zero {b : Int} (h0 : 0 ≤ b) (h1 : b ≤ 18446744073709551615) : (s64 b = 0) ↔ b = 0 := by unfold s64; omega
theorem s32_zero (b : Int) : (s32 b = 0) ↔ u32 b = 0 := by unfold s32 u32; omega
theorem s64_m1 {b : Int} (h0 : 0 ≤ b) (h1 : b ≤ 18446744073709551615) : (s64 b = -1) ↔ b = 18446744073709551615 := by unfold s64; omega

theorem tdiv_bd (a b lo : Int) (h0 : lo ≤ a) (h1 : a ≤ -lo - 1) (hb : b ≠ 0) : lo ≤ a.tdiv b ∧ a.tdiv b ≤ -lo := by
  have h2 := Int.natAbs_tdiv_le_natAbs a b
  omega
theorem tmod_bd (a b lo : Int) (h0 : lo ≤ a) (h1 : a ≤ -lo - 1) : lo ≤ a.tmod b ∧ a.tmod b ≤ -lo - 1 := by
  have h2 : (a.tmod b).natAbs ≤ a.natAbs := by
    rw [Int.natAbs_tmod]
    exact Nat.mod_le _ _
  rcases Int.le_total 0 a with h3 | h3
  · have := Int.tmod_nonneg b h3
    omega
  · have h4 : (-a).tmod b = -(a.tmod b) := Int.neg_tmod ..
    have := Int.tmod_nonneg b (show 0 ≤ -a by omega)
    omega

end Go.Proofs.YtgjfelkbblbjfaaGreatDoor
