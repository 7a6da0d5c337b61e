/- Texts of this claim, joined: ImmPlain, Imm, ImmPut, InstPlain. -/
import Derived.Test.YtgjfelkbblbjfaaGreatDoorJ00
import Derived.Handy
import Derived.Deep.Light
/- What the document says of immediates, as plain functions of numbers, and the facts on them. Nothing of the program is named. -/
namespace Go.Proofs.YtgjfelkbblbjfaaGreatDoor
open Go.RowKit
set_option linter.unusedVariables false
set_option maxRecDepth 100000
set_option linter.unusedSimpArgs false

/-- The immediate's bits, without a sign. -/
def rawOf (form x : Int) : Int :=
  if form = 1 then fld x 20 12 0
  else if form = 2 then fld x 25 7 5 + fld x 7 5 0
  else if form = 3 then fld x 31 1 12 + fld x 7 1 11 + fld x 25 6 5 + fld x 8 4 1
  else if form = 4 then fld x 12 20 0
  else if form = 5 then fld x 31 1 20 + fld x 12 8 12 + fld x 20 1 11 + fld x 21 10 1
  else 0
def getOf (form x : Int) : Int :=
  if form = 1 then sgn 12 (rawOf 1 x)
  else if form = 2 then sgn 12 (rawOf 2 x)
  else if form = 3 then sgn 13 (rawOf 3 x)
  else if form = 4 then sgn 20 (rawOf 4 x)
  else if form = 5 then sgn 21 (rawOf 5 x)
  else 0
/-- A number's bits in an immediate's places. -/
def sprOf (form v : Int) : Int :=
  if form = 1 then fld v 0 12 20
  else if form = 2 then fld v 5 7 25 + fld v 0 5 7
  else if form = 3 then fld v 12 1 31 + fld v 11 1 7 + fld v 5 6 25 + fld v 1 4 8
  else if form = 4 then fld v 0 20 12
  else if form = 5 then fld v 20 1 31 + fld v 12 8 12 + fld v 11 1 20 + fld v 1 10 21
  else 0
/-- A word's bits that are the immediate's. -/
def mskOf (form x : Int) : Int :=
  if form = 1 then fld x 20 12 20
  else if form = 2 then fld x 25 7 25 + fld x 7 5 7
  else if form = 3 then fld x 31 1 31 + fld x 7 1 7 + fld x 25 6 25 + fld x 8 4 8
  else if form = 4 then fld x 12 20 12
  else if form = 5 then fld x 31 1 31 + fld x 12 8 12 + fld x 20 1 20 + fld x 21 10 21
  else 0
def fitsOf (form v : Int) : Bool :=
  if form = 1 then decide (-2048 ≤ v ∧ v ≤ 2047)
  else if form = 2 then decide (-2048 ≤ v ∧ v ≤ 2047)
  else if form = 3 then decide (-4096 ≤ v ∧ v ≤ 4095 ∧ v % 2 = 0)
  else if form = 4 then decide (-524288 ≤ v ∧ v ≤ 524287)
  else if form = 5 then decide (-1048576 ≤ v ∧ v ≤ 1048575 ∧ v % 2 = 0)
  else decide (v = 0)
/-- The mask of a form's places. -/
def fmOf (form : Int) : Nat :=
  if form = 1 then 4293918720 else if form = 2 then 4261416832 else if form = 3 then 4261416832 else if form = 4 then 4294963200 else if form = 5 then 4294963200 else 0
def setOf (form x v : Int) : Int := x - mskOf form x + sprOf form v
def putOf (form x v : Int) : Int := if fitsOf form v = true then setOf form x v else 0
def signOf (x b : Int) : Int := if b < 1 then 0 else sgn (min b 64).toNat x
def hiOf (v : Int) : Int := wrap64 (v + 2048) / 4096
def loOf (v : Int) : Int := signOf v 12

theorem sgn12 (x : Int) : sgn 12 x = (x + 2048) % 4096 - 2048 := rfl
theorem sgn13 (x : Int) : sgn 13 x = (x + 4096) % 8192 - 4096 := rfl
theorem sgn20 (x : Int) : sgn 20 x = (x + 524288) % 1048576 - 524288 := rfl
theorem sgn21 (x : Int) : sgn 21 x = (x + 1048576) % 2097152 - 1048576 := rfl
theorem sgn64 (x : Int) : sgn 64 x = wrap64 x := by simp [sgn, wrap64]

theorem forms (P : Int → Prop) (h1 : P 1) (h2 : P 2) (h3 : P 3) (h4 : P 4) (h5 : P 5) (h : ∀ f, f ≠ 1 → f ≠ 2 → f ≠ 3 → f ≠ 4 → f ≠ 5 → P f) (f : Int) : P f := by
  by_cases e1 : f = 1
  · rw [e1]; exact h1
  by_cases e2 : f = 2
  · rw [e2]; exact h2
  by_cases e3 : f = 3
  · rw [e3]; exact h3
  by_cases e4 : f = 4
  · rw [e4]; exact h4
  by_cases e5 : f = 5
  · rw [e5]; exact h5
  exact h f e1 e2 e3 e4 e5

theorem spr_bd (f v : Int) : 0 ≤ sprOf f v ∧ sprOf f v ≤ 4294967295 := by
  revert v
  refine forms (fun f => ∀ v, 0 ≤ sprOf f v ∧ sprOf f v ≤ 4294967295) ?_ ?_ ?_ ?_ ?_ ?_ f
  case refine_6 => intro f e1 e2 e3 e4 e5 v; simp [sprOf, e1, e2, e3, e4, e5]
  all_goals (intro v; simp [sprOf, fld]; omega)

theorem msk_bd (f x : Int) (h0 : 0 ≤ x) (h1 : x ≤ 4294967295) : 0 ≤ mskOf f x ∧ mskOf f x ≤ x := by
  revert x
  refine forms (fun f => ∀ x, 0 ≤ x → x ≤ 4294967295 → 0 ≤ mskOf f x ∧ mskOf f x ≤ x) ?_ ?_ ?_ ?_ ?_ ?_ f
  case refine_6 => intro f e1 e2 e3 e4 e5 x h0 h1; simp [mskOf, e1, e2, e3, e4, e5, h0]
  all_goals (intro x h0 h1; simp [mskOf, fld]; omega)

theorem raw_bd (f x : Int) : 0 ≤ rawOf f x ∧ rawOf f x ≤ 2097151 := by
  revert x
  refine forms (fun f => ∀ x, 0 ≤ rawOf f x ∧ rawOf f x ≤ 2097151) ?_ ?_ ?_ ?_ ?_ ?_ f
  case refine_6 => intro f e1 e2 e3 e4 e5 v; simp [rawOf, e1, e2, e3, e4, e5]
  all_goals (intro v; simp [rawOf, fld]; omega)

theorem get_bd (f x : Int) : -1048576 ≤ getOf f x ∧ getOf f x ≤ 1048575 := by
  revert x
  refine forms (fun f => ∀ x, -1048576 ≤ getOf f x ∧ getOf f x ≤ 1048575) ?_ ?_ ?_ ?_ ?_ ?_ f
  case refine_6 => intro f e1 e2 e3 e4 e5 v; simp [getOf, e1, e2, e3, e4, e5]
  all_goals (intro v; simp only [getOf, sgn12, sgn13, sgn20, sgn21]; simp; omega)

/-- Words and numbers, part by part, for the forms of branches and jumps. -/
theorem decB {x : Int} (h0 : 0 ≤ x) (h1 : x ≤ 4294967295) : ∃ a b c d e g : Int, x = 2147483648 * a + 33554432 * b + 4096 * c + 256 * d + 128 * e + g ∧ (0 ≤ a ∧ a < 2) ∧ (0 ≤ b ∧ b < 64) ∧ (0 ≤ c ∧ c < 8192) ∧ (0 ≤ d ∧ d < 16) ∧ (0 ≤ e ∧ e < 2) ∧ 0 ≤ g ∧ g < 128 :=
  ⟨x / 2147483648, x / 33554432 % 64, x / 4096 % 8192, x / 256 % 16, x / 128 % 2, x % 128, by omega, by omega, by omega, by omega, by omega, by omega, by omega, by omega⟩
theorem flB {x a b c d e g : Int} (hx : x = 2147483648 * a + 33554432 * b + 4096 * c + 256 * d + 128 * e + g) (ha : 0 ≤ a ∧ a < 2) (hb : 0 ≤ b ∧ b < 64) (hc : 0 ≤ c ∧ c < 8192) (hd : 0 ≤ d ∧ d < 16) (he : 0 ≤ e ∧ e < 2) (hg : 0 ≤ g ∧ g < 128) :
    x / 2147483648 % 2 = a ∧ x / 33554432 % 64 = b ∧ x / 256 % 16 = d ∧ x / 128 % 2 = e :=
  ⟨by omega, by omega, by omega, by omega⟩
theorem decBv (v : Int) : ∃ q a b d e z : Int, v = 8192 * q + 4096 * a + 2048 * e + 32 * b + 2 * d + z ∧ (0 ≤ a ∧ a < 2) ∧ (0 ≤ b ∧ b < 64) ∧ (0 ≤ d ∧ d < 16) ∧ (0 ≤ e ∧ e < 2) ∧ 0 ≤ z ∧ z < 2 :=
  ⟨v / 8192, v / 4096 % 2, v / 32 % 64, v / 2 % 16, v / 2048 % 2, v % 2, by omega, by omega, by omega, by omega, by omega, by omega, by omega⟩
theorem flBv {v q a b d e z : Int} (hx : v = 8192 * q + 4096 * a + 2048 * e + 32 * b + 2 * d + z) (ha : 0 ≤ a ∧ a < 2) (hb : 0 ≤ b ∧ b < 64) (hd : 0 ≤ d ∧ d < 16) (he : 0 ≤ e ∧ e < 2) (hz : 0 ≤ z ∧ z < 2) :
    v / 4096 % 2 = a ∧ v / 32 % 64 = b ∧ v / 2 % 16 = d ∧ v / 2048 % 2 = e :=
  ⟨by omega, by omega, by omega, by omega⟩
theorem decJ {x : Int} (h0 : 0 ≤ x) (h1 : x ≤ 4294967295) : ∃ a b c d g : Int, x = 2147483648 * a + 2097152 * b + 1048576 * c + 4096 * d + g ∧ (0 ≤ a ∧ a < 2) ∧ (0 ≤ b ∧ b < 1024) ∧ (0 ≤ c ∧ c < 2) ∧ (0 ≤ d ∧ d < 256) ∧ 0 ≤ g ∧ g < 4096 :=
  ⟨x / 2147483648, x / 2097152 % 1024, x / 1048576 % 2, x / 4096 % 256, x % 4096, by omega, by omega, by omega, by omega, by omega, by omega, by omega⟩
theorem flJ {x a b c d g : Int} (hx : x = 2147483648 * a + 2097152 * b + 1048576 * c + 4096 * d + g) (ha : 0 ≤ a ∧ a < 2) (hb : 0 ≤ b ∧ b < 1024) (hc : 0 ≤ c ∧ c < 2) (hd : 0 ≤ d ∧ d < 256) (hg : 0 ≤ g ∧ g < 4096) :
    x / 2147483648 % 2 = a ∧ x / 2097152 % 1024 = b ∧ x / 1048576 % 2 = c ∧ x / 4096 % 256 = d :=
  ⟨by omega, by omega, by omega, by omega⟩
theorem decJv (v : Int) : ∃ q a b c d z : Int, v = 2097152 * q + 1048576 * a + 4096 * d + 2048 * c + 2 * b + z ∧ (0 ≤ a ∧ a < 2) ∧ (0 ≤ b ∧ b < 1024) ∧ (0 ≤ c ∧ c < 2) ∧ (0 ≤ d ∧ d < 256) ∧ 0 ≤ z ∧ z < 2 :=
  ⟨v / 2097152, v / 1048576 % 2, v / 2 % 1024, v / 2048 % 2, v / 4096 % 256, v % 2, by omega, by omega, by omega, by omega, by omega, by omega, by omega⟩
theorem flJv {v q a b c d z : Int} (hx : v = 2097152 * q + 1048576 * a + 4096 * d + 2048 * c + 2 * b + z) (ha : 0 ≤ a ∧ a < 2) (hb : 0 ≤ b ∧ b < 1024) (hc : 0 ≤ c ∧ c < 2) (hd : 0 ≤ d ∧ d < 256) (hz : 0 ≤ z ∧ z < 2) :
    v / 1048576 % 2 = a ∧ v / 2 % 1024 = b ∧ v / 2048 % 2 = c ∧ v / 4096 % 256 = d :=
  ⟨by omega, by omega, by omega, by omega⟩

theorem raw3 (x : Int) : rawOf 3 x = x / 2147483648 % 2 * 4096 + x / 128 % 2 * 2048 + x / 33554432 % 64 * 32 + x / 256 % 16 * 2 := by simp [rawOf, fld]
theorem raw5 (x : Int) : rawOf 5 x = x / 2147483648 % 2 * 1048576 + x / 4096 % 256 * 4096 + x / 1048576 % 2 * 2048 + x / 2097152 % 1024 * 2 := by simp [rawOf, fld]
theorem spr3 (v : Int) : sprOf 3 v = v / 4096 % 2 * 2147483648 + v / 2048 % 2 * 128 + v / 32 % 64 * 33554432 + v / 2 % 16 * 256 := by simp [sprOf, fld]
theorem spr5 (v : Int) : sprOf 5 v = v / 1048576 % 2 * 2147483648 + v / 4096 % 256 * 4096 + v / 2048 % 2 * 1048576 + v / 2 % 1024 * 2097152 := by simp [sprOf, fld]
theorem msk3 (x : Int) : mskOf 3 x = x / 2147483648 % 2 * 2147483648 + x / 128 % 2 * 128 + x / 33554432 % 64 * 33554432 + x / 256 % 16 * 256 := by simp [mskOf, fld]
theorem msk5 (x : Int) : mskOf 5 x = x / 2147483648 % 2 * 2147483648 + x / 4096 % 256 * 4096 + x / 1048576 % 2 * 1048576 + x / 2097152 % 1024 * 2097152 := by simp [mskOf, fld]

/-- A word in which a number was set, part by part. -/
theorem set3 {x v a b c d e g q a' b' d' e' z : Int} (hx : x = 2147483648 * a + 33554432 * b + 4096 * c + 256 * d + 128 * e + g) (ha : 0 ≤ a ∧ a < 2) (hb : 0 ≤ b ∧ b < 64) (hc : 0 ≤ c ∧ c < 8192) (hd : 0 ≤ d ∧ d < 16) (he : 0 ≤ e ∧ e < 2) (hg : 0 ≤ g ∧ g < 128)
    (hv : v = 8192 * q + 4096 * a' + 2048 * e' + 32 * b' + 2 * d' + z) (ha' : 0 ≤ a' ∧ a' < 2) (hb' : 0 ≤ b' ∧ b' < 64) (hd' : 0 ≤ d' ∧ d' < 16) (he' : 0 ≤ e' ∧ e' < 2) (hz : 0 ≤ z ∧ z < 2) :
    setOf 3 x v = 2147483648 * a' + 33554432 * b' + 4096 * c + 256 * d' + 128 * e' + g := by
  obtain ⟨f1, f2, f3, f4⟩ := flB hx ha hb hc hd he hg
  obtain ⟨g1, g2, g3, g4⟩ := flBv hv ha' hb' hd' he' hz
  unfold setOf
  rw [msk3, spr3, f1, f2, f3, f4, g1, g2, g3, g4]
  omega
theorem set5 {x v a b c d g q a' b' c' d' z : Int} (hx : x = 2147483648 * a + 2097152 * b + 1048576 * c + 4096 * d + g) (ha : 0 ≤ a ∧ a < 2) (hb : 0 ≤ b ∧ b < 1024) (hc : 0 ≤ c ∧ c < 2) (hd : 0 ≤ d ∧ d < 256) (hg : 0 ≤ g ∧ g < 4096)
    (hv : v = 2097152 * q + 1048576 * a' + 4096 * d' + 2048 * c' + 2 * b' + z) (ha' : 0 ≤ a' ∧ a' < 2) (hb' : 0 ≤ b' ∧ b' < 1024) (hc' : 0 ≤ c' ∧ c' < 2) (hd' : 0 ≤ d' ∧ d' < 256) (hz : 0 ≤ z ∧ z < 2) :
    setOf 5 x v = 2147483648 * a' + 2097152 * b' + 1048576 * c' + 4096 * d' + g := by
  obtain ⟨f1, f2, f3, f4⟩ := flJ hx ha hb hc hd hg
  obtain ⟨g1, g2, g3, g4⟩ := flJv hv ha' hb' hc' hd' hz
  unfold setOf
  rw [msk5, spr5, f1, f2, f3, f4, g1, g2, g3, g4]
  omega

/-- What is put is got. -/
theorem get_set (f x v : Int) (h0 : 0 ≤ x) (h1 : x ≤ 4294967295) (h : fitsOf f v = true) : getOf f (setOf f x v) = v := by
  revert x v
  refine forms (fun f => ∀ x v, 0 ≤ x → x ≤ 4294967295 → fitsOf f v = true → getOf f (setOf f x v) = v) ?_ ?_ ?_ ?_ ?_ ?_ f
  case refine_6 => intro f e1 e2 e3 e4 e5 x v h0 h1 h; simp [fitsOf, getOf, e1, e2, e3, e4, e5] at h ⊢; omega
  case refine_3 =>
    intro x v h0 h1 h
    obtain ⟨a, b, c, d, e, g, hx, ha, hb, hc, hd, he, hg⟩ := decB h0 h1
    obtain ⟨q, a', b', d', e', z, hv, ha', hb', hd', he', hz⟩ := decBv v
    obtain ⟨f1, f2, f3, f4⟩ := flB (set3 hx ha hb hc hd he hg hv ha' hb' hd' he' hz) ha' hb' hc hd' he' hg
    have e : getOf 3 (setOf 3 x v) = sgn 13 (rawOf 3 (setOf 3 x v)) := rfl
    rw [e, raw3, f1, f2, f3, f4, sgn13]
    simp [fitsOf] at h
    clear f1 f2 f3 f4 hx e
    omega
  case refine_5 =>
    intro x v h0 h1 h
    obtain ⟨a, b, c, d, g, hx, ha, hb, hc, hd, hg⟩ := decJ h0 h1
    obtain ⟨q, a', b', c', d', z, hv, ha', hb', hc', hd', hz⟩ := decJv v
    obtain ⟨f1, f2, f3, f4⟩ := flJ (set5 hx ha hb hc hd hg hv ha' hb' hc' hd' hz) ha' hb' hc' hd' hg
    have e : getOf 5 (setOf 5 x v) = sgn 21 (rawOf 5 (setOf 5 x v)) := rfl
    rw [e, raw5, f1, f2, f3, f4, sgn21]
    simp [fitsOf] at h
    clear f1 f2 f3 f4 hx e
    omega
  all_goals (intro x v h0 h1 h; simp [fitsOf, getOf, sgn12, sgn20, rawOf, setOf, mskOf, sprOf, fld] at h ⊢; omega)

/-- What is got fits. -/
theorem fits_get (f x : Int) : fitsOf f (getOf f x) = true := by
  revert x
  refine forms (fun f => ∀ x, fitsOf f (getOf f x) = true) ?_ ?_ ?_ ?_ ?_ ?_ f
  case refine_6 => intro f e1 e2 e3 e4 e5 x; simp [fitsOf, getOf, e1, e2, e3, e4, e5]
  all_goals (intro x; simp [fitsOf, getOf, sgn12, sgn13, sgn20, sgn21, rawOf, fld]; omega)

/-- What was got, put again, changes nothing. -/
theorem set_get (f x : Int) (h0 : 0 ≤ x) (h1 : x ≤ 4294967295) : setOf f x (getOf f x) = x := by
  revert x
  refine forms (fun f => ∀ x, 0 ≤ x → x ≤ 4294967295 → setOf f x (getOf f x) = x) ?_ ?_ ?_ ?_ ?_ ?_ f
  case refine_6 => intro f e1 e2 e3 e4 e5 x h0 h1; simp [setOf, mskOf, sprOf, e1, e2, e3, e4, e5]
  case refine_3 =>
    intro x h0 h1
    obtain ⟨a, b, c, d, e, g, hx, ha, hb, hc, hd, he, hg⟩ := decB h0 h1
    obtain ⟨f1, f2, f3, f4⟩ := flB hx ha hb hc hd he hg
    have e1 : getOf 3 x = sgn 13 (rawOf 3 x) := rfl
    rw [raw3, f1, f2, f3, f4, sgn13] at e1
    rw [set3 hx ha hb hc hd he hg (v := getOf 3 x) (q := -a) (a' := a) (b' := b) (d' := d) (e' := e) (z := 0) (by clear f1 f2 f3 f4 hx; omega) ha hb hd he (by decide)]
    exact hx.symm
  case refine_5 =>
    intro x h0 h1
    obtain ⟨a, b, c, d, g, hx, ha, hb, hc, hd, hg⟩ := decJ h0 h1
    obtain ⟨f1, f2, f3, f4⟩ := flJ hx ha hb hc hd hg
    have e1 : getOf 5 x = sgn 21 (rawOf 5 x) := rfl
    rw [raw5, f1, f2, f3, f4, sgn21] at e1
    rw [set5 hx ha hb hc hd hg (v := getOf 5 x) (q := -a) (a' := a) (b' := b) (c' := c) (d' := d) (z := 0) (by clear f1 f2 f3 f4 hx; omega) ha hb hc hd (by decide)]
    exact hx.symm
  all_goals (intro x h0 h1; simp [setOf, mskOf, sprOf, getOf, sgn12, sgn20, rawOf, fld]; try omega)

/-- A number fits where it comes back from its places. -/
theorem fits_spr (f v : Int) : decide (getOf f (sprOf f v) = v) = fitsOf f v := by
  cases h : fitsOf f v with
  | true =>
    have := get_set f 0 v (by decide) (by decide) h
    have e : setOf f 0 v = sprOf f v := by
      have := msk_bd f 0 (by decide) (by decide)
      unfold setOf; omega
    rw [e] at this
    simp [this]
  | false =>
    simp only [decide_eq_false_iff_not]
    intro e
    have := fits_get f (sprOf f v)
    rw [e, h] at this
    cases this

end Go.Proofs.YtgjfelkbblbjfaaGreatDoor

/- Contracts of package imm's calls: each returns what the plain functions say. -/
namespace Go.Proofs.YtgjfelkbblbjfaaGreatDoor
open Go.RowKit
set_option linter.unusedVariables false
set_option maxRecDepth 100000

theorem field_val {x : Int} {f n t : Nat} (h0 : 0 ≤ x) (h1 : x ≤ 4294967295) (hn : n ≤ 31) (ht : n + t ≤ 32) :
    bits .and .u32 (x / 2 ^ f) ((2 ^ n - 1) % 4294967296) * 2 ^ t % 4294967296 = fld x f n t := by
  have hn0 : (0 : Int) < 2 ^ n := Int.pow_pos (by decide)
  have hf0 : (0 : Int) < 2 ^ f := Int.pow_pos (by decide)
  have hn1 : (2 : Int) ^ n ≤ 2147483648 := by
    have := Nat.pow_le_pow_right (n := 2) (by decide) hn
    rw [two_cast]; omega
  have y0 : 0 ≤ x / 2 ^ f := Int.ediv_nonneg h0 (by omega)
  have y1 : x / 2 ^ f ≤ x := Int.ediv_le_self _ h0
  rw [Int.emod_eq_of_lt (a := 2 ^ n - 1) (by omega) (by omega), bits_mask .u32 32 (by decide) wraps_u32 n (by omega) _ y0 (by omega)]
  have hb := fld_lies x f n t
  have h2 := hb.1
  have h3 := hb.le
  have h4 : (2 ^ n - 1) * 2 ^ t < 2 ^ 32 := by
    have e : 2 ^ n * 2 ^ t ≤ 2 ^ 32 := by rw [← Nat.pow_add]; exact Nat.pow_le_pow_right (by decide) ht
    have := Nat.two_pow_pos t
    rw [Nat.sub_mul, Nat.one_mul]; omega
  unfold fld at *
  omega

theorem field_any (x : Int) (f n t : Nat) (w : World) (h0 : 0 ≤ x) (h1 : x ≤ 4294967295) (hf : f ≤ 31) (hn : n ≤ 31) (ht : n + t ≤ 32) (ht' : t ≤ 31) :
    Calls Tryz.prog 122 #[.int .u32 x, .int .u64 f, .int .u64 n, .int .u64 t] w fun e w' => e = .returned (.int .u32 (fld x f n t)) ∧ w' = w := by
  have H := hide (field_val (f := f) h0 h1 hn ht)
  go_enter Tryz.func122, Tryz.ntmps122
  go_wp2
  go_ret
  exact ⟨by rw [← H.out]; rfl, rfl⟩

theorem sign_any (x b : Int) (w : World) (h0 : 0 ≤ x) (h1 : x ≤ 18446744073709551615) (b0 : -9223372036854775808 ≤ b) (b1 : b ≤ 9223372036854775807) :
    Calls Tryz.prog 129 #[.int .u64 x, .int .i64 b] w fun e w' => e = .returned (.int .i64 (signOf x b)) ∧ w' = w := by
  by_cases hb : b < 1
  · go_enter Tryz.func129, Tryz.ntmps129
    go_wp2
    go_ret
    exact ⟨by unfold signOf; rw [if_pos hb]; rfl, rfl⟩
  · by_cases hc : b ≤ 64
    · have H := hide (sgn_shift (k := b.toNat) (u := (64 - b).toNat) (by omega) (by omega) x)
      go_enter Tryz.func129, Tryz.ntmps129
      go_wp2
      go_ret
      exact ⟨by unfold signOf; rw [if_neg (by omega), show (min b 64).toNat = b.toNat by omega, ← H.out]; rfl, rfl⟩
    · go_enter Tryz.func129, Tryz.ntmps129
      go_wp2
      go_ret
      exact ⟨by unfold signOf; rw [if_neg (by omega), show (min b 64).toNat = 64 by omega, sgn64]; rfl, rfl⟩

theorem sgn_of {x : Int} {b : Nat} (h0 : 1 ≤ b) (h1 : b ≤ 64) : signOf x b = sgn b x := by
  unfold signOf; rw [if_neg (by omega), show (min (b : Int) 64).toNat = b by omega]

theorem signed_any (x : Int) (b : Nat) (w : World) (h0 : 0 ≤ x) (h1 : x ≤ 4294967295) (b0 : 1 ≤ b) (b1 : b ≤ 32) :
    Calls Tryz.prog 121 #[.int .u32 x, .int .i64 b] w fun e w' => e = .returned (.int .i64 (sgn b x)) ∧ w' = w := by
  have hc := sign_any x b w h0 (by omega) (by omega) (by omega)
  rw [sgn_of b0 (by omega)] at hc
  go_enter Tryz.func121, Tryz.ntmps121
  go_wp2_with (go_at_call 129; refine hc.mono ?_; rintro e w' ⟨rfl, rfl⟩)
  go_ret
  exact ⟨rfl, rfl⟩

theorem get1 (x : Int) (w : World) (h0 : 0 ≤ x) (h1 : x ≤ 4294967295) :
    Calls Tryz.prog 106 #[.int .i64 1, .int .u32 x] w fun e w' => e = .returned (.int .i64 (getOf 1 x)) ∧ w' = w := by
  have l0 : Lies (fld x 20 12 0) 4095 := fld_lies x 20 12 0
  have hb0 := l0.1
  have hb1 := l0.le
  clear l0
  have E : Hid (getOf 1 x = sgn 12 (fld x 20 12 0)) := rfl
  have cs := hide (fun W : World => signed_any (fld x 20 12 0) 12 W hb0 (by omega) (by decide) (by decide))
  have cf := hide (fun (f n t : Nat) (hf : f ≤ 31) (hn : n ≤ 31) (ht : n + t ≤ 32) (ht' : t ≤ 31) (W : World) => field_any x f n t W h0 h1 hf hn ht ht')
  go_enter Tryz.func106, Tryz.ntmps106
  go_wp2_with fail
  refine (cf.out 20 12 0 (by decide) (by decide) (by decide) (by decide) _).mono ?_
  rintro e W ⟨rfl, hW⟩
  rw [hW]
  clear hW W
  go_wp2_with fail
  refine (cs.out _).mono ?_
  rintro e W ⟨rfl, hW⟩
  rw [hW]
  clear hW W
  go_wp2
  go_ret
  exact ⟨by rw [E.out]; rfl, rfl⟩



theorem get2 (x : Int) (w : World) (h0 : 0 ≤ x) (h1 : x ≤ 4294967295) :
    Calls Tryz.prog 106 #[.int .i64 2, .int .u32 x] w fun e w' => e = .returned (.int .i64 (getOf 2 x)) ∧ w' = w := by
  have l0 : Lies (fld x 25 7 5) 4064 := fld_lies x 25 7 5
  have k1 : Lies (fld x 7 5 0) 31 := fld_lies x 7 5 0
  have q1 := hide (l0.or k1 (by decide) (by decide) (by decide))
  have l1 : Lies ((fld x 25 7 5) + fld x 7 5 0) 4095 := l0.add k1 (by decide)
  have hb0 := l1.1
  have hb1 := l1.le
  clear l0 k1
  clear l1
  have E : Hid (getOf 2 x = sgn 12 (fld x 25 7 5 + fld x 7 5 0)) := rfl
  have cs := hide (fun W : World => signed_any (fld x 25 7 5 + fld x 7 5 0) 12 W hb0 (by omega) (by decide) (by decide))
  have cf := hide (fun (f n t : Nat) (hf : f ≤ 31) (hn : n ≤ 31) (ht : n + t ≤ 32) (ht' : t ≤ 31) (W : World) => field_any x f n t W h0 h1 hf hn ht ht')
  go_enter Tryz.func106, Tryz.ntmps106
  go_wp2_with fail
  refine (cf.out 25 7 5 (by decide) (by decide) (by decide) (by decide) _).mono ?_
  rintro e W ⟨rfl, hW⟩
  rw [hW]
  clear hW W
  go_wp2_with fail
  refine (cf.out 7 5 0 (by decide) (by decide) (by decide) (by decide) _).mono ?_
  rintro e W ⟨rfl, hW⟩
  rw [hW]
  clear hW W
  go_wp2_with fail
  rw [q1.out]
  refine (cs.out _).mono ?_
  rintro e W ⟨rfl, hW⟩
  rw [hW]
  clear hW W
  go_wp2
  go_ret
  exact ⟨by rw [E.out]; rfl, rfl⟩



theorem get3 (x : Int) (w : World) (h0 : 0 ≤ x) (h1 : x ≤ 4294967295) :
    Calls Tryz.prog 106 #[.int .i64 3, .int .u32 x] w fun e w' => e = .returned (.int .i64 (getOf 3 x)) ∧ w' = w := by
  have l0 : Lies (fld x 31 1 12) 4096 := fld_lies x 31 1 12
  have k1 : Lies (fld x 7 1 11) 2048 := fld_lies x 7 1 11
  have q1 := hide (l0.or k1 (by decide) (by decide) (by decide))
  have l1 : Lies ((fld x 31 1 12) + fld x 7 1 11) 6144 := l0.add k1 (by decide)
  have k2 : Lies (fld x 25 6 5) 2016 := fld_lies x 25 6 5
  have q2 := hide (l1.or k2 (by decide) (by decide) (by decide))
  have l2 : Lies (((fld x 31 1 12) + fld x 7 1 11) + fld x 25 6 5) 8160 := l1.add k2 (by decide)
  have k3 : Lies (fld x 8 4 1) 30 := fld_lies x 8 4 1
  have q3 := hide (l2.or k3 (by decide) (by decide) (by decide))
  have l3 : Lies ((((fld x 31 1 12) + fld x 7 1 11) + fld x 25 6 5) + fld x 8 4 1) 8190 := l2.add k3 (by decide)
  have hb0 := l3.1
  have hb1 := l3.le
  clear l0 k1
  clear l1 k2
  clear l2 k3
  clear l3
  have E : Hid (getOf 3 x = sgn 13 (fld x 31 1 12 + fld x 7 1 11 + fld x 25 6 5 + fld x 8 4 1)) := rfl
  have cs := hide (fun W : World => signed_any (fld x 31 1 12 + fld x 7 1 11 + fld x 25 6 5 + fld x 8 4 1) 13 W hb0 (by omega) (by decide) (by decide))
  have cf := hide (fun (f n t : Nat) (hf : f ≤ 31) (hn : n ≤ 31) (ht : n + t ≤ 32) (ht' : t ≤ 31) (W : World) => field_any x f n t W h0 h1 hf hn ht ht')
  go_enter Tryz.func106, Tryz.ntmps106
  go_wp2_with fail
  refine (cf.out 31 1 12 (by decide) (by decide) (by decide) (by decide) _).mono ?_
  rintro e W ⟨rfl, hW⟩
  rw [hW]
  clear hW W
  go_wp2_with fail
  refine (cf.out 7 1 11 (by decide) (by decide) (by decide) (by decide) _).mono ?_
  rintro e W ⟨rfl, hW⟩
  rw [hW]
  clear hW W
  go_wp2_with fail
  refine (cf.out 25 6 5 (by decide) (by decide) (by decide) (by decide) _).mono ?_
  rintro e W ⟨rfl, hW⟩
  rw [hW]
  clear hW W
  go_wp2_with fail
  refine (cf.out 8 4 1 (by decide) (by decide) (by decide) (by decide) _).mono ?_
  rintro e W ⟨rfl, hW⟩
  rw [hW]
  clear hW W
  go_wp2_with fail
  rw [q1.out]
  rw [q2.out]
  rw [q3.out]
  refine (cs.out _).mono ?_
  rintro e W ⟨rfl, hW⟩
  rw [hW]
  clear hW W
  go_wp2
  go_ret
  exact ⟨by rw [E.out]; rfl, rfl⟩



theorem get4 (x : Int) (w : World) (h0 : 0 ≤ x) (h1 : x ≤ 4294967295) :
    Calls Tryz.prog 106 #[.int .i64 4, .int .u32 x] w fun e w' => e = .returned (.int .i64 (getOf 4 x)) ∧ w' = w := by
  have l0 : Lies (fld x 12 20 0) 1048575 := fld_lies x 12 20 0
  have hb0 := l0.1
  have hb1 := l0.le
  clear l0
  have E : Hid (getOf 4 x = sgn 20 (fld x 12 20 0)) := rfl
  have cs := hide (fun W : World => signed_any (fld x 12 20 0) 20 W hb0 (by omega) (by decide) (by decide))
  have cf := hide (fun (f n t : Nat) (hf : f ≤ 31) (hn : n ≤ 31) (ht : n + t ≤ 32) (ht' : t ≤ 31) (W : World) => field_any x f n t W h0 h1 hf hn ht ht')
  go_enter Tryz.func106, Tryz.ntmps106
  go_wp2_with fail
  refine (cf.out 12 20 0 (by decide) (by decide) (by decide) (by decide) _).mono ?_
  rintro e W ⟨rfl, hW⟩
  rw [hW]
  clear hW W
  go_wp2_with fail
  refine (cs.out _).mono ?_
  rintro e W ⟨rfl, hW⟩
  rw [hW]
  clear hW W
  go_wp2
  go_ret
  exact ⟨by rw [E.out]; rfl, rfl⟩



theorem get5 (x : Int) (w : World) (h0 : 0 ≤ x) (h1 : x ≤ 4294967295) :
    Calls Tryz.prog 106 #[.int .i64 5, .int .u32 x] w fun e w' => e = .returned (.int .i64 (getOf 5 x)) ∧ w' = w := by
  have l0 : Lies (fld x 31 1 20) 1048576 := fld_lies x 31 1 20
  have k1 : Lies (fld x 12 8 12) 1044480 := fld_lies x 12 8 12
  have q1 := hide (l0.or k1 (by decide) (by decide) (by decide))
  have l1 : Lies ((fld x 31 1 20) + fld x 12 8 12) 2093056 := l0.add k1 (by decide)
  have k2 : Lies (fld x 20 1 11) 2048 := fld_lies x 20 1 11
  have q2 := hide (l1.or k2 (by decide) (by decide) (by decide))
  have l2 : Lies (((fld x 31 1 20) + fld x 12 8 12) + fld x 20 1 11) 2095104 := l1.add k2 (by decide)
  have k3 : Lies (fld x 21 10 1) 2046 := fld_lies x 21 10 1
  have q3 := hide (l2.or k3 (by decide) (by decide) (by decide))
  have l3 : Lies ((((fld x 31 1 20) + fld x 12 8 12) + fld x 20 1 11) + fld x 21 10 1) 2097150 := l2.add k3 (by decide)
  have hb0 := l3.1
  have hb1 := l3.le
  clear l0 k1
  clear l1 k2
  clear l2 k3
  clear l3
  have E : Hid (getOf 5 x = sgn 21 (fld x 31 1 20 + fld x 12 8 12 + fld x 20 1 11 + fld x 21 10 1)) := rfl
  have cs := hide (fun W : World => signed_any (fld x 31 1 20 + fld x 12 8 12 + fld x 20 1 11 + fld x 21 10 1) 21 W hb0 (by omega) (by decide) (by decide))
  have cf := hide (fun (f n t : Nat) (hf : f ≤ 31) (hn : n ≤ 31) (ht : n + t ≤ 32) (ht' : t ≤ 31) (W : World) => field_any x f n t W h0 h1 hf hn ht ht')
  go_enter Tryz.func106, Tryz.ntmps106
  go_wp2_with fail
  refine (cf.out 31 1 20 (by decide) (by decide) (by decide) (by decide) _).mono ?_
  rintro e W ⟨rfl, hW⟩
  rw [hW]
  clear hW W
  go_wp2_with fail
  refine (cf.out 12 8 12 (by decide) (by decide) (by decide) (by decide) _).mono ?_
  rintro e W ⟨rfl, hW⟩
  rw [hW]
  clear hW W
  go_wp2_with fail
  refine (cf.out 20 1 11 (by decide) (by decide) (by decide) (by decide) _).mono ?_
  rintro e W ⟨rfl, hW⟩
  rw [hW]
  clear hW W
  go_wp2_with fail
  refine (cf.out 21 10 1 (by decide) (by decide) (by decide) (by decide) _).mono ?_
  rintro e W ⟨rfl, hW⟩
  rw [hW]
  clear hW W
  go_wp2_with fail
  rw [q1.out]
  rw [q2.out]
  rw [q3.out]
  refine (cs.out _).mono ?_
  rintro e W ⟨rfl, hW⟩
  rw [hW]
  clear hW W
  go_wp2
  go_ret
  exact ⟨by rw [E.out]; rfl, rfl⟩



theorem get_any (f x : Int) (w : World) (h0 : 0 ≤ x) (h1 : x ≤ 4294967295) :
    Calls Tryz.prog 106 #[.int .i64 f, .int .u32 x] w fun e w' => e = .returned (.int .i64 (getOf f x)) ∧ w' = w := by
  refine forms (fun f => Calls Tryz.prog 106 #[.int .i64 f, .int .u32 x] w fun e w' => e = .returned (.int .i64 (getOf f x)) ∧ w' = w) (get1 x w h0 h1) (get2 x w h0 h1) (get3 x w h0 h1) (get4 x w h0 h1) (get5 x w h0 h1) ?_ f
  intro f e1 e2 e3 e4 e5
  have E := hide (show getOf f x = 0 by simp [getOf, e1, e2, e3, e4, e5])
  go_enter Tryz.func106, Tryz.ntmps106
  go_wp2
  go_ret
  exact ⟨by rw [E.out]; rfl, rfl⟩



end Go.Proofs.YtgjfelkbblbjfaaGreatDoor

/- Contracts of imm.Fits, Put, Hi, Lo, over those of Get and spread. -/
namespace Go.Proofs.YtgjfelkbblbjfaaGreatDoor
open Go.RowKit
set_option linter.unusedVariables false
set_option maxRecDepth 100000
set_option linter.unusedSimpArgs false

theorem fm_le (f : Int) : fmOf f ≤ 4294967295 := by unfold fmOf; split <;> (try split) <;> (try split) <;> (try split) <;> (try split) <;> omega

theorem spr_ones (f : Int) : sprOf f 4294967295 = fmOf f := by
  refine forms (fun f => sprOf f 4294967295 = fmOf f) rfl rfl rfl rfl rfl ?_ f
  intro f e1 e2 e3 e4 e5
  simp [sprOf, fmOf, e1, e2, e3, e4, e5]

theorem spr_mod (f v : Int) : sprOf f (v % 4294967296) = sprOf f v := by
  refine forms (fun f => sprOf f (v % 4294967296) = sprOf f v) ?_ ?_ ?_ ?_ ?_ ?_ f
  case refine_6 => intro f e1 e2 e3 e4 e5; simp [sprOf, e1, e2, e3, e4, e5]
  case refine_1 =>
    have a1 : v % 4294967296 % 4096 = v % 4096 := by omega
    simp [sprOf, fld, a1]
  case refine_2 =>
    have a1 : v % 4294967296 / 32 % 128 = v / 32 % 128 := by omega
    have a2 : v % 4294967296 % 32 = v % 32 := by omega
    simp [sprOf, fld, a1, a2]
  case refine_3 =>
    have a1 : v % 4294967296 / 4096 % 2 = v / 4096 % 2 := by omega
    have a2 : v % 4294967296 / 2048 % 2 = v / 2048 % 2 := by omega
    have a3 : v % 4294967296 / 32 % 64 = v / 32 % 64 := by omega
    have a4 : v % 4294967296 / 2 % 16 = v / 2 % 16 := by omega
    simp [sprOf, fld, a1, a2, a3, a4]
  case refine_4 =>
    have a1 : v % 4294967296 % 1048576 = v % 1048576 := by omega
    simp [sprOf, fld, a1]
  case refine_5 =>
    have a1 : v % 4294967296 / 1048576 % 2 = v / 1048576 % 2 := by omega
    have a2 : v % 4294967296 / 4096 % 256 = v / 4096 % 256 := by omega
    have a3 : v % 4294967296 / 2048 % 2 = v / 2048 % 2 := by omega
    have a4 : v % 4294967296 / 2 % 1024 = v / 2 % 1024 := by omega
    simp [sprOf, fld, a1, a2, a3, a4]

theorem spr_lies (f v : Int) : Lies (sprOf f v) (fmOf f) := by
  refine forms (fun f => Lies (sprOf f v) (fmOf f)) ?_ ?_ ?_ ?_ ?_ ?_ f
  case refine_6 => intro f e1 e2 e3 e4 e5; simp [sprOf, fmOf, Lies, e1, e2, e3, e4, e5]
  case refine_1 => exact fld_lies v 0 12 20
  case refine_2 => exact (fld_lies v 5 7 25).add (fld_lies v 0 5 7) (by decide)
  case refine_3 => exact (((fld_lies v 12 1 31).add (fld_lies v 11 1 7) (by decide)).add (fld_lies v 5 6 25) (by decide)).add (fld_lies v 1 4 8) (by decide)
  case refine_4 => exact fld_lies v 0 20 12
  case refine_5 => exact (((fld_lies v 20 1 31).add (fld_lies v 12 8 12) (by decide)).add (fld_lies v 11 1 20) (by decide)).add (fld_lies v 1 10 21) (by decide)

/-- The parts that a mask of several fields takes. -/
theorem take_one (x : Nat) (n t : Nat) : ((x &&& ((2 ^ n - 1) * 2 ^ t) : Nat) : Int) = fld x t n t := by
  rw [and_field, fld_nat]
theorem take_two (x m1 m2 : Nat) (h : m1 &&& m2 = 0) : ((x &&& (m1 ||| m2) : Nat) : Int) = ((x &&& m1 : Nat) : Int) + ((x &&& m2 : Nat) : Int) := by
  rw [Nat.and_or_distrib_left, or_of_and]
  · simp
  · rw [Nat.and_comm x m1, Nat.and_assoc, ← Nat.and_assoc x, Nat.and_self, Nat.and_comm x m2, ← Nat.and_assoc, h, Nat.zero_and]

theorem msk_take (f : Int) (x : Nat) : ((x &&& fmOf f : Nat) : Int) = mskOf f x := by
  refine forms (fun f => ((x &&& fmOf f : Nat) : Int) = mskOf f x) ?_ ?_ ?_ ?_ ?_ ?_ f
  case refine_6 => intro f e1 e2 e3 e4 e5; simp [mskOf, fmOf, e1, e2, e3, e4, e5]
  case refine_1 => exact take_one x 12 20
  case refine_2 =>
    have e : fmOf 2 = ((2 ^ 7 - 1) * 2 ^ 25) ||| ((2 ^ 5 - 1) * 2 ^ 7) := by decide
    rw [e, take_two _ _ _ (by decide), take_one, take_one]; rfl
  case refine_3 =>
    have e : fmOf 3 = ((((2 ^ 1 - 1) * 2 ^ 31) ||| ((2 ^ 1 - 1) * 2 ^ 7)) ||| ((2 ^ 6 - 1) * 2 ^ 25)) ||| ((2 ^ 4 - 1) * 2 ^ 8) := by decide
    rw [e, take_two _ _ _ (by decide), take_two _ _ _ (by decide), take_two _ _ _ (by decide), take_one, take_one, take_one, take_one]; rfl
  case refine_4 => exact take_one x 20 12
  case refine_5 =>
    have e : fmOf 5 = ((((2 ^ 1 - 1) * 2 ^ 31) ||| ((2 ^ 8 - 1) * 2 ^ 12)) ||| ((2 ^ 1 - 1) * 2 ^ 20)) ||| ((2 ^ 10 - 1) * 2 ^ 21) := by decide
    rw [e, take_two _ _ _ (by decide), take_two _ _ _ (by decide), take_two _ _ _ (by decide), take_one, take_one, take_one, take_one]; rfl

theorem fm_apart (f : Int) : (4294967295 - fmOf f) &&& fmOf f = 0 := by
  refine forms (fun f => (4294967295 - fmOf f) &&& fmOf f = 0) (by decide) (by decide) (by decide) (by decide) (by decide) ?_ f
  intro f e1 e2 e3 e4 e5
  simp [fmOf, e1, e2, e3, e4, e5]

theorem left_val (f x : Int) (h0 : 0 ≤ x) (h1 : x ≤ 4294967295) : bits .andNot .u32 x (fmOf f) = x - mskOf f x := by
  rw [not_and x (fmOf f) h0 h1 (fm_le f), msk_take f x.toNat, Int.toNat_of_nonneg h0]

theorem set_val (f x v : Int) (h0 : 0 ≤ x) (h1 : x ≤ 4294967295) : bits .or .u32 (bits .andNot .u32 x (fmOf f)) (sprOf f v) = setOf f x v := by
  have hl := fm_le f
  have hn := not_lies x (fmOf f) hl
  rw [hn.or (spr_lies f v) (fm_apart f) (by omega) (by omega), left_val f x h0 h1]
  rfl

theorem set_bd (f x v : Int) (h0 : 0 ≤ x) (h1 : x ≤ 4294967295) : 0 ≤ setOf f x v ∧ setOf f x v ≤ 4294967295 := by
  rw [← set_val f x v h0 h1]
  exact bits_bd ..
theorem put_bd (f x v : Int) (h0 : 0 ≤ x) (h1 : x ≤ 4294967295) : 0 ≤ putOf f x v ∧ putOf f x v ≤ 4294967295 := by
  have := set_bd f x v h0 h1
  unfold putOf; split <;> omega







theorem sign_mod (v : Int) : signOf (v % 18446744073709551616) 12 = loOf v := by
  have e : ∀ x, signOf x 12 = sgn 12 x := fun x => rfl
  unfold loOf
  rw [e, e, sgn12, sgn12]; omega



end Go.Proofs.YtgjfelkbblbjfaaGreatDoor

/- Plain facts on the words of instructions: the tables of the program, what the layer's calls say in numbers. Nothing is walked here. -/
namespace Go.Proofs.YtgjfelkbblbjfaaGreatDoor
open Go.RowKit
set_option linter.unusedVariables false
set_option maxRecDepth 100000

def wordsL : List Int := [0, 55, 23, 111, 103, 99, 4195, 16483, 20579, 24675, 28771, 3, 4099, 8195, 12291, 16387, 20483, 24579, 35, 4131, 8227, 12323, 19, 8211, 12307, 16403, 24595, 28691, 4115, 20499, 1073762323, 51, 1073741875, 4147, 8243, 12339, 16435, 20531, 1073762355, 24627, 28723, 27, 4123, 20507, 1073762331, 59, 1073741883, 4155, 20539, 1073762363, 33554483, 33558579, 33562675, 33566771, 33570867, 33574963, 33579059, 33583155, 33554491, 33570875, 33574971, 33579067, 33583163, 15, 115, 1048691]
def namesL : List (List UInt8) := [[], [108, 117, 105], [97, 117, 105, 112, 99], [106, 97, 108], [106, 97, 108, 114], [98, 101, 113], [98, 110, 101], [98, 108, 116], [98, 103, 101], [98, 108, 116, 117], [98, 103, 101, 117], [108, 98], [108, 104], [108, 119], [108, 100], [108, 98, 117], [108, 104, 117], [108, 119, 117], [115, 98], [115, 104], [115, 119], [115, 100], [97, 100, 100, 105], [115, 108, 116, 105], [115, 108, 116, 105, 117], [120, 111, 114, 105], [111, 114, 105], [97, 110, 100, 105], [115, 108, 108, 105], [115, 114, 108, 105], [115, 114, 97, 105], [97, 100, 100], [115, 117, 98], [115, 108, 108], [115, 108, 116], [115, 108, 116, 117], [120, 111, 114], [115, 114, 108], [115, 114, 97], [111, 114], [97, 110, 100], [97, 100, 100, 105, 119], [115, 108, 108, 105, 119], [115, 114, 108, 105, 119], [115, 114, 97, 105, 119], [97, 100, 100, 119], [115, 117, 98, 119], [115, 108, 108, 119], [115, 114, 108, 119], [115, 114, 97, 119], [109, 117, 108], [109, 117, 108, 104], [109, 117, 108, 104, 115, 117], [109, 117, 108, 104, 117], [100, 105, 118], [100, 105, 118, 117], [114, 101, 109], [114, 101, 109, 117], [109, 117, 108, 119], [100, 105, 118, 119], [100, 105, 118, 117, 119], [114, 101, 109, 119], [114, 101, 109, 117, 119], [102, 101, 110, 99, 101], [101, 99, 97, 108, 108], [101, 98, 114, 101, 97, 107]]

/-- The word, the name in the tables at a place. -/
def wd (k : Nat) : Int := wordsL.getD k 0
def nm (k : Nat) : ByteArray := ⟨(namesL.getD k []).toArray⟩

/-- A word's opcode, its funct3. -/
def cd (x : Int) : Int := x / 2 ^ 0 % 2 ^ 7
def f3 (x : Int) : Int := x / 2 ^ 12 % 2 ^ 3
theorem cd_is (x : Int) : cd x = x % 128 := by unfold cd; simp
theorem f3_is (x : Int) : f3 x = x / 4096 % 8 := by unfold f3; simp

/-- The form of an opcode. -/
def fmc (c : Int) : Int :=
  if c = 51 ∨ c = 59 then 0 else if c = 103 ∨ c = 3 ∨ c = 19 ∨ c = 27 then 1 else if c = 35 then 2 else if c = 99 then 3 else if c = 55 ∨ c = 23 then 4 else if c = 111 then 5 else 6
/-- How many bits say how far. -/
def shb (x : Int) : Int :=
  if f3 x ≠ 1 ∧ f3 x ≠ 5 then 0 else if cd x = 19 then 6 else if cd x = 27 then 5 else 0
def upp (x : Int) : Int :=
  if shb x = 6 then x / 67108864 else if shb x = 5 then x / 33554432 else if fmc (cd x) = 0 then x / 33554432 else 0
def ke2 (x : Int) : Int := if cd x = 55 ∨ cd x = 23 ∨ cd x = 111 ∨ cd x = 115 then 0 else f3 x
def ke3 (x : Int) : Int := if cd x = 55 ∨ cd x = 23 ∨ cd x = 111 then 0 else if cd x = 115 then x / 128 else upp x

/-- The word is one of the operation's. -/
def Mt (k : Nat) (x : Int) : Prop := cd (wd k) = cd x ∧ ke2 (wd k) = ke2 x ∧ ke3 (wd k) = ke3 x
instance (k : Nat) (x : Int) : Decidable (Mt k x) := by unfold Mt; infer_instance

def knw (op : Int) : Bool := decide (0 < op) && decide (op < 66)
def fmo (op : Int) : Int := if knw op = true then fmc (cd (wd op.toNat)) else 6
def nmo (op : Int) : ByteArray := if knw op = true then nm op.toNat else ⟨#[]⟩
def hasD (f : Int) : Bool := decide (f = 0 ∨ f = 1 ∨ f = 4 ∨ f = 5)
def has1 (f : Int) : Bool := decide (f = 0 ∨ f = 1 ∨ f = 2 ∨ f = 3)
def has2 (f : Int) : Bool := decide (f = 0 ∨ f = 2 ∨ f = 3)
def isr (r : Int) : Bool := decide (0 ≤ r) && decide (r < 32)

theorem cd_bd (x : Int) : 0 ≤ cd x ∧ cd x ≤ 127 := by rw [cd_is]; omega
theorem f3_bd (x : Int) : 0 ≤ f3 x ∧ f3 x ≤ 7 := by rw [f3_is]; omega
theorem shb_cases (x : Int) : shb x = 0 ∨ shb x = 5 ∨ shb x = 6 := by unfold shb; split <;> (try split) <;> (try split) <;> simp
theorem upp_bd {x : Int} (h0 : 0 ≤ x) (h1 : x ≤ 4294967295) : 0 ≤ upp x ∧ upp x ≤ 127 := by unfold upp; split <;> (try split) <;> (try split) <;> omega
theorem ke2_bd (x : Int) : 0 ≤ ke2 x ∧ ke2 x ≤ 7 := by
  have := f3_bd x
  unfold ke2; split <;> omega
theorem ke3_bd {x : Int} (h0 : 0 ≤ x) (h1 : x ≤ 4294967295) : 0 ≤ ke3 x ∧ ke3 x ≤ 33554431 := by
  have := upp_bd h0 h1
  unfold ke3; split <;> (try split) <;> omega
theorem fmc_bd (c : Int) : 0 ≤ fmc c ∧ fmc c ≤ 6 := by unfold fmc; repeat' split
                                                       all_goals omega
theorem wd_all : ∀ k, k < 66 → 0 ≤ wd k ∧ wd k ≤ 4294967295 := by decide +kernel
theorem wd_bd (k : Nat) : 0 ≤ wd k ∧ wd k ≤ 4294967295 := by
  by_cases h : k < 66
  · exact wd_all k h
  · have : wd k = 0 := by
      have hl : wordsL.length = 66 := by decide
      unfold wd
      rw [List.getD_eq_getElem?_getD, List.getElem?_eq_none (by omega)]
      rfl
    omega

end Go.Proofs.YtgjfelkbblbjfaaGreatDoor
