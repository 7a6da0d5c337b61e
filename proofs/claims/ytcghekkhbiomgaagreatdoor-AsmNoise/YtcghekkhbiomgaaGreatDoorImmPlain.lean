/- What the document says of immediates, as plain functions of numbers, and the facts on them. Nothing of the program is named. -/
import Derived.Test.YtcghekkhbiomgaaGreatDoorFlds
namespace Go.Proofs.YtcghekkhbiomgaaGreatDoor
open Go.RowKit
set_option linter.unusedVariables false
set_option maxRecDepth 100000
set_option linter.unusedSimpArgs false

/-- The immediate's bits, without a sign. -/
def rawOf (form x : Int) : Int :=
  if form = 1 then fld x 20 12 0
  else if form = 2 then fld x 25 7 5 + fld x 7 5 0
  else if form = 3 then fld x 31 1 12 + fld x 7 1 11 + fld x 25 6 5 + fld x 8 4 1
  else if form = 4 then fld x 12 20 0
  else if form = 5 then fld x 31 1 20 + fld x 12 8 12 + fld x 20 1 11 + fld x 21 10 1
  else 0
def getOf (form x : Int) : Int :=
  if form = 1 then sgn 12 (rawOf 1 x)
  else if form = 2 then sgn 12 (rawOf 2 x)
  else if form = 3 then sgn 13 (rawOf 3 x)
  else if form = 4 then sgn 20 (rawOf 4 x)
  else if form = 5 then sgn 21 (rawOf 5 x)
  else 0
/-- A number's bits in an immediate's places. -/
def sprOf (form v : Int) : Int :=
  if form = 1 then fld v 0 12 20
  else if form = 2 then fld v 5 7 25 + fld v 0 5 7
  else if form = 3 then fld v 12 1 31 + fld v 11 1 7 + fld v 5 6 25 + fld v 1 4 8
  else if form = 4 then fld v 0 20 12
  else if form = 5 then fld v 20 1 31 + fld v 12 8 12 + fld v 11 1 20 + fld v 1 10 21
  else 0
/-- A word's bits that are the immediate's. -/
def mskOf (form x : Int) : Int :=
  if form = 1 then fld x 20 12 20
  else if form = 2 then fld x 25 7 25 + fld x 7 5 7
  else if form = 3 then fld x 31 1 31 + fld x 7 1 7 + fld x 25 6 25 + fld x 8 4 8
  else if form = 4 then fld x 12 20 12
  else if form = 5 then fld x 31 1 31 + fld x 12 8 12 + fld x 20 1 20 + fld x 21 10 21
  else 0
def fitsOf (form v : Int) : Bool :=
  if form = 1 then decide (-2048 ≤ v ∧ v ≤ 2047)
  else if form = 2 then decide (-2048 ≤ v ∧ v ≤ 2047)
  else if form = 3 then decide (-4096 ≤ v ∧ v ≤ 4095 ∧ v % 2 = 0)
  else if form = 4 then decide (-524288 ≤ v ∧ v ≤ 524287)
  else if form = 5 then decide (-1048576 ≤ v ∧ v ≤ 1048575 ∧ v % 2 = 0)
  else decide (v = 0)
/-- The mask of a form's places. -/
def fmOf (form : Int) : Nat :=
  if form = 1 then 4293918720 else if form = 2 then 4261416832 else if form = 3 then 4261416832 else if form = 4 then 4294963200 else if form = 5 then 4294963200 else 0
def setOf (form x v : Int) : Int := x - mskOf form x + sprOf form v
def putOf (form x v : Int) : Int := if fitsOf form v = true then setOf form x v else 0
def signOf (x b : Int) : Int := if b < 1 then 0 else sgn (min b 64).toNat x
def hiOf (v : Int) : Int := wrap64 (v + 2048) / 4096
def loOf (v : Int) : Int := signOf v 12

theorem sgn12 (x : Int) : sgn 12 x = (x + 2048) % 4096 - 2048 := rfl
theorem sgn13 (x : Int) : sgn 13 x = (x + 4096) % 8192 - 4096 := rfl
theorem sgn20 (x : Int) : sgn 20 x = (x + 524288) % 1048576 - 524288 := rfl
theorem sgn21 (x : Int) : sgn 21 x = (x + 1048576) % 2097152 - 1048576 := rfl
theorem sgn64 (x : Int) : sgn 64 x = wrap64 x := by simp [sgn, wrap64]

theorem forms (P : Int → Prop) (h1 : P 1) (h2 : P 2) (h3 : P 3) (h4 : P 4) (h5 : P 5) (h : ∀ f, f ≠ 1 → f ≠ 2 → f ≠ 3 → f ≠ 4 → f ≠ 5 → P f) (f : Int) : P f := by
  by_cases e1 : f = 1
  · rw [e1]; exact h1
  by_cases e2 : f = 2
  · rw [e2]; exact h2
  by_cases e3 : f = 3
  · rw [e3]; exact h3
  by_cases e4 : f = 4
  · rw [e4]; exact h4
  by_cases e5 : f = 5
  · rw [e5]; exact h5
  exact h f e1 e2 e3 e4 e5

theorem spr_bd (f v : Int) : 0 ≤ sprOf f v ∧ sprOf f v ≤ 4294967295 := by
  revert v
  refine forms (fun f => ∀ v, 0 ≤ sprOf f v ∧ sprOf f v ≤ 4294967295) ?_ ?_ ?_ ?_ ?_ ?_ f
  case refine_6 => intro f e1 e2 e3 e4 e5 v; simp [sprOf, e1, e2, e3, e4, e5]
  all_goals (intro v; simp [sprOf, fld]; omega)

theorem msk_bd (f x : Int) (h0 : 0 ≤ x) (h1 : x ≤ 4294967295) : 0 ≤ mskOf f x ∧ mskOf f x ≤ x := by
  revert x
  refine forms (fun f => ∀ x, 0 ≤ x → x ≤ 4294967295 → 0 ≤ mskOf f x ∧ mskOf f x ≤ x) ?_ ?_ ?_ ?_ ?_ ?_ f
  case refine_6 => intro f e1 e2 e3 e4 e5 x h0 h1; simp [mskOf, e1, e2, e3, e4, e5, h0]
  all_goals (intro x h0 h1; simp [mskOf, fld]; omega)

theorem raw_bd (f x : Int) : 0 ≤ rawOf f x ∧ rawOf f x ≤ 2097151 := by
  revert x
  refine forms (fun f => ∀ x, 0 ≤ rawOf f x ∧ rawOf f x ≤ 2097151) ?_ ?_ ?_ ?_ ?_ ?_ f
  case refine_6 => intro f e1 e2 e3 e4 e5 v; simp [rawOf, e1, e2, e3, e4, e5]
  all_goals (intro v; simp [rawOf, fld]; omega)

theorem get_bd (f x : Int) : -1048576 ≤ getOf f x ∧ getOf f x ≤ 1048575 := by
  revert x
  refine forms (fun f => ∀ x, -1048576 ≤ getOf f x ∧ getOf f x ≤ 1048575) ?_ ?_ ?_ ?_ ?_ ?_ f
  case refine_6 => intro f e1 e2 e3 e4 e5 v; simp [getOf, e1, e2, e3, e4, e5]
  all_goals (intro v; simp only [getOf, sgn12, sgn13, sgn20, sgn21]; simp; omega)

/-- Words and numbers, part by part, for the forms of branches and jumps. -/
theorem decB {x : Int} (h0 : 0 ≤ x) (h1 : x ≤ 4294967295) : ∃ a b c d e g : Int, x = 2147483648 * a + 33554432 * b + 4096 * c + 256 * d + 128 * e + g ∧ (0 ≤ a ∧ a < 2) ∧ (0 ≤ b ∧ b < 64) ∧ (0 ≤ c ∧ c < 8192) ∧ (0 ≤ d ∧ d < 16) ∧ (0 ≤ e ∧ e < 2) ∧ 0 ≤ g ∧ g < 128 :=
  ⟨x / 2147483648, x / 33554432 % 64, x / 4096 % 8192, x / 256 % 16, x / 128 % 2, x % 128, by omega, by omega, by omega, by omega, by omega, by omega, by omega, by omega⟩
theorem flB {x a b c d e g : Int} (hx : x = 2147483648 * a + 33554432 * b + 4096 * c + 256 * d + 128 * e + g) (ha : 0 ≤ a ∧ a < 2) (hb : 0 ≤ b ∧ b < 64) (hc : 0 ≤ c ∧ c < 8192) (hd : 0 ≤ d ∧ d < 16) (he : 0 ≤ e ∧ e < 2) (hg : 0 ≤ g ∧ g < 128) :
    x / 2147483648 % 2 = a ∧ x / 33554432 % 64 = b ∧ x / 256 % 16 = d ∧ x / 128 % 2 = e :=
  ⟨by omega, by omega, by omega, by omega⟩
theorem decBv (v : Int) : ∃ q a b d e z : Int, v = 8192 * q + 4096 * a + 2048 * e + 32 * b + 2 * d + z ∧ (0 ≤ a ∧ a < 2) ∧ (0 ≤ b ∧ b < 64) ∧ (0 ≤ d ∧ d < 16) ∧ (0 ≤ e ∧ e < 2) ∧ 0 ≤ z ∧ z < 2 :=
  ⟨v / 8192, v / 4096 % 2, v / 32 % 64, v / 2 % 16, v / 2048 % 2, v % 2, by omega, by omega, by omega, by omega, by omega, by omega, by omega⟩
theorem flBv {v q a b d e z : Int} (hx : v = 8192 * q + 4096 * a + 2048 * e + 32 * b + 2 * d + z) (ha : 0 ≤ a ∧ a < 2) (hb : 0 ≤ b ∧ b < 64) (hd : 0 ≤ d ∧ d < 16) (he : 0 ≤ e ∧ e < 2) (hz : 0 ≤ z ∧ z < 2) :
    v / 4096 % 2 = a ∧ v / 32 % 64 = b ∧ v / 2 % 16 = d ∧ v / 2048 % 2 = e :=
  ⟨by omega, by omega, by omega, by omega⟩
theorem decJ {x : Int} (h0 : 0 ≤ x) (h1 : x ≤ 4294967295) : ∃ a b c d g : Int, x = 2147483648 * a + 2097152 * b + 1048576 * c + 4096 * d + g ∧ (0 ≤ a ∧ a < 2) ∧ (0 ≤ b ∧ b < 1024) ∧ (0 ≤ c ∧ c < 2) ∧ (0 ≤ d ∧ d < 256) ∧ 0 ≤ g ∧ g < 4096 :=
  ⟨x / 2147483648, x / 2097152 % 1024, x / 1048576 % 2, x / 4096 % 256, x % 4096, by omega, by omega, by omega, by omega, by omega, by omega, by omega⟩
theorem flJ {x a b c d g : Int} (hx : x = 2147483648 * a + 2097152 * b + 1048576 * c + 4096 * d + g) (ha : 0 ≤ a ∧ a < 2) (hb : 0 ≤ b ∧ b < 1024) (hc : 0 ≤ c ∧ c < 2) (hd : 0 ≤ d ∧ d < 256) (hg : 0 ≤ g ∧ g < 4096) :
    x / 2147483648 % 2 = a ∧ x / 2097152 % 1024 = b ∧ x / 1048576 % 2 = c ∧ x / 4096 % 256 = d :=
  ⟨by omega, by omega, by omega, by omega⟩
theorem decJv (v : Int) : ∃ q a b c d z : Int, v = 2097152 * q + 1048576 * a + 4096 * d + 2048 * c + 2 * b + z ∧ (0 ≤ a ∧ a < 2) ∧ (0 ≤ b ∧ b < 1024) ∧ (0 ≤ c ∧ c < 2) ∧ (0 ≤ d ∧ d < 256) ∧ 0 ≤ z ∧ z < 2 :=
  ⟨v / 2097152, v / 1048576 % 2, v / 2 % 1024, v / 2048 % 2, v / 4096 % 256, v % 2, by omega, by omega, by omega, by omega, by omega, by omega, by omega⟩
theorem flJv {v q a b c d z : Int} (hx : v = 2097152 * q + 1048576 * a + 4096 * d + 2048 * c + 2 * b + z) (ha : 0 ≤ a ∧ a < 2) (hb : 0 ≤ b ∧ b < 1024) (hc : 0 ≤ c ∧ c < 2) (hd : 0 ≤ d ∧ d < 256) (hz : 0 ≤ z ∧ z < 2) :
    v / 1048576 % 2 = a ∧ v / 2 % 1024 = b ∧ v / 2048 % 2 = c ∧ v / 4096 % 256 = d :=
  ⟨by omega, by omega, by omega, by omega⟩

theorem raw3 (x : Int) : rawOf 3 x = x / 2147483648 % 2 * 4096 + x / 128 % 2 * 2048 + x / 33554432 % 64 * 32 + x / 256 % 16 * 2 := by simp [rawOf, fld]
theorem raw5 (x : Int) : rawOf 5 x = x / 2147483648 % 2 * 1048576 + x / 4096 % 256 * 4096 + x / 1048576 % 2 * 2048 + x / 2097152 % 1024 * 2 := by simp [rawOf, fld]
theorem spr3 (v : Int) : sprOf 3 v = v / 4096 % 2 * 2147483648 + v / 2048 % 2 * 128 + v / 32 % 64 * 33554432 + v / 2 % 16 * 256 := by simp [sprOf, fld]
theorem spr5 (v : Int) : sprOf 5 v = v / 1048576 % 2 * 2147483648 + v / 4096 % 256 * 4096 + v / 2048 % 2 * 1048576 + v / 2 % 1024 * 2097152 := by simp [sprOf, fld]
theorem msk3 (x : Int) : mskOf 3 x = x / 2147483648 % 2 * 2147483648 + x / 128 % 2 * 128 + x / 33554432 % 64 * 33554432 + x / 256 % 16 * 256 := by simp [mskOf, fld]
theorem msk5 (x : Int) : mskOf 5 x = x / 2147483648 % 2 * 2147483648 + x / 4096 % 256 * 4096 + x / 1048576 % 2 * 1048576 + x / 2097152 % 1024 * 2097152 := by simp [mskOf, fld]

/-- A word in which a number was set, part by part. -/
theorem set3 {x v a b c d e g q a' b' d' e' z : Int} (hx : x = 2147483648 * a + 33554432 * b + 4096 * c + 256 * d + 128 * e + g) (ha : 0 ≤ a ∧ a < 2) (hb : 0 ≤ b ∧ b < 64) (hc : 0 ≤ c ∧ c < 8192) (hd : 0 ≤ d ∧ d < 16) (he : 0 ≤ e ∧ e < 2) (hg : 0 ≤ g ∧ g < 128)
    (hv : v = 8192 * q + 4096 * a' + 2048 * e' + 32 * b' + 2 * d' + z) (ha' : 0 ≤ a' ∧ a' < 2) (hb' : 0 ≤ b' ∧ b' < 64) (hd' : 0 ≤ d' ∧ d' < 16) (he' : 0 ≤ e' ∧ e' < 2) (hz : 0 ≤ z ∧ z < 2) :
    setOf 3 x v = 2147483648 * a' + 33554432 * b' + 4096 * c + 256 * d' + 128 * e' + g := by
  obtain ⟨f1, f2, f3, f4⟩ := flB hx ha hb hc hd he hg
  obtain ⟨g1, g2, g3, g4⟩ := flBv hv ha' hb' hd' he' hz
  unfold setOf
  rw [msk3, spr3, f1, f2, f3, f4, g1, g2, g3, g4]
  omega
theorem set5 {x v a b c d g q a' b' c' d' z : Int} (hx : x = 2147483648 * a + 2097152 * b + 1048576 * c + 4096 * d + g) (ha : 0 ≤ a ∧ a < 2) (hb : 0 ≤ b ∧ b < 1024) (hc : 0 ≤ c ∧ c < 2) (hd : 0 ≤ d ∧ d < 256) (hg : 0 ≤ g ∧ g < 4096)
    (hv : v = 2097152 * q + 1048576 * a' + 4096 * d' + 2048 * c' + 2 * b' + z) (ha' : 0 ≤ a' ∧ a' < 2) (hb' : 0 ≤ b' ∧ b' < 1024) (hc' : 0 ≤ c' ∧ c' < 2) (hd' : 0 ≤ d' ∧ d' < 256) (hz : 0 ≤ z ∧ z < 2) :
    setOf 5 x v = 2147483648 * a' + 2097152 * b' + 1048576 * c' + 4096 * d' + g := by
  obtain ⟨f1, f2, f3, f4⟩ := flJ hx ha hb hc hd hg
  obtain ⟨g1, g2, g3, g4⟩ := flJv hv ha' hb' hc' hd' hz
  unfold setOf
  rw [msk5, spr5, f1, f2, f3, f4, g1, g2, g3, g4]
  omega

/-- What is put is got. -/
theorem get_set (f x v : Int) (h0 : 0 ≤ x) (h1 : x ≤ 4294967295) (h : fitsOf f v = true) : getOf f (setOf f x v) = v := by
  revert x v
  refine forms (fun f => ∀ x v, 0 ≤ x → x ≤ 4294967295 → fitsOf f v = true → getOf f (setOf f x v) = v) ?_ ?_ ?_ ?_ ?_ ?_ f
  case refine_6 => intro f e1 e2 e3 e4 e5 x v h0 h1 h; simp [fitsOf, getOf, e1, e2, e3, e4, e5] at h ⊢; omega
  case refine_3 =>
    intro x v h0 h1 h
    obtain ⟨a, b, c, d, e, g, hx, ha, hb, hc, hd, he, hg⟩ := decB h0 h1
    obtain ⟨q, a', b', d', e', z, hv, ha', hb', hd', he', hz⟩ := decBv v
    obtain ⟨f1, f2, f3, f4⟩ := flB (set3 hx ha hb hc hd he hg hv ha' hb' hd' he' hz) ha' hb' hc hd' he' hg
    have e : getOf 3 (setOf 3 x v) = sgn 13 (rawOf 3 (setOf 3 x v)) := rfl
    rw [e, raw3, f1, f2, f3, f4, sgn13]
    simp [fitsOf] at h
    clear f1 f2 f3 f4 hx e
    omega
  case refine_5 =>
    intro x v h0 h1 h
    obtain ⟨a, b, c, d, g, hx, ha, hb, hc, hd, hg⟩ := decJ h0 h1
    obtain ⟨q, a', b', c', d', z, hv, ha', hb', hc', hd', hz⟩ := decJv v
    obtain ⟨f1, f2, f3, f4⟩ := flJ (set5 hx ha hb hc hd hg hv ha' hb' hc' hd' hz) ha' hb' hc' hd' hg
    have e : getOf 5 (setOf 5 x v) = sgn 21 (rawOf 5 (setOf 5 x v)) := rfl
    rw [e, raw5, f1, f2, f3, f4, sgn21]
    simp [fitsOf] at h
    clear f1 f2 f3 f4 hx e
    omega
  all_goals (intro x v h0 h1 h; simp [fitsOf, getOf, sgn12, sgn20, rawOf, setOf, mskOf, sprOf, fld] at h ⊢; omega)

/-- What is got fits. -/
theorem fits_get (f x : Int) : fitsOf f (getOf f x) = true := by
  revert x
  refine forms (fun f => ∀ x, fitsOf f (getOf f x) = true) ?_ ?_ ?_ ?_ ?_ ?_ f
  case refine_6 => intro f e1 e2 e3 e4 e5 x; simp [fitsOf, getOf, e1, e2, e3, e4, e5]
  all_goals (intro x; simp [fitsOf, getOf, sgn12, sgn13, sgn20, sgn21, rawOf, fld]; omega)

/-- What was got, put again, changes nothing. -/
theorem set_get (f x : Int) (h0 : 0 ≤ x) (h1 : x ≤ 4294967295) : setOf f x (getOf f x) = x := by
  revert x
  refine forms (fun f => ∀ x, 0 ≤ x → x ≤ 4294967295 → setOf f x (getOf f x) = x) ?_ ?_ ?_ ?_ ?_ ?_ f
  case refine_6 => intro f e1 e2 e3 e4 e5 x h0 h1; simp [setOf, mskOf, sprOf, e1, e2, e3, e4, e5]
  case refine_3 =>
    intro x h0 h1
    obtain ⟨a, b, c, d, e, g, hx, ha, hb, hc, hd, he, hg⟩ := decB h0 h1
    obtain ⟨f1, f2, f3, f4⟩ := flB hx ha hb hc hd he hg
    have e1 : getOf 3 x = sgn 13 (rawOf 3 x) := rfl
    rw [raw3, f1, f2, f3, f4, sgn13] at e1
    rw [set3 hx ha hb hc hd he hg (v := getOf 3 x) (q := -a) (a' := a) (b' := b) (d' := d) (e' := e) (z := 0) (by clear f1 f2 f3 f4 hx; omega) ha hb hd he (by decide)]
    exact hx.symm
  case refine_5 =>
    intro x h0 h1
    obtain ⟨a, b, c, d, g, hx, ha, hb, hc, hd, hg⟩ := decJ h0 h1
    obtain ⟨f1, f2, f3, f4⟩ := flJ hx ha hb hc hd hg
    have e1 : getOf 5 x = sgn 21 (rawOf 5 x) := rfl
    rw [raw5, f1, f2, f3, f4, sgn21] at e1
    rw [set5 hx ha hb hc hd hg (v := getOf 5 x) (q := -a) (a' := a) (b' := b) (c' := c) (d' := d) (z := 0) (by clear f1 f2 f3 f4 hx; omega) ha hb hc hd (by decide)]
    exact hx.symm
  all_goals (intro x h0 h1; simp [setOf, mskOf, sprOf, getOf, sgn12, sgn20, rawOf, fld]; try omega)

/-- A number fits where it comes back from its places. -/
theorem fits_spr (f v : Int) : decide (getOf f (sprOf f v) = v) = fitsOf f v := by
  cases h : fitsOf f v with
  | true =>
    have := get_set f 0 v (by decide) (by decide) h
    have e : setOf f 0 v = sprOf f v := by
      have := msk_bd f 0 (by decide) (by decide)
      unfold setOf; omega
    rw [e] at this
    simp [this]
  | false =>
    simp only [decide_eq_false_iff_not]
    intro e
    have := fits_get f (sprOf f v)
    rw [e, h] at this
    cases this

end Go.Proofs.YtcghekkhbiomgaaGreatDoor
