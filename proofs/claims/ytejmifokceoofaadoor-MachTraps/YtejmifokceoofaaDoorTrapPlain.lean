/- The runs of MachTraps in numbers: each is trapped at once, by what the document says. -/
import Derived.Test.YtejmifokceoofaaDoorJ05
import Derived.Test.YtejmifokceoofaaDoorInstBackM
namespace Go.Proofs.YtejmifokceoofaaDoor
open Go.RowKit Go.Maps
set_option linter.unusedVariables false
set_option maxRecDepth 100000
set_option maxRecDepth 20000

/-- A word's parts. -/
structure TrW (k : Nat) (x r0 r1 r2 im : Int) : Prop where
  lo : 0 ≤ x
  hi : x ≤ 4294967295
  mt : Mt k x
  d : rdO (fmo k) x = r0
  a : r1O (fmo k) x = r1
  b : r2O (fmo k) x = r2
  i : imO (fmo k) x = im

theorem trw {k : Nat} (hk : 1 ≤ k) (hk' : k < 63) {r0 r1 r2 im : Int} (hi : imOk (fmc (cd (wd k))) (wd k) im = true) (hr : rgOk (hasD (fmc (cd (wd k)))) (has1 (fmc (cd (wd k)))) (has2 (fmc (cd (wd k)))) r0 r1 r2 = true)
    (h0 : hasD (fmc (cd (wd k))) = false → r0 = 0) (h1 : has1 (fmc (cd (wd k))) = false → r1 = 0) (h2 : has2 (fmc (cd (wd k))) = false → r2 = 0) : TrW k (encW k r0 r1 r2 im) r0 r1 r2 im := by
  have es := enc_sum hk hk' hi hr
  have bk := back hk hk' hi hr
  rw [es.2]
  generalize wd k + imP (fmc (cd (wd k))) (wd k) im + rgP (fmc (cd (wd k))) r0 r1 r2 = x at *
  refine ⟨bk.lo, bk.hi, bk.mt, ?_, ?_, ?_, ?_⟩
  · unfold rdO; rw [e7, fmo_k hk (by omega)]
    split
    · rename_i h; exact bk.d h
    · rename_i h; exact (h0 (by simpa using h)).symm
  · unfold r1O; rw [e15, fmo_k hk (by omega)]
    split
    · rename_i h; exact bk.a h
    · rename_i h; exact (h1 (by simpa using h)).symm
  · unfold r2O; rw [e20, fmo_k hk (by omega)]
    split
    · rename_i h; exact bk.b h
    · rename_i h; exact (h2 (by simpa using h)).symm
  · rw [fmo_k hk (by omega)]; exact bk.i

theorem trw0 (far : Int) (h : 0 ≤ far ∧ far < 2000) : TrW 13 (encW 13 6 5 0 far) 6 5 0 far :=
  trw (k := 13) (by decide) (by decide) (by
    unfold imOk
    rw [show shb (wd 13) = 0 by decide +kernel, if_neg (by decide), if_neg (by decide), show fmc (cd (wd 13)) = 1 by decide +kernel]
    simp [fitsOf]
    omega) (by decide +kernel) (by decide +kernel) (by decide +kernel) (by decide +kernel)
theorem trw1 (far : Int) (h : 0 ≤ far ∧ far < 2000) : TrW 21 (encW 21 0 5 6 far) 0 5 6 far :=
  trw (k := 21) (by decide) (by decide) (by
    unfold imOk
    rw [show shb (wd 21) = 0 by decide +kernel, if_neg (by decide), if_neg (by decide), show fmc (cd (wd 21)) = 2 by decide +kernel]
    simp [fitsOf]
    omega) (by decide +kernel) (by decide +kernel) (by decide +kernel) (by decide +kernel)
theorem trw3 : TrW 4 (encW 4 1 7 0 2) 1 7 0 2 := trw (k := 4) (by decide) (by decide) (by decide +kernel) (by decide +kernel) (by decide +kernel) (by decide +kernel) (by decide +kernel)
theorem trw4 : TrW 5 (encW 5 0 0 0 2) 0 0 0 2 := trw (k := 5) (by decide) (by decide) (by decide +kernel) (by decide +kernel) (by decide +kernel) (by decide +kernel) (by decide +kernel)
theorem trw5 : TrW 3 (encW 3 1 0 0 (-2)) 1 0 0 (-2) := trw (k := 3) (by decide) (by decide) (by decide +kernel) (by decide +kernel) (by decide +kernel) (by decide +kernel) (by decide +kernel)
theorem trw7 : TrW 4 (encW 4 0 5 0 0) 0 5 0 0 := trw (k := 4) (by decide) (by decide) (by decide +kernel) (by decide +kernel) (by decide +kernel) (by decide +kernel) (by decide +kernel)

/-- The registers that are set. -/
def trX : Nat → Int := xset (xset (xset (fun _ => 0) 5 9437184) 6 77) 7 131072
noncomputable def trM (ws ds : List Int) : Mc := { madeM ws ds [] with x := trX }

theorem tr_fetch (x : Int) (ds : List Int) (h2 : ds.length ≤ 4096) (h : 0 ≤ x ∧ x ≤ 4294967295) : mayB (trM [x] ds).mem (trM [x] ds).pc 4 1 = true ∧ fetchV (trM [x] ds).mem (trM [x] ds).pc = x := by
  exact made_fetch [x] ds (by simp) h2 0 (by decide) h

theorem tr_may (ws ds : List Int) (h1 : ws.length ≤ 60) (h2 : ds.length ≤ 4096) (a n : Nat) (p : Int) (hn : n ≠ 0) (hp : bits .and .i64 0 p = 0) (ha : 9437184 ≤ a) : mayB (madeS ws ds) a n p = false := by
  apply mayB_no
  rintro (h | h)
  · exact hn h
  · have := h (a / 4096) (Nat.le_refl _) (Nat.div_le_div_right (by omega))
    rw [madeS_perm ws ds h1 h2, if_neg (by omega), if_neg (by omega)] at this
    exact this hp

theorem tr_step {k : Nat} {x r0 r1 r2 im : Int} (h : TrW k x r0 r1 r2 im) (hk : 1 ≤ k) (hk' : k < 66) (ds : List Int) (h2 : ds.length ≤ 4096) : (trM [x] ds).step = (trM [x] ds).doF k r0 r1 r2 im := by
  obtain ⟨f1, f2⟩ := tr_fetch x ds h2 ⟨h.lo, h.hi⟩
  rw [Mc.step_is (M := trM [x] ds) rfl (show (65536 : Nat) % 4 = 0 by decide) f1 f2 hk hk' h.mt, h.d, h.a, h.b, h.i]

theorem tr_0 (x far : Int) (hf : 0 ≤ far ∧ far < 2000) (h : TrW 13 x 6 5 0 far) (ds : List Int) (h2 : ds.length ≤ 4096) : (trM [x] ds).step = (trM [x] ds).trapped 3 := by
  rw [tr_step h (by decide) (by decide) ds h2]
  unfold Mc.doF
  rw [if_neg (by decide), if_neg (by decide), if_neg (by decide), if_neg (by decide), if_neg (by decide), if_pos (by decide)]
  have e : numOk (trM [x] ds).mem (u64 ((trM [x] ds).x (5 : Int).toNat + far)).toNat (widthF 13) 4 = false := by
    unfold numOk
    rw [show (trM [x] ds).x (5 : Int).toNat = 9437184 from rfl, show (trM [x] ds).mem = madeS [x] ds from rfl, tr_may [x] ds (by simp) h2 _ _ 4 (by decide) (by decide) (by unfold u64; omega), Bool.and_false]
  rw [if_neg (by rw [e]; decide)]

theorem tr_1 (x far : Int) (hf : 0 ≤ far ∧ far < 2000) (h : TrW 21 x 0 5 6 far) (ds : List Int) (h2 : ds.length ≤ 4096) : (trM [x] ds).step = (trM [x] ds).trapped 4 := by
  rw [tr_step h (by decide) (by decide) ds h2]
  unfold Mc.doF
  rw [if_neg (by decide), if_neg (by decide), if_neg (by decide), if_neg (by decide), if_neg (by decide), if_neg (by decide), if_pos (by decide)]
  have e : numOk (trM [x] ds).mem (u64 ((trM [x] ds).x (5 : Int).toNat + far)).toNat (widthF 21) 2 = false := by
    unfold numOk
    rw [show (trM [x] ds).x (5 : Int).toNat = 9437184 from rfl, show (trM [x] ds).mem = madeS [x] ds from rfl, tr_may [x] ds (by simp) h2 _ _ 2 (by decide) (by decide) (by unfold u64; omega), Bool.and_false]
  rw [if_neg (by rw [e]; decide)]

theorem tr_2 (ds : List Int) (h2 : ds.length ≤ 4096) : (trM [wd 65] ds).step = (trM [wd 65] ds).trapped 6 := by
  obtain ⟨f1, f2⟩ := tr_fetch (wd 65) ds h2 (wd_bd 65)
  rw [Mc.step_is (M := trM [wd 65] ds) (o := 65) rfl (show (65536 : Nat) % 4 = 0 by decide) f1 f2 (by decide) (by decide) ⟨rfl, rfl, rfl⟩]
  unfold Mc.doF
  rw [if_neg (by decide), if_neg (by decide), if_neg (by decide), if_neg (by decide), if_neg (by decide), if_neg (by decide), if_neg (by decide), if_neg (by decide), if_neg (by decide), if_neg (by decide)]

theorem tr_3 (x : Int) (h : TrW 4 x 1 7 0 2) (ds : List Int) (h2 : ds.length ≤ 4096) : (trM [x] ds).step = (trM [x] ds).trapped 5 := by
  rw [tr_step h (by decide) (by decide) ds h2]
  unfold Mc.doF
  rw [if_neg (by decide), if_neg (by decide), if_neg (by decide), if_pos rfl]
  unfold Mc.jump
  rw [show (trM [x] ds).x (7 : Int).toNat = 131072 from rfl, if_neg (by decide)]

theorem tr_4 (x : Int) (h : TrW 5 x 0 0 0 2) (ds : List Int) (h2 : ds.length ≤ 4096) : (trM [x] ds).step = (trM [x] ds).trapped 5 := by
  rw [tr_step h (by decide) (by decide) ds h2]
  unfold Mc.doF
  rw [if_neg (by decide), if_neg (by decide), if_neg (by decide), if_neg (by decide), if_pos (by decide), show (trM [x] ds).x (0 : Int).toNat = 0 from rfl, if_pos (by decide)]
  unfold Mc.jump
  rw [show (trM [x] ds).pc = 65536 from rfl, if_neg (by decide)]

theorem tr_5 (x : Int) (h : TrW 3 x 1 0 0 (-2)) (ds : List Int) (h2 : ds.length ≤ 4096) : (trM [x] ds).step = (trM [x] ds).trapped 5 := by
  rw [tr_step h (by decide) (by decide) ds h2]
  unfold Mc.doF
  rw [if_neg (by decide), if_neg (by decide), if_pos rfl]
  unfold Mc.jump
  rw [show (trM [x] ds).pc = 65536 from rfl, if_neg (by decide)]

theorem tr_6 (ds : List Int) (h2 : ds.length ≤ 4096) : (trM [4294967295] ds).step = (trM [4294967295] ds).trapped 2 := by
  obtain ⟨f1, f2⟩ := tr_fetch 4294967295 ds h2 (by decide)
  refine Mc.step_ill rfl (show (65536 : Nat) % 4 = 0 by decide) f1 f2 (fun o h1 h3 hm => ?_)
  have : ∀ o, o < 66 → ¬ Mt o 4294967295 := by decide +kernel
  exact this o h3 hm

/-- A machine behind the jump to where nothing is. -/
noncomputable def trJ (ws ds : List Int) : Mc := { trM ws ds with pc := 9437184 }
theorem trX_zero (v : Int) : xset trX 0 v = trX := by
  funext i
  unfold xset
  rw [if_neg (by omega)]
theorem tr_7 (x : Int) (h : TrW 4 x 0 5 0 0) (ds : List Int) (h2 : ds.length ≤ 4096) : (trM [x] ds).step = trJ [x] ds := by
  rw [tr_step h (by decide) (by decide) ds h2]
  unfold Mc.doF
  rw [if_neg (by decide), if_neg (by decide), if_neg (by decide), if_pos rfl]
  unfold Mc.jump
  rw [show (trM [x] ds).x (5 : Int).toNat = 9437184 from rfl, if_pos (by decide), show (trM [x] ds).x = trX from rfl, trX_zero]
  rfl
theorem tr_8 (x : Int) (ds : List Int) (h2 : ds.length ≤ 4096) : (trJ [x] ds).step = (trJ [x] ds).trapped 1 := by
  unfold Mc.step
  have e : mayB (trJ [x] ds).mem (trJ [x] ds).pc 4 1 = false := tr_may [x] ds (by simp) h2 9437184 4 1 (by decide) (by decide) (by decide)
  rw [if_pos (show (trJ [x] ds).kind = 0 from rfl), if_pos (show (trJ [x] ds).pc % 4 = 0 from (show (9437184 : Nat) % 4 = 0 by decide)), if_neg (by rw [e]; decide)]

end Go.Proofs.YtejmifokceoofaaDoor
