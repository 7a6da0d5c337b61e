/- A part written behind the bytes so far: the contract of appendPart. -/
import Derived.Test.YtmmcnkdefpfkiaaDoorArRead
import Derived.Lib.LazyBuf
import Derived.Lib.AppendStr
import Derived.Maps.AppendAt
import Derived.ArgAppend
import Derived.Laws.AppendOwnNone
namespace Go.Proofs.YtmmcnkdefpfkiaaDoor
open Go.RowKit
set_option linter.unusedVariables false
set_option maxRecDepth 100000
set_option maxRecDepth 20000
set_option linter.unusedSimpArgs false

/-! Plain: a part's bytes. -/
def padR (k : Nat) (l : T8) : T8 := l ++ List.replicate (k - l.length) 32
theorem padR_len (k : Nat) (l : T8) (h : l.length ≤ k) : (padR k l).length = k := by simp [padR]; omega
def mid32 : T8 := [48, 32, 32, 32, 32, 32, 32, 32, 32, 32, 32, 32, 48, 32, 32, 32, 32, 32, 48, 32, 32, 32, 32, 32, 54, 52, 52, 32, 32, 32, 32, 32]
def hdT (f : T8) (n : Nat) : T8 := padR 16 f ++ (mid32 ++ (padR 10 (Lib.decDigits n) ++ [96, 10]))
def oddT (d : T8) : T8 := if d.length % 2 = 1 then [10] else []
def wP (f d : T8) : T8 := hdT f d.length ++ (d ++ oddT d)
def blnk : T8 := List.replicate 16 32 ++ (mid32 ++ (List.replicate 10 32 ++ [96, 10]))
theorem dec_len10 (n : Nat) (h : n ≤ 1000000000) : (Lib.decDigits n).length ≤ 10 := by
  rw [Lib.decDigits_length]
  rcases Nat.lt_or_ge (Lib.nDigits n) 11 with h1 | h1
  · omega
  · exfalso
    have h2 : Lib.nDigits n = (Lib.nDigits n - 1) + 1 := by omega
    have : ∀ k m, Lib.nDigits m = k + 1 → 10 ^ k ≤ m ∨ k = 0 := fun k => by
      induction k with
      | zero => intro m _; exact .inr rfl
      | succ k ih =>
        intro m hm
        by_cases hs : m < 10
        · rw [Lib.nDigits_small hs] at hm; omega
        · rw [Lib.nDigits_big hs] at hm
          rcases ih (m / 10) (by omega) with h | h
          · left
            rw [Nat.pow_succ]
            have := Nat.mul_le_mul_right 10 h
            omega
          · subst h; left; omega
    rcases this _ _ h2 with h3 | h3
    · have h4 : 10 ^ 10 ≤ 10 ^ (Lib.nDigits n - 1) := Nat.pow_le_pow_right (by decide) (by omega)
      have h5 : (10 : Nat) ^ 10 = 10000000000 := by decide
      omega
    · omega
theorem hdT_len (f : T8) (n : Nat) (hf : f.length ≤ 16) (hn : n ≤ 1000000000) : (hdT f n).length = 60 := by
  have := dec_len10 n hn
  simp [hdT, padR_len 16 f hf, padR_len 10 _ this, mid32]
/-- Cells set one behind another, of bytes. -/
theorem setL_cs8 : ∀ (f l : T8) (o : Nat), o + f.length ≤ l.length → setL (cs8 l) o (cs8 f) = cs8 (l.take o ++ (f ++ l.drop (o + f.length)))
  | [], l, o, h => by simp [setL, cs8, nI]
  | b :: f, l, o, h => by
    have hlt : o < l.length := by simp at h; omega
    have e : (cs8 l).set o (.int .u8 (b.toNat : Int)) = cs8 (l.set o b) := by simp [cs8, nI]
    have ih := setL_cs8 f (l.set o b) (o + 1) (by simp at h ⊢; omega)
    show setL ((cs8 l).set o (.int .u8 (b.toNat : Int))) (o + 1) (cs8 f) = _
    rw [e, ih]
    congr 1
    have h1 : (l.set o b).take (o + 1) = l.take o ++ [b] := by
      rw [List.take_succ_eq_append_getElem (by simpa using hlt), List.take_set, List.set_eq_of_length_le (by simp; omega)]
      simp
    have h2 : (l.set o b).drop (o + 1 + f.length) = l.drop (o + 1 + f.length) := by
      rw [List.drop_set_of_lt (by omega)]
    rw [h1, h2]
    simp [Nat.add_comm, Nat.add_left_comm]
theorem blnk_set (f : T8) (n : Nat) (hf : f.length ≤ 16) (hn : n ≤ 1000000000) :
    (let b1 := blnk.take 0 ++ (f ++ blnk.drop (0 + f.length)); b1.take 48 ++ (Lib.decDigits n ++ b1.drop (48 + (Lib.decDigits n).length))) = hdT f n := by
  have hd := dec_len10 n hn
  have e1 : blnk.drop (0 + f.length) = List.replicate (16 - f.length) 32 ++ (mid32 ++ (List.replicate 10 32 ++ [96, 10])) := by
    rw [Nat.zero_add, blnk, List.drop_append_of_le_length (by simpa using hf), List.drop_replicate]
  show (blnk.take 0 ++ (f ++ blnk.drop (0 + f.length))).take 48 ++ (Lib.decDigits n ++ (blnk.take 0 ++ (f ++ blnk.drop (0 + f.length))).drop (48 + (Lib.decDigits n).length)) = hdT f n
  rw [e1, List.take_zero, List.nil_append]
  have e2 : f ++ (List.replicate (16 - f.length) 32 ++ (mid32 ++ (List.replicate 10 32 ++ [96, 10]))) = (padR 16 f ++ mid32) ++ (List.replicate 10 32 ++ [96, 10]) := by simp [padR]
  rw [e2]
  have hl : (padR 16 f ++ mid32).length = 48 := by simp [padR_len 16 f hf, mid32]
  rw [List.take_append_of_le_length (by omega), List.take_of_length_le (by omega), List.drop_append, hl]
  rw [List.drop_of_length_le (by omega), List.nil_append, Nat.add_sub_cancel_left, List.drop_append_of_le_length (by simpa using hd), List.drop_replicate]
  simp only [hdT, padR, List.append_assoc]

/-- The bytes so far: written out in the text and full, or a row of the call's own. -/
structure Bx (w0 w : World) (v : Value) (l : T8) : Prop where
  bel : Below w0.heap.size w0 w
  row : (∃ x : Addr, v = .slice (some x) l.length l.length ∧ Rt w (some x) l.length l ∧ w0.heap.size ≤ x.block) ∨ w.ownsRow w0.heap.size 5 1 v l.length (cs8 l)
theorem Bx.rt {w0 w : World} {v : Value} {l : T8} (h : Bx w0 w v l) : ∃ a c, v = .slice a l.length c ∧ Rt w a c l := by
  rcases h.row with ⟨x, h1, h2, _⟩ | h1
  · exact ⟨_, _, h1, h2⟩
  · exact Rd.own h1 (nI_bytes l)
/-- All blocks but the row's are kept. -/
def KB (w w' : World) (v : Value) : Prop := ∀ k, k < w.heap.size → v.ownBlock ≠ some k → w'.heap[k]? = w.heap[k]?

abbrev hdV : Array Value := #[.int .u8 32, .int .u8 32, .int .u8 32, .int .u8 32, .int .u8 32, .int .u8 32, .int .u8 32, .int .u8 32, .int .u8 32, .int .u8 32, .int .u8 32, .int .u8 32, .int .u8 32, .int .u8 32, .int .u8 32, .int .u8 32, .int .u8 48, .int .u8 32, .int .u8 32, .int .u8 32, .int .u8 32, .int .u8 32, .int .u8 32, .int .u8 32, .int .u8 32, .int .u8 32, .int .u8 32, .int .u8 32, .int .u8 48, .int .u8 32, .int .u8 32, .int .u8 32, .int .u8 32, .int .u8 32, .int .u8 48, .int .u8 32, .int .u8 32, .int .u8 32, .int .u8 32, .int .u8 32, .int .u8 54, .int .u8 52, .int .u8 52, .int .u8 32, .int .u8 32, .int .u8 32, .int .u8 32, .int .u8 32, .int .u8 32, .int .u8 32, .int .u8 32, .int .u8 32, .int .u8 32, .int .u8 32, .int .u8 32, .int .u8 32, .int .u8 32, .int .u8 32, .int .u8 96, .int .u8 10]
theorem hdV_eq : hdV = (cs8 blnk).toArray := by rfl
theorem hd_kc (w : World) : Sem.run Tryd.prog (convert 24 24 (.slice (some ⟨w.heap.size, 0, none⟩) 60 60)) (w.alloc (.cells hdV 5)) = .ok (.slice (some ⟨w.heap.size, 0, none⟩) 60 60) (w.alloc (.cells hdV 5 (60, 61))) :=
  Lib.run_convert_bytes_const (P := Tryd.prog) w 24 5 hdV 60 60 Tryd.underlying24 Tryd.underlying5
/-- A row of bytes that came of a text, some of them set. -/
theorem hset_fr {w : World} {m : Nat} {l : List Value} {ty : TypeId} {fr : Nat × Nat} (h : w.heap[m]? = some (.cells l.toArray ty fr)) (i : Nat) (v : Value) : (w.setCell ⟨m, i, none⟩ v).heap[m]? = some (.cells (l.set i v).toArray ty fr) := by
  unfold World.setCell
  simp [Array.getElem?_modify, h]
theorem hset_frs {m : Nat} {ty : TypeId} {fr : Nat × Nat} : ∀ (vs : List Value) (w : World) (l : List Value) (o : Nat), w.heap[m]? = some (.cells l.toArray ty fr) → (w.setCells m o vs).heap[m]? = some (.cells (setL l o vs).toArray ty fr)
  | [], w, l, o, h => h
  | v :: vs, w, l, o, h => hset_frs vs (w.setCell ⟨m, o, none⟩ v) (l.set o v) (o + 1) (hset_fr h o v)
theorem size8 : ∀ w, (Go.sizeOf 5).run Tryd.prog w = .ok 1 w := fun w => by kernel_rfl
/-- A text copied into such a row. -/
theorem copy_txt {w : World} {g n c : Nat} {l : T8} {fr : Nat × Nat} (h : w.heap[g]? = some (.cells (cs8 l).toArray 5 fr)) (o : Nat) (f : T8) (hf : f.length ≤ n) (ho : o + f.length ≤ l.length) (hfr : l.length ≤ fr.1 ∨ fr.2 = 0) (ty : TypeId) :
    ∃ w', Sem.run Tryd.prog (Builtin.copy_ #[24, 9] ty #[.slice (some ⟨g, o, none⟩) n c, .string (str f)]) w = .ok (goInt f.length) w' ∧ w'.heap[g]? = some (.cells (cs8 (l.take o ++ (f ++ l.drop (o + f.length)))).toArray 5 fr) ∧ w.grownBy w' (some g) := by
  have hsz := str_size f
  refine ⟨_, ?_, ?_, grown_setCells g (cs8 f) o w⟩
  · have := run_copy_string (P := Tryd.prog) w 24 9 ty 5 g o n c (str f) Tryd.underlying24 size8 (by rw [hsz]; exact hf)
      (fun j hj => by
        rw [hsz] at hj
        rw [cell_of_row _ _ _ _ _ fr h]
        simp [cs8, nI, show o + j < l.length by omega])
      (fun j hj => by
        rw [hsz] at hj
        unfold World.frozen?
        rw [h]
        simp
        intro h1
        rcases hfr with h2 | h2
        · omega
        · omega)
    rw [hsz, str_list] at this
    have e : (f.map fun x => Value.int .u8 (x.toNat : Int)) = cs8 f := by simp [cs8, nI, Function.comp_def]
    rw [e] at this
    exact this
  · have := hset_frs (cs8 f) w (cs8 l) o h
    rw [setL_cs8 f l o ho] at this
    exact this

theorem KB.refl (w : World) (v : Value) : KB w w v := fun _ _ _ => rfl
theorem Rt.far {w w' : World} {a : Option Addr} {c : Nat} {d : T8} {k : Option Nat} (h : Rt w a c d) (g : w.grownBy w' k) (hs : 0 < d.length → ∀ x, a = some x → some x.block ≠ k) : Rt w' a c d := by
  have h0 : Rd w a d.length c (nI d) := h
  refine ⟨h0.length, h0.le, h0.max, h0.bytes, h0.nil, fun x hx i hi => ?_⟩
  have h1 := h0.cell x hx i hi
  have hb := World.block_lt_of_cell? w _ h1
  have e : (x.add i).block = x.block := by unfold Addr.add; split <;> rfl
  rw [g.cell_far (x.add i) hb (by rw [e]; exact hs (by omega) x hx)]
  exact h1


/-- Bytes behind which is written: a row of the call's own, apart from what is still to be read. -/
structure Wr (w0 w wx : World) (v u : Value) (l : T8) (a : Option Addr) (c : Nat) (d : T8) : Prop where
  row : wx.ownsRow w0.heap.size 5 1 u l.length (cs8 l)
  bel : Below w0.heap.size w0 wx
  kb : KB w wx v
  rd : Rt wx a c d
  sep : 0 < d.length → ∀ k, u.ownBlock = some k → ∀ x, a = some x → x.block ≠ k
  sz : w.heap.size ≤ wx.heap.size
  sz0 : w0.heap.size ≤ w.heap.size
  nb : ∀ k, u.ownBlock = some k → v.ownBlock = some k ∨ w.heap.size ≤ k
  lt : 0 < d.length → ∀ x, a = some x → x.block < w.heap.size
theorem Wr.step {w0 w wx wm wy : World} {v u u' : Value} {l l' : T8} {a : Option Addr} {c : Nat} {d : T8} (h : Wr w0 w wx v u l a c d) (hm : Below wx.heap.size wx wm) (hg : wm.grownBy wy u.ownBlock)
    (hat : u'.ownBlock = u.ownBlock ∨ u'.ownBlock = some wm.heap.size) (hrow : wy.ownsRow w0.heap.size 5 1 u' l'.length (cs8 l')) : Wr w0 w wy v u' l' a c d := by
  have s1 := hm.size
  have s2 := hg.size
  have s3 := h.sz
  have s4 := h.sz0
  refine ⟨hrow, ?_, fun k hk hv => ?_, ?_, fun h0 k hk x hx => ?_, by omega, s4, fun k hk => ?_, h.lt⟩
  · exact (h.bel.trans (hm.mono (by omega))).grown hg (by omega) (fun k hk => row_ge h.row hk)
  · have hne : some k ≠ u.ownBlock := fun e => by
      rcases h.nb k e.symm with h1 | h1
      · exact hv h1
      · omega
    rw [hg.block k (by omega) hne, hm.block k (by omega)]
    exact h.kb k hk hv
  · exact Rt.far (Rd.below h.rd hm) hg (fun h0 x hx e => h.sep h0 _ e.symm x hx rfl)
  · rcases hat with h1 | h1
    · exact h.sep h0 k (by rw [← h1]; exact hk) x hx
    · rw [h1] at hk
      cases hk
      have := h.lt h0 x hx
      omega
  · rcases hat with h1 | h1
    · exact h.nb k (by rw [← h1]; exact hk)
    · rw [h1] at hk
      cases hk
      exact .inr (by omega)

set_option maxHeartbeats 8000000 in
theorem part_any (w0 w : World) (v : Value) (l f d : T8) (a : Option Addr) (c : Nat) (hB : Bx w0 w v l) (rd : Rt w a c d) (sep : 0 < d.length → ∀ k, v.ownBlock = some k → ∀ x, a = some x → x.block ≠ k) (L : LaidR w) (hf : f.length ≤ 16) (hd : d.length ≤ 1000000000) (hl : l.length ≤ 10000000000) :
    Calls Tryd.prog 17 #[v, .string (str f), .slice a d.length c] w fun e w' => ∃ v', e = .returned v' ∧ w'.ownsRow w0.heap.size 5 1 v' (l ++ wP f d).length (cs8 (l ++ wP f d)) ∧ Below w0.heap.size w0 w' ∧ KB w w' v := by
  obtain ⟨i0, hi, hz0, hz1, hz2⟩ := info_parts Tryd.info8
  have hkc := hd_kc w
  unfold hdV at hkc
  have HBX := hide hB
  have HRD := hide rd
  have HSEP := hide sep
  have HL := hide L
  have hsz0 := hB.bel.size
  have hdc := rd.le
  have hdm := rd.max
  have H1 : Hid ((w.alloc (.cells hdV 5 (60, 61))).heap[w.heap.size]? = some (.cells (cs8 blnk).toArray 5 (60, 61))) := heap_alloc_new w _
  have HB1 : Hid (Below w.heap.size w (w.alloc (.cells hdV 5 (60, 61)))) := (Below.refl _ _).alloc (Nat.le_refl _) _
  unfold hdV at H1 HB1
  obtain ⟨av, cv, rfl, hvr⟩ := hB.rt
  have hvc := hvr.le
  have hvm := hvr.max
  clear hB rd sep L hvr
  go_enter Tryd.func17, Tryd.ntmps17
  go_upto_region 2 with fail
  generalize hW1 : w.alloc (.cells #[.int .u8 32, .int .u8 32, .int .u8 32, .int .u8 32, .int .u8 32, .int .u8 32, .int .u8 32, .int .u8 32, .int .u8 32, .int .u8 32, .int .u8 32, .int .u8 32, .int .u8 32, .int .u8 32, .int .u8 32, .int .u8 32, .int .u8 48, .int .u8 32, .int .u8 32, .int .u8 32, .int .u8 32, .int .u8 32, .int .u8 32, .int .u8 32, .int .u8 32, .int .u8 32, .int .u8 32, .int .u8 32, .int .u8 48, .int .u8 32, .int .u8 32, .int .u8 32, .int .u8 32, .int .u8 32, .int .u8 48, .int .u8 32, .int .u8 32, .int .u8 32, .int .u8 32, .int .u8 32, .int .u8 54, .int .u8 52, .int .u8 52, .int .u8 32, .int .u8 32, .int .u8 32, .int .u8 32, .int .u8 32, .int .u8 32, .int .u8 32, .int .u8 32, .int .u8 32, .int .u8 32, .int .u8 32, .int .u8 32, .int .u8 32, .int .u8 32, .int .u8 32, .int .u8 96, .int .u8 10] 5 (60, 61)) = w1 at *
  clear hW1 hkc
  have hb60 : blnk.length = 60 := rfl
  obtain ⟨w2, hcp, h2, g2⟩ := copy_txt (n := 60) (c := 60) H1.out 0 f (by omega) (by omega) (.inl (by omega)) 3
  have H2 := hide h2
  have HG2 := hide g2
  clear h2 g2 H1
  have hsf := str_size f
  generalize hSF : str f = SF at *
  have hb1s := HB1.out.size
  have HBw2 : Hid (Below w.heap.size w w2) := HB1.out.grown HG2.out (HB1.out.size) (fun k hk => by cases hk; exact Nat.le_refl _)
  have hgl : w.heap.size < w2.heap.size := (Array.getElem?_eq_some_iff.1 H2.out).1
  have HI := hide (fun (u : World) (hu : LaidR u) => itoaS_any d.length u hd hu)
  have hdl := dec_len10 d.length hd
  have e48 : (blnk.take 0 ++ (f ++ blnk.drop (0 + f.length))).length = 60 := by simp; omega
  go_wp2_with fail
  go_region_with (first
    | (go_at_call 19; refine (HI.out _ ?_).mono ?_; exact HL.out.then (HBw2.out.drew); rintro e w3 ⟨rfl, hb3⟩; obtain ⟨w4, hcp2, h4, g4⟩ := copy_txt (n := 12) (c := 12) ((hb3.block w.heap.size (show w.heap.size < w2.drew.heap.size from hgl)).trans (show w2.drew.heap[w.heap.size]? = _ from H2.out)) 48 (Lib.decDigits d.length) (by omega) (by rw [e48]; omega) (.inl (by rw [e48]; exact Nat.le_refl _)) 3; have H4 := hide h4; have G4 := hide g4; have B3 := hide hb3; clear h4 g4 hb3; go_wp2_with fail))
  have HBw4 : Hid (Below w.heap.size w w4) := ((HBw2.out.drew.trans (B3.out.mono (Nat.le_of_lt hgl))).grown G4.out (Nat.le_trans (Nat.le_of_lt hgl) B3.out.size) (fun k hk => by cases hk; exact Nat.le_refl _))
  have h4 := H4.out
  have hset := blnk_set f d.length hf hd
  simp only at hset
  rw [hset] at h4
  have HH := hide (blkRt h4 (by rw [hdT_len f _ hf hd]; omega))
  have hh60 := hdT_len f d.length hf hd
  have hltd : 0 < d.length → ∀ x, a = some x → x.block < w.heap.size := fun h0 x hx => by
    have := World.block_lt_of_cell? w _ ((show Rd w a d.length c (nI d) from HRD.out).cell x hx 0 h0)
    have e : (x.add 0).block = x.block := by unfold Addr.add; split <;> rfl
    omega
  have HLTD := hide hltd
  have HG0 := hide (fun (k : Nat) (hk : k < w.heap.size) => HBw4.out.block k hk)
  have hsz4 := HBw4.out.size
  clear hltd h4 hset H4 G4 B3 H2 HG2 HI hcp hcp2 HB1
  go_upto_region 4 with fail
  go_cut [0] (fun u wx => Hid (Wr w0 w wx (.slice av l.length cv) u (l ++ hdT f d.length) a c d))
  case first =>
    rcases HBX.out.row with ⟨x, hvx, hxr, hxb⟩ | hown
    · cases hvx
      have HXR := hide (Rd.below hxr HBw4.out)
      have HC := hide (cells_of HXR.out x rfl)
      have HC2 := hide (cells_of HH.out ⟨w.heap.size, 0, none⟩ rfl)
      have l1 := cs8_len l
      have l2 := cs8_len (hdT f d.length)
      rw [hh60] at l2
      have o2 := cs8_one (hdT f d.length)
      have app := cs8_app l (hdT f d.length)
      generalize cs8 l = CL at *
      generalize cs8 (hdT f d.length) = CH at *
      clear hxr
      go_wp2_with (at_builtin; refine wpList_append_grows _ rfl _ _ 24 rfl 5 i0 (.int .u8 0) 1 1 Tryd.underlying24 hi hz0 hz1 hz2 rfl (by decide) (some x) l.length l.length CL rfl (by intro h; cases h) (by omega) (by intro b hb; cases hb; exact HC.out) ⟨w.heap.size, 0, none⟩ 60 60 CH rfl (by omega) HC2.out o2 (by omega) (by unfold maxLen; omega) (by omega) ?_)
      intro v' w5 hown' hgrow
      have HR5 : Hid (Wr w0 w w5 (.slice (some x) l.length l.length) v' (l ++ hdT f d.length) a c d) := by
        have s1 := hgrow.size
        refine ⟨?_, (HBX.out.bel.trans (HBw4.out.mono hsz0)).grown hgrow (by omega) (fun k hk => by cases hk), fun k hk _ => (hgrow.block k (by omega) (by simp)).trans (HG0.out k hk), Rt.far (Rd.below HRD.out HBw4.out) hgrow (fun _ _ _ => by simp), fun h0 k hk y hy => ?_, by omega, hsz0, fun k hk => .inr ?_, HLTD.out⟩
        · rw [app, List.length_append, hh60]
          exact row_low hown' (by omega)
        · have h1 := row_ge hown' hk
          have h2 := HLTD.out h0 y hy
          omega
        · have h1 := row_ge hown' hk
          omega
      clear hown' hgrow
      go_wp2_with fail
      go_meet
      case rel => exact HR5.out
    · have HW4 : Hid (Wr w0 w w4 (.slice av l.length cv) (.slice av l.length cv) l a c d) :=
        ⟨rowKept (B0 := 0) hown HBw4.out, HBX.out.bel.trans (HBw4.out.mono hsz0), fun k hk _ => HG0.out k hk, Rd.below HRD.out HBw4.out, fun h0 k hk x hx => HSEP.out h0 k hk x hx, hsz4, hsz0, fun k hk => .inl hk, HLTD.out⟩
      have HC2 := hide (cells_of HH.out ⟨w.heap.size, 0, none⟩ rfl)
      have l1 := cs8_len l
      have l2 := cs8_len (hdT f d.length)
      rw [hh60] at l2
      have o2 := cs8_one (hdT f d.length)
      have app := cs8_app l (hdT f d.length)
      generalize cs8 (hdT f d.length) = CH at *
      clear hown
      go_wp2_with (at_builtin; refine wpList_append_own_at _ rfl _ _ 24 rfl w0.heap.size 5 i0 (.int .u8 0) 1 1 Tryd.underlying24 hi hz0 hz1 hz2 rfl (by decide) _ _ _ rfl HW4.out.row ⟨w.heap.size, 0, none⟩ 60 60 CH rfl (by omega) HC2.out o2 (by unfold maxLen; omega) (by omega) (by omega) ?_)
      intro v' w5 hown' hgrow _ hat
      have HR5 : Hid (Wr w0 w w5 (.slice av l.length cv) v' (l ++ hdT f d.length) a c d) := HW4.out.step (Below.refl _ _) hgrow hat (by rw [app, List.length_append, hh60]; exact hown')
      clear hown' hgrow hat
      go_wp2_with fail
      go_meet
      case rel => exact HR5.out
  case rest =>
    have HW5 := hcut
    have hwl : (l ++ hdT f d.length).length = l.length + 60 := by rw [List.length_append, hh60]
    have hwp : l ++ wP f d = (l ++ hdT f d.length) ++ d ++ oddT d := by simp [wP]
    have HWP := hide hwp
    clear hwp HBX HH HG0 HLTD HSEP HRD HBw4 HBw2
    generalize l ++ hdT f d.length = l5 at *
    have HM := hide HW5.out.row
    go_upto_region 5 with fail
    go_cut [0] (fun u wx => Hid (Wr w0 w wx (.slice av l.length cv) u (l5 ++ d) a c d))
    case first =>
      cases a with
      | none =>
        have h1 := HW5.out.rd.nil rfl
        have h2 := HW5.out.rd.le
        obtain rfl : d = [] := List.eq_nil_of_length_eq_zero (by omega)
        obtain rfl : c = 0 := h1
        go_wp2_with (at_builtin; refine wpList_append_own_none rfl _ _ 24 rfl w0.heap.size 5 i0 1 Tryd.underlying24 hi _ _ _ rfl HW5.out.row rfl ?_)
        go_wp2_with fail
        go_meet
        case rel =>
          have := HW5.out
          rw [List.append_nil]
          exact this
      | some x =>
        have HC2 := hide (cells_of HW5.out.rd x rfl)
        have l2 := cs8_len d
        have o2 := cs8_one d
        have app := cs8_app l5 d
        have hs5 := HW5.out.sz
        generalize cs8 d = CH at *
        go_wp2_with (at_builtin; refine wpList_append_own_at _ rfl _ _ 24 rfl w0.heap.size 5 i0 (.int .u8 0) 1 1 Tryd.underlying24 hi hz0 hz1 hz2 rfl (by decide) _ _ _ rfl HW5.out.row x d.length c CH rfl (by omega) HC2.out o2 (by unfold maxLen; omega) (by omega) (by omega) ?_)
        intro v' w6 hown' hgrow _ hat
        have HR6 : Hid (Wr w0 w w6 (.slice av l.length cv) v' (l5 ++ d) (some x) c d) := HW5.out.step (Below.refl _ _) hgrow hat (by rw [app, List.length_append, hwl]; exact hown')
        clear hown' hgrow hat
        go_wp2_with fail
        go_meet
        case rel => exact HR6.out
    case rest =>
      have HW6 := hcut
      clear HW5 HM
      have hl6 : (l5 ++ d).length = l5.length + d.length := List.length_append
      generalize l5 ++ d = l6 at *
      by_cases hodd : d.length % 2 = 1
      · have ho1 : ((d.length : Int) % 2 == 1) = true := by simp; omega
        have ho2 : ((d.length : Int).tmod 2 == 1) = true := by rw [Int.tmod_eq_emod_of_nonneg (by omega)]; exact ho1
        have HOD : Hid (oddT d = [10]) := by show _ = _; unfold oddT; rw [if_pos hodd]
        have l2 := cs8_len l6
        have app := cs8_app l6 [10]
        have hs6 := HW6.out.sz
        go_wp2_with (at_builtin; refine wpList_append_own_at _ rfl _ _ 24 rfl w0.heap.size 5 i0 (.int .u8 0) 1 1 Tryd.underlying24 hi hz0 hz1 hz2 rfl (by decide) _ _ _ rfl (HW6.out.row.alloc _) ⟨_, 0, none⟩ 1 1 [.int .u8 10] rfl rfl ?c1 ?c2 (by unfold maxLen; omega) (by omega) (by simp; omega) ?_)
        case c1 =>
          intro j u hj
          match j, hj with
          | 0, hj => simp at hj; subst hj; simp [Addr.add]
        case c2 => intro u hu; simp at hu; subst hu; rfl
        intro v' w7 hown' hgrow _ hat
        have HR7 := hide (HW6.out.step (l' := l6 ++ [10]) ((Below.refl _ _).alloc (Nat.le_refl _) _) hgrow (by simpa using hat) (by rw [app, List.length_append, hl6, hwl]; exact hown'))
        clear hown' hgrow hat
        go_wp2_with fail
        go_ret
        refine ⟨_, rfl, ?_, HR7.out.bel, HR7.out.kb⟩
        rw [HWP.out, HOD.out]
        exact HR7.out.row
      · have ho1 : ((d.length : Int) % 2 == 1) = false := by simp; omega
        have ho2 : ((d.length : Int).tmod 2 == 1) = false := by rw [Int.tmod_eq_emod_of_nonneg (by omega)]; exact ho1
        have HOD : Hid (oddT d = []) := by show _ = _; unfold oddT; rw [if_neg hodd]
        go_wp2_with fail
        go_ret
        refine ⟨_, rfl, ?_, HW6.out.bel, HW6.out.kb⟩
        rw [HWP.out, HOD.out, List.append_nil]
        exact HW6.out.row

end Go.Proofs.YtmmcnkdefpfkiaaDoor
