/- The contract of ar.Write. -/
import Derived.Test.YtmmcnkdefpfkiaaDoorArLong
namespace Go.Proofs.YtmmcnkdefpfkiaaDoor
open Go.RowKit Go.Maps
set_option linter.unusedVariables false
set_option maxRecDepth 100000
set_option maxRecDepth 20000
set_option linter.unusedSimpArgs false

/-- The text in a member's field. -/
def fld (s : Lg) (n : T8) : T8 := match s.at_ n with | some o => 47 :: Lib.decDigits o | none => n ++ [47]
def idP (idx : T8) : T8 := if idx = [] then [] else wP [47] idx
def lgP (s : Lg) : T8 := if s.lg = [] then [] else wP [47, 47] s.lg
def msP (s : Lg) (ms : List Mb) : T8 := ms.flatMap (fun m => wP (fld s m.n) m.b)
def wA (ms : List Mb) (idx : T8) : T8 := magc ++ (idP idx ++ (lgP (lgA ms) ++ msP (lgA ms) ms))
theorem msP_take (s : Lg) (ms : List Mb) (k : Nat) (m : Mb) (h : ms[k]? = some m) : msP s (ms.take (k + 1)) = msP s (ms.take k) ++ wP (fld s m.n) m.b := by
  unfold msP
  rw [List.take_add_one, h, List.flatMap_append]
  simp
/-- What the long names are: as good as their list. -/
structure LgOk (s : Lg) (ms : List Mb) : Prop where
  short : ∀ m ∈ ms, s.at_ m.n = none → m.n.length ≤ 15
  lt : ∀ t o, s.at_ t = some o → o < s.lg.length
theorem lgStep_ok (s : Lg) (ms : List Mb) (m : Mb) (h : LgOk s ms) : LgOk (lgStep s m.n) (ms ++ [m]) := by
  unfold lgStep
  split
  · rename_i hc
    refine ⟨fun x hx hn => ?_, h.lt⟩
    rcases List.mem_append.1 hx with hx | hx
    · exact h.short x hx hn
    · simp at hx
      subst hx
      rcases hc with hc | hc
      · rw [hn] at hc; cases hc
      · exact hc
  · rename_i hc
    refine ⟨fun x hx hn => ?_, fun t o ho => ?_⟩
    · simp only at hn
      split at hn
      · cases hn
      · rename_i hne
        rcases List.mem_append.1 hx with hx | hx
        · exact h.short x hx hn
        · simp at hx
          subst hx
          exact absurd rfl hne
    · simp only at ho ⊢
      split at ho
      · cases ho; simp
      · have := h.lt t o ho
        simp
        omega
theorem lgA_ok (ms : List Mb) : LgOk (lgA ms) ms := by
  have : ∀ (l : List Mb) (s : Lg) (done : List Mb), LgOk s done → LgOk (l.foldl (fun s m => lgStep s m.n) s) (done ++ l) := by
    intro l
    induction l with
    | nil => intro s d h; simpa using h
    | cons a l ih =>
      intro s d h
      have := ih (lgStep s a.n) (d ++ [a]) (lgStep_ok s d a h)
      simpa using this
  have := this ms Lg.nil [] ⟨fun m hm => by simp at hm, fun t o ho => by cases ho⟩
  simpa [lgA] using this
theorem fld_len (ms : List Mb) (m : Mb) (hm : m ∈ ms) (ht : tot ms ≤ 100000000) : (fld (lgA ms) m.n).length ≤ 16 := by
  have ok := lgA_ok ms
  unfold fld
  cases h : (lgA ms).at_ m.n with
  | none => have := ok.short m hm h; simp; omega
  | some o =>
    have h1 := ok.lt _ _ h
    have h2 := lgA_lg ms
    have h3 := dec_len10 o (by omega)
    simp
    omega

theorem wP_len (f d : T8) (hf : f.length ≤ 16) (hd : d.length ≤ 1000000000) : (wP f d).length ≤ d.length + 61 := by
  have h1 := hdT_len f d.length hf hd
  simp [wP, h1, oddT]
  split <;> simp <;> omega
theorem msP_len (s : Lg) : ∀ (l : List Mb), (∀ x ∈ l, (fld s x.n).length ≤ 16) → tot l ≤ 1000000000 → (msP s l).length ≤ tot l
  | [], _, _ => by simp [msP]
  | x :: l, h, ht => by
    have h1 := msP_len s l (fun y hy => h y (List.mem_cons_of_mem _ hy)) (by simp [tot] at ht; omega)
    have h2 := wP_len (fld s x.n) x.b (h x (by simp)) (by simp [tot] at ht; omega)
    have e : msP s (x :: l) = wP (fld s x.n) x.b ++ msP s l := by simp [msP]
    rw [e, List.length_append]
    simp [tot]
    omega
theorem own_ne_map {w : World} {B : Nat} {v : Value} {n : Nat} {xs : List Value} {m k : Nat} {f : T8 → Option Value} (h : w.ownsRow B 5 1 v n xs) (hm : MapS w m k f) : v.ownBlock ≠ some m := fun e => by
  obtain ⟨c1, f1, q1⟩ := Lib.ownsRow_kind h m e
  exact hm.noCells q1
theorem Bx.ge {w0 w : World} {v : Value} {l : T8} (h : Bx w0 w v l) : ∀ k, v.ownBlock = some k → w0.heap.size ≤ k := fun k hk => by
  rcases h.row with ⟨x, rfl, _, hx⟩ | h1
  · simp [Value.ownBlock] at hk
    omega
  · exact row_ge h1 hk
theorem Bx.lt {w0 w : World} {v : Value} {l : T8} (h : Bx w0 w v l) (hl : 0 < l.length) : ∀ k, v.ownBlock = some k → k < w.heap.size := fun k hk => by
  rcases h.row with ⟨x, rfl, hr, hx⟩ | h1
  · have := World.block_lt_of_cell? w _ ((show Rd w (some x) l.length l.length (nI l) from hr).cell x rfl 0 hl)
    have e : (x.add 0).block = x.block := by unfold Addr.add; split <;> rfl
    simp [Value.ownBlock] at hk
    omega
  · exact (h1.lt k hk).2
theorem Bx.on {w0 w w' : World} {v : Value} {l : T8} (h : Bx w0 w v l) (hb : Below w.heap.size w w') : Bx w0 w' v l :=
  ⟨h.bel.trans (hb.mono h.bel.size), h.row.imp (fun ⟨x, h1, h2, h3⟩ => ⟨x, h1, Rd.below h2 hb, h3⟩) (fun h1 => rowKept (B0 := 0) h1 hb)⟩

theorem cellKB {w w' : World} {v : Value} {b j : Nat} (h : KB w w' v) (hb : b < w.heap.size) (hv : v.ownBlock ≠ some b) : w'.cell? ⟨b, j, none⟩ = w.cell? ⟨b, j, none⟩ := by
  have := h b hb hv
  unfold World.cell?
  simp only [this]

theorem lit_kc (w : World) : Sem.run Tryd.prog (convert 24 24 (.slice (some ⟨w.heap.size, 0, none⟩) 8 8)) (w.alloc (.cells mgV 5)) = .ok (.slice (some ⟨w.heap.size, 0, none⟩) 8 8) (w.alloc (.cells mgV 5 (8, 9))) :=
  Lib.run_convert_bytes_const (P := Tryd.prog) w 24 5 mgV 8 8 Tryd.underlying24 Tryd.underlying5
theorem lit_bx (w : World) : Bx w (w.alloc (.cells mgV 5 (8, 9))) (.slice (some ⟨w.heap.size, 0, none⟩) 8 8) magc :=
  ⟨(Below.refl _ _).alloc (Nat.le_refl _) _, .inl ⟨_, rfl, blkRt (l := magc) (heap_alloc_new w _) (by decide), Nat.le_refl _⟩⟩

set_option maxHeartbeats 8000000 in
theorem write_any (a : Option Addr) (cap : Nat) (ms : List Mb) (ai : Option Addr) (ci : Nat) (idx : T8) (w : World) (r : Rmb w a ms.length cap ms) (ri : Rt w ai ci idx) (L : LaidR w) (ht : tot ms ≤ 100000000) (hti : idx.length ≤ 100000000) :
    Calls Tryd.prog 8 #[.slice a ms.length cap, .slice ai idx.length ci] w fun e w' => ∃ v', e = .returned v' ∧ Bx w w' v' (wA ms idx) := by
  have hle := r.le
  have hmx := r.max
  have hile := ri.le
  have himx := ri.max
  have HR := hide r
  have HRI := hide ri
  have HL := hide L
  have hkc := lit_kc w
  unfold mgV at hkc
  have HB0 := hide (lit_bx w)
  unfold mgV at HB0
  clear r ri L
  go_enter Tryd.func8, Tryd.ntmps8
  go_upto_region 2 with fail
  generalize hW1 : w.alloc (.cells #[.int .u8 33, .int .u8 60, .int .u8 97, .int .u8 114, .int .u8 99, .int .u8 104, .int .u8 62, .int .u8 10] 5 (8, 9)) = w1 at *
  clear hkc hW1
  have hm8 : magc.length = 8 := rfl
  go_upto_if 16 with fail
  go_cut [5] (fun u wx => Hid (Bx w wx u (magc ++ idP idx)))
  case first =>
    by_cases h0 : idx = []
    · have hd0 : ¬ ((0 : Int) < (idx.length : Int)) := by rw [h0]; simp
      have hd1 : decide ((0 : Int) < (idx.length : Int)) = false := decide_eq_false hd0
      have H0 := hide h0
      clear h0
      go_wp2_with fail
      go_meet
      case rel =>
        unfold idP
        rw [if_pos H0.out, List.append_nil]
        exact HB0.out
    · have hd0 : (0 : Int) < (idx.length : Int) := by have := List.length_pos_iff.2 h0; omega
      have hd1 : decide ((0 : Int) < (idx.length : Int)) = true := decide_eq_true hd0
      have HP := hide (part_any w w1 _ magc [47] idx ai ci HB0.out (Rd.below HRI.out HB0.out.bel) (fun _ k hk x hx => by
        have h1 := HB0.out.ge k hk
        have h2 := World.block_lt_of_cell? w _ ((show Rd w ai idx.length ci (nI idx) from HRI.out).cell x hx 0 (List.length_pos_iff.2 h0))
        have e : (x.add 0).block = x.block := by unfold Addr.add; split <;> rfl
        omega) (HL.out.then HB0.out.bel) (by decide) (by omega) (by decide))
      go_wp2_with fail
      refine HP.out.mono ?_
      rintro e w2 ⟨v2, rfl, r2, b2, _⟩
      have HB2 : Hid (Bx w w2 v2 (magc ++ idP idx)) := by
        have e : idP idx = wP [47] idx := by unfold idP; rw [if_neg h0]
        rw [e]
        exact ⟨b2, .inr r2⟩
      clear r2 b2 HP
      go_wp2_with fail
      go_meet
      case rel => exact HB2.out
  case rest =>
    have HB2 := hcut
    clear HB0 hcut
    have hsz2 := HB2.out.bel.size
    have hid : (magc ++ idP idx).length ≤ 200000000 := by
      unfold idP
      split
      · simp [magc]
      · have h1 := hdT_len [47] idx.length (by decide) (by omega)
        simp [magc, wP, h1, oddT]
        split <;> simp <;> omega
    have hpos : 0 < (magc ++ idP idx).length := by simp [magc]
    obtain ⟨vb, hvb⟩ : ∃ v : Value, v = u5 := ⟨_, rfl⟩
    have HLN := hide (long_any a cap ms wc (HR.out.below HB2.out.bel) ht)
    go_wp2_with fail
    refine HLN.out.mono ?_
    rintro e w3 ⟨vl, m, k, rfl, hL⟩
    have HLS := hide hL
    have HB3 := hide (HB2.out.on hL.bel)
    have HNE : Hid (u5.ownBlock ≠ some m) := fun e => by
      have h1 := HB2.out.lt hpos m e
      have h2 := hL.hm
      omega
    obtain ⟨alg, clg, rfl, hlr⟩ := Rd.own hL.row (nI_bytes _)
    have HLR := hide hlr
    have hlgl := lgA_lg ms
    have hlle := hlr.le
    have hlmx := hlr.max
    have HSEP : Hid (0 < (lgA ms).lg.length → ∀ x, alg = some x → ∀ k, u5.ownBlock = some k → x.block ≠ k) := fun h0 x hx k hk => by
      have h1 := HB2.out.lt hpos k hk
      have h2 := row_ge hL.row (k := x.block) (by rw [hx]; rfl)
      omega
    clear hL HLN hlr vb hvb
    go_upto_if 27 with fail
    go_cut [5] (fun u wx => Hid (Bx w wx u (magc ++ idP idx ++ lgP (lgA ms))) ∧ Hid (MapS wx m k (mpL (lgA ms))) ∧ Hid (u.ownBlock ≠ some m))
    case first =>
      by_cases h0 : (lgA ms).lg = []
      · have hd0 : ¬ ((0 : Int) < ((lgA ms).lg.length : Int)) := by rw [h0]; simp
        have hd1 : decide ((0 : Int) < ((lgA ms).lg.length : Int)) = false := decide_eq_false hd0
        have H0 := hide h0
        clear h0
        go_wp2_with fail
        go_meet
        case rel =>
          refine ⟨?_, HLS.out.map, HNE.out⟩
          show Bx _ _ _ _
          unfold lgP
          rw [if_pos H0.out, List.append_nil]
          exact HB3.out
      · have hlp := List.length_pos_iff.2 h0
        have hd0 : (0 : Int) < ((lgA ms).lg.length : Int) := by omega
        have hd1 : decide ((0 : Int) < ((lgA ms).lg.length : Int)) = true := decide_eq_true hd0
        have HP := hide (part_any w w3 u5 (magc ++ idP idx) [47, 47] (lgA ms).lg alg clg HB3.out HLR.out (fun _ k hk x hx => HSEP.out hlp x hx k hk) (HL.out.then HB3.out.bel) (by decide) (by omega) (by omega))
        have H0 := hide h0
        clear h0
        go_wp2_with fail
        refine HP.out.mono ?_
        rintro e w4 ⟨v4, rfl, r4, b4, kb4⟩
        have HM4 := hide (HLS.out.map.kept (kb4 m HLS.out.map.lt HNE.out))
        have HN4 := hide (own_ne_map r4 HM4.out)
        have HB4 : Hid (Bx w w4 v4 (magc ++ idP idx ++ lgP (lgA ms))) := by
          have e : lgP (lgA ms) = wP [47, 47] (lgA ms).lg := by unfold lgP; rw [if_neg H0.out]
          rw [e]
          exact ⟨b4, .inr r4⟩
        clear r4 b4 kb4 HP
        go_wp2_with fail
        go_meet
        case rel => exact ⟨HB4.out, HM4.out, HN4.out⟩
    case rest =>
      obtain ⟨HB5, HM5, HN5⟩ := hcut
      have hpre0 : 0 < (magc ++ idP idx ++ lgP (lgA ms)).length := by simp [magc]
      have hpre : (magc ++ idP idx ++ lgP (lgA ms)).length ≤ 500000000 := by
        rw [List.length_append]
        have : (lgP (lgA ms)).length ≤ 200000000 := by
          unfold lgP
          split
          · simp
          · have h1 := hdT_len [47, 47] (lgA ms).lg.length (by decide) (by omega)
            simp [wP, h1, oddT]
            split <;> simp <;> omega
        omega
      have HWA : Hid (wA ms idx = magc ++ idP idx ++ lgP (lgA ms) ++ msP (lgA ms) ms) := by show _ = _; simp [wA]
      have HFL := hide (fun x hx => fld_len ms x hx ht)
      have HLG := hide (fun t o (h : (lgA ms).at_ t = some o) => Nat.le_trans (Nat.le_of_lt ((lgA_ok ms).lt t o h)) (Nat.le_trans (lgA_lg ms) ht))
      clear HB2 HB3 HLS HNE HLR HSEP hid hpos hlle hlmx
      generalize magc ++ idP idx ++ lgP (lgA ms) = P at *
      generalize lgA ms = S at *
      go_wp2_with fail
      go_loopg [5, 33] ms.length (fun g v5 i wr => ∃ (j : Nat), j ≤ ms.length ∧ g = ms.length - j ∧ i = .int .i64 (j : Int) ∧ Hid (Bx w wr v5 (P ++ msP S (ms.take j))) ∧ Hid (MapS wr m k (mpL S)) ∧ Hid (v5.ownBlock ≠ some m))
      case atStart => exact ⟨0, by omega, rfl, rfl, by show Bx _ _ _ _; simpa [msP] using HB5.out, HM5.out, HN5.out⟩
      case round =>
        obtain ⟨j, hj, rfl, rfl, HB, HM, HN⟩ := hrel
        clear HB5 HM5 HN5
        by_cases hlt : j < ms.length
        · obtain ⟨x, hx⟩ : ∃ x, ms[j]? = some x := ⟨_, List.getElem?_eq_getElem hlt⟩
          obtain ⟨b, o, a', c', rfl, h90, h91, hrd0⟩ := HR.out.at_ j x hx
          have hc0 := (HB.out.bel.cell (World.block_lt_of_cell? w _ h90)).trans h90
          have hc1 := (HB.out.bel.cell (World.block_lt_of_cell? w _ h91)).trans h91
          have hxm := List.mem_of_getElem? hx
          have hfl := HFL.out x hxm
          have htt := tot_take ms j x hx
          have htl := tot_le ms (j + 1)
          have hml := msP_len S (ms.take j) (fun y hy => HFL.out y (List.mem_of_mem_take hy)) (by omega)
          have HTK := hide (msP_take S ms j x hx)
          have hle' := hrd0.le
          have hmx' := hrd0.max
          have HRD := hide hrd0
          have hlt' : (j : Int) < (ms.length : Int) := by omega
          clear h90 h91 hrd0 hx hxm
          go_upto_region 10 with fail
          have bA : Below wr.heap.size wr (wr.alloc (.cells #[.string (str x.n), .slice a' x.b.length c'] 26)) := (Below.refl _ _).alloc (Nat.le_refl _) _
          have HB4 := hide (HB.out.on bA)
          have HM4 := hide (HM.out.kept (bA.block _ HM.out.lt))
          have hmlt := HM.out.lt
          have cN0 : (wr.alloc (.cells #[.string (str x.n), .slice a' x.b.length c'] 26)).cell? ⟨wr.heap.size, 0, none⟩ = some (.string (str x.n)) := cell_of_row (wr.alloc (.cells #[.string (str x.n), .slice a' x.b.length c'] 26)) wr.heap.size 0 _ _ (0, 0) (heap_alloc_new wr _)
          have cN1 : (wr.alloc (.cells #[.string (str x.n), .slice a' x.b.length c'] 26)).cell? ⟨wr.heap.size, 1, none⟩ = some (.slice a' x.b.length c') := cell_of_row (wr.alloc (.cells #[.string (str x.n), .slice a' x.b.length c'] 26)) wr.heap.size 1 _ _ (0, 0) (heap_alloc_new wr _)
          have hgw : wr.heap.size < (wr.alloc (.cells #[.string (str x.n), .slice a' x.b.length c'] 26)).heap.size := by simp
          generalize hW4 : wr.alloc (.cells #[.string (str x.n), .slice a' x.b.length c'] 26) = W4 at *
          have HBl := hide (HB.out.lt (by rw [List.length_append]; omega))
          clear hc0 hc1 hW4 bA HB
          have hlk := HM4.out.lookOk (t := 43) (e := 3) Tryd.underlying43 (zero64 W4) x.n (by omega)
          have hPl : (P ++ msP S (ms.take j)).length ≤ 10000000000 := by rw [List.length_append]; omega
          have HPA := hide (fun (f : T8) (u : World) (hf : f.length ≤ 16) (hu : Below W4.heap.size W4 u) => part_any w u _ (P ++ msP S (ms.take j)) f x.b a' c' (HB4.out.on hu) (Rd.below HRD.out (HB4.out.on hu).bel) (fun h0 k hk y hy => by
            have h1 := (HB4.out.on hu).ge k hk
            have h2 := World.block_lt_of_cell? w _ ((show Rd w a' x.b.length c' (nI x.b) from HRD.out).cell y hy 0 h0)
            have e : (y.add 0).block = y.block := by unfold Addr.add; split <;> rfl
            omega) (HL.out.then (HB4.out.on hu).bel) hf (by omega) hPl)
          have HNB := hide (fun e => Nat.lt_irrefl _ (HBl.out wr.heap.size e))
          have hnm := str_size x.n
          cases hf : S.at_ x.n with
          | none =>
            have e1 : mpL S x.n = none := by unfold mpL; rw [hf]; rfl
            rw [e1] at hlk
            have hlk2 : Sem.run Tryd.prog (Instr.lookup 43 (.map (some m)) (.string (str x.n)) true) W4 = .ok (.tuple #[.int .i64 0, .bool false]) W4 := hlk
            have ef : fld S x.n = x.n ++ [47] := by unfold fld; rw [hf]
            rw [ef] at hfl HTK
            have HP := hide (HPA.out (x.n ++ [47]) W4 hfl (Below.refl _ _))
            rw [← str_cat] at HP
            have hs1 : (str [47]).size = 1 := rfl
            generalize str x.n = SX at *
            clear hlk e1 hf ef
            go_wp2_with fail
            refine HP.out.mono ?_
            rintro e w5 ⟨v5, rfl, r5, b5, kb5⟩
            have HM6 := hide (HM4.out.kept (kb5 m HM4.out.lt HN.out))
            have HN6 := hide (own_ne_map r5 HM6.out)
            have HB6 : Hid (Bx w w5 v5 (P ++ msP S (ms.take (j + 1)))) := by
              show Bx _ _ _ _
              rw [HTK.out, ← List.append_assoc]
              exact ⟨b5, .inr r5⟩
            clear r5 b5 kb5 HP
            go_wp2_with fail
            go_roundg (ms.length - (j + 1))
            case measure => omega
            case rel => exact ⟨j + 1, by omega, rfl, by go_num, HB6.out, HM6.out, HN6.out⟩
          | some q =>
            have e1 : mpL S x.n = some (.int .i64 (q : Int)) := by unfold mpL; rw [hf]; rfl
            rw [e1] at hlk
            have hlk2 : Sem.run Tryd.prog (Instr.lookup 43 (.map (some m)) (.string (str x.n)) true) W4 = .ok (.tuple #[.int .i64 (q : Int), .bool true]) W4 := hlk
            have hq := HLG.out x.n q hf
            have ef : fld S x.n = [47] ++ Lib.decDigits q := by unfold fld; rw [hf]; rfl
            rw [ef] at hfl HTK
            have HI := hide (fun (u : World) (hu : LaidR u) => itoaS_any q u (by omega) hu)
            have HP := hide (fun (u : World) (hu : Below W4.heap.size W4 u) => HPA.out ([47] ++ Lib.decDigits q) u hfl hu)
            rw [← str_cat] at HP
            have hdq := dec_len10 q (by omega)
            have hsq := str_size (Lib.decDigits q)
            have hs1 : (str [47]).size = 1 := rfl
            have hb4s := HB4.out.bel.size
            have HLW := hide (fun (u : World) (hu : Below W4.heap.size W4 u) => HL.out.then (HB4.out.on hu).bel)
            generalize str (Lib.decDigits q) = SQ at *
            generalize str x.n = SX at *
            clear hlk e1 hf ef
            go_upto_region 12 with fail
            clear hlk2
            go_region_with (first
                | (go_at_call 19; refine (HI.out _ ?_).mono ?_; exact HLW.out _ ((Below.refl _ _).drew); rintro e w5 ⟨rfl, hb5⟩; have cX := (hb5.cell (p := ⟨wr.heap.size, 1, none⟩) (show wr.heap.size < W4.drew.heap.size from hgw)).trans cN1; have B5 := hide ((Below.refl W4.heap.size W4).drew.trans hb5); clear hb5)
                | (go_at_call 17; refine (HP.out _ B5.out).mono ?_; rintro e w6 ⟨v6, rfl, r6, b6, kb6⟩; have hlt5 := Nat.lt_of_lt_of_le hgw B5.out.size; have hne6 := HNB.out; have cY := (cellKB kb6 hlt5 hne6).trans cX; have R6 := hide r6; have B6 := hide b6; have K6 := hide kb6; clear r6 b6 kb6))
            all_goals
              have HM5 := hide (HM4.out.kept (B5.out.block _ HM4.out.lt))
              have HM6 := hide (HM5.out.kept (K6.out m HM5.out.lt HN.out))
              have HN6 := hide (own_ne_map R6.out HM6.out)
              have HB6 : Hid (Bx w w6 v6 (P ++ msP S (ms.take (j + 1)))) := by
                show Bx _ _ _ _
                rw [HTK.out, ← List.append_assoc]
                exact ⟨B6.out, .inr R6.out⟩
              clear R6 B6 K6 HP HI HLW HM5
              go_wp2_with fail
              go_roundg (ms.length - (j + 1))
              case measure => omega
              case rel => exact ⟨j + 1, by omega, rfl, by go_num, HB6.out, HM6.out, HN6.out⟩
        · obtain rfl : j = ms.length := by omega
          go_wp2_with fail
          go_ret
          refine ⟨_, rfl, ?_⟩
          rw [HWA.out]
          have := HB.out
          rw [List.take_length] at this
          exact this

end Go.Proofs.YtmmcnkdefpfkiaaDoor
