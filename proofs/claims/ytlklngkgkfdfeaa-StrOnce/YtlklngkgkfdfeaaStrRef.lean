/- The contract of the document's Names: the table and the places of the state that the names come to. -/
import Derived.Test.YtlklngkgkfdfeaaStrKnown
namespace Go.Proofs.Ytlklngkgkfdfeaa
open Go.RowKit Go.Maps
set_option linter.unusedVariables false

theorem bstr_eq (a b : ByteArray) : (a.toList == b.toList) = decide (a = b) := by
  rw [ByteArray.toList_eq, ByteArray.toList_eq, Bool.eq_iff_iff]
  simp only [beq_iff_eq, decide_eq_true_eq]
  constructor
  · intro h; exact ByteArray.ext (Array.toList_inj.1 h)
  · rintro rfl; rfl
theorem bstr_yes {a b : ByteArray} (h : a = b) : (a.toList == b.toList) = true := by rw [bstr_eq]; simp [h]
theorem bstr_no {a b : ByteArray} (h : a ≠ b) : (a.toList == b.toList) = false := by rw [bstr_eq]; simp [h]
theorem str_get (l : List UInt8) (n : Nat) (h : n < (str l).size) : l[n]? = some ((str l)[n]'h) := by
  have h' : n < l.length := by rwa [str_size] at h
  rw [List.getElem?_eq_getElem h']
  rfl
theorem str_ext (l : List UInt8) (k : Nat) : (str l).extract 0 k = str (l.take k) := by
  apply ByteArray.ext
  apply Array.ext'
  simp [ByteArray.data_extract]

theorem Try.infoS : (Try.prog.info? 9).map (fun i => (i.zero, i.size, i.bytes)) = some (some (.string ⟨#[]⟩), 1, 16) := by kernel_rfl

/-- What a part of the names that stand says of a text: the last of them, and whether there is one. -/
def lst (had : List (List UInt8 × Nat)) (s : List UInt8) : Option Nat := (had.reverse.find? (fun p => p.1 == s)).map (·.2)
theorem lst_snoc (had : List (List UInt8 × Nat)) (p : List UInt8 × Nat) (s : List UInt8) : lst (had ++ [p]) s = if p.1 = s then some p.2 else lst had s := by
  unfold lst
  rw [List.reverse_append]
  by_cases h : p.1 = s
  · simp [h]
  · simp [h]
theorem lst_take (had : List (List UInt8 × Nat)) (k : Nat) (h : k < had.length) (s : List UInt8) : lst (had.take (k + 1)) s = if (had[k]).1 = s then some (had[k]).2 else lst (had.take k) s := by
  rw [List.take_succ_eq_append_getElem h, lst_snoc]
theorem fnd_lst {had : List (List UInt8 × Nat)} {s : List UInt8} (h : s ≠ []) : fnd had s = lst had s := by
  unfold fnd lst
  rw [if_neg h]

abbrev csS (l : List (List UInt8 × Nat)) : List Value := l.map (fun p => Value.string (str p.1))

/-- The document's own rows for a state. -/
structure DSt (w0 : World) (B : Nat) (wr : World) (v4 v5 v6 v7 : Value) (σ : St) : Prop where
  tab : wr.ownsRow B 5 1 v4 σ.tab.length (cs8 σ.tab)
  offs : wr.ownsRow B 23 1 v5 σ.at_.length (cs32 σ.at_)
  had : wr.ownsRow B 9 1 v6 σ.had.length (csS σ.had)
  at_ : wr.ownsRow B 23 1 v7 σ.had.length (cs32 (σ.had.map (·.2)))
  apart : v5.ownBlock = none ∨ v5.ownBlock ≠ v7.ownBlock
  bel : Below B w0 wr
  hB : B ≤ w0.heap.size

theorem DSt.size {w0 wr : World} {B : Nat} {v4 v5 v6 v7 : Value} {σ : St} (h : DSt w0 B wr v4 v5 v6 v7 σ) : B ≤ wr.heap.size := Nat.le_trans h.hB h.bel.size

theorem DSt.grow0 {w0 wr w' : World} {B : Nat} {v4 v5 v6 v7 : Value} {σ : St} (h : DSt w0 B wr v4 v5 v6 v7 σ) (g : Below wr.heap.size wr w') : DSt w0 B w' v4 v5 v6 v7 σ := by
  have gg : wr.grownBy w' none := ⟨g.os, g.tape, g.output, g.size, fun i hi _ => g.block i hi⟩
  exact ⟨h.tab.kept gg (by cases v4.ownBlock <;> simp), h.offs.kept gg (by cases v5.ownBlock <;> simp), h.had.kept gg (by cases v6.ownBlock <;> simp), h.at_.kept gg (by cases v7.ownBlock <;> simp), h.apart, h.bel.trans (g.mono h.size), h.hB⟩

theorem own_form {w : World} {B : Nat} {e : TypeId} {v : Value} {n : Nat} {xs : List Value} (h : w.ownsRow B e 1 v n xs) : ∃ a c, v = .slice a n c := by
  rcases h.2 with ⟨h1, h2⟩ | ⟨g, cap, cur, hv, _⟩
  · subst h2; exact ⟨_, _, h1⟩
  · exact ⟨_, _, hv⟩

/-- The table grows. -/
theorem DSt.tabs {w0 wr w' : World} {B : Nat} {v4 v5 v6 v7 v' : Value} {σ : St} (h : DSt w0 B wr v4 v5 v6 v7 σ) {l : List UInt8} {n : Nat} (ho : w'.ownsRow B 5 1 v' n (cs8 σ.tab ++ cs8 l)) (g : wr.grownBy w' v4.ownBlock) :
    DSt w0 B w' v' v5 v6 v7 ⟨σ.tab ++ l, σ.at_, σ.had⟩ :=
  ⟨by
    have e : n = (σ.tab ++ l).length := by have := ho.1; simpa using this.symm
    subst e
    simpa [cs8] using ho, row_kept h.tab h.offs (by decide) g, row_kept h.tab h.had (by decide) g, row_kept h.tab h.at_ (by decide) g, h.apart, h.bel.grown g h.size (own_lo h.tab), h.hB⟩

/-- A place more. -/
theorem DSt.ofs {w0 wr w' : World} {B : Nat} {v4 v5 v6 v7 v' : Value} {σ : St} (h : DSt w0 B wr v4 v5 v6 v7 σ) {o : Nat} {n : Nat} (ho : w'.ownsRow B 23 1 v' n (cs32 σ.at_ ++ [.int .u32 (o : Int)])) (g : wr.grownBy w' v5.ownBlock)
    (hat : v'.ownBlock = v5.ownBlock ∨ v'.ownBlock = some wr.heap.size) : DSt w0 B w' v4 v' v6 v7 ⟨σ.tab, σ.at_ ++ [o], σ.had⟩ := by
  refine ⟨row_kept h.offs h.tab (by decide) g, ?_, row_kept h.offs h.had (by decide) g, ?_, ?_, h.bel.grown g h.size (own_lo h.offs), h.hB⟩
  · have e : n = (σ.at_ ++ [o]).length := by have := ho.1; simpa using this.symm
    subst e
    simpa [cs32] using ho
  · refine h.at_.kept g ?_
    rcases h.apart with h1 | h1
    · rw [h1]
      cases v7.ownBlock with
      | none => exact .inl rfl
      | some b => exact .inr (by simp)
    · exact .inr (Ne.symm h1)
  · cases h7 : v7.ownBlock with
    | none =>
      cases h5 : v'.ownBlock with
      | none => exact .inl rfl
      | some b => exact .inr (by simp)
    | some b =>
      have hlt := (h.at_.lt b h7).2
      rcases hat with e | e
      · rcases h.apart with h1 | h1
        · rw [e, h1]; exact .inl rfl
        · rw [e, ← h7]; exact .inr h1
      · rw [e]; exact .inr (fun x => by cases x; omega)

/-- A name more that stands. -/
theorem DSt.hads {w0 wr w1 w2 w' : World} {B : Nat} {v4 v5 v6 v7 u6 u7 : Value} {σ : St} (h : DSt w0 B wr v4 v5 v6 v7 σ) {s : List UInt8} {o n m : Nat} (h6 : w1.ownsRow B 9 1 u6 n (csS σ.had ++ [.string (str s)])) (g1 : wr.grownBy w1 v6.ownBlock)
    (b2 : Below w1.heap.size w1 w2) (h7 : w'.ownsRow B 23 1 u7 m (cs32 (σ.had.map (·.2)) ++ [.int .u32 (o : Int)])) (g2 : w2.grownBy w' v7.ownBlock) (hat : u7.ownBlock = v7.ownBlock ∨ u7.ownBlock = some w2.heap.size) :
    DSt w0 B w' v4 v5 u6 u7 ⟨σ.tab, σ.at_, σ.had ++ [(s, o)]⟩ := by
  have gg : w1.grownBy w2 none := ⟨b2.os, b2.tape, b2.output, b2.size, fun i hi _ => b2.block i hi⟩
  have t4 := (row_kept h.had h.tab (by decide) g1).kept gg (by cases v4.ownBlock <;> simp)
  have t5 := (row_kept h.had h.offs (by decide) g1).kept gg (by cases v5.ownBlock <;> simp)
  have t7 := (row_kept h.had h.at_ (by decide) g1).kept gg (by cases v7.ownBlock <;> simp)
  have t6 := h6.kept gg (by cases u6.ownBlock <;> simp)
  have en : n = (σ.had ++ [(s, o)]).length := by have := h6.1; simpa using this.symm
  have em : m = (σ.had ++ [(s, o)]).length := by have := h7.1; simpa using this.symm
  have b1 : Below B w0 w1 := h.bel.grown g1 h.size (own_lo h.had)
  have z1 : B ≤ w1.heap.size := Nat.le_trans h.hB b1.size
  have b3 : Below B w0 w2 := b1.trans (b2.mono z1)
  have z2 : B ≤ w2.heap.size := Nat.le_trans h.hB b3.size
  refine ⟨row_kept t7 t4 (by decide) g2, ?_, ?_, ?_, ?_, b3.grown g2 z2 (own_lo h.at_), h.hB⟩
  · refine t5.kept g2 ?_
    exact h.apart
  · subst en
    have := row_kept t7 t6 (by decide) g2
    simpa [csS] using this
  · subst em
    simpa [cs32] using h7
  · rcases h.apart with h1 | h1
    · exact .inl h1
    · cases h5 : v5.ownBlock with
      | none => exact .inl rfl
      | some b =>
        have hlt := (t5.lt b h5).2
        rcases hat with e | e
        · rw [e, ← h5]; exact .inr h1
        · rw [e]; exact .inr (fun x => by cases x; omega)

end Go.Proofs.Ytlklngkgkfdfeaa
