/- The table of names as it grows: the program's own rows and map for a state, the steps of the program and of the document. -/
import Derived.Test.YtlklngkgkfdfeaaStrMap
import Derived.Test.YtlklngkgkfdfeaaStrGet
import Derived.Lib.OwnKind
import Derived.Lib.AppendStr
namespace Go.Proofs.Ytlklngkgkfdfeaa
open Go.RowKit Go.Maps
set_option linter.unusedVariables false

/-- A slice of texts that is read. -/
structure Rs (w : World) (a : Option Addr) (len cap : Nat) (ns : List (List UInt8)) : Prop where
  length : ns.length = len
  le : len ≤ cap
  max : cap ≤ 9223372036854775807
  nil : a = none → cap = 0
  cell : ∀ x, a = some x → ∀ i, i < len → w.cell? (x.add i) = some (.string (str (ns.getD i [])))

theorem Rs.addr {w : World} {a : Option Addr} {len cap : Nat} {ns : List (List UInt8)} (r : Rs w a len cap ns) (h : 0 < len) :
    ∃ b o, a = some ⟨b, o, none⟩ ∧ ∀ i, i < len → w.cell? ⟨b, o + i, none⟩ = some (.string (str (ns.getD i []))) := by
  cases a with
  | none => have h1 := r.nil rfl; have h2 := r.le; omega
  | some x =>
    obtain ⟨b, o, spot⟩ := x
    have hs : spot = none := by simpa [Addr.add] using World.cell?_spot (r.cell _ rfl 0 h)
    subst hs
    exact ⟨b, o, rfl, fun i hi => by have := r.cell _ rfl i hi; rwa [show (⟨b, o, none⟩ : Addr).add i = ⟨b, o + i, none⟩ by unfold Addr.add; split <;> simp_all] at this⟩

theorem Rs.below {w w' : World} {a : Option Addr} {len cap : Nat} {ns : List (List UInt8)} (r : Rs w a len cap ns) (hb : Below w.heap.size w w') : Rs w' a len cap ns :=
  ⟨r.length, r.le, r.max, r.nil, fun x hx i hi => by
    have h1 := r.cell x hx i hi
    rw [hb.cell (World.block_lt_of_cell? w _ h1)]; exact h1⟩

theorem Rs.cells {w : World} {a : Option Addr} {len cap : Nat} {ns : List (List UInt8)} (r : Rs w a len cap ns) (x : Addr) (hx : a = some x) (j : Nat) (u : Value)
    (h : (ns.map (fun l => Value.string (str l)))[j]? = some u) : w.cell? (x.add j) = some u := by
  have hj : j < ns.length := by
    rcases Nat.lt_or_ge j ns.length with h1 | h1
    · exact h1
    · rw [List.getElem?_eq_none (by simpa using h1)] at h; cases h
  have hl := r.length
  rw [r.cell x hx j (by omega)]
  simp [hj] at h
  subst h
  simp [hj]

/-- The table, where each name begins, and the names that stand there with their places. -/
structure St where
  tab : List UInt8
  at_ : List Nat
  had : List (List UInt8 × Nat)

def fnd (had : List (List UInt8 × Nat)) (s : List UInt8) : Option Nat := if s = [] then some 0 else (had.reverse.find? (fun p => p.1 == s)).map (·.2)

def St.step (σ : St) (name : List UInt8) : St :=
  match fnd σ.had (nmO name) with
  | some o => ⟨σ.tab, σ.at_ ++ [o], σ.had⟩
  | none => ⟨σ.tab ++ (nmO name ++ [0]), σ.at_ ++ [σ.tab.length], σ.had ++ [(nmO name, σ.tab.length)]⟩

def st0 : St := ⟨[0], [], []⟩
def bld (l : List (List UInt8)) : St := l.foldl St.step st0
theorem bld_nil : bld [] = st0 := rfl
theorem bld_snoc (l : List (List UInt8)) (x : List UInt8) : bld (l ++ [x]) = (bld l).step x := by simp [bld, List.foldl_append]
theorem bld_take (l : List (List UInt8)) (k : Nat) (h : k < l.length) : bld (l.take (k + 1)) = (bld (l.take k)).step (l.getD k []) := by
  rw [List.take_succ_eq_append_getElem h, bld_snoc]; simp [h]

/-- How much room the names take. -/
def room (l : List (List UInt8)) : Nat := 1 + (l.map (fun n => n.length + 1)).sum
theorem room_snoc (l : List (List UInt8)) (x : List UInt8) : room (l ++ [x]) = room l + (x.length + 1) := by simp [room]; omega
theorem room_take (l : List (List UInt8)) (k : Nat) (h : k < l.length) : room (l.take (k + 1)) = room (l.take k) + ((l.getD k []).length + 1) := by
  rw [List.take_succ_eq_append_getElem h, room_snoc]; simp [h]
theorem room_take_le (l : List (List UInt8)) (k : Nat) : room (l.take k) ≤ room l := by
  have h : room (l.take k ++ l.drop k) = room (l.take k) + ((l.drop k).map (fun n => n.length + 1)).sum := by
    unfold room
    rw [List.map_append, List.sum_append]
    omega
  rw [List.take_append_drop] at h
  omega

structure St.Good (σ : St) (n : Nat) : Prop where
  tab1 : 1 ≤ σ.tab.length
  tab : σ.tab.length ≤ n
  at_ : σ.at_.length + 1 ≤ n
  had : ∀ p ∈ σ.had, p.2 < n
  ats : ∀ o ∈ σ.at_, o < n
  hadl : σ.had.length ≤ σ.at_.length

theorem fnd_lt {had : List (List UInt8 × Nat)} {n : Nat} (hn : 1 ≤ n) (h : ∀ p ∈ had, p.2 < n) {s : List UInt8} {o : Nat} (hf : fnd had s = some o) : o < n := by
  unfold fnd at hf
  split at hf
  · cases hf; omega
  · obtain ⟨p, hp, rfl⟩ := Option.map_eq_some_iff.1 hf
    exact h p (List.mem_reverse.1 (List.mem_of_find?_eq_some hp))

theorem St.Good.step {σ : St} {n : Nat} (h : σ.Good n) (x : List UInt8) : (σ.step x).Good (n + (x.length + 1)) := by
  have h1 := h.tab1
  have h2 := h.tab
  have h3 := h.at_
  have h4 := nmO_le x
  unfold St.step
  split
  · next o ho =>
    refine ⟨h1, by simp only []; omega, by simp; omega, fun p hp => by have := h.had p hp; omega, fun q hq => ?_, by have := h.hadl; simp; omega⟩
    rcases List.mem_append.1 hq with hq | hq
    · have := h.ats q hq; omega
    · simp at hq; subst hq
      have := fnd_lt (by omega) h.had ho
      omega
  · refine ⟨by simp; omega, by simp; omega, by simp; omega, fun p hp => ?_, fun q hq => ?_, by have := h.hadl; simp; omega⟩
    · rcases List.mem_append.1 hp with hp | hp
      · have := h.had p hp; omega
      · simp at hp; subst hp; simp only []; omega
    · rcases List.mem_append.1 hq with hq | hq
      · have := h.ats q hq; omega
      · simp at hq; subst hq; omega

theorem bld_good (l : List (List UInt8)) : (bld l).Good (room l) := by
  have : ∀ k, k ≤ l.length → (bld (l.take k)).Good (room (l.take k)) := by
    intro k
    induction k with
    | zero => intro _; rw [List.take_zero]; exact ⟨by decide, by decide, by decide, (fun p hp => by cases hp), (fun p hp => by cases hp), by decide⟩
    | succ k ih =>
      intro hk
      rw [bld_take l k (by omega), room_take l k (by omega)]
      exact (ih (by omega)).step _
  have h := this l.length (Nat.le_refl _)
  rwa [List.take_length] at h

/-- What the map holds of a text. -/
def mpO (had : List (List UInt8 × Nat)) (s : List UInt8) : Option Value := (fnd had s).map (fun (o : Nat) => Value.int .u32 (o : Int))

theorem fnd_snoc {had : List (List UInt8 × Nat)} {s : List UInt8} {o : Nat} (hn : fnd had s = none) (t : List UInt8) : fnd (had ++ [(s, o)]) t = if t = s then some o else fnd had t := by
  have hs : s ≠ [] := by intro e; simp [fnd, e] at hn
  unfold fnd
  by_cases ht : t = []
  · subst ht
    rw [if_pos rfl, if_neg (Ne.symm hs)]
    rfl
  · rw [if_neg ht, if_neg ht, List.reverse_append]
    by_cases hts : t = s
    · subst hts
      simp
    · rw [if_neg hts]
      simp [Ne.symm hts]

theorem mpO_snoc {had : List (List UInt8 × Nat)} {s : List UInt8} {o : Nat} (hn : fnd had s = none) (t : List UInt8) : mpO (had ++ [(s, o)]) t = updS (mpO had) s (.int .u32 (o : Int)) t := by
  unfold mpO updS
  rw [fnd_snoc hn]
  split <;> rfl

/-- A row is kept while a row of another kind grows. -/
theorem row_kept {w w' : World} {B1 B2 : Nat} {e1 e2 : TypeId} {v1 v2 : Value} {n1 n2 : Nat} {xs1 xs2 : List Value} (h1 : w.ownsRow B1 e1 1 v1 n1 xs1) (h2 : w.ownsRow B2 e2 1 v2 n2 xs2) (hne : e1 ≠ e2) (g : w.grownBy w' v1.ownBlock) : w'.ownsRow B2 e2 1 v2 n2 xs2 :=
  h2.kept g (by
    cases hv : v2.ownBlock with
    | none => exact .inl rfl
    | some b =>
      refine .inr fun e => ?_
      obtain ⟨c1, f1, q1⟩ := Lib.ownsRow_kind h1 b e.symm
      obtain ⟨c2, f2, q2⟩ := Lib.ownsRow_kind h2 b hv
      rw [q1] at q2
      simp at q2
      exact hne q2.2.1)

/-- A map is kept while a row grows. -/
theorem map_kept {w w' : World} {B1 : Nat} {e1 : TypeId} {v1 : Value} {n1 : Nat} {xs1 : List Value} {m n : Nat} {f : List UInt8 → Option Value} (h1 : w.ownsRow B1 e1 1 v1 n1 xs1) (h2 : MapS w m n f) (g : w.grownBy w' v1.ownBlock) : MapS w' m n f :=
  h2.kept (g.block m h2.lt (fun e => by
    obtain ⟨c1, f1, q1⟩ := Lib.ownsRow_kind h1 m e.symm
    exact h2.noCells q1))

/-- A row is kept while a map is turned. -/
theorem row_kept_map {w w' : World} {B1 : Nat} {e1 : TypeId} {v1 : Value} {n1 : Nat} {xs1 : List Value} {m n : Nat} {f : List UInt8 → Option Value} (h1 : w.ownsRow B1 e1 1 v1 n1 xs1) (h2 : MapS w m n f) (g : w.grownBy w' (some m)) : w'.ownsRow B1 e1 1 v1 n1 xs1 :=
  h1.kept g (.inr (fun e => by
    obtain ⟨c1, f1, q1⟩ := Lib.ownsRow_kind h1 m e
    exact h2.noCells q1))

abbrev cs8 (l : List UInt8) : List Value := l.map (fun b => Value.int .u8 (b.toNat : Int))
abbrev cs32 (l : List Nat) : List Value := l.map (fun (o : Nat) => Value.int .u32 (o : Int))
theorem cs8_str (l : List UInt8) : Lib.strCells (str l) = cs8 l := by simp [Lib.strCells]

/-- The program's own rows and map for a state. -/
structure BSt (w0 : World) (B m : Nat) (wr : World) (v4 v5 : Value) (σ : St) (k : Nat) : Prop where
  tab : wr.ownsRow B 5 1 v4 σ.tab.length (cs8 σ.tab)
  at_ : wr.ownsRow B 23 1 v5 σ.at_.length (cs32 σ.at_)
  map : MapS wr m k (mpO σ.had)
  bel : Below B w0 wr
  hB : B ≤ w0.heap.size
  hm : B ≤ m

theorem BSt.size {w0 wr : World} {B m k : Nat} {v4 v5 : Value} {σ : St} (h : BSt w0 B m wr v4 v5 σ k) : B ≤ wr.heap.size := Nat.le_trans h.hB h.bel.size

theorem BSt.grow0 {w0 wr w' : World} {B m k : Nat} {v4 v5 : Value} {σ : St} (h : BSt w0 B m wr v4 v5 σ k) (g : Below wr.heap.size wr w') : BSt w0 B m w' v4 v5 σ k := by
  have gg : wr.grownBy w' none := ⟨g.os, g.tape, g.output, g.size, fun i hi _ => g.block i hi⟩
  exact ⟨h.tab.kept gg (by cases v4.ownBlock <;> simp), h.at_.kept gg (by cases v5.ownBlock <;> simp), h.map.kept (g.block m h.map.lt), h.bel.trans (g.mono h.size), h.hB, h.hm⟩

theorem BSt.store {w0 wr w' : World} {B m k k' : Nat} {v4 v5 : Value} {σ : St} (h : BSt w0 B m wr v4 v5 σ k) {s : List UInt8} {o : Nat} (hn : fnd σ.had s = none) (hm : MapS w' m k' (updS (mpO σ.had) s (.int .u32 (o : Int)))) (g : wr.grownBy w' (some m)) :
    BSt w0 B m w' v4 v5 ⟨σ.tab, σ.at_, σ.had ++ [(s, o)]⟩ k' :=
  ⟨row_kept_map h.tab h.map g, row_kept_map h.at_ h.map g, hm.congr (fun t _ => (mpO_snoc hn t).symm), h.bel.grown g h.size (fun j hj => by cases hj; exact h.hm), h.hB, h.hm⟩

theorem own_lo {w : World} {B : Nat} {e : TypeId} {v : Value} {n : Nat} {xs : List Value} (h : w.ownsRow B e 1 v n xs) : ∀ j, v.ownBlock = some j → B ≤ j := fun j hj => (h.lt j hj).1

theorem BSt.tabs {w0 wr w' : World} {B m k : Nat} {v4 v5 v' : Value} {σ : St} (h : BSt w0 B m wr v4 v5 σ k) {l : List UInt8} {n : Nat} (ho : w'.ownsRow B 5 1 v' n (cs8 σ.tab ++ cs8 l)) (g : wr.grownBy w' v4.ownBlock) :
    BSt w0 B m w' v' v5 ⟨σ.tab ++ l, σ.at_, σ.had⟩ k :=
  ⟨by
    have e : n = (σ.tab ++ l).length := by have := ho.1; simpa using this.symm
    subst e
    simpa [cs8] using ho, row_kept h.tab h.at_ (by decide) g, map_kept h.tab h.map g, h.bel.grown g h.size (own_lo h.tab), h.hB, h.hm⟩

theorem BSt.ats {w0 wr w' : World} {B m k : Nat} {v4 v5 v' : Value} {σ : St} (h : BSt w0 B m wr v4 v5 σ k) {o : Nat} {n : Nat} (ho : w'.ownsRow B 23 1 v' n (cs32 σ.at_ ++ [.int .u32 (o : Int)])) (g : wr.grownBy w' v5.ownBlock) :
    BSt w0 B m w' v4 v' ⟨σ.tab, σ.at_ ++ [o], σ.had⟩ k :=
  ⟨row_kept h.at_ h.tab (by decide) g, by
    have e : n = (σ.at_ ++ [o]).length := by have := ho.1; simpa using this.symm
    subst e
    simpa [cs32] using ho, map_kept h.at_ h.map g, h.bel.grown g h.size (own_lo h.at_), h.hB, h.hm⟩

end Go.Proofs.Ytlklngkgkfdfeaa
