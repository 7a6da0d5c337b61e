/- Bytes as lists of bytes, whatever the program is: a slice of them that is read, a row of them; texts held against one another. -/
import Derived.Test.YtmmcnkdefpfkiaaDoorKin
import Derived.Test.YtmmcnkdefpfkiaaDoorTxtRow
namespace Go.Proofs.YtmmcnkdefpfkiaaDoor
open Go.RowKit
set_option linter.unusedVariables false
set_option maxRecDepth 100000
set_option maxRecDepth 20000
set_option linter.unusedSimpArgs false

abbrev T8 := List UInt8
/-- Bytes as numbers. -/
def nI (l : T8) : List Int := l.map (fun b => (b.toNat : Int))
theorem nI_len (l : T8) : (nI l).length = l.length := by simp [nI]
theorem nI_bytes (l : T8) : Bytes (nI l) := fun x hx => by
  obtain ⟨b, _, rfl⟩ := List.mem_map.1 hx
  have := b.toNat_lt
  omega
theorem nI_drop (l : T8) (k : Nat) : (nI l).drop k = nI (l.drop k) := by simp [nI, List.map_drop]
theorem nI_take (l : T8) (k : Nat) : (nI l).take k = nI (l.take k) := by simp [nI, List.map_take]
theorem nI_app (l m : T8) : nI (l ++ m) = nI l ++ nI m := by simp [nI]
theorem nI_at (l : T8) (i : Nat) (c : UInt8) (h : l[i]? = some c) : (nI l).getD i 0 = (c.toNat : Int) := by simp [nI, List.getD, h]
theorem nI_str (l : T8) : strOfNums (nI l) = str l := by
  simp [strOfNums, nI, str, Function.comp_def]
theorem nI_inj {l m : T8} (h : nI l = nI m) : l = m := by
  have := congrArg strOfNums h
  rw [nI_str, nI_str] at this
  exact str_inj this
/-- Any bytes are such. -/
theorem nI_of {bs : List Int} (h : Bytes bs) : ∃ l, bs = nI l := by
  refine ⟨bs.map (fun x => UInt8.ofNat x.toNat), ?_⟩
  unfold nI
  rw [List.map_map]
  refine (List.map_congr_left (fun x hx => ?_)).trans (List.map_id _) |>.symm
  have h1 := h x hx
  simp [UInt8.toNat_ofNat]
  omega
/-- A slice of bytes that is read. -/
abbrev Rt (w : World) (a : Option Addr) (cap : Nat) (l : T8) : Prop := Rd w a l.length cap (nI l)
abbrev cs8 (l : T8) : List Value := (nI l).map (Value.int .u8)
theorem strq (l m : T8) : ((str l).toList == m) = decide (l = m) := by
  rw [ByteArray.toList_eq, Bool.eq_iff_iff]
  simp
theorem row_low {w : World} {B B2 : Nat} {e : TypeId} {size : Nat} {v : Value} {n : Nat} {xs : List Value} (h : w.ownsRow B2 e size v n xs) (hB : B ≤ B2) : w.ownsRow B e size v n xs := by
  refine ⟨h.1, ?_⟩
  rcases h.2 with h1 | ⟨g, cap, cur, h1, h2, h3⟩
  · exact .inl h1
  · exact .inr ⟨g, cap, cur, h1, by omega, h3⟩
theorem row_ge {w : World} {B : Nat} {e : TypeId} {size : Nat} {v : Value} {n : Nat} {xs : List Value} (h : w.ownsRow B e size v n xs) {k : Nat} (hk : v.ownBlock = some k) : B ≤ k := by
  rcases h.2 with ⟨h1, _⟩ | ⟨g, cap, cur, h1, h2, h3⟩
  · subst h1; simp [Value.ownBlock] at hk
  · subst h1; simp [Value.ownBlock] at hk; omega
theorem row_ne {w : World} {B : Nat} {e : TypeId} {size : Nat} {v : Value} {n : Nat} {xs : List Value} (h : w.ownsRow B e size v n xs) {b : Nat} (hb : b < B) : some b ≠ v.ownBlock := fun e => by
  have := row_ge h e.symm
  omega
theorem bel_drewN (w : World) (n : Nat) : Below w.heap.size w (w.drewN n) := ⟨rfl, rfl, rfl, Nat.le_refl _, fun _ _ => rfl⟩
theorem addN (b o k : Nat) : (⟨b, o, none⟩ : Addr).add k = ⟨b, o + k, none⟩ := by unfold Addr.add; split <;> simp_all
/-- A part of a slice that is read, as a text and as a slice. -/
theorem Rt.mid {w : World} {b o c : Nat} {l : T8} (h : Rt w (some ⟨b, o, none⟩) c l) (f m : Nat) (hm : f + m ≤ l.length) : Rt w (some ⟨b, o + f, none⟩) (c - f) ((l.drop f).take m) := by
  have h1 := Rd.part h f m hm
  rw [nI_drop, nI_take, addN] at h1
  have e : ((l.drop f).take m).length = m := by simp; omega
  show Rd w _ _ _ _
  rw [e]
  exact h1
theorem Rt.front {w : World} {a : Option Addr} {c : Nat} {l : T8} (h : Rt w a c l) (m : Nat) (hm : m ≤ l.length) : Rt w a c (l.take m) := by
  have h0 : Rd w a l.length c (nI l) := h
  have h1 := h0.le
  have e : (l.take m).length = m := by simp; omega
  refine ⟨by rw [nI_len], by rw [e]; omega, h0.max, nI_bytes _, h0.nil, fun x hx i hi => ?_⟩
  rw [e] at hi
  rw [h0.cell x hx i (by omega), ← nI_take]
  simp [List.getD, List.getElem?_take, hi]
theorem blkRt {w : World} {X : Nat} {l : T8} {t : TypeId} {fr : Nat × Nat} (h : w.heap[X]? = some (.cells (cs8 l).toArray t fr)) (hl : l.length ≤ 9223372036854775807) : Rt w (some ⟨X, 0, none⟩) l.length l := by
  refine ⟨nI_len l, Nat.le_refl _, hl, nI_bytes l, (fun h => by cases h), fun x hx i hi => ?_⟩
  cases hx
  rw [addN, Nat.zero_add, cell_of_row _ _ i _ t fr h]
  simp [cs8, nI, hi]
theorem cells_of {w : World} {a : Option Addr} {c : Nat} {d : T8} (h : Rt w a c d) (x : Addr) (hx : a = some x) : ∀ (j : Nat) (u : Value), (cs8 d)[j]? = some u → w.cell? (x.add j) = some u := fun j u hu => Rd.cells h x hx j u hu
theorem cs8_len (l : T8) : (cs8 l).length = l.length := by simp [cs8, nI]
theorem cs8_app (l m : T8) : cs8 (l ++ m) = cs8 l ++ cs8 m := by simp [cs8, nI]
theorem cs8_one (l : T8) : ∀ u ∈ cs8 l, u.oneCell' = true := by
  intro u hu
  obtain ⟨x, _, rfl⟩ := List.mem_map.1 hu
  rfl
theorem str_cat (a b : T8) : str a ++ str b = str (a ++ b) := by
  apply ByteArray.ext
  simp [str]

theorem Rt.txt {w : World} {a : Option Addr} {c : Nat} {l : T8} (h : Rt w a c l) (n : Nat) (hn : l.length = n) : Sem.run Tryd.prog (convert 24 9 (.slice a n c)) w = .ok (.string (str l)) w := by
  have := Rd.str h
  rw [nI_str] at this
  rw [← hn]
  exact this

end Go.Proofs.YtmmcnkdefpfkiaaDoor
