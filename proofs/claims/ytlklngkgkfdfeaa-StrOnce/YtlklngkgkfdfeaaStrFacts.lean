/- What was built is got back: where a name begins, it stands; the document's Names as what is read of it; equal texts. -/
import Derived.Test.YtlklngkgkfdfeaaStrNames
namespace Go.Proofs.Ytlklngkgkfdfeaa
open Go.RowKit Go.Maps
set_option linter.unusedVariables false

/-- At o the text s stands, with a nought behind it. -/
def Stands (tab : List UInt8) (o : Nat) (s : List UInt8) : Prop := ∃ p r, tab = p ++ (s ++ 0 :: r) ∧ p.length = o
theorem Stands.more {tab : List UInt8} {o : Nat} {s : List UInt8} (h : Stands tab o s) (t : List UInt8) : Stands (tab ++ t) o s := by
  obtain ⟨p, r, e, hp⟩ := h
  exact ⟨p, r ++ t, by rw [e]; simp, hp⟩
theorem Stands.new (tab s : List UInt8) : Stands (tab ++ (s ++ [0])) tab.length s := ⟨tab, [], rfl, rfl⟩
theorem Stands.get {tab : List UInt8} {o : Nat} {s : List UInt8} (h : Stands tab o s) (hs : (0 : UInt8) ∉ s) : gtO (tabI tab) o = if s.length ≤ 200 then some s else none := by
  obtain ⟨p, r, e, hp⟩ := h
  have e1 : Lib.bytesOf ((tabI tab).drop o) = s ++ 0 :: r := by
    rw [bytesOf_drop, bytesOf_tabI, e, ← hp, List.drop_left]
  unfold gtO
  simp only []
  rw [e1, nmO_app _ hs]
  by_cases h : s.length ≤ 200
  · rw [if_pos ⟨by simp, h⟩, if_pos h]
  · rw [if_neg (fun x => h x.2), if_neg h]

structure St.Ok (σ : St) (ns : List (List UInt8)) : Prop where
  len : σ.at_.length = ns.length
  had : ∀ p ∈ σ.had, Stands σ.tab p.2 p.1
  zero : Stands σ.tab 0 []
  at_ : ∀ i, i < ns.length → Stands σ.tab (σ.at_.getD i 0) (nmO (ns.getD i []))

theorem fnd_stands {σ : St} {ns : List (List UInt8)} (h : σ.Ok ns) {s : List UInt8} {o : Nat} (hf : fnd σ.had s = some o) : Stands σ.tab o s := by
  unfold fnd at hf
  split at hf
  · next e => cases hf; subst e; exact h.zero
  · obtain ⟨p, hp, rfl⟩ := Option.map_eq_some_iff.1 hf
    have h1 := List.find?_some hp
    have h2 := h.had p (List.mem_reverse.1 (List.mem_of_find?_eq_some hp))
    simp at h1
    rwa [← h1]

theorem St.Ok.step {σ : St} {ns : List (List UInt8)} (h : σ.Ok ns) (x : List UInt8) : (σ.step x).Ok (ns ++ [x]) := by
  have hl := h.len
  unfold St.step
  split
  · next o ho =>
    refine ⟨by simp [hl], h.had, h.zero, fun i hi => ?_⟩
    simp at hi
    rcases (show i < ns.length ∨ i = ns.length by omega) with h1 | h1
    · have := h.at_ i h1
      simpa [List.getElem?_append_left (show i < σ.at_.length by omega), List.getElem?_append_left h1] using this
    · subst h1
      have := fnd_stands h ho
      simpa [List.getElem?_append_right (show σ.at_.length ≤ ns.length by omega), hl] using this
  · refine ⟨by simp [hl], fun p hp => ?_, h.zero.more _, fun i hi => ?_⟩
    · rcases List.mem_append.1 hp with hp | hp
      · exact (h.had p hp).more _
      · simp at hp; subst hp; exact Stands.new _ _
    · simp at hi
      rcases (show i < ns.length ∨ i = ns.length by omega) with h1 | h1
      · have := (h.at_ i h1).more (nmO x ++ [0])
        simpa [List.getElem?_append_left (show i < σ.at_.length by omega), List.getElem?_append_left h1] using this
      · subst h1
        have := Stands.new σ.tab (nmO x)
        simpa [List.getElem?_append_right (show σ.at_.length ≤ ns.length by omega), hl] using this

theorem bld_ok (l : List (List UInt8)) : (bld l).Ok l := by
  have : ∀ k, k ≤ l.length → (bld (l.take k)).Ok (l.take k) := by
    intro k
    induction k with
    | zero => intro _; rw [List.take_zero]; exact ⟨rfl, (fun p hp => by cases hp), ⟨[], [], rfl, rfl⟩, (fun i hi => by simp at hi)⟩
    | succ k ih =>
      intro hk
      rw [bld_take l k (by omega), List.take_succ_eq_append_getElem (by omega)]
      have := (ih (by omega)).step (l.getD k [])
      simpa [show k < l.length by omega] using this
  have h := this l.length (Nat.le_refl _)
  rwa [List.take_length] at h

theorem rnamed_any (a : Option Addr) (len cap : Nat) (ns : List (List UInt8)) (w : World) (r : Rs w a len cap ns) (hr : room ns ≤ 1000000) :
    Calls Try.prog 11 #[.slice a len cap] w fun e w' => ∃ a4 c4 a5 c5, e = .returned (.tuple #[.slice a4 (bld ns).tab.length c4, .slice a5 (bld ns).at_.length c5]) ∧
      Rd w' a4 (bld ns).tab.length c4 (tabI (bld ns).tab) ∧ Rn .u32 4294967295 w' a5 (bld ns).at_.length c5 (atI (bld ns).at_) ∧ Below w.heap.size w w' := by
  refine (rnames_any a len cap ns w r hr).mono ?_
  rintro e w' ⟨v4, v5, v6, v7, rfl, h⟩
  have h4 := h.tab
  have h5 := h.offs
  rw [cs8_tabI] at h4
  rw [cs32_atI] at h5
  obtain ⟨a4, c4, rfl, r4⟩ := Rd.own h4 (tabI_bytes _)
  obtain ⟨a5, c5, rfl, r5⟩ := Rn.own (top := 4294967295) h5 (fun x hx => by
    obtain ⟨o, ho, rfl⟩ := List.mem_map.1 hx
    have := (bld_good ns).ats o ho
    omega) (by omega)
  exact ⟨a4, c4, a5, c5, rfl, r4, r5, h.bel⟩

set_option maxRecDepth 20000 in
theorem strs_same (a : Option Addr) (len cap : Nat) (ns : List (List UInt8)) (w : World) (r : Rs w a len cap ns) :
    Calls Try.prog 12 #[.slice a len cap, .slice a len cap] w fun e w' => e = .returned (.bool true) ∧ Below w.heap.size w w' := by
  have hl := r.length
  have hle := r.le
  have hmx := r.max
  have HR := hide r
  clear r
  by_cases h0 : len = 0
  · subst h0
    go_enter Try.func12, Try.ntmps12
    go_wp2
    go_loopg [5] 0 (fun g kv wi => wi = w ∧ kv = .int .i64 0)
    case atStart => exact ⟨rfl, rfl⟩
    case round =>
      obtain ⟨rfl, rfl⟩ := hrel
      go_wp2
      go_ret
      exact ⟨rfl, Below.refl _ _⟩
  · obtain ⟨b, o, rfl, hc⟩ := HR.out.addr (by omega)
    clear hc h0
    go_enter Try.func12, Try.ntmps12
    go_wp2
    go_loopg [5] len (fun g kv wi => ∃ i : Nat, i ≤ len ∧ g = len - i ∧ kv = .int .i64 (i : Int) ∧ Hid (Below w.heap.size w wi))
    case atStart => exact ⟨0, by omega, by omega, rfl, Below.refl _ _⟩
    case round =>
      obtain ⟨i, hi, rfl, rfl, HB⟩ := hrel
      by_cases hlt : i < len
      · have r1 := HR.out.below HB.out
        obtain ⟨b', o', e, hc⟩ := r1.addr (by omega)
        cases e
        have hcell := hc i hlt
        have hs := bstr_yes (rfl : str (ns.getD i []) = str (ns.getD i []))
        have hlt' : (i : Int) < (len : Int) := by omega
        have HB2 := hide (fun q => HB.out.trans ((bel_drewN' wr q).mono HB.out.size))
        generalize str (ns.getD i []) = S at *
        clear HR r1 hc HB
        go_upto_region 6 with fail
        go_quiet (fail)
        go_wp2
        go_roundg (len - (i + 1))
        case measure => omega
        case rel => exact ⟨i + 1, by omega, rfl, by go_num, HB2.out _⟩
      · go_wp2
        go_ret
        exact ⟨rfl, HB.out⟩

end Go.Proofs.Ytlklngkgkfdfeaa
