/- From the rows' condition on the listed variables, and from the world's shape, to what the contracts ask; the world in which the condition is met; the wrap that hands both on. -/
import Derived.Test.YtcghekkhbiomgaaGreatDoorAsmLib
import Derived.Lib.LaidTab
import Derived.ProofKit
import Derived.LaidMore
import Derived.Stop.LaidErr
import Derived.Stop.Joined
import Derived.HandedShaped
import Derived.Shelf.Vars
import Derived.Lay
namespace Go.Proofs.YtcghekkhbiomgaaGreatDoor
open Go.RowKit
set_option linter.unusedVariables false
set_option maxRecDepth 100000

def lay : List (String × DataW Unit) := [("math/bits.deBruijn32tab", Rows.laid_math_bits_deBruijn32tab), ("math/bits.deBruijn64tab", Rows.laid_math_bits_deBruijn64tab), ("internal/strconv.uint64pow10", Rows.laid_internal_strconv_uint64pow10), ("unicode/utf8.acceptRanges", Rows.laid_unicode_utf8_acceptRanges), ("strconv.ErrRange", Rows.laid_strconv_ErrRange), ("strconv.ErrSyntax", Rows.laid_strconv_ErrSyntax), ("dovetail/inst.words", Rows.laid_dovetail_inst_words), ("dovetail/inst.names", Rows.laid_dovetail_inst_names), ("unicode/utf8.first", Rows.laid_unicode_utf8_first)]

/-- An array of texts that reads as the table holds the table's texts, cell for cell. -/
theorem cells_of_strs {H : Type} {enc : TypeId × Value → H} {P : Program} {w : World} {base : Nat} {sp : Nat → Bool} {held : Bool} {fuel : Nat} {t e : TypeId} {n : Nat} {cs : List Value} {zs : List (List UInt8)} {p : List MemPlace}
    (ht : P.underlying t = some (.array n e)) (he : P.underlying e = some .string) (hce : P.cellsOf e = 1) (hct : P.cellsOf t = n)
    (h : DataW.trod enc P w base sp held fuel t cs = some (.agg (zs.map fun z => .lit (.string z)), p)) : cs = zs.map fun z => Value.string ⟨z.toArray⟩ := by
  cases fuel with
  | zero => simp [DataW.trod] at h
  | succ fuel =>
    simp only [DataW.trod, ht, hce, hct, Nat.mul_one] at h
    split at h
    · rename_i hl
      obtain ⟨xs, hm, hx⟩ := Option.map_eq_some_iff.1 h
      have hxs : xs.map (·.1) = zs.map fun z => (DataW.lit (.string z) : DataW H) := by
        have := congrArg Prod.fst hx
        simpa using this
      have hxl : xs.length = n := by simpa using Lib.mapM_length hm
      have hzl : zs.length = n := by
        have := congrArg List.length hxs
        simp at this
        omega
      apply List.ext_getElem?
      intro i
      by_cases hi : i < n
      · obtain ⟨b, hb, hf⟩ := Lib.mapM_at hm i i (by simp [hi])
        obtain ⟨z, hc, rfl, _⟩ := DataW.trod_string he hf
        have h1 : cs[i]? = some (.string z) := by
          have := congrArg (·[0]?) hc
          simpa [List.getElem?_take, List.getElem?_drop] using this
        have h2 : (xs.map (·.1))[i]? = some (DataW.lit (.string z.data.toList) : DataW H) := by simp [hb]
        rw [hxs] at h2
        simp only [List.getElem?_map, Option.map_eq_some_iff, DataW.lit.injEq, Lit.string.injEq] at h2
        obtain ⟨z', hz', rfl⟩ := h2
        rw [h1]
        simp [hz']
      · rw [List.getElem?_eq_none (by omega), List.getElem?_eq_none (by simp; omega)]
    · cases h

theorem g9 : Tryz.prog.globalNamed "math/bits.deBruijn64tab" = some 9 := by kernel_rfl
theorem gW : Tryz.prog.globalNamed "dovetail/inst.words" = some 1 := by kernel_rfl
theorem gN : Tryz.prog.globalNamed "dovetail/inst.names" = some 0 := by kernel_rfl
theorem tW : (Tryz.prog.globals[1]?).map (·.type) = some 75 := by kernel_rfl
theorem tN : (Tryz.prog.globals[0]?).map (·.type) = some 69 := by kernel_rfl
theorem tT : (Tryz.prog.globals[7]?).map (·.type) = some 142 := by kernel_rfl
theorem tS : (Tryz.prog.globals[3]?).map (·.type) = some 72 := by kernel_rfl
theorem tR : (Tryz.prog.globals[4]?).map (·.type) = some 72 := by kernel_rfl
theorem cW : Tryz.prog.cellsOf 75 = 66 := by kernel_rfl
theorem cN : Tryz.prog.cellsOf 69 = 66 := by kernel_rfl
theorem cT : Tryz.prog.cellsOf 142 = 20 := by kernel_rfl
theorem cU : Tryz.prog.cellsOf 24 = 1 := by kernel_rfl
theorem cU64 : Tryz.prog.cellsOf 38 = 1 := by kernel_rfl
theorem cS : Tryz.prog.cellsOf 9 = 1 := by kernel_rfl
theorem cE : Tryz.prog.cellsOf 140 = 1 := by kernel_rfl
theorem words_is : (Rows.laid_dovetail_inst_words : DataW Unit) = Lib.tabData .u32 wordsL := by kernel_rfl
theorem pow_is : (Rows.laid_internal_strconv_uint64pow10 : DataW Unit) = Lib.tabData .u64 Lib.pow10Tab := by kernel_rfl
theorem names_is : (Rows.laid_dovetail_inst_names : DataW Unit) = .agg (namesL.map fun z => .lit (.string z)) := by kernel_rfl
theorem words_len : wordsL.length = 66 := by decide
theorem names_len : namesL.length = 66 := by decide
theorem starE : "*" ++ "errors.errorString" = "*errors.errorString" := by decide
theorem rowE (u : TypeId) (h : Tryz.prog.typeName? 3 u = some "*errors.errorString") : u = 138 :=
  typeName_ptr_named (nm := "errors.errorString") (by rw [starE]; kernel_rfl) (by kernel_rfl) (by decide) u (by rw [starE]; exact h)

theorem max_of {W : World} (h : W.ShapedOpen Tryz.prog) : ∃ m, W.cell? ⟨2, 0, none⟩ = some (.int .i64 m) :=
  cell_of_shapedOpen_int (t := 3) (zero := #[.int .i64 0]) h (of_decide_eq_true (by kernel_rfl)) (by kernel_rfl) rfl (by kernel_rfl) (by kernel_rfl) Tryz.underlying3

theorem laid_of {W : World} (h : laidMetH Tryz.prog lay W) (hsh : W.ShapedOpen Tryz.prog) : LaidA W := by
  rw [MakeChecks.laidMetH_plain _ _ _ (by kernel_rfl)] at h
  unfold lay at h
  have h3 := h.tail.tail
  rw [pow_is] at h3
  have hP := Lib.tabIs_of_head gTab tT Tryz.underlying142 Tryz.underlying38 cU64 cT h3
  have h5 := h3.tail.tail
  obtain ⟨a5, s5, hv5, _⟩ := laid_sentinel h5 gRng tR Tryz.underlying72 rowE Tryz.underlying138 Tryz.underlying140 rfl rfl Tryz.underlying9 cE cS
  have h6 := h5.tail
  obtain ⟨a6, s6, hv6, _⟩ := laid_sentinel h6 gSyn tS Tryz.underlying72 rowE Tryz.underlying138 Tryz.underlying140 rfl rfl Tryz.underlying9 cE cS
  have h7 := h6.tail
  rw [words_is] at h7
  have hT := Lib.tabIs_of_head gW tW Tryz.underlying75 Tryz.underlying24 cU cW h7
  obtain ⟨ps, ⟨g', t', cs, fuel, p, q, hg', ht', hvar, hd, _, _⟩, _⟩ := h7.tail
  obtain rfl := Option.some.inj (gN.symm.trans hg')
  obtain rfl := Option.some.inj (tN.symm.trans ht')
  rw [names_is] at hd
  have hcs := cells_of_strs Tryz.underlying69 Tryz.underlying9 cS cN hd
  have hn : ∀ k : Nat, k < 66 → W.cell? ⟨0, k, none⟩ = some (.string (nm k)) := fun k hk => by
    have := World.var?_cell hg' hvar k
    rw [this]
    have e : cs[k]? = cs.toList[k]? := by simp
    rw [e, hcs]
    simp [nm, List.getD, names_len, hk]
  have hw : ∀ k : Nat, k < 66 → W.cell? ⟨1, k, none⟩ = some (.int .u32 (wd k)) := fun k hk => hT.cell gW k (by rw [words_len]; exact hk)
  have hsz : 10 ≤ W.heap.size := by
    obtain ⟨_, ⟨g9', _, cs9, _, _, _, hg9, _, hv9, _, _, _⟩, _⟩ := h.tail
    obtain rfl := Option.some.inj (g9.symm.trans hg9)
    rcases Nat.lt_or_ge 9 W.heap.size with hlt | hge
    · exact hlt
    · unfold World.var? at hv9
      rw [hg9] at hv9
      simp [Array.getElem?_eq_none hge] at hv9
  exact ⟨⟨by omega, hw, hn⟩, hsz, hP, ⟨_, _, hv6⟩, ⟨_, _, hv5⟩, max_of hsh⟩

/-- The wrap of a law over listed variables, the world's shape kept. -/
theorem lift_and {H : Type} {enc : TypeId × Value → H} {a : Assume} {C : Checked} {os : Os} {f : FuncId} {fn : Func} {s : ChangeSpec} {conds : List PathCond} {apart fresh handsOn again : Bool} {X : World → Array Value → Prop}
    (hX : ∀ (w w' : World) (args : Array Value), w.heap = w'.heap → X w args → X w' args)
    (own : ownKnob C.prog.godebug = none) (started : os.Started) (noInit : C.prog.inits.idxOf? f = none) (hfn : C.prog.funcs[f]? = some fn)
    (witness : ∃ (w : World) (tape : Tape) (i : Input), w.os = os ∧ (w.forCall tape i).Shaped C.prog ∧ i.vars = [] ∧ Input.okWide C.prog (w.forCall tape i) .any w.heap.size f i ∧
      ((s.pre enc C.prog fn conds apart (w.forCall tape i).memory i.args ∧ X (w.forCall tape i).memory i.args) ∧ sizedMet enc C.prog fn (OpenSpec.ofChange s) apart (w.forCall tape i).memory i.args) ∧ a.holds C.prog (lone (Frame.enter C.prog f i.args .normal) [] (w.forCall tape i)))
    (contract : ∀ (W : World) (base : Nat) (args : Array Value) (ds gs : List (DataW H)) (before : List MemPlace),
      (∀ (j : Nat) t v, fn.params[j]? = some t → args[j]? = some v → Value.okWide C.prog W .any base t v) →
      DataW.Whole enc C.prog fn.params.toList s.vars apart W args.toList ds gs before →
      conds.all (PathCond.test C.prog ⟨fn.params.toList, ds, s.plain.varTypes C.prog, gs⟩) = true →
      W.ShapedOpen C.prog → X W args →
      a.holds C.prog (lone (Frame.enter C.prog f args .normal) [] W) →
      Calls C.prog f args W fun e W' => ∃ v, e = .returned v ∧ s.post enc C.prog fn apart fresh handsOn again W args v W') :
    ReturnsInHanded a C os f .any (fun w args => (s.pre enc C.prog fn conds apart w args ∧ X w args) ∧ sizedMet enc C.prog fn (OpenSpec.ofChange s) apart w args) (s.post enc C.prog fn apart fresh handsOn again) := by
  refine returnsInHanded_of_calls own started noInit witness ?_
  intro w tape i _ hsh _ hok hpre hholds
  obtain ⟨_, _, _, fn', hfn', _, _, _, _, hval⟩ := hok
  obtain rfl := Option.some.inj (hfn'.symm.trans hfn)
  obtain ⟨⟨⟨ds, gs, before, hw, hc⟩, hx⟩, _⟩ := hpre
  refine (contract (w.forCall tape i) w.heap.size i.args ds gs before hval (DataW.Whole.of_heap (w' := w.forCall tape i) (by rfl) hw) hc hsh (hX _ _ _ (by rfl) hx) hholds).mono fun e W' ⟨v, he, hp⟩ => ?_
  subst he
  exact ChangeSpec.post_blind hp

end Go.Proofs.YtcghekkhbiomgaaGreatDoor
