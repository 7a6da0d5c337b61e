/-
  No cell of these rows narrows 'for every input' (looked for: loops, veiled, ifaces, maps, wideKeys, modest, calm, conditions, laid).
  DERIVED. THE GIVEN ROWS OF THIS SEAT. 4 by the template 'for every input the law returns true; each argument reads behind the call as it read before'; 0 by the template 'total and deterministic' (their statements: YtlklngkgkfdfeaaTotals.lean).
  GIVEN WITH THE SEED: the statements are not yours to turn. If you find one false, say at which input.
  Laid BY PROGRAM, IN A SANDBOX (cutbox-rows.mjs): the forced cells as the released guide's own fill.sh prints them over the translation b0657e238fae062b… (all of the seat's roots in one cut). By AI agents, Wed Nov 11 2026. No macro, syntax, notation, axiom, sorry.
-/
import Derived.Test.YtlklngkgkfdfeaaChecked
import GoSem.Claim
import GoSem.ClaimJoined
import GoSem.ClaimMapViews
import Derived.JoinedTies
import Derived.KernelRfl
namespace Go.Proofs.Ytlklngkgkfdfeaa
/- THE CELL 'sum', in the pinned program and in every row, IS THE sha256 OF THE DUMP (.gsa) THAT YtlklngkgkfdfeaaProg.lean LOADS. Nothing in Lean hashes anything: it is a label: what it is worth is what the hold of that sum in a sandbox is worth. -/
noncomputable def Try.pinned : Pinned := { name := "ytlklngkgkfdfeaa", sum := "b0657e238fae062b530e46edf87b834163fac3280ef1d61e3e57d833d04d8f25", checked := Try.checked }
namespace Rows
def none {H : Type} : Left H := { results := [], args := [] }

/-- 'dovetaillaw9.StrGets': WHATEVER THE INPUT: true; the input reads as it did. -/
def strGetsSpec : ChangeSpec := { name := "strGets", fn := fun _ => fun
  | [d1, d2] => { results := [.lit (.bool true)], args := [d1, d2] }
  | _ => none }
def strGetsRow : OpenClaim := { program := "ytlklngkgkfdfeaa", sum := "b0657e238fae062b530e46edf87b834163fac3280ef1d61e3e57d833d04d8f25", func := "dovetail/dovetaillaw9.StrGets", spec := "strGets", inPlace := ["internal/bytealg.IndexByteString", "internal/bytealg.IndexString", "internal/bytealg.IndexByte"], named := ["internal/bytealg.MaxLen"], apart := false }
def StrGetsSaid : Prop := strGetsRow.holds Try.pinned (OpenSpec.ofChange strGetsSpec)

/-- ITS FALSE NEIGHBOUR: 'it returns false'. Refute it at one input. -/
def strGetsWrong : ChangeSpec := { name := "strGets", fn := fun _ => fun
  | [d1, d2] => { results := [.lit (.bool false)], args := [d1, d2] }
  | _ => none }
def StrGetsWrongFalsely : Prop := strGetsRow.holds Try.pinned (OpenSpec.ofChange strGetsWrong)

/-- 'dovetaillaw9.StrBuilds': WHATEVER THE INPUT: true; the input reads as it did. -/
def strBuildsSpec : ChangeSpec := { name := "strBuilds", fn := fun _ => fun
  | [d] => { results := [.lit (.bool true)], args := [d] }
  | _ => none }
def strBuildsRow : OpenClaim := { program := "ytlklngkgkfdfeaa", sum := "b0657e238fae062b530e46edf87b834163fac3280ef1d61e3e57d833d04d8f25", func := "dovetail/dovetaillaw9.StrBuilds", spec := "strBuilds", inPlace := ["internal/bytealg.IndexByteString", "internal/bytealg.IndexString", "internal/bytealg.IndexByte"], named := ["internal/bytealg.MaxLen"], apart := false }
def StrBuildsSaid : Prop := strBuildsRow.holds Try.pinned (OpenSpec.ofChange strBuildsSpec)

/-- ITS FALSE NEIGHBOUR: 'it returns false'. Refute it at one input. -/
def strBuildsWrong : ChangeSpec := { name := "strBuilds", fn := fun _ => fun
  | [d] => { results := [.lit (.bool false)], args := [d] }
  | _ => none }
def StrBuildsWrongFalsely : Prop := strBuildsRow.holds Try.pinned (OpenSpec.ofChange strBuildsWrong)

/-- 'dovetaillaw9.StrOnce': WHATEVER THE INPUT: true; the input reads as it did. -/
def strOnceSpec : ChangeSpec := { name := "strOnce", fn := fun _ => fun
  | [d1, d2] => { results := [.lit (.bool true)], args := [d1, d2] }
  | _ => none }
def strOnceRow : OpenClaim := { program := "ytlklngkgkfdfeaa", sum := "b0657e238fae062b530e46edf87b834163fac3280ef1d61e3e57d833d04d8f25", func := "dovetail/dovetaillaw9.StrOnce", spec := "strOnce", inPlace := ["internal/bytealg.IndexByteString", "internal/bytealg.IndexString", "internal/bytealg.IndexByte"], named := ["internal/bytealg.MaxLen"], apart := false }
def StrOnceSaid : Prop := strOnceRow.holds Try.pinned (OpenSpec.ofChange strOnceSpec)

/-- ITS FALSE NEIGHBOUR: 'it returns false'. Refute it at one input. -/
def strOnceWrong : ChangeSpec := { name := "strOnce", fn := fun _ => fun
  | [d1, d2] => { results := [.lit (.bool false)], args := [d1, d2] }
  | _ => none }
def StrOnceWrongFalsely : Prop := strOnceRow.holds Try.pinned (OpenSpec.ofChange strOnceWrong)

/-- 'dovetaillaw9.StrLong': WHATEVER THE INPUT: true; the input reads as it did. -/
def strLongSpec : ChangeSpec := { name := "strLong", fn := fun _ => fun
  | [d1, d2] => { results := [.lit (.bool true)], args := [d1, d2] }
  | _ => none }
def strLongRow : OpenClaim := { program := "ytlklngkgkfdfeaa", sum := "b0657e238fae062b530e46edf87b834163fac3280ef1d61e3e57d833d04d8f25", func := "dovetail/dovetaillaw9.StrLong", spec := "strLong", inPlace := ["internal/bytealg.IndexByteString", "internal/bytealg.IndexString", "internal/bytealg.IndexByte"], named := ["internal/bytealg.MaxLen"], apart := false }
def StrLongSaid : Prop := strLongRow.holds Try.pinned (OpenSpec.ofChange strLongSpec)

/-- ITS FALSE NEIGHBOUR: 'it returns false'. Refute it at one input. -/
def strLongWrong : ChangeSpec := { name := "strLong", fn := fun _ => fun
  | [d1, d2] => { results := [.lit (.bool false)], args := [d1, d2] }
  | _ => none }
def StrLongWrongFalsely : Prop := strLongRow.holds Try.pinned (OpenSpec.ofChange strLongWrong)

/- THE SECOND FORM. 'bulk': how many values and letters a reading holds, each counted each time it is reached (what is shared counts as often as it is met; a slice's spare places count too). A statement '..UptoSaid' is the law's where the arguments, and the package variables that the reading takes, are together of bulk at most 1048576: NARROWER than '..Said'. Prove '..Said' where nothing that the law and all that it calls make is longer than what came in: it says more and counts as full. Else prove '..UptoSaid'. A law counts once. -/
mutual
def uptoBulk {H : Type} : DataW H → Nat
  | .lit (.string bytes) => bytes.length + 1
  | .lit _ => 1
  | .nil => 1
  | .ptr d => uptoBulk d + 1
  | .slice elems spare => uptoBulkAll elems + uptoBulkAll spare + 1
  | .agg parts => uptoBulkAll parts + 1
  | .iface _ d => uptoBulk d + 1
  | .map entries => uptoBulkEntries entries + 1
  | .held _ => 1
def uptoBulkAll {H : Type} : List (DataW H) → Nat
  | [] => 0
  | d :: r => uptoBulk d + uptoBulkAll r
def uptoBulkEntries {H : Type} : List (Lit × DataW H) → Nat
  | [] => 0
  | x :: r => uptoBulkEntry x + uptoBulkEntries r
def uptoBulkEntry {H : Type} : Lit × DataW H → Nat
  | (.string bytes, d) => bytes.length + uptoBulk d + 1
  | (_, d) => uptoBulk d + 1
 end
def uptoSmall : (H : Type) → List (DataW H) → Bool := fun _ ds => decide (uptoBulkAll ds ≤ 1048576)
def OpenSpec.upto (s : _root_.Go.ChangeSpec) : _root_.Go.OpenSpec := { _root_.Go.OpenSpec.ofChange s with cond := some uptoSmall }

/-- 'dovetaillaw9.StrGets', WHERE WHAT IT READS IS OF BULK AT MOST 1048576: true; the input reads as it did. -/
def strGetsUptoRow : OpenClaim := { program := "ytlklngkgkfdfeaa", sum := "b0657e238fae062b530e46edf87b834163fac3280ef1d61e3e57d833d04d8f25", func := "dovetail/dovetaillaw9.StrGets", spec := "strGets", inPlace := ["internal/bytealg.IndexByteString", "internal/bytealg.IndexString", "internal/bytealg.IndexByte"], named := ["internal/bytealg.MaxLen"], apart := false, narrowed := true }
def StrGetsUptoSaid : Prop := strGetsUptoRow.holds Try.pinned (OpenSpec.upto strGetsSpec)

/-- 'dovetaillaw9.StrBuilds', WHERE WHAT IT READS IS OF BULK AT MOST 1048576: true; the input reads as it did. -/
def strBuildsUptoRow : OpenClaim := { program := "ytlklngkgkfdfeaa", sum := "b0657e238fae062b530e46edf87b834163fac3280ef1d61e3e57d833d04d8f25", func := "dovetail/dovetaillaw9.StrBuilds", spec := "strBuilds", inPlace := ["internal/bytealg.IndexByteString", "internal/bytealg.IndexString", "internal/bytealg.IndexByte"], named := ["internal/bytealg.MaxLen"], apart := false, narrowed := true }
def StrBuildsUptoSaid : Prop := strBuildsUptoRow.holds Try.pinned (OpenSpec.upto strBuildsSpec)

/-- 'dovetaillaw9.StrOnce', WHERE WHAT IT READS IS OF BULK AT MOST 1048576: true; the input reads as it did. -/
def strOnceUptoRow : OpenClaim := { program := "ytlklngkgkfdfeaa", sum := "b0657e238fae062b530e46edf87b834163fac3280ef1d61e3e57d833d04d8f25", func := "dovetail/dovetaillaw9.StrOnce", spec := "strOnce", inPlace := ["internal/bytealg.IndexByteString", "internal/bytealg.IndexString", "internal/bytealg.IndexByte"], named := ["internal/bytealg.MaxLen"], apart := false, narrowed := true }
def StrOnceUptoSaid : Prop := strOnceUptoRow.holds Try.pinned (OpenSpec.upto strOnceSpec)

/-- 'dovetaillaw9.StrLong', WHERE WHAT IT READS IS OF BULK AT MOST 1048576: true; the input reads as it did. -/
def strLongUptoRow : OpenClaim := { program := "ytlklngkgkfdfeaa", sum := "b0657e238fae062b530e46edf87b834163fac3280ef1d61e3e57d833d04d8f25", func := "dovetail/dovetaillaw9.StrLong", spec := "strLong", inPlace := ["internal/bytealg.IndexByteString", "internal/bytealg.IndexString", "internal/bytealg.IndexByte"], named := ["internal/bytealg.MaxLen"], apart := false, narrowed := true }
def StrLongUptoSaid : Prop := strLongUptoRow.holds Try.pinned (OpenSpec.upto strLongSpec)

end Rows
end Go.Proofs.Ytlklngkgkfdfeaa
