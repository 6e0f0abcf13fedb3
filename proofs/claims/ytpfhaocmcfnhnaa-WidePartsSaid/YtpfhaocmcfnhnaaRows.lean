/-
  No cell of these rows narrows 'for every input' (looked for: loops, veiled, ifaces, maps, wideKeys, modest, calm, conditions, laid).
  DERIVED. THE GIVEN ROWS OF THIS SEAT. 4 by the template 'for every input the law returns true; each argument reads behind the call as it read before'; 0 by the template 'total and deterministic' (their statements: YtpfhaocmcfnhnaaTotals.lean).
  GIVEN WITH THE SEED: the statements are not yours to turn. If you find one false, say at which input.
  Laid BY PROGRAM, IN A SANDBOX (cutbox-rows.mjs): the forced cells as the released guide's own fill.sh prints them over the translation cd340065d008918d… (all of the seat's roots in one cut). By AI agents, Wed Nov 11 2026. No macro, syntax, notation, axiom, sorry.
-/
import Derived.Test.YtpfhaocmcfnhnaaChecked
import GoSem.Claim
import GoSem.ClaimJoined
import GoSem.ClaimMapViews
import Derived.JoinedTies
import Derived.KernelRfl
namespace Go.Proofs.Ytpfhaocmcfnhnaa
/- THE CELL 'sum', in the pinned program and in every row, IS THE sha256 OF THE DUMP (.gsa) THAT YtpfhaocmcfnhnaaProg.lean LOADS. Nothing in Lean hashes anything: it is a label: what it is worth is what the hold of that sum in a sandbox is worth. -/
noncomputable def Try.pinned : Pinned := { name := "ytpfhaocmcfnhnaa", sum := "cd340065d008918d6623a781a0d5448b854a1d7ff82d442d66eb5c7461af56f0", checked := Try.checked }
namespace Rows
def none {H : Type} : Left H := { results := [], args := [] }

/-- 'rastrumlaw17.WideRects': WHATEVER THE INPUT: true; the input reads as it did. -/
def wideRectsSpec : ChangeSpec := { name := "wideRects", fn := fun _ => fun
  | [d1, d2] => { results := [.lit (.bool true)], args := [d1, d2] }
  | _ => none }
def wideRectsRow : OpenClaim := { program := "ytpfhaocmcfnhnaa", sum := "cd340065d008918d6623a781a0d5448b854a1d7ff82d442d66eb5c7461af56f0", func := "rastrum/rastrumlaw17.WideRects", spec := "wideRects", inPlace := ["math/bits.Add64"], unfollowed := true, recurses := true, named := ["math/bits.divideError", "math/bits.overflowError"], apart := false }
def WideRectsSaid : Prop := wideRectsRow.holds Try.pinned (OpenSpec.ofChange wideRectsSpec)

/-- ITS FALSE NEIGHBOUR: 'it returns false'. Refute it at one input. -/
def wideRectsWrong : ChangeSpec := { name := "wideRects", fn := fun _ => fun
  | [d1, d2] => { results := [.lit (.bool false)], args := [d1, d2] }
  | _ => none }
def WideRectsWrongFalsely : Prop := wideRectsRow.holds Try.pinned (OpenSpec.ofChange wideRectsWrong)

/-- 'rastrumlaw17.WideOnce': WHATEVER THE INPUT: true; the input reads as it did. -/
def wideOnceSpec : ChangeSpec := { name := "wideOnce", fn := fun _ => fun
  | [d] => { results := [.lit (.bool true)], args := [d] }
  | _ => none }
def wideOnceRow : OpenClaim := { program := "ytpfhaocmcfnhnaa", sum := "cd340065d008918d6623a781a0d5448b854a1d7ff82d442d66eb5c7461af56f0", func := "rastrum/rastrumlaw17.WideOnce", spec := "wideOnce", inPlace := ["math/bits.Add64"], unfollowed := true, recurses := true, named := ["math/bits.divideError", "math/bits.overflowError"], apart := false }
def WideOnceSaid : Prop := wideOnceRow.holds Try.pinned (OpenSpec.ofChange wideOnceSpec)

/-- ITS FALSE NEIGHBOUR: 'it returns false'. Refute it at one input. -/
def wideOnceWrong : ChangeSpec := { name := "wideOnce", fn := fun _ => fun
  | [d] => { results := [.lit (.bool false)], args := [d] }
  | _ => none }
def WideOnceWrongFalsely : Prop := wideOnceRow.holds Try.pinned (OpenSpec.ofChange wideOnceWrong)

/-- 'rastrumlaw17.WideParts': WHATEVER THE INPUT: true; the input reads as it did. -/
def widePartsSpec : ChangeSpec := { name := "wideParts", fn := fun _ => fun
  | [d] => { results := [.lit (.bool true)], args := [d] }
  | _ => none }
def widePartsRow : OpenClaim := { program := "ytpfhaocmcfnhnaa", sum := "cd340065d008918d6623a781a0d5448b854a1d7ff82d442d66eb5c7461af56f0", func := "rastrum/rastrumlaw17.WideParts", spec := "wideParts", inPlace := ["math/bits.Add64"], unfollowed := true, recurses := true, named := ["math/bits.divideError", "math/bits.overflowError"], apart := false }
def WidePartsSaid : Prop := widePartsRow.holds Try.pinned (OpenSpec.ofChange widePartsSpec)

/-- ITS FALSE NEIGHBOUR: 'it returns false'. Refute it at one input. -/
def widePartsWrong : ChangeSpec := { name := "wideParts", fn := fun _ => fun
  | [d] => { results := [.lit (.bool false)], args := [d] }
  | _ => none }
def WidePartsWrongFalsely : Prop := widePartsRow.holds Try.pinned (OpenSpec.ofChange widePartsWrong)

/-- 'rastrumlaw17.WideCounts': WHATEVER THE INPUT: true; the input reads as it did. -/
def wideCountsSpec : ChangeSpec := { name := "wideCounts", fn := fun _ => fun
  | [d] => { results := [.lit (.bool true)], args := [d] }
  | _ => none }
def wideCountsRow : OpenClaim := { program := "ytpfhaocmcfnhnaa", sum := "cd340065d008918d6623a781a0d5448b854a1d7ff82d442d66eb5c7461af56f0", func := "rastrum/rastrumlaw17.WideCounts", spec := "wideCounts", inPlace := ["math/bits.Add64"], unfollowed := true, recurses := true, named := ["math/bits.divideError", "math/bits.overflowError"], apart := false }
def WideCountsSaid : Prop := wideCountsRow.holds Try.pinned (OpenSpec.ofChange wideCountsSpec)

/-- ITS FALSE NEIGHBOUR: 'it returns false'. Refute it at one input. -/
def wideCountsWrong : ChangeSpec := { name := "wideCounts", fn := fun _ => fun
  | [d] => { results := [.lit (.bool false)], args := [d] }
  | _ => none }
def WideCountsWrongFalsely : Prop := wideCountsRow.holds Try.pinned (OpenSpec.ofChange wideCountsWrong)

/- THE SECOND FORM. 'bulk': how many values and letters a reading holds, each counted each time it is reached (what is shared counts as often as it is met; a slice's spare places count too). A statement '..UptoSaid' is the law's where the arguments, and the package variables that the reading takes, are together of bulk at most 1048576: NARROWER than '..Said'. Prove '..Said' where nothing that the law and all that it calls make is longer than what came in: it says more and counts as full. Else prove '..UptoSaid'. A law counts once. -/
mutual
def uptoBulk {H : Type} : DataW H → Nat
  | .lit (.string bytes) => bytes.length + 1
  | .lit _ => 1
  | .nil => 1
  | .ptr d => uptoBulk d + 1
  | .slice elems spare => uptoBulkAll elems + uptoBulkAll spare + 1
  | .agg parts => uptoBulkAll parts + 1
  | .iface _ d => uptoBulk d + 1
  | .map entries => uptoBulkEntries entries + 1
  | .held _ => 1
def uptoBulkAll {H : Type} : List (DataW H) → Nat
  | [] => 0
  | d :: r => uptoBulk d + uptoBulkAll r
def uptoBulkEntries {H : Type} : List (Lit × DataW H) → Nat
  | [] => 0
  | x :: r => uptoBulkEntry x + uptoBulkEntries r
def uptoBulkEntry {H : Type} : Lit × DataW H → Nat
  | (.string bytes, d) => bytes.length + uptoBulk d + 1
  | (_, d) => uptoBulk d + 1
 end
def uptoSmall : (H : Type) → List (DataW H) → Bool := fun _ ds => decide (uptoBulkAll ds ≤ 1048576)
def OpenSpec.upto (s : _root_.Go.ChangeSpec) : _root_.Go.OpenSpec := { _root_.Go.OpenSpec.ofChange s with cond := some uptoSmall }

/-- 'rastrumlaw17.WideRects', WHERE WHAT IT READS IS OF BULK AT MOST 1048576: true; the input reads as it did. -/
def wideRectsUptoRow : OpenClaim := { program := "ytpfhaocmcfnhnaa", sum := "cd340065d008918d6623a781a0d5448b854a1d7ff82d442d66eb5c7461af56f0", func := "rastrum/rastrumlaw17.WideRects", spec := "wideRects", inPlace := ["math/bits.Add64"], unfollowed := true, recurses := true, named := ["math/bits.divideError", "math/bits.overflowError"], apart := false, narrowed := true }
def WideRectsUptoSaid : Prop := wideRectsUptoRow.holds Try.pinned (OpenSpec.upto wideRectsSpec)

/-- 'rastrumlaw17.WideOnce', WHERE WHAT IT READS IS OF BULK AT MOST 1048576: true; the input reads as it did. -/
def wideOnceUptoRow : OpenClaim := { program := "ytpfhaocmcfnhnaa", sum := "cd340065d008918d6623a781a0d5448b854a1d7ff82d442d66eb5c7461af56f0", func := "rastrum/rastrumlaw17.WideOnce", spec := "wideOnce", inPlace := ["math/bits.Add64"], unfollowed := true, recurses := true, named := ["math/bits.divideError", "math/bits.overflowError"], apart := false, narrowed := true }
def WideOnceUptoSaid : Prop := wideOnceUptoRow.holds Try.pinned (OpenSpec.upto wideOnceSpec)

/-- 'rastrumlaw17.WideParts', WHERE WHAT IT READS IS OF BULK AT MOST 1048576: true; the input reads as it did. -/
def widePartsUptoRow : OpenClaim := { program := "ytpfhaocmcfnhnaa", sum := "cd340065d008918d6623a781a0d5448b854a1d7ff82d442d66eb5c7461af56f0", func := "rastrum/rastrumlaw17.WideParts", spec := "wideParts", inPlace := ["math/bits.Add64"], unfollowed := true, recurses := true, named := ["math/bits.divideError", "math/bits.overflowError"], apart := false, narrowed := true }
def WidePartsUptoSaid : Prop := widePartsUptoRow.holds Try.pinned (OpenSpec.upto widePartsSpec)

/-- 'rastrumlaw17.WideCounts', WHERE WHAT IT READS IS OF BULK AT MOST 1048576: true; the input reads as it did. -/
def wideCountsUptoRow : OpenClaim := { program := "ytpfhaocmcfnhnaa", sum := "cd340065d008918d6623a781a0d5448b854a1d7ff82d442d66eb5c7461af56f0", func := "rastrum/rastrumlaw17.WideCounts", spec := "wideCounts", inPlace := ["math/bits.Add64"], unfollowed := true, recurses := true, named := ["math/bits.divideError", "math/bits.overflowError"], apart := false, narrowed := true }
def WideCountsUptoSaid : Prop := wideCountsUptoRow.holds Try.pinned (OpenSpec.upto wideCountsSpec)

end Rows
end Go.Proofs.Ytpfhaocmcfnhnaa
