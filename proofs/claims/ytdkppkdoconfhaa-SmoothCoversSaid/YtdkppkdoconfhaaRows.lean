/-
  No cell of these rows narrows 'for every input' (looked for: loops, veiled, ifaces, maps, wideKeys, modest, calm, conditions, laid).
  DERIVED. THE GIVEN ROWS OF THIS SEAT. 5 by the template 'for every input the law returns true; each argument reads behind the call as it read before'; 0 by the template 'total and deterministic' (their statements: YtdkppkdoconfhaaTotals.lean).
  GIVEN WITH THE SEED: the statements are not yours to turn. If you find one false, say at which input.
  Laid BY PROGRAM, IN A SANDBOX (cutbox-rows.mjs): the forced cells as the released guide's own fill.sh prints them over the translation 54379f4286596599… (all of the seat's roots in one cut). By AI agents, Wed Nov 11 2026. No macro, syntax, notation, axiom, sorry.
-/
import Derived.Test.YtdkppkdoconfhaaChecked
import GoSem.Claim
import GoSem.ClaimJoined
import GoSem.ClaimMapViews
import Derived.JoinedTies
import Derived.KernelRfl
namespace Go.Proofs.Ytdkppkdoconfhaa
/- THE CELL 'sum', in the pinned program and in every row, IS THE sha256 OF THE DUMP (.gsa) THAT YtdkppkdoconfhaaProg.lean LOADS. Nothing in Lean hashes anything: it is a label: what it is worth is what the hold of that sum in a sandbox is worth. -/
noncomputable def Try.pinned : Pinned := { name := "ytdkppkdoconfhaa", sum := "54379f4286596599b87c4be03808930648f0690e8f01021808c6e00c2e1b9dfa", checked := Try.checked }
namespace Rows
def none {H : Type} : Left H := { results := [], args := [] }

/-- 'rastrumlaw18.SmoothTells': WHATEVER THE INPUT: true; the input reads as it did. -/
def smoothTellsSpec : ChangeSpec := { name := "smoothTells", fn := fun _ => fun
  | [d] => { results := [.lit (.bool true)], args := [d] }
  | _ => none }
def smoothTellsRow : OpenClaim := { program := "ytdkppkdoconfhaa", sum := "54379f4286596599b87c4be03808930648f0690e8f01021808c6e00c2e1b9dfa", func := "rastrum/rastrumlaw18.SmoothTells", spec := "smoothTells", inPlace := ["math/bits.Add64"], unfollowed := true, recurses := true, named := ["math/bits.divideError", "math/bits.overflowError"], apart := false }
def SmoothTellsSaid : Prop := smoothTellsRow.holds Try.pinned (OpenSpec.ofChange smoothTellsSpec)

/-- ITS FALSE NEIGHBOUR: 'it returns false'. Refute it at one input. -/
def smoothTellsWrong : ChangeSpec := { name := "smoothTells", fn := fun _ => fun
  | [d] => { results := [.lit (.bool false)], args := [d] }
  | _ => none }
def SmoothTellsWrongFalsely : Prop := smoothTellsRow.holds Try.pinned (OpenSpec.ofChange smoothTellsWrong)

/-- 'rastrumlaw18.SmoothCovers': WHATEVER THE INPUT: true; the input reads as it did. -/
def smoothCoversSpec : ChangeSpec := { name := "smoothCovers", fn := fun _ => fun
  | [d1, d2] => { results := [.lit (.bool true)], args := [d1, d2] }
  | _ => none }
def smoothCoversRow : OpenClaim := { program := "ytdkppkdoconfhaa", sum := "54379f4286596599b87c4be03808930648f0690e8f01021808c6e00c2e1b9dfa", func := "rastrum/rastrumlaw18.SmoothCovers", spec := "smoothCovers", inPlace := ["math/bits.Add64"], unfollowed := true, recurses := true, named := ["math/bits.divideError", "math/bits.overflowError"], apart := false }
def SmoothCoversSaid : Prop := smoothCoversRow.holds Try.pinned (OpenSpec.ofChange smoothCoversSpec)

/-- ITS FALSE NEIGHBOUR: 'it returns false'. Refute it at one input. -/
def smoothCoversWrong : ChangeSpec := { name := "smoothCovers", fn := fun _ => fun
  | [d1, d2] => { results := [.lit (.bool false)], args := [d1, d2] }
  | _ => none }
def SmoothCoversWrongFalsely : Prop := smoothCoversRow.holds Try.pinned (OpenSpec.ofChange smoothCoversWrong)

/-- 'rastrumlaw18.SmoothParts': WHATEVER THE INPUT: true; the input reads as it did. -/
def smoothPartsSpec : ChangeSpec := { name := "smoothParts", fn := fun _ => fun
  | [d] => { results := [.lit (.bool true)], args := [d] }
  | _ => none }
def smoothPartsRow : OpenClaim := { program := "ytdkppkdoconfhaa", sum := "54379f4286596599b87c4be03808930648f0690e8f01021808c6e00c2e1b9dfa", func := "rastrum/rastrumlaw18.SmoothParts", spec := "smoothParts", inPlace := ["math/bits.Add64"], unfollowed := true, recurses := true, named := ["math/bits.divideError", "math/bits.overflowError"], apart := false }
def SmoothPartsSaid : Prop := smoothPartsRow.holds Try.pinned (OpenSpec.ofChange smoothPartsSpec)

/-- ITS FALSE NEIGHBOUR: 'it returns false'. Refute it at one input. -/
def smoothPartsWrong : ChangeSpec := { name := "smoothParts", fn := fun _ => fun
  | [d] => { results := [.lit (.bool false)], args := [d] }
  | _ => none }
def SmoothPartsWrongFalsely : Prop := smoothPartsRow.holds Try.pinned (OpenSpec.ofChange smoothPartsWrong)

/-- 'rastrumlaw18.SmoothMoves': WHATEVER THE INPUT: true; the input reads as it did. -/
def smoothMovesSpec : ChangeSpec := { name := "smoothMoves", fn := fun _ => fun
  | [d1, d2] => { results := [.lit (.bool true)], args := [d1, d2] }
  | _ => none }
def smoothMovesRow : OpenClaim := { program := "ytdkppkdoconfhaa", sum := "54379f4286596599b87c4be03808930648f0690e8f01021808c6e00c2e1b9dfa", func := "rastrum/rastrumlaw18.SmoothMoves", spec := "smoothMoves", inPlace := ["math/bits.Add64"], unfollowed := true, recurses := true, named := ["math/bits.divideError", "math/bits.overflowError"], apart := false }
def SmoothMovesSaid : Prop := smoothMovesRow.holds Try.pinned (OpenSpec.ofChange smoothMovesSpec)

/-- ITS FALSE NEIGHBOUR: 'it returns false'. Refute it at one input. -/
def smoothMovesWrong : ChangeSpec := { name := "smoothMoves", fn := fun _ => fun
  | [d1, d2] => { results := [.lit (.bool false)], args := [d1, d2] }
  | _ => none }
def SmoothMovesWrongFalsely : Prop := smoothMovesRow.holds Try.pinned (OpenSpec.ofChange smoothMovesWrong)

/-- 'rastrumlaw18.SmoothRects': WHATEVER THE INPUT: true; the input reads as it did. -/
def smoothRectsSpec : ChangeSpec := { name := "smoothRects", fn := fun _ => fun
  | [d1, d2] => { results := [.lit (.bool true)], args := [d1, d2] }
  | _ => none }
def smoothRectsRow : OpenClaim := { program := "ytdkppkdoconfhaa", sum := "54379f4286596599b87c4be03808930648f0690e8f01021808c6e00c2e1b9dfa", func := "rastrum/rastrumlaw18.SmoothRects", spec := "smoothRects", inPlace := ["math/bits.Add64"], unfollowed := true, recurses := true, named := ["math/bits.divideError", "math/bits.overflowError"], apart := false }
def SmoothRectsSaid : Prop := smoothRectsRow.holds Try.pinned (OpenSpec.ofChange smoothRectsSpec)

/-- ITS FALSE NEIGHBOUR: 'it returns false'. Refute it at one input. -/
def smoothRectsWrong : ChangeSpec := { name := "smoothRects", fn := fun _ => fun
  | [d1, d2] => { results := [.lit (.bool false)], args := [d1, d2] }
  | _ => none }
def SmoothRectsWrongFalsely : Prop := smoothRectsRow.holds Try.pinned (OpenSpec.ofChange smoothRectsWrong)

/- THE SECOND FORM. 'bulk': how many values and letters a reading holds, each counted each time it is reached (what is shared counts as often as it is met; a slice's spare places count too). A statement '..UptoSaid' is the law's where the arguments, and the package variables that the reading takes, are together of bulk at most 1048576: NARROWER than '..Said'. Prove '..Said' where nothing that the law and all that it calls make is longer than what came in: it says more and counts as full. Else prove '..UptoSaid'. A law counts once. -/
mutual
def uptoBulk {H : Type} : DataW H → Nat
  | .lit (.string bytes) => bytes.length + 1
  | .lit _ => 1
  | .nil => 1
  | .ptr d => uptoBulk d + 1
  | .slice elems spare => uptoBulkAll elems + uptoBulkAll spare + 1
  | .agg parts => uptoBulkAll parts + 1
  | .iface _ d => uptoBulk d + 1
  | .map entries => uptoBulkEntries entries + 1
  | .held _ => 1
def uptoBulkAll {H : Type} : List (DataW H) → Nat
  | [] => 0
  | d :: r => uptoBulk d + uptoBulkAll r
def uptoBulkEntries {H : Type} : List (Lit × DataW H) → Nat
  | [] => 0
  | x :: r => uptoBulkEntry x + uptoBulkEntries r
def uptoBulkEntry {H : Type} : Lit × DataW H → Nat
  | (.string bytes, d) => bytes.length + uptoBulk d + 1
  | (_, d) => uptoBulk d + 1
 end
def uptoSmall : (H : Type) → List (DataW H) → Bool := fun _ ds => decide (uptoBulkAll ds ≤ 1048576)
def OpenSpec.upto (s : _root_.Go.ChangeSpec) : _root_.Go.OpenSpec := { _root_.Go.OpenSpec.ofChange s with cond := some uptoSmall }

/-- 'rastrumlaw18.SmoothTells', WHERE WHAT IT READS IS OF BULK AT MOST 1048576: true; the input reads as it did. -/
def smoothTellsUptoRow : OpenClaim := { program := "ytdkppkdoconfhaa", sum := "54379f4286596599b87c4be03808930648f0690e8f01021808c6e00c2e1b9dfa", func := "rastrum/rastrumlaw18.SmoothTells", spec := "smoothTells", inPlace := ["math/bits.Add64"], unfollowed := true, recurses := true, named := ["math/bits.divideError", "math/bits.overflowError"], apart := false, narrowed := true }
def SmoothTellsUptoSaid : Prop := smoothTellsUptoRow.holds Try.pinned (OpenSpec.upto smoothTellsSpec)

/-- 'rastrumlaw18.SmoothCovers', WHERE WHAT IT READS IS OF BULK AT MOST 1048576: true; the input reads as it did. -/
def smoothCoversUptoRow : OpenClaim := { program := "ytdkppkdoconfhaa", sum := "54379f4286596599b87c4be03808930648f0690e8f01021808c6e00c2e1b9dfa", func := "rastrum/rastrumlaw18.SmoothCovers", spec := "smoothCovers", inPlace := ["math/bits.Add64"], unfollowed := true, recurses := true, named := ["math/bits.divideError", "math/bits.overflowError"], apart := false, narrowed := true }
def SmoothCoversUptoSaid : Prop := smoothCoversUptoRow.holds Try.pinned (OpenSpec.upto smoothCoversSpec)

/-- 'rastrumlaw18.SmoothParts', WHERE WHAT IT READS IS OF BULK AT MOST 1048576: true; the input reads as it did. -/
def smoothPartsUptoRow : OpenClaim := { program := "ytdkppkdoconfhaa", sum := "54379f4286596599b87c4be03808930648f0690e8f01021808c6e00c2e1b9dfa", func := "rastrum/rastrumlaw18.SmoothParts", spec := "smoothParts", inPlace := ["math/bits.Add64"], unfollowed := true, recurses := true, named := ["math/bits.divideError", "math/bits.overflowError"], apart := false, narrowed := true }
def SmoothPartsUptoSaid : Prop := smoothPartsUptoRow.holds Try.pinned (OpenSpec.upto smoothPartsSpec)

/-- 'rastrumlaw18.SmoothMoves', WHERE WHAT IT READS IS OF BULK AT MOST 1048576: true; the input reads as it did. -/
def smoothMovesUptoRow : OpenClaim := { program := "ytdkppkdoconfhaa", sum := "54379f4286596599b87c4be03808930648f0690e8f01021808c6e00c2e1b9dfa", func := "rastrum/rastrumlaw18.SmoothMoves", spec := "smoothMoves", inPlace := ["math/bits.Add64"], unfollowed := true, recurses := true, named := ["math/bits.divideError", "math/bits.overflowError"], apart := false, narrowed := true }
def SmoothMovesUptoSaid : Prop := smoothMovesUptoRow.holds Try.pinned (OpenSpec.upto smoothMovesSpec)

/-- 'rastrumlaw18.SmoothRects', WHERE WHAT IT READS IS OF BULK AT MOST 1048576: true; the input reads as it did. -/
def smoothRectsUptoRow : OpenClaim := { program := "ytdkppkdoconfhaa", sum := "54379f4286596599b87c4be03808930648f0690e8f01021808c6e00c2e1b9dfa", func := "rastrum/rastrumlaw18.SmoothRects", spec := "smoothRects", inPlace := ["math/bits.Add64"], unfollowed := true, recurses := true, named := ["math/bits.divideError", "math/bits.overflowError"], apart := false, narrowed := true }
def SmoothRectsUptoSaid : Prop := smoothRectsUptoRow.holds Try.pinned (OpenSpec.upto smoothRectsSpec)

end Rows
end Go.Proofs.Ytdkppkdoconfhaa
