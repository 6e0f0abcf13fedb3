/-
  No cell of these rows narrows 'for every input' (looked for: loops, veiled, ifaces, maps, wideKeys, modest, calm, conditions, laid).
  DERIVED. THE GIVEN ROWS OF THIS SEAT. 4 by the template 'for every input the law returns true; each argument reads behind the call as it read before'; 0 by the template 'total and deterministic' (their statements: YtjhefgfnecdcoaaTotals.lean).
  GIVEN WITH THE SEED: the statements are not yours to turn. If you find one false, say at which input.
  Laid BY PROGRAM, IN A SANDBOX (cutbox-rows.mjs): the forced cells as the released guide's own fill.sh prints them over the translation a580def9bd9f9d0e… (all of the seat's roots in one cut). By AI agents, Wed Nov 11 2026. No macro, syntax, notation, axiom, sorry.
-/
import Derived.Test.YtjhefgfnecdcoaaChecked
import GoSem.Claim
import GoSem.ClaimJoined
import GoSem.ClaimMapViews
import Derived.JoinedTies
import Derived.KernelRfl
namespace Go.Proofs.Ytjhefgfnecdcoaa
/- THE CELL 'sum', in the pinned program and in every row, IS THE sha256 OF THE DUMP (.gsa) THAT YtjhefgfnecdcoaaProg.lean LOADS. Nothing in Lean hashes anything: it is a label: what it is worth is what the hold of that sum in a sandbox is worth. -/
noncomputable def Try.pinned : Pinned := { name := "ytjhefgfnecdcoaa", sum := "a580def9bd9f9d0efbe30e9253b44758a83cef59a0a18f2866d4b515340ff808", checked := Try.checked }
namespace Rows
def none {H : Type} : Left H := { results := [], args := [] }

/-- 'rastrumlaw16.LerpMids': WHATEVER THE INPUT: true; the input reads as it did. -/
def lerpMidsSpec : ChangeSpec := { name := "lerpMids", fn := fun _ => fun
  | [d1, d2, d3] => { results := [.lit (.bool true)], args := [d1, d2, d3] }
  | _ => none }
def lerpMidsRow : OpenClaim := { program := "ytjhefgfnecdcoaa", sum := "a580def9bd9f9d0efbe30e9253b44758a83cef59a0a18f2866d4b515340ff808", func := "rastrum/rastrumlaw16.LerpMids", spec := "lerpMids", inPlace := ["math/bits.Add64"], unfollowed := true, recurses := true, named := ["math/bits.divideError", "math/bits.overflowError"], apart := false }
def LerpMidsSaid : Prop := lerpMidsRow.holds Try.pinned (OpenSpec.ofChange lerpMidsSpec)

/-- ITS FALSE NEIGHBOUR: 'it returns false'. Refute it at one input. -/
def lerpMidsWrong : ChangeSpec := { name := "lerpMids", fn := fun _ => fun
  | [d1, d2, d3] => { results := [.lit (.bool false)], args := [d1, d2, d3] }
  | _ => none }
def LerpMidsWrongFalsely : Prop := lerpMidsRow.holds Try.pinned (OpenSpec.ofChange lerpMidsWrong)

/-- 'rastrumlaw16.LerpTells': WHATEVER THE INPUT: true; the input reads as it did. -/
def lerpTellsSpec : ChangeSpec := { name := "lerpTells", fn := fun _ => fun
  | [d1, d2, d3] => { results := [.lit (.bool true)], args := [d1, d2, d3] }
  | _ => none }
def lerpTellsRow : OpenClaim := { program := "ytjhefgfnecdcoaa", sum := "a580def9bd9f9d0efbe30e9253b44758a83cef59a0a18f2866d4b515340ff808", func := "rastrum/rastrumlaw16.LerpTells", spec := "lerpTells", inPlace := ["math/bits.Add64"], unfollowed := true, recurses := true, named := ["math/bits.divideError", "math/bits.overflowError"], apart := false }
def LerpTellsSaid : Prop := lerpTellsRow.holds Try.pinned (OpenSpec.ofChange lerpTellsSpec)

/-- ITS FALSE NEIGHBOUR: 'it returns false'. Refute it at one input. -/
def lerpTellsWrong : ChangeSpec := { name := "lerpTells", fn := fun _ => fun
  | [d1, d2, d3] => { results := [.lit (.bool false)], args := [d1, d2, d3] }
  | _ => none }
def LerpTellsWrongFalsely : Prop := lerpTellsRow.holds Try.pinned (OpenSpec.ofChange lerpTellsWrong)

/-- 'rastrumlaw16.LerpBetween': WHATEVER THE INPUT: true; the input reads as it did. -/
def lerpBetweenSpec : ChangeSpec := { name := "lerpBetween", fn := fun _ => fun
  | [d1, d2, d3] => { results := [.lit (.bool true)], args := [d1, d2, d3] }
  | _ => none }
def lerpBetweenRow : OpenClaim := { program := "ytjhefgfnecdcoaa", sum := "a580def9bd9f9d0efbe30e9253b44758a83cef59a0a18f2866d4b515340ff808", func := "rastrum/rastrumlaw16.LerpBetween", spec := "lerpBetween", inPlace := ["math/bits.Add64"], unfollowed := true, recurses := true, named := ["math/bits.divideError", "math/bits.overflowError"], apart := false }
def LerpBetweenSaid : Prop := lerpBetweenRow.holds Try.pinned (OpenSpec.ofChange lerpBetweenSpec)

/-- ITS FALSE NEIGHBOUR: 'it returns false'. Refute it at one input. -/
def lerpBetweenWrong : ChangeSpec := { name := "lerpBetween", fn := fun _ => fun
  | [d1, d2, d3] => { results := [.lit (.bool false)], args := [d1, d2, d3] }
  | _ => none }
def LerpBetweenWrongFalsely : Prop := lerpBetweenRow.holds Try.pinned (OpenSpec.ofChange lerpBetweenWrong)

/-- 'rastrumlaw16.LerpRises': WHATEVER THE INPUT: true; the input reads as it did. -/
def lerpRisesSpec : ChangeSpec := { name := "lerpRises", fn := fun _ => fun
  | [d] => { results := [.lit (.bool true)], args := [d] }
  | _ => none }
def lerpRisesRow : OpenClaim := { program := "ytjhefgfnecdcoaa", sum := "a580def9bd9f9d0efbe30e9253b44758a83cef59a0a18f2866d4b515340ff808", func := "rastrum/rastrumlaw16.LerpRises", spec := "lerpRises", inPlace := ["math/bits.Add64"], unfollowed := true, recurses := true, named := ["math/bits.divideError", "math/bits.overflowError"], apart := false }
def LerpRisesSaid : Prop := lerpRisesRow.holds Try.pinned (OpenSpec.ofChange lerpRisesSpec)

/-- ITS FALSE NEIGHBOUR: 'it returns false'. Refute it at one input. -/
def lerpRisesWrong : ChangeSpec := { name := "lerpRises", fn := fun _ => fun
  | [d] => { results := [.lit (.bool false)], args := [d] }
  | _ => none }
def LerpRisesWrongFalsely : Prop := lerpRisesRow.holds Try.pinned (OpenSpec.ofChange lerpRisesWrong)

/- THE SECOND FORM. 'bulk': how many values and letters a reading holds, each counted each time it is reached (what is shared counts as often as it is met; a slice's spare places count too). A statement '..UptoSaid' is the law's where the arguments, and the package variables that the reading takes, are together of bulk at most 1048576: NARROWER than '..Said'. Prove '..Said' where nothing that the law and all that it calls make is longer than what came in: it says more and counts as full. Else prove '..UptoSaid'. A law counts once. -/
mutual
def uptoBulk {H : Type} : DataW H → Nat
  | .lit (.string bytes) => bytes.length + 1
  | .lit _ => 1
  | .nil => 1
  | .ptr d => uptoBulk d + 1
  | .slice elems spare => uptoBulkAll elems + uptoBulkAll spare + 1
  | .agg parts => uptoBulkAll parts + 1
  | .iface _ d => uptoBulk d + 1
  | .map entries => uptoBulkEntries entries + 1
  | .held _ => 1
def uptoBulkAll {H : Type} : List (DataW H) → Nat
  | [] => 0
  | d :: r => uptoBulk d + uptoBulkAll r
def uptoBulkEntries {H : Type} : List (Lit × DataW H) → Nat
  | [] => 0
  | x :: r => uptoBulkEntry x + uptoBulkEntries r
def uptoBulkEntry {H : Type} : Lit × DataW H → Nat
  | (.string bytes, d) => bytes.length + uptoBulk d + 1
  | (_, d) => uptoBulk d + 1
 end
def uptoSmall : (H : Type) → List (DataW H) → Bool := fun _ ds => decide (uptoBulkAll ds ≤ 1048576)
def OpenSpec.upto (s : _root_.Go.ChangeSpec) : _root_.Go.OpenSpec := { _root_.Go.OpenSpec.ofChange s with cond := some uptoSmall }

/-- 'rastrumlaw16.LerpMids', WHERE WHAT IT READS IS OF BULK AT MOST 1048576: true; the input reads as it did. -/
def lerpMidsUptoRow : OpenClaim := { program := "ytjhefgfnecdcoaa", sum := "a580def9bd9f9d0efbe30e9253b44758a83cef59a0a18f2866d4b515340ff808", func := "rastrum/rastrumlaw16.LerpMids", spec := "lerpMids", inPlace := ["math/bits.Add64"], unfollowed := true, recurses := true, named := ["math/bits.divideError", "math/bits.overflowError"], apart := false, narrowed := true }
def LerpMidsUptoSaid : Prop := lerpMidsUptoRow.holds Try.pinned (OpenSpec.upto lerpMidsSpec)

/-- 'rastrumlaw16.LerpTells', WHERE WHAT IT READS IS OF BULK AT MOST 1048576: true; the input reads as it did. -/
def lerpTellsUptoRow : OpenClaim := { program := "ytjhefgfnecdcoaa", sum := "a580def9bd9f9d0efbe30e9253b44758a83cef59a0a18f2866d4b515340ff808", func := "rastrum/rastrumlaw16.LerpTells", spec := "lerpTells", inPlace := ["math/bits.Add64"], unfollowed := true, recurses := true, named := ["math/bits.divideError", "math/bits.overflowError"], apart := false, narrowed := true }
def LerpTellsUptoSaid : Prop := lerpTellsUptoRow.holds Try.pinned (OpenSpec.upto lerpTellsSpec)

/-- 'rastrumlaw16.LerpBetween', WHERE WHAT IT READS IS OF BULK AT MOST 1048576: true; the input reads as it did. -/
def lerpBetweenUptoRow : OpenClaim := { program := "ytjhefgfnecdcoaa", sum := "a580def9bd9f9d0efbe30e9253b44758a83cef59a0a18f2866d4b515340ff808", func := "rastrum/rastrumlaw16.LerpBetween", spec := "lerpBetween", inPlace := ["math/bits.Add64"], unfollowed := true, recurses := true, named := ["math/bits.divideError", "math/bits.overflowError"], apart := false, narrowed := true }
def LerpBetweenUptoSaid : Prop := lerpBetweenUptoRow.holds Try.pinned (OpenSpec.upto lerpBetweenSpec)

/-- 'rastrumlaw16.LerpRises', WHERE WHAT IT READS IS OF BULK AT MOST 1048576: true; the input reads as it did. -/
def lerpRisesUptoRow : OpenClaim := { program := "ytjhefgfnecdcoaa", sum := "a580def9bd9f9d0efbe30e9253b44758a83cef59a0a18f2866d4b515340ff808", func := "rastrum/rastrumlaw16.LerpRises", spec := "lerpRises", inPlace := ["math/bits.Add64"], unfollowed := true, recurses := true, named := ["math/bits.divideError", "math/bits.overflowError"], apart := false, narrowed := true }
def LerpRisesUptoSaid : Prop := lerpRisesUptoRow.holds Try.pinned (OpenSpec.upto lerpRisesSpec)

end Rows
end Go.Proofs.Ytjhefgfnecdcoaa
