/-
  No cell of these rows narrows 'for every input' (looked for: loops, veiled, ifaces, maps, wideKeys, modest, calm, conditions, laid).
  DERIVED. THE GIVEN ROWS OF THIS SEAT. 5 by the template 'for every input the law returns true; each argument reads behind the call as it read before'; 0 by the template 'total and deterministic' (their statements: YtbjbafhlmcnceaaTotals.lean).
  GIVEN WITH THE SEED: the statements are not yours to turn. If you find one false, say at which input.
  Laid BY PROGRAM, IN A SANDBOX (cutbox-rows.mjs): the forced cells as the released guide's own fill.sh prints them over the translation 6f990c8398550480… (all of the seat's roots in one cut). By AI agents, Wed Nov 11 2026. No macro, syntax, notation, axiom, sorry.
-/
import Derived.Test.YtbjbafhlmcnceaaChecked
import GoSem.Claim
import GoSem.ClaimJoined
import GoSem.ClaimMapViews
import Derived.JoinedTies
import Derived.KernelRfl
namespace Go.Proofs.Ytbjbafhlmcnceaa
/- THE CELL 'sum', in the pinned program and in every row, IS THE sha256 OF THE DUMP (.gsa) THAT YtbjbafhlmcnceaaProg.lean LOADS. Nothing in Lean hashes anything: it is a label: what it is worth is what the hold of that sum in a sandbox is worth. -/
noncomputable def Try.pinned : Pinned := { name := "ytbjbafhlmcnceaa", sum := "6f990c83985504805d3a7bc0be8ff5075456f7a2ea8e55b25a4c8cca8fa68349", checked := Try.checked }
namespace Rows
def none {H : Type} : Left H := { results := [], args := [] }

/-- 'rastrumlaw08.SideTells': WHATEVER THE INPUT: true; the input reads as it did. -/
def sideTellsSpec : ChangeSpec := { name := "sideTells", fn := fun _ => fun
  | [d1, d2] => { results := [.lit (.bool true)], args := [d1, d2] }
  | _ => none }
def sideTellsRow : OpenClaim := { program := "ytbjbafhlmcnceaa", sum := "6f990c83985504805d3a7bc0be8ff5075456f7a2ea8e55b25a4c8cca8fa68349", func := "rastrum/rastrumlaw08.SideTells", spec := "sideTells", inPlace := ["math/bits.Add64"], named := ["math/bits.divideError", "math/bits.overflowError"], apart := false }
def SideTellsSaid : Prop := sideTellsRow.holds Try.pinned (OpenSpec.ofChange sideTellsSpec)

/-- ITS FALSE NEIGHBOUR: 'it returns false'. Refute it at one input. -/
def sideTellsWrong : ChangeSpec := { name := "sideTells", fn := fun _ => fun
  | [d1, d2] => { results := [.lit (.bool false)], args := [d1, d2] }
  | _ => none }
def SideTellsWrongFalsely : Prop := sideTellsRow.holds Try.pinned (OpenSpec.ofChange sideTellsWrong)

/-- 'rastrumlaw08.SideLists': WHATEVER THE INPUT: true; the input reads as it did. -/
def sideListsSpec : ChangeSpec := { name := "sideLists", fn := fun _ => fun
  | [d] => { results := [.lit (.bool true)], args := [d] }
  | _ => none }
def sideListsRow : OpenClaim := { program := "ytbjbafhlmcnceaa", sum := "6f990c83985504805d3a7bc0be8ff5075456f7a2ea8e55b25a4c8cca8fa68349", func := "rastrum/rastrumlaw08.SideLists", spec := "sideLists", inPlace := ["math/bits.Add64"], named := ["math/bits.divideError", "math/bits.overflowError"], apart := false }
def SideListsSaid : Prop := sideListsRow.holds Try.pinned (OpenSpec.ofChange sideListsSpec)

/-- ITS FALSE NEIGHBOUR: 'it returns false'. Refute it at one input. -/
def sideListsWrong : ChangeSpec := { name := "sideLists", fn := fun _ => fun
  | [d] => { results := [.lit (.bool false)], args := [d] }
  | _ => none }
def SideListsWrongFalsely : Prop := sideListsRow.holds Try.pinned (OpenSpec.ofChange sideListsWrong)

/-- 'rastrumlaw08.SideAts': WHATEVER THE INPUT: true; the input reads as it did. -/
def sideAtsSpec : ChangeSpec := { name := "sideAts", fn := fun _ => fun
  | [d1, d2, d3] => { results := [.lit (.bool true)], args := [d1, d2, d3] }
  | _ => none }
def sideAtsRow : OpenClaim := { program := "ytbjbafhlmcnceaa", sum := "6f990c83985504805d3a7bc0be8ff5075456f7a2ea8e55b25a4c8cca8fa68349", func := "rastrum/rastrumlaw08.SideAts", spec := "sideAts", inPlace := ["math/bits.Add64"], named := ["math/bits.divideError", "math/bits.overflowError"], apart := false }
def SideAtsSaid : Prop := sideAtsRow.holds Try.pinned (OpenSpec.ofChange sideAtsSpec)

/-- ITS FALSE NEIGHBOUR: 'it returns false'. Refute it at one input. -/
def sideAtsWrong : ChangeSpec := { name := "sideAts", fn := fun _ => fun
  | [d1, d2, d3] => { results := [.lit (.bool false)], args := [d1, d2, d3] }
  | _ => none }
def SideAtsWrongFalsely : Prop := sideAtsRow.holds Try.pinned (OpenSpec.ofChange sideAtsWrong)

/-- 'rastrumlaw08.SideBetween': WHATEVER THE INPUT: true; the input reads as it did. -/
def sideBetweenSpec : ChangeSpec := { name := "sideBetween", fn := fun _ => fun
  | [d1, d2, d3] => { results := [.lit (.bool true)], args := [d1, d2, d3] }
  | _ => none }
def sideBetweenRow : OpenClaim := { program := "ytbjbafhlmcnceaa", sum := "6f990c83985504805d3a7bc0be8ff5075456f7a2ea8e55b25a4c8cca8fa68349", func := "rastrum/rastrumlaw08.SideBetween", spec := "sideBetween", inPlace := ["math/bits.Add64"], named := ["math/bits.divideError", "math/bits.overflowError"], apart := false }
def SideBetweenSaid : Prop := sideBetweenRow.holds Try.pinned (OpenSpec.ofChange sideBetweenSpec)

/-- ITS FALSE NEIGHBOUR: 'it returns false'. Refute it at one input. -/
def sideBetweenWrong : ChangeSpec := { name := "sideBetween", fn := fun _ => fun
  | [d1, d2, d3] => { results := [.lit (.bool false)], args := [d1, d2, d3] }
  | _ => none }
def SideBetweenWrongFalsely : Prop := sideBetweenRow.holds Try.pinned (OpenSpec.ofChange sideBetweenWrong)

/-- 'rastrumlaw08.SideMeets': WHATEVER THE INPUT: true; the input reads as it did. -/
def sideMeetsSpec : ChangeSpec := { name := "sideMeets", fn := fun _ => fun
  | [d1, d2, d3] => { results := [.lit (.bool true)], args := [d1, d2, d3] }
  | _ => none }
def sideMeetsRow : OpenClaim := { program := "ytbjbafhlmcnceaa", sum := "6f990c83985504805d3a7bc0be8ff5075456f7a2ea8e55b25a4c8cca8fa68349", func := "rastrum/rastrumlaw08.SideMeets", spec := "sideMeets", inPlace := ["math/bits.Add64"], named := ["math/bits.divideError", "math/bits.overflowError"], apart := false }
def SideMeetsSaid : Prop := sideMeetsRow.holds Try.pinned (OpenSpec.ofChange sideMeetsSpec)

/-- ITS FALSE NEIGHBOUR: 'it returns false'. Refute it at one input. -/
def sideMeetsWrong : ChangeSpec := { name := "sideMeets", fn := fun _ => fun
  | [d1, d2, d3] => { results := [.lit (.bool false)], args := [d1, d2, d3] }
  | _ => none }
def SideMeetsWrongFalsely : Prop := sideMeetsRow.holds Try.pinned (OpenSpec.ofChange sideMeetsWrong)

/- THE SECOND FORM. 'bulk': how many values and letters a reading holds, each counted each time it is reached (what is shared counts as often as it is met; a slice's spare places count too). A statement '..UptoSaid' is the law's where the arguments, and the package variables that the reading takes, are together of bulk at most 1048576: NARROWER than '..Said'. Prove '..Said' where nothing that the law and all that it calls make is longer than what came in: it says more and counts as full. Else prove '..UptoSaid'. A law counts once. -/
mutual
def uptoBulk {H : Type} : DataW H → Nat
  | .lit (.string bytes) => bytes.length + 1
  | .lit _ => 1
  | .nil => 1
  | .ptr d => uptoBulk d + 1
  | .slice elems spare => uptoBulkAll elems + uptoBulkAll spare + 1
  | .agg parts => uptoBulkAll parts + 1
  | .iface _ d => uptoBulk d + 1
  | .map entries => uptoBulkEntries entries + 1
  | .held _ => 1
def uptoBulkAll {H : Type} : List (DataW H) → Nat
  | [] => 0
  | d :: r => uptoBulk d + uptoBulkAll r
def uptoBulkEntries {H : Type} : List (Lit × DataW H) → Nat
  | [] => 0
  | x :: r => uptoBulkEntry x + uptoBulkEntries r
def uptoBulkEntry {H : Type} : Lit × DataW H → Nat
  | (.string bytes, d) => bytes.length + uptoBulk d + 1
  | (_, d) => uptoBulk d + 1
 end
def uptoSmall : (H : Type) → List (DataW H) → Bool := fun _ ds => decide (uptoBulkAll ds ≤ 1048576)
def OpenSpec.upto (s : _root_.Go.ChangeSpec) : _root_.Go.OpenSpec := { _root_.Go.OpenSpec.ofChange s with cond := some uptoSmall }

/-- 'rastrumlaw08.SideTells', WHERE WHAT IT READS IS OF BULK AT MOST 1048576: true; the input reads as it did. -/
def sideTellsUptoRow : OpenClaim := { program := "ytbjbafhlmcnceaa", sum := "6f990c83985504805d3a7bc0be8ff5075456f7a2ea8e55b25a4c8cca8fa68349", func := "rastrum/rastrumlaw08.SideTells", spec := "sideTells", inPlace := ["math/bits.Add64"], named := ["math/bits.divideError", "math/bits.overflowError"], apart := false, narrowed := true }
def SideTellsUptoSaid : Prop := sideTellsUptoRow.holds Try.pinned (OpenSpec.upto sideTellsSpec)

/-- 'rastrumlaw08.SideLists', WHERE WHAT IT READS IS OF BULK AT MOST 1048576: true; the input reads as it did. -/
def sideListsUptoRow : OpenClaim := { program := "ytbjbafhlmcnceaa", sum := "6f990c83985504805d3a7bc0be8ff5075456f7a2ea8e55b25a4c8cca8fa68349", func := "rastrum/rastrumlaw08.SideLists", spec := "sideLists", inPlace := ["math/bits.Add64"], named := ["math/bits.divideError", "math/bits.overflowError"], apart := false, narrowed := true }
def SideListsUptoSaid : Prop := sideListsUptoRow.holds Try.pinned (OpenSpec.upto sideListsSpec)

/-- 'rastrumlaw08.SideAts', WHERE WHAT IT READS IS OF BULK AT MOST 1048576: true; the input reads as it did. -/
def sideAtsUptoRow : OpenClaim := { program := "ytbjbafhlmcnceaa", sum := "6f990c83985504805d3a7bc0be8ff5075456f7a2ea8e55b25a4c8cca8fa68349", func := "rastrum/rastrumlaw08.SideAts", spec := "sideAts", inPlace := ["math/bits.Add64"], named := ["math/bits.divideError", "math/bits.overflowError"], apart := false, narrowed := true }
def SideAtsUptoSaid : Prop := sideAtsUptoRow.holds Try.pinned (OpenSpec.upto sideAtsSpec)

/-- 'rastrumlaw08.SideBetween', WHERE WHAT IT READS IS OF BULK AT MOST 1048576: true; the input reads as it did. -/
def sideBetweenUptoRow : OpenClaim := { program := "ytbjbafhlmcnceaa", sum := "6f990c83985504805d3a7bc0be8ff5075456f7a2ea8e55b25a4c8cca8fa68349", func := "rastrum/rastrumlaw08.SideBetween", spec := "sideBetween", inPlace := ["math/bits.Add64"], named := ["math/bits.divideError", "math/bits.overflowError"], apart := false, narrowed := true }
def SideBetweenUptoSaid : Prop := sideBetweenUptoRow.holds Try.pinned (OpenSpec.upto sideBetweenSpec)

/-- 'rastrumlaw08.SideMeets', WHERE WHAT IT READS IS OF BULK AT MOST 1048576: true; the input reads as it did. -/
def sideMeetsUptoRow : OpenClaim := { program := "ytbjbafhlmcnceaa", sum := "6f990c83985504805d3a7bc0be8ff5075456f7a2ea8e55b25a4c8cca8fa68349", func := "rastrum/rastrumlaw08.SideMeets", spec := "sideMeets", inPlace := ["math/bits.Add64"], named := ["math/bits.divideError", "math/bits.overflowError"], apart := false, narrowed := true }
def SideMeetsUptoSaid : Prop := sideMeetsUptoRow.holds Try.pinned (OpenSpec.upto sideMeetsSpec)

end Rows
end Go.Proofs.Ytbjbafhlmcnceaa
