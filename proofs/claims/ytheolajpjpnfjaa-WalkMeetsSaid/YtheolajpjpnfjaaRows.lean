/-
  No cell of these rows narrows 'for every input' (looked for: loops, veiled, ifaces, maps, wideKeys, modest, calm, conditions, laid).
  DERIVED. THE GIVEN ROWS OF THIS SEAT. 5 by the template 'for every input the law returns true; each argument reads behind the call as it read before'; 0 by the template 'total and deterministic' (their statements: YtheolajpjpnfjaaTotals.lean).
  GIVEN WITH THE SEED: the statements are not yours to turn. If you find one false, say at which input.
  Laid BY PROGRAM, IN A SANDBOX (cutbox-rows.mjs): the forced cells as the released guide's own fill.sh prints them over the translation f621cbcc92da7d3c… (all of the seat's roots in one cut). By AI agents, Wed Nov 11 2026. No macro, syntax, notation, axiom, sorry.
-/
import Derived.Test.YtheolajpjpnfjaaChecked
import GoSem.Claim
import GoSem.ClaimJoined
import GoSem.ClaimMapViews
import Derived.JoinedTies
import Derived.KernelRfl
namespace Go.Proofs.Ytheolajpjpnfjaa
/- THE CELL 'sum', in the pinned program and in every row, IS THE sha256 OF THE DUMP (.gsa) THAT YtheolajpjpnfjaaProg.lean LOADS. Nothing in Lean hashes anything: it is a label: what it is worth is what the hold of that sum in a sandbox is worth. -/
noncomputable def Try.pinned : Pinned := { name := "ytheolajpjpnfjaa", sum := "f621cbcc92da7d3cac56d2f2b3d154bfa7246b29614ed07c4eafa139cca3f2c6", checked := Try.checked }
namespace Rows
def none {H : Type} : Left H := { results := [], args := [] }

/-- 'rastrumlaw14.WalkWithin': WHATEVER THE INPUT: true; the input reads as it did. -/
def walkWithinSpec : ChangeSpec := { name := "walkWithin", fn := fun _ => fun
  | [d1, d2, d3] => { results := [.lit (.bool true)], args := [d1, d2, d3] }
  | _ => none }
def walkWithinRow : OpenClaim := { program := "ytheolajpjpnfjaa", sum := "f621cbcc92da7d3cac56d2f2b3d154bfa7246b29614ed07c4eafa139cca3f2c6", func := "rastrum/rastrumlaw14.WalkWithin", spec := "walkWithin", unfollowed := true, recurses := true, apart := false }
def WalkWithinSaid : Prop := walkWithinRow.holds Try.pinned (OpenSpec.ofChange walkWithinSpec)

/-- ITS FALSE NEIGHBOUR: 'it returns false'. Refute it at one input. -/
def walkWithinWrong : ChangeSpec := { name := "walkWithin", fn := fun _ => fun
  | [d1, d2, d3] => { results := [.lit (.bool false)], args := [d1, d2, d3] }
  | _ => none }
def WalkWithinWrongFalsely : Prop := walkWithinRow.holds Try.pinned (OpenSpec.ofChange walkWithinWrong)

/-- 'rastrumlaw14.WalkAts': WHATEVER THE INPUT: true; the input reads as it did. -/
def walkAtsSpec : ChangeSpec := { name := "walkAts", fn := fun _ => fun
  | [d1, d2, d3] => { results := [.lit (.bool true)], args := [d1, d2, d3] }
  | _ => none }
def walkAtsRow : OpenClaim := { program := "ytheolajpjpnfjaa", sum := "f621cbcc92da7d3cac56d2f2b3d154bfa7246b29614ed07c4eafa139cca3f2c6", func := "rastrum/rastrumlaw14.WalkAts", spec := "walkAts", unfollowed := true, recurses := true, apart := false }
def WalkAtsSaid : Prop := walkAtsRow.holds Try.pinned (OpenSpec.ofChange walkAtsSpec)

/-- ITS FALSE NEIGHBOUR: 'it returns false'. Refute it at one input. -/
def walkAtsWrong : ChangeSpec := { name := "walkAts", fn := fun _ => fun
  | [d1, d2, d3] => { results := [.lit (.bool false)], args := [d1, d2, d3] }
  | _ => none }
def WalkAtsWrongFalsely : Prop := walkAtsRow.holds Try.pinned (OpenSpec.ofChange walkAtsWrong)

/-- 'rastrumlaw14.WalkMeets': WHATEVER THE INPUT: true; the input reads as it did. -/
def walkMeetsSpec : ChangeSpec := { name := "walkMeets", fn := fun _ => fun
  | [d1, d2, d3] => { results := [.lit (.bool true)], args := [d1, d2, d3] }
  | _ => none }
def walkMeetsRow : OpenClaim := { program := "ytheolajpjpnfjaa", sum := "f621cbcc92da7d3cac56d2f2b3d154bfa7246b29614ed07c4eafa139cca3f2c6", func := "rastrum/rastrumlaw14.WalkMeets", spec := "walkMeets", unfollowed := true, recurses := true, apart := false }
def WalkMeetsSaid : Prop := walkMeetsRow.holds Try.pinned (OpenSpec.ofChange walkMeetsSpec)

/-- ITS FALSE NEIGHBOUR: 'it returns false'. Refute it at one input. -/
def walkMeetsWrong : ChangeSpec := { name := "walkMeets", fn := fun _ => fun
  | [d1, d2, d3] => { results := [.lit (.bool false)], args := [d1, d2, d3] }
  | _ => none }
def WalkMeetsWrongFalsely : Prop := walkMeetsRow.holds Try.pinned (OpenSpec.ofChange walkMeetsWrong)

/-- 'rastrumlaw14.WalkParts': WHATEVER THE INPUT: true; the input reads as it did. -/
def walkPartsSpec : ChangeSpec := { name := "walkParts", fn := fun _ => fun
  | [d1, d2, d3] => { results := [.lit (.bool true)], args := [d1, d2, d3] }
  | _ => none }
def walkPartsRow : OpenClaim := { program := "ytheolajpjpnfjaa", sum := "f621cbcc92da7d3cac56d2f2b3d154bfa7246b29614ed07c4eafa139cca3f2c6", func := "rastrum/rastrumlaw14.WalkParts", spec := "walkParts", unfollowed := true, recurses := true, apart := false }
def WalkPartsSaid : Prop := walkPartsRow.holds Try.pinned (OpenSpec.ofChange walkPartsSpec)

/-- ITS FALSE NEIGHBOUR: 'it returns false'. Refute it at one input. -/
def walkPartsWrong : ChangeSpec := { name := "walkParts", fn := fun _ => fun
  | [d1, d2, d3] => { results := [.lit (.bool false)], args := [d1, d2, d3] }
  | _ => none }
def WalkPartsWrongFalsely : Prop := walkPartsRow.holds Try.pinned (OpenSpec.ofChange walkPartsWrong)

/-- 'rastrumlaw14.WalkMoves': WHATEVER THE INPUT: true; the input reads as it did. -/
def walkMovesSpec : ChangeSpec := { name := "walkMoves", fn := fun _ => fun
  | [d1, d2, d3] => { results := [.lit (.bool true)], args := [d1, d2, d3] }
  | _ => none }
def walkMovesRow : OpenClaim := { program := "ytheolajpjpnfjaa", sum := "f621cbcc92da7d3cac56d2f2b3d154bfa7246b29614ed07c4eafa139cca3f2c6", func := "rastrum/rastrumlaw14.WalkMoves", spec := "walkMoves", unfollowed := true, recurses := true, apart := false }
def WalkMovesSaid : Prop := walkMovesRow.holds Try.pinned (OpenSpec.ofChange walkMovesSpec)

/-- ITS FALSE NEIGHBOUR: 'it returns false'. Refute it at one input. -/
def walkMovesWrong : ChangeSpec := { name := "walkMoves", fn := fun _ => fun
  | [d1, d2, d3] => { results := [.lit (.bool false)], args := [d1, d2, d3] }
  | _ => none }
def WalkMovesWrongFalsely : Prop := walkMovesRow.holds Try.pinned (OpenSpec.ofChange walkMovesWrong)

/- THE SECOND FORM. 'bulk': how many values and letters a reading holds, each counted each time it is reached (what is shared counts as often as it is met; a slice's spare places count too). A statement '..UptoSaid' is the law's where the arguments, and the package variables that the reading takes, are together of bulk at most 1048576: NARROWER than '..Said'. Prove '..Said' where nothing that the law and all that it calls make is longer than what came in: it says more and counts as full. Else prove '..UptoSaid'. A law counts once. -/
mutual
def uptoBulk {H : Type} : DataW H → Nat
  | .lit (.string bytes) => bytes.length + 1
  | .lit _ => 1
  | .nil => 1
  | .ptr d => uptoBulk d + 1
  | .slice elems spare => uptoBulkAll elems + uptoBulkAll spare + 1
  | .agg parts => uptoBulkAll parts + 1
  | .iface _ d => uptoBulk d + 1
  | .map entries => uptoBulkEntries entries + 1
  | .held _ => 1
def uptoBulkAll {H : Type} : List (DataW H) → Nat
  | [] => 0
  | d :: r => uptoBulk d + uptoBulkAll r
def uptoBulkEntries {H : Type} : List (Lit × DataW H) → Nat
  | [] => 0
  | x :: r => uptoBulkEntry x + uptoBulkEntries r
def uptoBulkEntry {H : Type} : Lit × DataW H → Nat
  | (.string bytes, d) => bytes.length + uptoBulk d + 1
  | (_, d) => uptoBulk d + 1
 end
def uptoSmall : (H : Type) → List (DataW H) → Bool := fun _ ds => decide (uptoBulkAll ds ≤ 1048576)
def OpenSpec.upto (s : _root_.Go.ChangeSpec) : _root_.Go.OpenSpec := { _root_.Go.OpenSpec.ofChange s with cond := some uptoSmall }

/-- 'rastrumlaw14.WalkWithin', WHERE WHAT IT READS IS OF BULK AT MOST 1048576: true; the input reads as it did. -/
def walkWithinUptoRow : OpenClaim := { program := "ytheolajpjpnfjaa", sum := "f621cbcc92da7d3cac56d2f2b3d154bfa7246b29614ed07c4eafa139cca3f2c6", func := "rastrum/rastrumlaw14.WalkWithin", spec := "walkWithin", unfollowed := true, recurses := true, apart := false, narrowed := true }
def WalkWithinUptoSaid : Prop := walkWithinUptoRow.holds Try.pinned (OpenSpec.upto walkWithinSpec)

/-- 'rastrumlaw14.WalkAts', WHERE WHAT IT READS IS OF BULK AT MOST 1048576: true; the input reads as it did. -/
def walkAtsUptoRow : OpenClaim := { program := "ytheolajpjpnfjaa", sum := "f621cbcc92da7d3cac56d2f2b3d154bfa7246b29614ed07c4eafa139cca3f2c6", func := "rastrum/rastrumlaw14.WalkAts", spec := "walkAts", unfollowed := true, recurses := true, apart := false, narrowed := true }
def WalkAtsUptoSaid : Prop := walkAtsUptoRow.holds Try.pinned (OpenSpec.upto walkAtsSpec)

/-- 'rastrumlaw14.WalkMeets', WHERE WHAT IT READS IS OF BULK AT MOST 1048576: true; the input reads as it did. -/
def walkMeetsUptoRow : OpenClaim := { program := "ytheolajpjpnfjaa", sum := "f621cbcc92da7d3cac56d2f2b3d154bfa7246b29614ed07c4eafa139cca3f2c6", func := "rastrum/rastrumlaw14.WalkMeets", spec := "walkMeets", unfollowed := true, recurses := true, apart := false, narrowed := true }
def WalkMeetsUptoSaid : Prop := walkMeetsUptoRow.holds Try.pinned (OpenSpec.upto walkMeetsSpec)

/-- 'rastrumlaw14.WalkParts', WHERE WHAT IT READS IS OF BULK AT MOST 1048576: true; the input reads as it did. -/
def walkPartsUptoRow : OpenClaim := { program := "ytheolajpjpnfjaa", sum := "f621cbcc92da7d3cac56d2f2b3d154bfa7246b29614ed07c4eafa139cca3f2c6", func := "rastrum/rastrumlaw14.WalkParts", spec := "walkParts", unfollowed := true, recurses := true, apart := false, narrowed := true }
def WalkPartsUptoSaid : Prop := walkPartsUptoRow.holds Try.pinned (OpenSpec.upto walkPartsSpec)

/-- 'rastrumlaw14.WalkMoves', WHERE WHAT IT READS IS OF BULK AT MOST 1048576: true; the input reads as it did. -/
def walkMovesUptoRow : OpenClaim := { program := "ytheolajpjpnfjaa", sum := "f621cbcc92da7d3cac56d2f2b3d154bfa7246b29614ed07c4eafa139cca3f2c6", func := "rastrum/rastrumlaw14.WalkMoves", spec := "walkMoves", unfollowed := true, recurses := true, apart := false, narrowed := true }
def WalkMovesUptoSaid : Prop := walkMovesUptoRow.holds Try.pinned (OpenSpec.upto walkMovesSpec)

end Rows
end Go.Proofs.Ytheolajpjpnfjaa
