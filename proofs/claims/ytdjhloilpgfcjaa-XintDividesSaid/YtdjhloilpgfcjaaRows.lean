/-
  No cell of these rows narrows 'for every input' (looked for: loops, veiled, ifaces, maps, wideKeys, modest, calm, conditions, laid).
  DERIVED. THE GIVEN ROWS OF THIS SEAT. 6 by the template 'for every input the law returns true; each argument reads behind the call as it read before'; 0 by the template 'total and deterministic' (their statements: YtdjhloilpgfcjaaTotals.lean).
  GIVEN WITH THE SEED: the statements are not yours to turn. If you find one false, say at which input.
  Laid BY PROGRAM, IN A SANDBOX (cutbox-rows.mjs): the forced cells as the released guide's own fill.sh prints them over the translation e974e680cce217d4… (all of the seat's roots in one cut). By AI agents, Wed Nov 11 2026. No macro, syntax, notation, axiom, sorry.
-/
import Derived.Test.YtdjhloilpgfcjaaChecked
import GoSem.Claim
import GoSem.ClaimJoined
import GoSem.ClaimMapViews
import Derived.JoinedTies
import Derived.KernelRfl
namespace Go.Proofs.Ytdjhloilpgfcjaa
/- THE CELL 'sum', in the pinned program and in every row, IS THE sha256 OF THE DUMP (.gsa) THAT YtdjhloilpgfcjaaProg.lean LOADS. Nothing in Lean hashes anything: it is a label: what it is worth is what the hold of that sum in a sandbox is worth. -/
noncomputable def Try.pinned : Pinned := { name := "ytdjhloilpgfcjaa", sum := "e974e680cce217d40798e2ac462db6f7cfd8f23f4bf68412616cdfc0be069b3c", checked := Try.checked }
namespace Rows
def none {H : Type} : Left H := { results := [], args := [] }

/-- 'rastrumlaw02.XintTells': WHATEVER THE INPUT: true; the input reads as it did. -/
def xintTellsSpec : ChangeSpec := { name := "xintTells", fn := fun _ => fun
  | [d1, d2, d3] => { results := [.lit (.bool true)], args := [d1, d2, d3] }
  | _ => none }
def xintTellsRow : OpenClaim := { program := "ytdjhloilpgfcjaa", sum := "e974e680cce217d40798e2ac462db6f7cfd8f23f4bf68412616cdfc0be069b3c", func := "rastrum/rastrumlaw02.XintTells", spec := "xintTells", inPlace := ["math/bits.Sub64", "math/bits.Add64"], named := ["math/bits.divideError", "math/bits.overflowError"], apart := false }
def XintTellsSaid : Prop := xintTellsRow.holds Try.pinned (OpenSpec.ofChange xintTellsSpec)

/-- ITS FALSE NEIGHBOUR: 'it returns false'. Refute it at one input. -/
def xintTellsWrong : ChangeSpec := { name := "xintTells", fn := fun _ => fun
  | [d1, d2, d3] => { results := [.lit (.bool false)], args := [d1, d2, d3] }
  | _ => none }
def XintTellsWrongFalsely : Prop := xintTellsRow.holds Try.pinned (OpenSpec.ofChange xintTellsWrong)

/-- 'rastrumlaw02.XintDivides': WHATEVER THE INPUT: true; the input reads as it did. -/
def xintDividesSpec : ChangeSpec := { name := "xintDivides", fn := fun _ => fun
  | [d1, d2, d3] => { results := [.lit (.bool true)], args := [d1, d2, d3] }
  | _ => none }
def xintDividesRow : OpenClaim := { program := "ytdjhloilpgfcjaa", sum := "e974e680cce217d40798e2ac462db6f7cfd8f23f4bf68412616cdfc0be069b3c", func := "rastrum/rastrumlaw02.XintDivides", spec := "xintDivides", named := ["math/bits.divideError", "math/bits.overflowError"], apart := false }
def XintDividesSaid : Prop := xintDividesRow.holds Try.pinned (OpenSpec.ofChange xintDividesSpec)

/-- ITS FALSE NEIGHBOUR: 'it returns false'. Refute it at one input. -/
def xintDividesWrong : ChangeSpec := { name := "xintDivides", fn := fun _ => fun
  | [d1, d2, d3] => { results := [.lit (.bool false)], args := [d1, d2, d3] }
  | _ => none }
def XintDividesWrongFalsely : Prop := xintDividesRow.holds Try.pinned (OpenSpec.ofChange xintDividesWrong)

/-- 'rastrumlaw02.XintRatios': WHATEVER THE INPUT: true; the input reads as it did. -/
def xintRatiosSpec : ChangeSpec := { name := "xintRatios", fn := fun _ => fun
  | [d] => { results := [.lit (.bool true)], args := [d] }
  | _ => none }
def xintRatiosRow : OpenClaim := { program := "ytdjhloilpgfcjaa", sum := "e974e680cce217d40798e2ac462db6f7cfd8f23f4bf68412616cdfc0be069b3c", func := "rastrum/rastrumlaw02.XintRatios", spec := "xintRatios", named := ["math/bits.divideError", "math/bits.overflowError"], apart := false }
def XintRatiosSaid : Prop := xintRatiosRow.holds Try.pinned (OpenSpec.ofChange xintRatiosSpec)

/-- ITS FALSE NEIGHBOUR: 'it returns false'. Refute it at one input. -/
def xintRatiosWrong : ChangeSpec := { name := "xintRatios", fn := fun _ => fun
  | [d] => { results := [.lit (.bool false)], args := [d] }
  | _ => none }
def XintRatiosWrongFalsely : Prop := xintRatiosRow.holds Try.pinned (OpenSpec.ofChange xintRatiosWrong)

/-- 'rastrumlaw02.XintRings': WHATEVER THE INPUT: true; the input reads as it did. -/
def xintRingsSpec : ChangeSpec := { name := "xintRings", fn := fun _ => fun
  | [d1, d2, d3] => { results := [.lit (.bool true)], args := [d1, d2, d3] }
  | _ => none }
def xintRingsRow : OpenClaim := { program := "ytdjhloilpgfcjaa", sum := "e974e680cce217d40798e2ac462db6f7cfd8f23f4bf68412616cdfc0be069b3c", func := "rastrum/rastrumlaw02.XintRings", spec := "xintRings", inPlace := ["math/bits.Add64", "math/bits.Sub64"], named := ["math/bits.divideError", "math/bits.overflowError"], apart := false }
def XintRingsSaid : Prop := xintRingsRow.holds Try.pinned (OpenSpec.ofChange xintRingsSpec)

/-- ITS FALSE NEIGHBOUR: 'it returns false'. Refute it at one input. -/
def xintRingsWrong : ChangeSpec := { name := "xintRings", fn := fun _ => fun
  | [d1, d2, d3] => { results := [.lit (.bool false)], args := [d1, d2, d3] }
  | _ => none }
def XintRingsWrongFalsely : Prop := xintRingsRow.holds Try.pinned (OpenSpec.ofChange xintRingsWrong)

/-- 'rastrumlaw02.XintBack': WHATEVER THE INPUT: true; the input reads as it did. -/
def xintBackSpec : ChangeSpec := { name := "xintBack", fn := fun _ => fun
  | [d1, d2] => { results := [.lit (.bool true)], args := [d1, d2] }
  | _ => none }
def xintBackRow : OpenClaim := { program := "ytdjhloilpgfcjaa", sum := "e974e680cce217d40798e2ac462db6f7cfd8f23f4bf68412616cdfc0be069b3c", func := "rastrum/rastrumlaw02.XintBack", spec := "xintBack", inPlace := ["math/bits.Sub64", "math/bits.Add64"], named := ["math/bits.divideError", "math/bits.overflowError"], apart := false }
def XintBackSaid : Prop := xintBackRow.holds Try.pinned (OpenSpec.ofChange xintBackSpec)

/-- ITS FALSE NEIGHBOUR: 'it returns false'. Refute it at one input. -/
def xintBackWrong : ChangeSpec := { name := "xintBack", fn := fun _ => fun
  | [d1, d2] => { results := [.lit (.bool false)], args := [d1, d2] }
  | _ => none }
def XintBackWrongFalsely : Prop := xintBackRow.holds Try.pinned (OpenSpec.ofChange xintBackWrong)

/-- 'rastrumlaw02.XintRoots': WHATEVER THE INPUT: true; the input reads as it did. -/
def xintRootsSpec : ChangeSpec := { name := "xintRoots", fn := fun _ => fun
  | [d] => { results := [.lit (.bool true)], args := [d] }
  | _ => none }
def xintRootsRow : OpenClaim := { program := "ytdjhloilpgfcjaa", sum := "e974e680cce217d40798e2ac462db6f7cfd8f23f4bf68412616cdfc0be069b3c", func := "rastrum/rastrumlaw02.XintRoots", spec := "xintRoots", named := ["math/bits.divideError", "math/bits.overflowError"], apart := false }
def XintRootsSaid : Prop := xintRootsRow.holds Try.pinned (OpenSpec.ofChange xintRootsSpec)

/-- ITS FALSE NEIGHBOUR: 'it returns false'. Refute it at one input. -/
def xintRootsWrong : ChangeSpec := { name := "xintRoots", fn := fun _ => fun
  | [d] => { results := [.lit (.bool false)], args := [d] }
  | _ => none }
def XintRootsWrongFalsely : Prop := xintRootsRow.holds Try.pinned (OpenSpec.ofChange xintRootsWrong)

/- THE SECOND FORM. 'bulk': how many values and letters a reading holds, each counted each time it is reached (what is shared counts as often as it is met; a slice's spare places count too). A statement '..UptoSaid' is the law's where the arguments, and the package variables that the reading takes, are together of bulk at most 1048576: NARROWER than '..Said'. Prove '..Said' where nothing that the law and all that it calls make is longer than what came in: it says more and counts as full. Else prove '..UptoSaid'. A law counts once. -/
mutual
def uptoBulk {H : Type} : DataW H → Nat
  | .lit (.string bytes) => bytes.length + 1
  | .lit _ => 1
  | .nil => 1
  | .ptr d => uptoBulk d + 1
  | .slice elems spare => uptoBulkAll elems + uptoBulkAll spare + 1
  | .agg parts => uptoBulkAll parts + 1
  | .iface _ d => uptoBulk d + 1
  | .map entries => uptoBulkEntries entries + 1
  | .held _ => 1
def uptoBulkAll {H : Type} : List (DataW H) → Nat
  | [] => 0
  | d :: r => uptoBulk d + uptoBulkAll r
def uptoBulkEntries {H : Type} : List (Lit × DataW H) → Nat
  | [] => 0
  | x :: r => uptoBulkEntry x + uptoBulkEntries r
def uptoBulkEntry {H : Type} : Lit × DataW H → Nat
  | (.string bytes, d) => bytes.length + uptoBulk d + 1
  | (_, d) => uptoBulk d + 1
 end
def uptoSmall : (H : Type) → List (DataW H) → Bool := fun _ ds => decide (uptoBulkAll ds ≤ 1048576)
def OpenSpec.upto (s : _root_.Go.ChangeSpec) : _root_.Go.OpenSpec := { _root_.Go.OpenSpec.ofChange s with cond := some uptoSmall }

/-- 'rastrumlaw02.XintTells', WHERE WHAT IT READS IS OF BULK AT MOST 1048576: true; the input reads as it did. -/
def xintTellsUptoRow : OpenClaim := { program := "ytdjhloilpgfcjaa", sum := "e974e680cce217d40798e2ac462db6f7cfd8f23f4bf68412616cdfc0be069b3c", func := "rastrum/rastrumlaw02.XintTells", spec := "xintTells", inPlace := ["math/bits.Sub64", "math/bits.Add64"], named := ["math/bits.divideError", "math/bits.overflowError"], apart := false, narrowed := true }
def XintTellsUptoSaid : Prop := xintTellsUptoRow.holds Try.pinned (OpenSpec.upto xintTellsSpec)

/-- 'rastrumlaw02.XintDivides', WHERE WHAT IT READS IS OF BULK AT MOST 1048576: true; the input reads as it did. -/
def xintDividesUptoRow : OpenClaim := { program := "ytdjhloilpgfcjaa", sum := "e974e680cce217d40798e2ac462db6f7cfd8f23f4bf68412616cdfc0be069b3c", func := "rastrum/rastrumlaw02.XintDivides", spec := "xintDivides", named := ["math/bits.divideError", "math/bits.overflowError"], apart := false, narrowed := true }
def XintDividesUptoSaid : Prop := xintDividesUptoRow.holds Try.pinned (OpenSpec.upto xintDividesSpec)

/-- 'rastrumlaw02.XintRatios', WHERE WHAT IT READS IS OF BULK AT MOST 1048576: true; the input reads as it did. -/
def xintRatiosUptoRow : OpenClaim := { program := "ytdjhloilpgfcjaa", sum := "e974e680cce217d40798e2ac462db6f7cfd8f23f4bf68412616cdfc0be069b3c", func := "rastrum/rastrumlaw02.XintRatios", spec := "xintRatios", named := ["math/bits.divideError", "math/bits.overflowError"], apart := false, narrowed := true }
def XintRatiosUptoSaid : Prop := xintRatiosUptoRow.holds Try.pinned (OpenSpec.upto xintRatiosSpec)

/-- 'rastrumlaw02.XintRings', WHERE WHAT IT READS IS OF BULK AT MOST 1048576: true; the input reads as it did. -/
def xintRingsUptoRow : OpenClaim := { program := "ytdjhloilpgfcjaa", sum := "e974e680cce217d40798e2ac462db6f7cfd8f23f4bf68412616cdfc0be069b3c", func := "rastrum/rastrumlaw02.XintRings", spec := "xintRings", inPlace := ["math/bits.Add64", "math/bits.Sub64"], named := ["math/bits.divideError", "math/bits.overflowError"], apart := false, narrowed := true }
def XintRingsUptoSaid : Prop := xintRingsUptoRow.holds Try.pinned (OpenSpec.upto xintRingsSpec)

/-- 'rastrumlaw02.XintBack', WHERE WHAT IT READS IS OF BULK AT MOST 1048576: true; the input reads as it did. -/
def xintBackUptoRow : OpenClaim := { program := "ytdjhloilpgfcjaa", sum := "e974e680cce217d40798e2ac462db6f7cfd8f23f4bf68412616cdfc0be069b3c", func := "rastrum/rastrumlaw02.XintBack", spec := "xintBack", inPlace := ["math/bits.Sub64", "math/bits.Add64"], named := ["math/bits.divideError", "math/bits.overflowError"], apart := false, narrowed := true }
def XintBackUptoSaid : Prop := xintBackUptoRow.holds Try.pinned (OpenSpec.upto xintBackSpec)

/-- 'rastrumlaw02.XintRoots', WHERE WHAT IT READS IS OF BULK AT MOST 1048576: true; the input reads as it did. -/
def xintRootsUptoRow : OpenClaim := { program := "ytdjhloilpgfcjaa", sum := "e974e680cce217d40798e2ac462db6f7cfd8f23f4bf68412616cdfc0be069b3c", func := "rastrum/rastrumlaw02.XintRoots", spec := "xintRoots", named := ["math/bits.divideError", "math/bits.overflowError"], apart := false, narrowed := true }
def XintRootsUptoSaid : Prop := xintRootsUptoRow.holds Try.pinned (OpenSpec.upto xintRootsSpec)

end Rows
end Go.Proofs.Ytdjhloilpgfcjaa
