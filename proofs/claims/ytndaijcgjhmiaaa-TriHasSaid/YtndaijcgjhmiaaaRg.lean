/- How far points and pixels are asked. -/
import Derived.Test.YtndaijcgjhmiaaaTz
namespace Go.Proofs.Ytndaijcgjhmiaaa
open Go.ChangeShapes Go.WideShapes Go.ChangeAt Go.RowKit
set_option linter.unusedVariables false
set_option linter.unusedSimpArgs false

namespace DM
def Rg (a : Nat → Int) : Prop := (-536870912 ≤ a 0 ∧ a 0 ≤ 536870912) ∧ (-536870912 ≤ a 1 ∧ a 1 ≤ 536870912)
def Rx (x y : Int) : Prop := (-4194304 ≤ x ∧ x ≤ 4194304) ∧ (-4194304 ≤ y ∧ y ≤ 4194304)
end DM
end Go.Proofs.Ytndaijcgjhmiaaa
