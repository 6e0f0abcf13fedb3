/- Types: points, three numbers, two numbers. -/
import Derived.Test.YtndaijcgjhmiaaaL2
namespace Go.Proofs.Ytndaijcgjhmiaaa
open Go.ChangeShapes Go.WideShapes Go.ChangeAt Go.RowKit
set_option linter.unusedVariables false
set_option linter.unusedSimpArgs false

namespace DM
def t2 (x y : Int) (i : Nat) : Int := if i = 0 then x else y
def t3 (x y z : Int) (i : Nat) : Int := if i = 0 then x else if i = 1 then y else z
end DM
theorem cell_is {n i : Nat} {a : Nat → Int} {z : Int} (h : a i = z) (hi : i < n) : Hid ((M.mat n a)[i]? = some (.int .i64 z)) := Lib.hid (by rw [← h]; exact M.mat_get hi)
theorem min_if (x y : Int) : (if y < x then y else x) = min x y := by omega
theorem max_if (x y : Int) : (if x < y then y else x) = max x y := by omega
theorem Own.as {w0 w : World} {l l' : List (Nat × TypeId × List Value)} (h : Own w0 w l) (e : l = l') : Own w0 w l' := e ▸ h
section
variable {ops : Array Oper} {Q : Exit → Act → World → Prop} {a : Act} {w : World} {rest : List Oper} {dst : Option Tmp} {ty : TypeId} {pos : String} {after : Array Edge} {K : Act → World → Prop}
end
end Go.Proofs.Ytndaijcgjhmiaaa
