/- Contract of the document's Ratio. -/
import Derived.Test.YtbjbafhlmcnceaaThinB
namespace Go.Proofs.Ytbjbafhlmcnceaa
open Go.ChangeShapes Go.WideShapes Go.ChangeAt Go.RowKit
set_option linter.unusedVariables false

theorem mul_size {x d : Int} (hx : x.natAbs < 2 ^ 128) (hd : d.natAbs < 2 ^ 128) : (x * d).natAbs < 2 ^ 256 := by
  rw [Int.natAbs_mul]
  have h1 := Nat.mul_lt_mul_of_lt_of_le hx (Nat.le_of_lt hd) (by omega)
  calc x.natAbs * d.natAbs < 2 ^ 128 * 2 ^ 128 := h1
    _ = 2 ^ 256 := by decide
end Go.Proofs.Ytbjbafhlmcnceaa
