/- Contracts: the document's Has, And. -/
import Derived.Test.YtndaijcgjhmiaaaTw
import Derived.Test.YtndaijcgjhmiaaaXv
namespace Go.Proofs.Ytndaijcgjhmiaaa
open Go.ChangeShapes Go.WideShapes Go.ChangeAt Go.RowKit
set_option linter.unusedVariables false
set_option linter.unusedSimpArgs false

namespace RC
theorem has_iff {r : Nat → Int} {x y : Int} : has r x y = true ↔ right r = true ∧ r 0 ≤ x ∧ x < r 2 ∧ r 1 ≤ y ∧ y < r 3 := by
  simp only [has, Bool.and_eq_true, decide_eq_true_eq]
def meet (a b : Nat → Int) : Nat → Int := mk (max (a 0) (b 0)) (max (a 1) (b 1)) (min (a 2) (b 2)) (min (a 3) (b 3))
def both (a b : Nat → Int) : Nat → Int := if right a && right b then (if right (meet a b) then meet a b else M.zero) else M.zero
end RC
theorem builtR (x0 y0 x1 y1 : Int) : Try.prog.built 27 [(0, .int .i64 x0), (1, .int .i64 y0), (2, .int .i64 x1), (3, .int .i64 y1)] = some (M.mat 4 (RC.mk x0 y0 x1 y1)).toArray := builtR17 x0 y0 x1 y1
namespace RC
theorem both_no1 {a b : Nat → Int} (h : right a = false) : both a b = M.zero := by rw [both, h]; rfl
theorem both_no2 {a b : Nat → Int} (h : right b = false) : both a b = M.zero := by rw [both, h, Bool.and_false]; rfl
theorem both_no3 {a b : Nat → Int} (h : right (meet a b) = false) : both a b = M.zero := by
  unfold both
  split
  · rw [if_neg (by rw [h]; decide)]
  · rfl
theorem both_yes {a b : Nat → Int} (h1 : right a = true) (h2 : right b = true) (h : right (meet a b) = true) : both a b = meet a b := by rw [both, h1, h2, h]; rfl
end RC
end Go.Proofs.Ytndaijcgjhmiaaa
