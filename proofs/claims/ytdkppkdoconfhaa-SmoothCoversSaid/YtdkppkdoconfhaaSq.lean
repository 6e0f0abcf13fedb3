/- Plain: a line in a single pixel. Types: two numbers. -/
import Derived.Test.YtdkppkdoconfhaaSa
namespace Go.Proofs.Ytdkppkdoconfhaa
open Go.ChangeShapes Go.WideShapes Go.ChangeAt Go.RowKit
set_option linter.unusedVariables false
set_option linter.unusedSimpArgs false

namespace SM
theorem in_pixel {x y : Int} (hx : -4194304 ≤ x ∧ x < 4194304) (hy : -4194304 ≤ y ∧ y < 4194304) : RC.right (RC.mk x y (x + 1) (y + 1)) = true := RC.right_iff.2 (by simp only [RC.mk]; simp; omega)
theorem line_one {a b : Nat → Int} {n x y : Int} (hx : -4194304 ≤ x ∧ x < 4194304) (hy : -4194304 ≤ y ∧ y < 4194304) : line a b n (RC.mk x y (x + 1) (y + 1)) = px a b n x y := by
  cases hr : right a b n
  · rw [line_bad (by rw [hr]; rfl), px_no (cvr_bad hr x y)]
  · rw [line_ok hr (in_pixel hx hy)]
    show rows (px a b n) x (x + 1) y (y + 1) = px a b n x y
    rw [rows_succ _ (Int.le_refl y), rows_nil, List.nil_append, row_succ _ (Int.le_refl x), row_nil, List.nil_append]
theorem area_one {x y : Int} (hx : -4194304 ≤ x ∧ x < 4194304) (hy : -4194304 ≤ y ∧ y < 4194304) : RC.area (RC.mk x y (x + 1) (y + 1)) ≤ 100000 := by
  rw [RC.area_in (in_pixel hx hy)]
  show (x + 1 - x) * (y + 1 - y) ≤ 100000
  rw [show x + 1 - x = 1 by omega, show y + 1 - y = 1 by omega]
  decide
end SM
theorem s2i64 (x y : Int) : (Try.prog.info? 37).map (·.size) = some (two .i64 x y).length := by kernel_rfl
theorem sizeOfi64 (w : World) : (sizeOf 3).run Try.prog w = .ok 1 w := by kernel_rfl
end Go.Proofs.Ytdkppkdoconfhaa
