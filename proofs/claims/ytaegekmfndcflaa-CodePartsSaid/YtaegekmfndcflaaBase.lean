/- Contracts below the table: math/bits.Mul of small numbers. -/
import Derived.Test.YtaegekmfndcflaaRow
import Derived.Test.YtaegekmfndcflaaWords
import Derived.Test.YtaegekmfndcflaaM
import Derived.Tactics
import Derived.Tactics2
import Derived.Outline
import Derived.Lib.Hide
namespace Go.Proofs.Ytaegekmfndcflaa
open Go.ChangeShapes Go.WideShapes Go.ChangeAt Go.RowKit
set_option linter.unusedVariables false

theorem mul64_c (n : Int) (h : n = 1 ∨ n = 2 ∨ n = 4 ∨ n = 16) (w : World) : Calls Try.prog 31 #[.int .u64 1, .int .u64 n] w fun e w' => e = .returned (.tuple #[.int .u64 0, .int .u64 n]) ∧ w = w' := by
  rcases h with rfl | rfl | rfl | rfl
  all_goals
    go_enter Try.func31, Try.ntmps31
    go_wp2
    go_ret2
    exact ⟨rfl, rfl⟩
theorem mul_c (n : Int) (h : n = 1 ∨ n = 2 ∨ n = 4 ∨ n = 16) (w : World) : Calls Try.prog 29 #[.int .u64 1, .int .u64 n] w fun e w' => e = .returned (.tuple #[.int .u64 0, .int .u64 n]) ∧ w = w' := by
  have T := mul64_c n h w
  rcases h with rfl | rfl | rfl | rfl
  all_goals
    go_enter Try.func29, Try.ntmps29
    go_wp2_with fail
    refine T.mono ?_
    rintro e w1 ⟨rfl, rfl⟩
    go_wp2_with fail
    go_ret2
    exact ⟨rfl, rfl⟩
end Go.Proofs.Ytaegekmfndcflaa
