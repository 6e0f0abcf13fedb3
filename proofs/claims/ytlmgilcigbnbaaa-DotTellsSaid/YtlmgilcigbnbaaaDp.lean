/- Contracts: the program's Right, Box, Point. -/
import Derived.Test.YtlmgilcigbnbaaaGf
import Derived.Test.YtlmgilcigbnbaaaGg
import Derived.Test.YtlmgilcigbnbaaaGh
namespace Go.Proofs.Ytlmgilcigbnbaaa
open Go.ChangeShapes Go.WideShapes Go.ChangeAt Go.RowKit
set_option linter.unusedVariables false
set_option linter.unusedSimpArgs false

theorem ppoint19_any (v : Nat → Int) (s k : Int) (r : Nat → Int) (hs : RC.area r ≤ 100000) (w : World) : Calls Try.prog 14 #[arr 7 v, .int .i64 s, .int .i64 k, arr 4 r] w (RetG w (DT.pt v s k r)) := by
  cases hr : DT.right v s k
  · exact ppoint_bad v s k r hr w
  · by_cases hk : k = 1
    · exact ppoint1 v s k hk r hr hs w
    · by_cases hk2 : k = 2
      · exact ppoint2 v s k hk2 r hr hs w
      · exact ppoint0 v s k hk hk2 r hr hs w
end Go.Proofs.Ytlmgilcigbnbaaa
