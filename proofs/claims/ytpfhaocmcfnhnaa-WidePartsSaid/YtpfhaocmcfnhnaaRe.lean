/- Contract: the document's Exits. -/
import Derived.Test.YtpfhaocmcfnhnaaWc
import Derived.Test.YtpfhaocmcfnhnaaRg
namespace Go.Proofs.Ytpfhaocmcfnhnaa
open Go.ChangeShapes Go.WideShapes Go.ChangeAt Go.RowKit
set_option linter.unusedVariables false
set_option linter.unusedSimpArgs false

set_option maxHeartbeats 4000000 in
theorem rexits_any (a b : Nat → Int) (x y : Int) (ha : DM.Rg a) (hb : DM.Rg b) (hx : DM.Rx x y) (w : World) :
    Calls Try.prog 49 #[arr 2 a, arr 2 b, .int .i64 x, .int .i64 y] w fun e w' => e = .returned (.bool (DM.exits (DM.rel (a 0) x) (DM.rel (a 1) y) (DM.rel (b 0) x) (DM.rel (b 1) y))) ∧ Below w.heap.size w w' := by
  have O := Own.start w
  have CM := fun w => rmeets_any a b x y ⟨ha, hb⟩ hx w
  have CI := fun w => inside_any b x y (by unfold DM.Rg at hb; omega) (by unfold DM.Rx at hx; omega) w
  have HE : Hid (DM.exits (DM.rel (a 0) x) (DM.rel (a 1) y) (DM.rel (b 0) x) (DM.rel (b 1) y) = (DM.meets (DM.rel (a 0) x) (DM.rel (a 1) y) (DM.rel (b 0) x) (DM.rel (b 1) y) && !DM.inside (DM.rel (b 0) x) (DM.rel (b 1) y))) := Lib.hid rfl
  generalize DM.exits (DM.rel (a 0) x) (DM.rel (a 1) y) (DM.rel (b 0) x) (DM.rel (b 1) y) = z at *
  generalize DM.meets (DM.rel (a 0) x) (DM.rel (a 1) y) (DM.rel (b 0) x) (DM.rel (b 1) y) = m at *
  generalize DM.inside (DM.rel (b 0) x) (DM.rel (b 1) y) = i at *
  clear ha hb hx
  cases m <;> cases i
  all_goals
    go_enter Try.func49, Try.ntmps49
    go_wp2_with (first | ((with_reducible refine at_box 4 ?_); refine wpList_box_own O (M.mat 2 (a)) rfl ?_; clear O; intro g4 w1 O) | ((with_reducible refine at_box 5 ?_); refine wpList_box_own O (M.mat 2 (b)) rfl ?_; clear O; intro g5 w2 O) | ((with_reducible refine at_load 9 ?_); refine wpList_whole rfl O 1 rfl rfl Try.underlying55 rfl (sP _) ?_) | ((with_reducible refine at_load 10 ?_); refine wpList_whole rfl O 0 rfl rfl Try.underlying55 rfl (sP _) ?_) | (go_at_call 66; refine (CM _).mono ?_; rintro e w3 ⟨rfl, hb⟩; replace O := O.call hb; clear hb) | ((with_reducible refine at_load 15 ?_); refine wpList_whole rfl O 0 rfl rfl Try.underlying55 rfl (sP _) ?_) | (go_at_call 65; refine (CI _).mono ?_; rintro e w4 ⟨rfl, hb⟩; replace O := O.call hb; clear hb))
    go_ret
    exact ⟨by rw [HE.out]; rfl, O.below⟩
end Go.Proofs.Ytpfhaocmcfnhnaa
