/- Contract: the document's Exits. -/
import Derived.Test.YtpfhaocmcfnhnaaGreatWc
import Derived.Test.YtpfhaocmcfnhnaaGreatRg
namespace Go.Proofs.YtpfhaocmcfnhnaaGreat
open Go.ChangeShapes Go.WideShapes Go.ChangeAt Go.RowKit
set_option linter.unusedVariables false
set_option linter.unusedSimpArgs false

set_option maxHeartbeats 4000000 in
theorem rexits_any (a b : Nat → Int) (x y : Int) (ha : DM.Rg a) (hb : DM.Rg b) (hx : DM.Rx x y) (w : World) :
  Calls Tryz.prog 47 #[arr 2 a, arr 2 b, .int .i64 x, .int .i64 y] w fun e w' => e = .returned (.bool (DM.exits (DM.rel (a 0) x) (DM.rel (a 1) y) (DM.rel (b 0) x) (DM.rel (b 1) y))) ∧ Below w.heap.size w w' := by
 have O := Own.start w
 have CM := fun w => rmeets_any a b x y ⟨ha, hb⟩ hx w
 have CI := fun w => inside_any b x y (by unfold DM.Rg at hb; omega) (by unfold DM.Rx at hx; omega) w
 have HE : Hid (DM.exits (DM.rel (a 0) x) (DM.rel (a 1) y) (DM.rel (b 0) x) (DM.rel (b 1) y) = (DM.meets (DM.rel (a 0) x) (DM.rel (a 1) y) (DM.rel (b 0) x) (DM.rel (b 1) y) && !DM.inside (DM.rel (b 0) x) (DM.rel (b 1) y))) := Lib.hid rfl
 generalize DM.exits (DM.rel (a 0) x) (DM.rel (a 1) y) (DM.rel (b 0) x) (DM.rel (b 1) y) = z at *
 generalize DM.meets (DM.rel (a 0) x) (DM.rel (a 1) y) (DM.rel (b 0) x) (DM.rel (b 1) y) = m at *
 generalize DM.inside (DM.rel (b 0) x) (DM.rel (b 1) y) = i at *
 clear ha hb hx
 cases m <;> cases i
 all_goals
  go_enter Tryz.func47, Tryz.ntmps47
  go_wp2_with (first | ((with_reducible refine at_box 4 ?_); refine wpList_box_own O (M.mat 2 (a)) rfl ?_; clear O; intro g4 w1 O) | ((with_reducible refine at_box 5 ?_); refine wpList_box_own O (M.mat 2 (b)) rfl ?_; clear O; intro g5 w2 O) | ((with_reducible refine at_load 9 ?_); refine wpList_whole rfl O 1 rfl rfl Tryz.underlying44 rfl (sP _) ?_) | ((with_reducible first | refine at_load 10 ?_ | refine at_load 15 ?_); refine wpList_whole rfl O 0 rfl rfl Tryz.underlying44 rfl (sP _) ?_) | (go_at_call 67; refine (CM _).mono ?_; rintro e w3 ⟨rfl, hb⟩; replace O := O.call hb; clear hb) | (go_at_call 68; refine (CI _).mono ?_; rintro e w4 ⟨rfl, hb⟩; replace O := O.call hb; clear hb))
  go_ret
  exact ⟨by rw [HE.out]; rfl, O.below⟩
namespace WD
def Rn (a : Nat → Int) : Prop := (-268443648 ≤ a 0 ∧ a 0 ≤ 268443648) ∧ (-268443648 ≤ a 1 ∧ a 1 ≤ 268443648)
def Ry (x y : Int) : Prop := (-4200000 ≤ x ∧ x ≤ 4200000) ∧ (-4200000 ≤ y ∧ y ≤ 4200000)
end WD
set_option maxHeartbeats 4000000 in
theorem rexits_wide (a b : Nat → Int) (x y : Int) (ha : WD.Rn a) (hb : WD.Rn b) (hx : WD.Ry x y) (w : World) :
  Calls Tryz.prog 47 #[arr 2 a, arr 2 b, .int .i64 x, .int .i64 y] w fun e w' => e = .returned (.bool (DM.exits (DM.rel (a 0) x) (DM.rel (a 1) y) (DM.rel (b 0) x) (DM.rel (b 1) y))) ∧ Below w.heap.size w w' := by
 have O := Own.start w
 have CM := fun w => rmeets_wide a b x y ⟨ha, hb⟩ hx w
 have CI := fun w => inside_any b x y (by unfold WD.Rn at hb; omega) (by unfold WD.Ry at hx; omega) w
 have HE : Hid (DM.exits (DM.rel (a 0) x) (DM.rel (a 1) y) (DM.rel (b 0) x) (DM.rel (b 1) y) = (DM.meets (DM.rel (a 0) x) (DM.rel (a 1) y) (DM.rel (b 0) x) (DM.rel (b 1) y) && !DM.inside (DM.rel (b 0) x) (DM.rel (b 1) y))) := Lib.hid rfl
 generalize DM.exits (DM.rel (a 0) x) (DM.rel (a 1) y) (DM.rel (b 0) x) (DM.rel (b 1) y) = z at *
 generalize DM.meets (DM.rel (a 0) x) (DM.rel (a 1) y) (DM.rel (b 0) x) (DM.rel (b 1) y) = m at *
 generalize DM.inside (DM.rel (b 0) x) (DM.rel (b 1) y) = i at *
 clear ha hb hx
 cases m <;> cases i
 all_goals
  go_enter Tryz.func47, Tryz.ntmps47
  go_wp2_with (first | ((with_reducible refine at_box 4 ?_); refine wpList_box_own O (M.mat 2 (a)) rfl ?_; clear O; intro g4 w1 O) | ((with_reducible refine at_box 5 ?_); refine wpList_box_own O (M.mat 2 (b)) rfl ?_; clear O; intro g5 w2 O) | ((with_reducible refine at_load 9 ?_); refine wpList_whole rfl O 1 rfl rfl Tryz.underlying44 rfl (sP _) ?_) | ((with_reducible first | refine at_load 10 ?_ | refine at_load 15 ?_); refine wpList_whole rfl O 0 rfl rfl Tryz.underlying44 rfl (sP _) ?_) | (go_at_call 67; refine (CM _).mono ?_; rintro e w3 ⟨rfl, hb⟩; replace O := O.call hb; clear hb) | (go_at_call 68; refine (CI _).mono ?_; rintro e w4 ⟨rfl, hb⟩; replace O := O.call hb; clear hb))
  go_ret
  exact ⟨by rw [HE.out]; rfl, O.below⟩
end Go.Proofs.YtpfhaocmcfnhnaaGreat
