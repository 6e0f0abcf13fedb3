/- Contracts: the program's In, Exits. -/
import Derived.Test.YtpfhaocmcfnhnaaGreatDr
import Derived.OwnWalk
namespace Go.Proofs.YtpfhaocmcfnhnaaGreat
open Go.ChangeShapes Go.WideShapes Go.ChangeAt Go.RowKit
set_option linter.unusedVariables false
set_option linter.unusedSimpArgs false

namespace DM
end DM
set_option maxRecDepth 100000 in
set_option maxHeartbeats 4000000 in
theorem exits_any (a b : Nat → Int) (x y : Int) (ha : DM.Rg a) (hb : DM.Rg b) (hx : DM.Rx x y) (w : World) :
  Calls Tryz.prog 77 #[arr 2 a, arr 2 b, .int .i64 x, .int .i64 y] w fun e w' => e = .returned (.bool (DM.exits (DM.rel (a 0) x) (DM.rel (a 1) y) (DM.rel (b 0) x) (DM.rel (b 1) y))) ∧ Below w.heap.size w w' := by
 have O := Own.start w
 have C1 := fun w => meets_any a b x y ha hb hx w
 have C2 := fun w => meets_any b b x y hb hb hx w
 rw [DM.meets_self] at C2
 have HE : Hid (DM.exits (DM.rel (a 0) x) (DM.rel (a 1) y) (DM.rel (b 0) x) (DM.rel (b 1) y) = (DM.meets (DM.rel (a 0) x) (DM.rel (a 1) y) (DM.rel (b 0) x) (DM.rel (b 1) y) && !DM.inside (DM.rel (b 0) x) (DM.rel (b 1) y))) := Lib.hid rfl
 generalize DM.exits (DM.rel (a 0) x) (DM.rel (a 1) y) (DM.rel (b 0) x) (DM.rel (b 1) y) = z at *
 generalize DM.meets (DM.rel (a 0) x) (DM.rel (a 1) y) (DM.rel (b 0) x) (DM.rel (b 1) y) = m at *
 generalize DM.inside (DM.rel (b 0) x) (DM.rel (b 1) y) = i at *
 clear ha hb hx
 have tok0 : True := trivial
 cases m
 ·
  clear C2
  go_enter Tryz.func77, Tryz.ntmps77
  go_wp2_with (first | ((with_reducible refine at_box 4 ?_); refine wpList_box_own O (M.mat 2 (a)) rfl ?_; clear O; intro g4 w1 O) | ((with_reducible refine at_box 5 ?_); refine wpList_box_own O (M.mat 2 (b)) rfl ?_; clear O; intro g5 w2 O) | ((with_reducible refine at_load 9 ?_); refine wpList_whole rfl O 1 rfl rfl Tryz.underlying44 rfl (sP _) ?_) | ((with_reducible refine at_load 10 ?_); refine wpList_whole rfl O 0 rfl rfl Tryz.underlying44 rfl (sP _) ?_) | (go_at_call 86; clear tok0; have tok1 : True := trivial; refine (C1 _).mono ?_; rintro e w3 ⟨rfl, hb⟩; replace O := O.call hb; clear hb))
  go_ret
  exact ⟨by rw [HE.out]; rfl, O.below⟩
 ·
  cases i
  ·
   go_enter Tryz.func77, Tryz.ntmps77
   go_wp2_with (first | ((with_reducible refine at_box 4 ?_); refine wpList_box_own O (M.mat 2 (a)) rfl ?_; clear O; intro g4 w1 O) | ((with_reducible refine at_box 5 ?_); refine wpList_box_own O (M.mat 2 (b)) rfl ?_; clear O; intro g5 w2 O) | ((with_reducible refine at_load 9 ?_); refine wpList_whole rfl O 1 rfl rfl Tryz.underlying44 rfl (sP _) ?_) | ((with_reducible first | refine at_load 10 ?_ | refine at_load 15 ?_ | refine at_load 16 ?_); refine wpList_whole rfl O 0 rfl rfl Tryz.underlying44 rfl (sP _) ?_) | (go_at_call 86; clear tok0; have tok1 : True := trivial; refine (C1 _).mono ?_; rintro e w3 ⟨rfl, hb⟩; replace O := O.call hb; clear hb) | (go_at_call 86; clear tok1; have tok2 : True := trivial; refine (C2 _).mono ?_; rintro e w4 ⟨rfl, hb⟩; replace O := O.call hb; clear hb))
   go_ret
   exact ⟨by rw [HE.out]; rfl, O.below⟩
  ·
   go_enter Tryz.func77, Tryz.ntmps77
   go_wp2_with (first | ((with_reducible refine at_box 4 ?_); refine wpList_box_own O (M.mat 2 (a)) rfl ?_; clear O; intro g4 w1 O) | ((with_reducible refine at_box 5 ?_); refine wpList_box_own O (M.mat 2 (b)) rfl ?_; clear O; intro g5 w2 O) | ((with_reducible refine at_load 9 ?_); refine wpList_whole rfl O 1 rfl rfl Tryz.underlying44 rfl (sP _) ?_) | ((with_reducible first | refine at_load 10 ?_ | refine at_load 15 ?_ | refine at_load 16 ?_); refine wpList_whole rfl O 0 rfl rfl Tryz.underlying44 rfl (sP _) ?_) | (go_at_call 86; clear tok0; have tok1 : True := trivial; refine (C1 _).mono ?_; rintro e w3 ⟨rfl, hb⟩; replace O := O.call hb; clear hb) | (go_at_call 86; clear tok1; have tok2 : True := trivial; refine (C2 _).mono ?_; rintro e w4 ⟨rfl, hb⟩; replace O := O.call hb; clear hb))
   go_ret
   exact ⟨by rw [HE.out]; rfl, O.below⟩
end Go.Proofs.YtpfhaocmcfnhnaaGreat
