/- Contract: the document's number. -/
import Derived.Test.YtpfhaocmcfnhnaaGreatXa
namespace Go.Proofs.YtpfhaocmcfnhnaaGreat
open Go.ChangeShapes Go.WideShapes Go.ChangeAt Go.RowKit
set_option linter.unusedVariables false
set_option linter.unusedSimpArgs false

set_option maxRecDepth 100000 in
set_option maxHeartbeats 8000000 in
theorem number_any (f g X Y : Int) (E : Bool) (x y u : Int) (hf : -4194304 ≤ f ∧ f ≤ 4194304) (hg : -4194304 ≤ g ∧ g ≤ 4194304) (hu : -4194304 ≤ u ∧ u ≤ 4194304) (w : World) :
  Calls Tryz.prog 48 #[.agg (ln f g X Y E).toArray, .int .i64 x, .int .i64 y, .int .i64 u] w fun e w' => e = .returned (.int .i64 (DM.numD f g E (decide (x = X ∧ y = Y)) u)) ∧ Below w.heap.size w w' := by
 have O := Own.start w
 have HE : Hid (DM.numD f g E (decide (x = X ∧ y = Y)) u = (if E then (if decide (x = X ∧ y = Y) = true then 0 else (if g < f then f - 1 - u else u - f) + 1) else (if g < f then f - 1 - u else u - f))) := Lib.hid rfl
 have W1 : wrap64 (u - f) = u - f := IntWalk.wrap64_in _ (by omega)
 have W2 : wrap64 (f - 1) = f - 1 := IntWalk.wrap64_in _ (by omega)
 have W3 : wrap64 (f - 1 - u) = f - 1 - u := IntWalk.wrap64_in _ (by omega)
 have W4 : wrap64 (u - f + 1) = u - f + 1 := IntWalk.wrap64_in _ (by omega)
 have W5 : wrap64 (f - 1 - u + 1) = f - 1 - u + 1 := IntWalk.wrap64_in _ (by omega)
 obtain ⟨r, hr⟩ : ∃ z, DM.numD f g E (decide (x = X ∧ y = Y)) u = z := ⟨_, rfl⟩
 rw [hr] at HE ⊢
 clear hr hf hg hu
 by_cases hlt : g < f
 ·
  cases E
  ·
   rw [if_neg (by decide), if_pos hlt] at HE
   go_enter Tryz.func48, Tryz.ntmps48
   go_wp2_with (first | ((with_reducible refine at_box 4 ?_); refine wpList_box_own O (ln f g X Y false) rfl ?_; clear O; intro g4 w1 O) | ((with_reducible first | refine at_load 12 ?_ | refine at_load 17 ?_ | refine at_load 20 ?_); refine wpList_cell_h (v := .int .i64 f) rfl O.held 0 rfl (i := 0) rfl rfl agg3 rfl ?_) | ((with_reducible refine at_load 15 ?_); refine wpList_cell_h (v := .int .i64 g) rfl O.held 0 rfl (i := 1) rfl rfl agg3 rfl ?_) | ((with_reducible refine at_load 25 ?_); refine wpList_cell_h (v := .bool false) rfl O.held 0 rfl (i := 4) rfl rfl agg4 rfl ?_) | ((with_reducible refine at_load 30 ?_); refine wpList_cell_h (v := .int .i64 X) rfl O.held 0 rfl (i := 2) rfl rfl agg3 rfl ?_) | ((with_reducible refine at_load 35 ?_); refine wpList_cell_h (v := .int .i64 Y) rfl O.held 0 rfl (i := 3) rfl rfl agg3 rfl ?_))
   go_ret
   exact ⟨by rw [HE.out]; first | rfl | (exact congrArg (fun z => Ending.returned (Value.int IntKind.i64 z)) (by first | exact W1 | exact W3 | exact W4 | exact W5)), O.below⟩
  ·
   by_cases e1 : x = X
   ·
    by_cases e2 : y = Y
    ·
     rw [if_pos rfl, if_pos (by rw [decide_eq_true_eq]; exact ⟨e1, e2⟩)] at HE
     subst e1 e2
     go_enter Tryz.func48, Tryz.ntmps48
     go_wp2_with (first | ((with_reducible refine at_box 4 ?_); refine wpList_box_own O (ln f g x y true) rfl ?_; clear O; intro g4 w1 O) | ((with_reducible first | refine at_load 12 ?_ | refine at_load 17 ?_ | refine at_load 20 ?_); refine wpList_cell_h (v := .int .i64 f) rfl O.held 0 rfl (i := 0) rfl rfl agg3 rfl ?_) | ((with_reducible refine at_load 15 ?_); refine wpList_cell_h (v := .int .i64 g) rfl O.held 0 rfl (i := 1) rfl rfl agg3 rfl ?_) | ((with_reducible refine at_load 25 ?_); refine wpList_cell_h (v := .bool true) rfl O.held 0 rfl (i := 4) rfl rfl agg4 rfl ?_) | ((with_reducible refine at_load 30 ?_); refine wpList_cell_h (v := .int .i64 x) rfl O.held 0 rfl (i := 2) rfl rfl agg3 rfl ?_) | ((with_reducible refine at_load 35 ?_); refine wpList_cell_h (v := .int .i64 y) rfl O.held 0 rfl (i := 3) rfl rfl agg3 rfl ?_))
     go_ret
     exact ⟨by rw [HE.out]; first | rfl | (exact congrArg (fun z => Ending.returned (Value.int IntKind.i64 z)) (by first | exact W1 | exact W3 | exact W4 | exact W5)), O.below⟩
    ·
     rw [if_pos rfl, if_neg (by rw [decide_eq_true_eq]; exact fun h => e2 h.2), if_pos hlt] at HE
     subst e1
     have n2 : (y == Y) = false := beq_eq_false_iff_ne.2 e2
     have n3 : decide (y = Y) = false := decide_eq_false e2
     go_enter Tryz.func48, Tryz.ntmps48
     go_wp2_with (first | ((with_reducible refine at_box 4 ?_); refine wpList_box_own O (ln f g x Y true) rfl ?_; clear O; intro g4 w1 O) | ((with_reducible first | refine at_load 12 ?_ | refine at_load 17 ?_ | refine at_load 20 ?_); refine wpList_cell_h (v := .int .i64 f) rfl O.held 0 rfl (i := 0) rfl rfl agg3 rfl ?_) | ((with_reducible refine at_load 15 ?_); refine wpList_cell_h (v := .int .i64 g) rfl O.held 0 rfl (i := 1) rfl rfl agg3 rfl ?_) | ((with_reducible refine at_load 25 ?_); refine wpList_cell_h (v := .bool true) rfl O.held 0 rfl (i := 4) rfl rfl agg4 rfl ?_) | ((with_reducible refine at_load 30 ?_); refine wpList_cell_h (v := .int .i64 x) rfl O.held 0 rfl (i := 2) rfl rfl agg3 rfl ?_) | ((with_reducible refine at_load 35 ?_); refine wpList_cell_h (v := .int .i64 Y) rfl O.held 0 rfl (i := 3) rfl rfl agg3 rfl ?_))
     go_ret
     exact ⟨by rw [HE.out]; first | rfl | (exact congrArg (fun z => Ending.returned (Value.int IntKind.i64 z)) (by first | exact W1 | exact W3 | exact W4 | exact W5)), O.below⟩
   ·
    rw [if_pos rfl, if_neg (by rw [decide_eq_true_eq]; exact fun h => e1 h.1), if_pos hlt] at HE
    have n1 : (x == X) = false := beq_eq_false_iff_ne.2 e1
    have n3 : decide (x = X) = false := decide_eq_false e1
    go_enter Tryz.func48, Tryz.ntmps48
    go_wp2_with (first | ((with_reducible refine at_box 4 ?_); refine wpList_box_own O (ln f g X Y true) rfl ?_; clear O; intro g4 w1 O) | ((with_reducible first | refine at_load 12 ?_ | refine at_load 17 ?_ | refine at_load 20 ?_); refine wpList_cell_h (v := .int .i64 f) rfl O.held 0 rfl (i := 0) rfl rfl agg3 rfl ?_) | ((with_reducible refine at_load 15 ?_); refine wpList_cell_h (v := .int .i64 g) rfl O.held 0 rfl (i := 1) rfl rfl agg3 rfl ?_) | ((with_reducible refine at_load 25 ?_); refine wpList_cell_h (v := .bool true) rfl O.held 0 rfl (i := 4) rfl rfl agg4 rfl ?_) | ((with_reducible refine at_load 30 ?_); refine wpList_cell_h (v := .int .i64 X) rfl O.held 0 rfl (i := 2) rfl rfl agg3 rfl ?_) | ((with_reducible refine at_load 35 ?_); refine wpList_cell_h (v := .int .i64 Y) rfl O.held 0 rfl (i := 3) rfl rfl agg3 rfl ?_))
    go_ret
    exact ⟨by rw [HE.out]; first | rfl | (exact congrArg (fun z => Ending.returned (Value.int IntKind.i64 z)) (by first | exact W1 | exact W3 | exact W4 | exact W5)), O.below⟩
 ·
  cases E
  ·
   rw [if_neg (by decide), if_neg hlt] at HE
   go_enter Tryz.func48, Tryz.ntmps48
   go_wp2_with (first | ((with_reducible refine at_box 4 ?_); refine wpList_box_own O (ln f g X Y false) rfl ?_; clear O; intro g4 w1 O) | ((with_reducible first | refine at_load 12 ?_ | refine at_load 17 ?_ | refine at_load 20 ?_); refine wpList_cell_h (v := .int .i64 f) rfl O.held 0 rfl (i := 0) rfl rfl agg3 rfl ?_) | ((with_reducible refine at_load 15 ?_); refine wpList_cell_h (v := .int .i64 g) rfl O.held 0 rfl (i := 1) rfl rfl agg3 rfl ?_) | ((with_reducible refine at_load 25 ?_); refine wpList_cell_h (v := .bool false) rfl O.held 0 rfl (i := 4) rfl rfl agg4 rfl ?_) | ((with_reducible refine at_load 30 ?_); refine wpList_cell_h (v := .int .i64 X) rfl O.held 0 rfl (i := 2) rfl rfl agg3 rfl ?_) | ((with_reducible refine at_load 35 ?_); refine wpList_cell_h (v := .int .i64 Y) rfl O.held 0 rfl (i := 3) rfl rfl agg3 rfl ?_))
   go_ret
   exact ⟨by rw [HE.out]; first | rfl | (exact congrArg (fun z => Ending.returned (Value.int IntKind.i64 z)) (by first | exact W1 | exact W3 | exact W4 | exact W5)), O.below⟩
  ·
   by_cases e1 : x = X
   ·
    by_cases e2 : y = Y
    ·
     rw [if_pos rfl, if_pos (by rw [decide_eq_true_eq]; exact ⟨e1, e2⟩)] at HE
     subst e1 e2
     go_enter Tryz.func48, Tryz.ntmps48
     go_wp2_with (first | ((with_reducible refine at_box 4 ?_); refine wpList_box_own O (ln f g x y true) rfl ?_; clear O; intro g4 w1 O) | ((with_reducible first | refine at_load 12 ?_ | refine at_load 17 ?_ | refine at_load 20 ?_); refine wpList_cell_h (v := .int .i64 f) rfl O.held 0 rfl (i := 0) rfl rfl agg3 rfl ?_) | ((with_reducible refine at_load 15 ?_); refine wpList_cell_h (v := .int .i64 g) rfl O.held 0 rfl (i := 1) rfl rfl agg3 rfl ?_) | ((with_reducible refine at_load 25 ?_); refine wpList_cell_h (v := .bool true) rfl O.held 0 rfl (i := 4) rfl rfl agg4 rfl ?_) | ((with_reducible refine at_load 30 ?_); refine wpList_cell_h (v := .int .i64 x) rfl O.held 0 rfl (i := 2) rfl rfl agg3 rfl ?_) | ((with_reducible refine at_load 35 ?_); refine wpList_cell_h (v := .int .i64 y) rfl O.held 0 rfl (i := 3) rfl rfl agg3 rfl ?_))
     go_ret
     exact ⟨by rw [HE.out]; first | rfl | (exact congrArg (fun z => Ending.returned (Value.int IntKind.i64 z)) (by first | exact W1 | exact W3 | exact W4 | exact W5)), O.below⟩
    ·
     rw [if_pos rfl, if_neg (by rw [decide_eq_true_eq]; exact fun h => e2 h.2), if_neg hlt] at HE
     subst e1
     have n2 : (y == Y) = false := beq_eq_false_iff_ne.2 e2
     have n3 : decide (y = Y) = false := decide_eq_false e2
     go_enter Tryz.func48, Tryz.ntmps48
     go_wp2_with (first | ((with_reducible refine at_box 4 ?_); refine wpList_box_own O (ln f g x Y true) rfl ?_; clear O; intro g4 w1 O) | ((with_reducible first | refine at_load 12 ?_ | refine at_load 17 ?_ | refine at_load 20 ?_); refine wpList_cell_h (v := .int .i64 f) rfl O.held 0 rfl (i := 0) rfl rfl agg3 rfl ?_) | ((with_reducible refine at_load 15 ?_); refine wpList_cell_h (v := .int .i64 g) rfl O.held 0 rfl (i := 1) rfl rfl agg3 rfl ?_) | ((with_reducible refine at_load 25 ?_); refine wpList_cell_h (v := .bool true) rfl O.held 0 rfl (i := 4) rfl rfl agg4 rfl ?_) | ((with_reducible refine at_load 30 ?_); refine wpList_cell_h (v := .int .i64 x) rfl O.held 0 rfl (i := 2) rfl rfl agg3 rfl ?_) | ((with_reducible refine at_load 35 ?_); refine wpList_cell_h (v := .int .i64 Y) rfl O.held 0 rfl (i := 3) rfl rfl agg3 rfl ?_))
     go_ret
     exact ⟨by rw [HE.out]; first | rfl | (exact congrArg (fun z => Ending.returned (Value.int IntKind.i64 z)) (by first | exact W1 | exact W3 | exact W4 | exact W5)), O.below⟩
   ·
    rw [if_pos rfl, if_neg (by rw [decide_eq_true_eq]; exact fun h => e1 h.1), if_neg hlt] at HE
    have n1 : (x == X) = false := beq_eq_false_iff_ne.2 e1
    have n3 : decide (x = X) = false := decide_eq_false e1
    go_enter Tryz.func48, Tryz.ntmps48
    go_wp2_with (first | ((with_reducible refine at_box 4 ?_); refine wpList_box_own O (ln f g X Y true) rfl ?_; clear O; intro g4 w1 O) | ((with_reducible first | refine at_load 12 ?_ | refine at_load 17 ?_ | refine at_load 20 ?_); refine wpList_cell_h (v := .int .i64 f) rfl O.held 0 rfl (i := 0) rfl rfl agg3 rfl ?_) | ((with_reducible refine at_load 15 ?_); refine wpList_cell_h (v := .int .i64 g) rfl O.held 0 rfl (i := 1) rfl rfl agg3 rfl ?_) | ((with_reducible refine at_load 25 ?_); refine wpList_cell_h (v := .bool true) rfl O.held 0 rfl (i := 4) rfl rfl agg4 rfl ?_) | ((with_reducible refine at_load 30 ?_); refine wpList_cell_h (v := .int .i64 X) rfl O.held 0 rfl (i := 2) rfl rfl agg3 rfl ?_) | ((with_reducible refine at_load 35 ?_); refine wpList_cell_h (v := .int .i64 Y) rfl O.held 0 rfl (i := 3) rfl rfl agg3 rfl ?_))
    go_ret
    exact ⟨by rw [HE.out]; first | rfl | (exact congrArg (fun z => Ending.returned (Value.int IntKind.i64 z)) (by first | exact W1 | exact W3 | exact W4 | exact W5)), O.below⟩
end Go.Proofs.YtpfhaocmcfnhnaaGreat
