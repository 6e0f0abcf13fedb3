/- Contracts: Area, Has, twice. -/
import Derived.Test.YthioeohmnlppcaaWa
namespace Go.Proofs.Ythioeohmnlppcaa
open Go.ChangeShapes Go.WideShapes Go.ChangeAt Go.RowKit
set_option linter.unusedVariables false
set_option linter.unusedSimpArgs false

namespace RC
theorem right_lim {r : Nat → Int} {x0 y0 x1 y1 : Int} (h : right r = true) (e0 : r 0 = x0) (e1 : r 1 = y0) (e2 : r 2 = x1) (e3 : r 3 = y1) : -4194304 ≤ x0 ∧ x0 < x1 ∧ x1 ≤ 4194304 ∧ -4194304 ≤ y0 ∧ y0 < y1 ∧ y1 ≤ 4194304 := by
  have := right_iff.1 h
  omega
theorem area_is {r : Nat → Int} {x0 y0 x1 y1 : Int} (h : right r = true) (e0 : r 0 = x0) (e1 : r 1 = y0) (e2 : r 2 = x1) (e3 : r 3 = y1) : area r = (x1 - x0) * (y1 - y0) := by
  rw [area_in h, e0, e1, e2, e3]
theorem mul_lim {a b : Int} (h1 : 0 < a) (h2 : a ≤ 8388608) (h3 : 0 < b) (h4 : b ≤ 8388608) : 0 ≤ a * b ∧ a * b ≤ 70368744177664 := by
  have e1 := Int.mul_le_mul h2 h4 (by omega) (by omega)
  have e2 := Int.mul_nonneg (show 0 ≤ a by omega) (show 0 ≤ b by omega)
  omega
theorem has_is {r : Nat → Int} {x0 y0 x1 y1 x y : Int} (e0 : r 0 = x0) (e1 : r 1 = y0) (e2 : r 2 = x1) (e3 : r 3 = y1) : has r x y = (right r && (decide (x0 ≤ x) && (decide (x < x1) && (decide (y0 ≤ y) && decide (y < y1))))) := by
  rw [has, e0, e1, e2, e3]
end RC
set_option maxHeartbeats 2000000 in
theorem area_any (r : Nat → Int) (w : World) : Calls Try.prog 12 #[arr 4 r] w fun e w' => e = .returned (.int .i64 (RC.area r)) ∧ Below w.heap.size w w' := by
  have O := Own.start w
  have C := fun w => right_any r w
  cases hr : RC.right r
  · have HE := Lib.hid (RC.area_bad hr)
    rw [hr] at C
    clear hr
    go_enter Try.func12, Try.ntmps12
    go_wp2_with (first | ((with_reducible refine at_box 1 ?_); refine wpList_box_own O (M.mat 4 (r)) rfl ?_; clear O; intro g1 w1 O) | ((with_reducible refine at_load 3 ?_); refine wpList_whole rfl O 0 rfl rfl Try.underlying23 rfl (sR _) ?_) | (go_at_call 10; refine (C _).mono ?_; rintro e w2 ⟨rfl, hb⟩; replace O := O.call hb; clear hb))
    go_ret
    exact ⟨by rw [HE.out]; rfl, O.below⟩
  · obtain ⟨x0, ex0⟩ : ∃ z, r 0 = z := ⟨_, rfl⟩
    have Cx0 := cell_is (n := 4) ex0 (by decide)
    obtain ⟨y0, ey0⟩ : ∃ z, r 1 = z := ⟨_, rfl⟩
    have Cy0 := cell_is (n := 4) ey0 (by decide)
    obtain ⟨x1, ex1⟩ : ∃ z, r 2 = z := ⟨_, rfl⟩
    have Cx1 := cell_is (n := 4) ex1 (by decide)
    obtain ⟨y1, ey1⟩ : ∃ z, r 3 = z := ⟨_, rfl⟩
    have Cy1 := cell_is (n := 4) ey1 (by decide)
    obtain ⟨b1, b2, b3, b4, b5, b6⟩ := RC.right_lim hr ex0 ey0 ex1 ey1
    have HE := Lib.hid (RC.area_is hr ex0 ey0 ex1 ey1)
    have b7 := RC.mul_lim (a := x1 - x0) (b := y1 - y0) (by omega) (by omega) (by omega) (by omega)
    rw [hr] at C
    clear hr ex0 ey0 ex1 ey1
    have W1 : wrap64 (x1 - x0) = x1 - x0 := IntWalk.wrap64_in _ (by omega)
    have W2 : wrap64 (y1 - y0) = y1 - y0 := IntWalk.wrap64_in _ (by omega)
    have W3 : wrap64 ((x1 - x0) * (y1 - y0)) = (x1 - x0) * (y1 - y0) := IntWalk.wrap64_in _ (by omega)
    clear b1 b2 b3 b4 b5 b6 b7
    go_enter Try.func12, Try.ntmps12
    go_wp2_with (first | ((with_reducible refine at_box 1 ?_); refine wpList_box_own O (M.mat 4 (r)) rfl ?_; clear O; intro g1 w1 O) | ((with_reducible refine at_load 3 ?_); refine wpList_whole rfl O 0 rfl rfl Try.underlying23 rfl (sR _) ?_) | (go_at_call 10; refine (C _).mono ?_; rintro e w2 ⟨rfl, hb⟩; replace O := O.call hb; clear hb) | ((with_reducible refine at_load 7 ?_); refine wpList_cell_h (v := .int .i64 (x1)) rfl O.held 0 rfl Cx1.out rfl agg3 rfl ?_) | ((with_reducible refine at_load 9 ?_); refine wpList_cell_h (v := .int .i64 (x0)) rfl O.held 0 rfl Cx0.out rfl agg3 rfl ?_) | ((with_reducible refine at_load 12 ?_); refine wpList_cell_h (v := .int .i64 (y1)) rfl O.held 0 rfl Cy1.out rfl agg3 rfl ?_) | ((with_reducible refine at_load 14 ?_); refine wpList_cell_h (v := .int .i64 (y0)) rfl O.held 0 rfl Cy0.out rfl agg3 rfl ?_))
    go_ret
    exact ⟨by rw [HE.out]; exact congrArg (fun z => Ending.returned (Value.int IntKind.i64 z)) W3, O.below⟩
set_option maxHeartbeats 2000000 in
theorem rarea_any (r : Nat → Int) (w : World) : Calls Try.prog 13 #[arr 4 r] w fun e w' => e = .returned (.int .i64 (RC.area r)) ∧ Below w.heap.size w w' := by
  have O := Own.start w
  have C := fun w => rright_any r w
  cases hr : RC.right r
  · have HE := Lib.hid (RC.area_bad hr)
    rw [hr] at C
    clear hr
    go_enter Try.func13, Try.ntmps13
    go_wp2_with (first | ((with_reducible refine at_box 1 ?_); refine wpList_box_own O (M.mat 4 (r)) rfl ?_; clear O; intro g1 w1 O) | ((with_reducible refine at_load 3 ?_); refine wpList_whole rfl O 0 rfl rfl Try.underlying23 rfl (sR _) ?_) | (go_at_call 11; refine (C _).mono ?_; rintro e w2 ⟨rfl, hb⟩; replace O := O.call hb; clear hb))
    go_ret
    exact ⟨by rw [HE.out]; rfl, O.below⟩
  · obtain ⟨x0, ex0⟩ : ∃ z, r 0 = z := ⟨_, rfl⟩
    have Cx0 := cell_is (n := 4) ex0 (by decide)
    obtain ⟨y0, ey0⟩ : ∃ z, r 1 = z := ⟨_, rfl⟩
    have Cy0 := cell_is (n := 4) ey0 (by decide)
    obtain ⟨x1, ex1⟩ : ∃ z, r 2 = z := ⟨_, rfl⟩
    have Cx1 := cell_is (n := 4) ex1 (by decide)
    obtain ⟨y1, ey1⟩ : ∃ z, r 3 = z := ⟨_, rfl⟩
    have Cy1 := cell_is (n := 4) ey1 (by decide)
    obtain ⟨b1, b2, b3, b4, b5, b6⟩ := RC.right_lim hr ex0 ey0 ex1 ey1
    have HE := Lib.hid (RC.area_is hr ex0 ey0 ex1 ey1)
    have b7 := RC.mul_lim (a := x1 - x0) (b := y1 - y0) (by omega) (by omega) (by omega) (by omega)
    rw [hr] at C
    clear hr ex0 ey0 ex1 ey1
    have W1 : wrap64 (x1 - x0) = x1 - x0 := IntWalk.wrap64_in _ (by omega)
    have W2 : wrap64 (y1 - y0) = y1 - y0 := IntWalk.wrap64_in _ (by omega)
    have W3 : wrap64 ((x1 - x0) * (y1 - y0)) = (x1 - x0) * (y1 - y0) := IntWalk.wrap64_in _ (by omega)
    clear b1 b2 b3 b4 b5 b6 b7
    go_enter Try.func13, Try.ntmps13
    go_wp2_with (first | ((with_reducible refine at_box 1 ?_); refine wpList_box_own O (M.mat 4 (r)) rfl ?_; clear O; intro g1 w1 O) | ((with_reducible refine at_load 3 ?_); refine wpList_whole rfl O 0 rfl rfl Try.underlying23 rfl (sR _) ?_) | (go_at_call 11; refine (C _).mono ?_; rintro e w2 ⟨rfl, hb⟩; replace O := O.call hb; clear hb) | ((with_reducible refine at_load 7 ?_); refine wpList_cell_h (v := .int .i64 (x1)) rfl O.held 0 rfl Cx1.out rfl agg3 rfl ?_) | ((with_reducible refine at_load 9 ?_); refine wpList_cell_h (v := .int .i64 (x0)) rfl O.held 0 rfl Cx0.out rfl agg3 rfl ?_) | ((with_reducible refine at_load 12 ?_); refine wpList_cell_h (v := .int .i64 (y1)) rfl O.held 0 rfl Cy1.out rfl agg3 rfl ?_) | ((with_reducible refine at_load 14 ?_); refine wpList_cell_h (v := .int .i64 (y0)) rfl O.held 0 rfl Cy0.out rfl agg3 rfl ?_))
    go_ret
    exact ⟨by rw [HE.out]; exact congrArg (fun z => Ending.returned (Value.int IntKind.i64 z)) W3, O.below⟩
set_option maxHeartbeats 4000000 in
theorem has_any (r : Nat → Int) (x y : Int) (w : World) : Calls Try.prog 14 #[arr 4 r, .int .i64 x, .int .i64 y] w fun e w' => e = .returned (.bool (RC.has r x y)) ∧ Below w.heap.size w w' := by
  have O := Own.start w
  have C := fun w => right_any r w
  obtain ⟨x0, ex0⟩ : ∃ z, r 0 = z := ⟨_, rfl⟩
  have Cx0 := cell_is (n := 4) ex0 (by decide)
  obtain ⟨y0, ey0⟩ : ∃ z, r 1 = z := ⟨_, rfl⟩
  have Cy0 := cell_is (n := 4) ey0 (by decide)
  obtain ⟨x1, ex1⟩ : ∃ z, r 2 = z := ⟨_, rfl⟩
  have Cx1 := cell_is (n := 4) ex1 (by decide)
  obtain ⟨y1, ey1⟩ : ∃ z, r 3 = z := ⟨_, rfl⟩
  have Cy1 := cell_is (n := 4) ey1 (by decide)
  have HE := Lib.hid (RC.has_is (x := x) (y := y) ex0 ey0 ex1 ey1)
  clear ex0 ey0 ex1 ey1
  cases h0 : RC.right r
  · rw [h0] at HE
    rw [h0] at C
    clear h0
    go_enter Try.func14, Try.ntmps14
    go_wp2_with (first | ((with_reducible refine at_box 3 ?_); refine wpList_box_own O (M.mat 4 (r)) rfl ?_; clear O; intro g1 w1 O) | ((with_reducible refine at_load 7 ?_); refine wpList_whole rfl O 0 rfl rfl Try.underlying23 rfl (sR _) ?_) | (go_at_call 10; refine (C _).mono ?_; rintro e w2 ⟨rfl, hb⟩; replace O := O.call hb; clear hb) | ((with_reducible refine at_load 11 ?_); refine wpList_cell_h (v := .int .i64 (x0)) rfl O.held 0 rfl Cx0.out rfl agg3 rfl ?_) | ((with_reducible refine at_load 18 ?_); refine wpList_cell_h (v := .int .i64 (x1)) rfl O.held 0 rfl Cx1.out rfl agg3 rfl ?_) | ((with_reducible refine at_load 23 ?_); refine wpList_cell_h (v := .int .i64 (y0)) rfl O.held 0 rfl Cy0.out rfl agg3 rfl ?_) | ((with_reducible refine at_load 30 ?_); refine wpList_cell_h (v := .int .i64 (y1)) rfl O.held 0 rfl Cy1.out rfl agg3 rfl ?_))
    go_ret
    exact ⟨by rw [HE.out]; rfl, O.below⟩
  · cases h1 : decide (x0 ≤ x)
    · rw [h0, h1] at HE
      rw [h0] at C
      clear h0
      go_enter Try.func14, Try.ntmps14
      go_wp2_with (first | ((with_reducible refine at_box 3 ?_); refine wpList_box_own O (M.mat 4 (r)) rfl ?_; clear O; intro g1 w1 O) | ((with_reducible refine at_load 7 ?_); refine wpList_whole rfl O 0 rfl rfl Try.underlying23 rfl (sR _) ?_) | (go_at_call 10; refine (C _).mono ?_; rintro e w2 ⟨rfl, hb⟩; replace O := O.call hb; clear hb) | ((with_reducible refine at_load 11 ?_); refine wpList_cell_h (v := .int .i64 (x0)) rfl O.held 0 rfl Cx0.out rfl agg3 rfl ?_) | ((with_reducible refine at_load 18 ?_); refine wpList_cell_h (v := .int .i64 (x1)) rfl O.held 0 rfl Cx1.out rfl agg3 rfl ?_) | ((with_reducible refine at_load 23 ?_); refine wpList_cell_h (v := .int .i64 (y0)) rfl O.held 0 rfl Cy0.out rfl agg3 rfl ?_) | ((with_reducible refine at_load 30 ?_); refine wpList_cell_h (v := .int .i64 (y1)) rfl O.held 0 rfl Cy1.out rfl agg3 rfl ?_))
      go_ret
      exact ⟨by rw [HE.out]; rfl, O.below⟩
    · cases h2 : decide (x < x1)
      · rw [h0, h1, h2] at HE
        rw [h0] at C
        clear h0
        go_enter Try.func14, Try.ntmps14
        go_wp2_with (first | ((with_reducible refine at_box 3 ?_); refine wpList_box_own O (M.mat 4 (r)) rfl ?_; clear O; intro g1 w1 O) | ((with_reducible refine at_load 7 ?_); refine wpList_whole rfl O 0 rfl rfl Try.underlying23 rfl (sR _) ?_) | (go_at_call 10; refine (C _).mono ?_; rintro e w2 ⟨rfl, hb⟩; replace O := O.call hb; clear hb) | ((with_reducible refine at_load 11 ?_); refine wpList_cell_h (v := .int .i64 (x0)) rfl O.held 0 rfl Cx0.out rfl agg3 rfl ?_) | ((with_reducible refine at_load 18 ?_); refine wpList_cell_h (v := .int .i64 (x1)) rfl O.held 0 rfl Cx1.out rfl agg3 rfl ?_) | ((with_reducible refine at_load 23 ?_); refine wpList_cell_h (v := .int .i64 (y0)) rfl O.held 0 rfl Cy0.out rfl agg3 rfl ?_) | ((with_reducible refine at_load 30 ?_); refine wpList_cell_h (v := .int .i64 (y1)) rfl O.held 0 rfl Cy1.out rfl agg3 rfl ?_))
        go_ret
        exact ⟨by rw [HE.out]; rfl, O.below⟩
      · cases h3 : decide (y0 ≤ y)
        · rw [h0, h1, h2, h3] at HE
          rw [h0] at C
          clear h0
          go_enter Try.func14, Try.ntmps14
          go_wp2_with (first | ((with_reducible refine at_box 3 ?_); refine wpList_box_own O (M.mat 4 (r)) rfl ?_; clear O; intro g1 w1 O) | ((with_reducible refine at_load 7 ?_); refine wpList_whole rfl O 0 rfl rfl Try.underlying23 rfl (sR _) ?_) | (go_at_call 10; refine (C _).mono ?_; rintro e w2 ⟨rfl, hb⟩; replace O := O.call hb; clear hb) | ((with_reducible refine at_load 11 ?_); refine wpList_cell_h (v := .int .i64 (x0)) rfl O.held 0 rfl Cx0.out rfl agg3 rfl ?_) | ((with_reducible refine at_load 18 ?_); refine wpList_cell_h (v := .int .i64 (x1)) rfl O.held 0 rfl Cx1.out rfl agg3 rfl ?_) | ((with_reducible refine at_load 23 ?_); refine wpList_cell_h (v := .int .i64 (y0)) rfl O.held 0 rfl Cy0.out rfl agg3 rfl ?_) | ((with_reducible refine at_load 30 ?_); refine wpList_cell_h (v := .int .i64 (y1)) rfl O.held 0 rfl Cy1.out rfl agg3 rfl ?_))
          go_ret
          exact ⟨by rw [HE.out]; rfl, O.below⟩
        · cases h4 : decide (y < y1)
          · rw [h0, h1, h2, h3, h4] at HE
            rw [h0] at C
            clear h0
            go_enter Try.func14, Try.ntmps14
            go_wp2_with (first | ((with_reducible refine at_box 3 ?_); refine wpList_box_own O (M.mat 4 (r)) rfl ?_; clear O; intro g1 w1 O) | ((with_reducible refine at_load 7 ?_); refine wpList_whole rfl O 0 rfl rfl Try.underlying23 rfl (sR _) ?_) | (go_at_call 10; refine (C _).mono ?_; rintro e w2 ⟨rfl, hb⟩; replace O := O.call hb; clear hb) | ((with_reducible refine at_load 11 ?_); refine wpList_cell_h (v := .int .i64 (x0)) rfl O.held 0 rfl Cx0.out rfl agg3 rfl ?_) | ((with_reducible refine at_load 18 ?_); refine wpList_cell_h (v := .int .i64 (x1)) rfl O.held 0 rfl Cx1.out rfl agg3 rfl ?_) | ((with_reducible refine at_load 23 ?_); refine wpList_cell_h (v := .int .i64 (y0)) rfl O.held 0 rfl Cy0.out rfl agg3 rfl ?_) | ((with_reducible refine at_load 30 ?_); refine wpList_cell_h (v := .int .i64 (y1)) rfl O.held 0 rfl Cy1.out rfl agg3 rfl ?_))
            go_ret
            exact ⟨by rw [HE.out]; rfl, O.below⟩
          · rw [h0, h1, h2, h3, h4] at HE
            rw [h0] at C
            clear h0
            go_enter Try.func14, Try.ntmps14
            go_wp2_with (first | ((with_reducible refine at_box 3 ?_); refine wpList_box_own O (M.mat 4 (r)) rfl ?_; clear O; intro g1 w1 O) | ((with_reducible refine at_load 7 ?_); refine wpList_whole rfl O 0 rfl rfl Try.underlying23 rfl (sR _) ?_) | (go_at_call 10; refine (C _).mono ?_; rintro e w2 ⟨rfl, hb⟩; replace O := O.call hb; clear hb) | ((with_reducible refine at_load 11 ?_); refine wpList_cell_h (v := .int .i64 (x0)) rfl O.held 0 rfl Cx0.out rfl agg3 rfl ?_) | ((with_reducible refine at_load 18 ?_); refine wpList_cell_h (v := .int .i64 (x1)) rfl O.held 0 rfl Cx1.out rfl agg3 rfl ?_) | ((with_reducible refine at_load 23 ?_); refine wpList_cell_h (v := .int .i64 (y0)) rfl O.held 0 rfl Cy0.out rfl agg3 rfl ?_) | ((with_reducible refine at_load 30 ?_); refine wpList_cell_h (v := .int .i64 (y1)) rfl O.held 0 rfl Cy1.out rfl agg3 rfl ?_))
            go_ret
            exact ⟨by rw [HE.out]; rfl, O.below⟩
set_option maxHeartbeats 4000000 in
theorem rhas_any (r : Nat → Int) (x y : Int) (w : World) : Calls Try.prog 15 #[arr 4 r, .int .i64 x, .int .i64 y] w fun e w' => e = .returned (.bool (RC.has r x y)) ∧ Below w.heap.size w w' := by
  have O := Own.start w
  have C := fun w => rright_any r w
  obtain ⟨x0, ex0⟩ : ∃ z, r 0 = z := ⟨_, rfl⟩
  have Cx0 := cell_is (n := 4) ex0 (by decide)
  obtain ⟨y0, ey0⟩ : ∃ z, r 1 = z := ⟨_, rfl⟩
  have Cy0 := cell_is (n := 4) ey0 (by decide)
  obtain ⟨x1, ex1⟩ : ∃ z, r 2 = z := ⟨_, rfl⟩
  have Cx1 := cell_is (n := 4) ex1 (by decide)
  obtain ⟨y1, ey1⟩ : ∃ z, r 3 = z := ⟨_, rfl⟩
  have Cy1 := cell_is (n := 4) ey1 (by decide)
  have HE := Lib.hid (RC.has_is (x := x) (y := y) ex0 ey0 ex1 ey1)
  clear ex0 ey0 ex1 ey1
  cases h0 : RC.right r
  · rw [h0] at HE
    rw [h0] at C
    clear h0
    go_enter Try.func15, Try.ntmps15
    go_wp2_with (first | ((with_reducible refine at_box 3 ?_); refine wpList_box_own O (M.mat 4 (r)) rfl ?_; clear O; intro g1 w1 O) | ((with_reducible refine at_load 7 ?_); refine wpList_whole rfl O 0 rfl rfl Try.underlying23 rfl (sR _) ?_) | (go_at_call 11; refine (C _).mono ?_; rintro e w2 ⟨rfl, hb⟩; replace O := O.call hb; clear hb) | ((with_reducible refine at_load 12 ?_); refine wpList_cell_h (v := .int .i64 (x0)) rfl O.held 0 rfl Cx0.out rfl agg3 rfl ?_) | ((with_reducible refine at_load 18 ?_); refine wpList_cell_h (v := .int .i64 (x1)) rfl O.held 0 rfl Cx1.out rfl agg3 rfl ?_) | ((with_reducible refine at_load 24 ?_); refine wpList_cell_h (v := .int .i64 (y0)) rfl O.held 0 rfl Cy0.out rfl agg3 rfl ?_) | ((with_reducible refine at_load 30 ?_); refine wpList_cell_h (v := .int .i64 (y1)) rfl O.held 0 rfl Cy1.out rfl agg3 rfl ?_))
    go_ret
    exact ⟨by rw [HE.out]; rfl, O.below⟩
  · cases h1 : decide (x0 ≤ x)
    · rw [h0, h1] at HE
      rw [h0] at C
      clear h0
      go_enter Try.func15, Try.ntmps15
      go_wp2_with (first | ((with_reducible refine at_box 3 ?_); refine wpList_box_own O (M.mat 4 (r)) rfl ?_; clear O; intro g1 w1 O) | ((with_reducible refine at_load 7 ?_); refine wpList_whole rfl O 0 rfl rfl Try.underlying23 rfl (sR _) ?_) | (go_at_call 11; refine (C _).mono ?_; rintro e w2 ⟨rfl, hb⟩; replace O := O.call hb; clear hb) | ((with_reducible refine at_load 12 ?_); refine wpList_cell_h (v := .int .i64 (x0)) rfl O.held 0 rfl Cx0.out rfl agg3 rfl ?_) | ((with_reducible refine at_load 18 ?_); refine wpList_cell_h (v := .int .i64 (x1)) rfl O.held 0 rfl Cx1.out rfl agg3 rfl ?_) | ((with_reducible refine at_load 24 ?_); refine wpList_cell_h (v := .int .i64 (y0)) rfl O.held 0 rfl Cy0.out rfl agg3 rfl ?_) | ((with_reducible refine at_load 30 ?_); refine wpList_cell_h (v := .int .i64 (y1)) rfl O.held 0 rfl Cy1.out rfl agg3 rfl ?_))
      go_ret
      exact ⟨by rw [HE.out]; rfl, O.below⟩
    · cases h2 : decide (x < x1)
      · rw [h0, h1, h2] at HE
        rw [h0] at C
        clear h0
        go_enter Try.func15, Try.ntmps15
        go_wp2_with (first | ((with_reducible refine at_box 3 ?_); refine wpList_box_own O (M.mat 4 (r)) rfl ?_; clear O; intro g1 w1 O) | ((with_reducible refine at_load 7 ?_); refine wpList_whole rfl O 0 rfl rfl Try.underlying23 rfl (sR _) ?_) | (go_at_call 11; refine (C _).mono ?_; rintro e w2 ⟨rfl, hb⟩; replace O := O.call hb; clear hb) | ((with_reducible refine at_load 12 ?_); refine wpList_cell_h (v := .int .i64 (x0)) rfl O.held 0 rfl Cx0.out rfl agg3 rfl ?_) | ((with_reducible refine at_load 18 ?_); refine wpList_cell_h (v := .int .i64 (x1)) rfl O.held 0 rfl Cx1.out rfl agg3 rfl ?_) | ((with_reducible refine at_load 24 ?_); refine wpList_cell_h (v := .int .i64 (y0)) rfl O.held 0 rfl Cy0.out rfl agg3 rfl ?_) | ((with_reducible refine at_load 30 ?_); refine wpList_cell_h (v := .int .i64 (y1)) rfl O.held 0 rfl Cy1.out rfl agg3 rfl ?_))
        go_ret
        exact ⟨by rw [HE.out]; rfl, O.below⟩
      · cases h3 : decide (y0 ≤ y)
        · rw [h0, h1, h2, h3] at HE
          rw [h0] at C
          clear h0
          go_enter Try.func15, Try.ntmps15
          go_wp2_with (first | ((with_reducible refine at_box 3 ?_); refine wpList_box_own O (M.mat 4 (r)) rfl ?_; clear O; intro g1 w1 O) | ((with_reducible refine at_load 7 ?_); refine wpList_whole rfl O 0 rfl rfl Try.underlying23 rfl (sR _) ?_) | (go_at_call 11; refine (C _).mono ?_; rintro e w2 ⟨rfl, hb⟩; replace O := O.call hb; clear hb) | ((with_reducible refine at_load 12 ?_); refine wpList_cell_h (v := .int .i64 (x0)) rfl O.held 0 rfl Cx0.out rfl agg3 rfl ?_) | ((with_reducible refine at_load 18 ?_); refine wpList_cell_h (v := .int .i64 (x1)) rfl O.held 0 rfl Cx1.out rfl agg3 rfl ?_) | ((with_reducible refine at_load 24 ?_); refine wpList_cell_h (v := .int .i64 (y0)) rfl O.held 0 rfl Cy0.out rfl agg3 rfl ?_) | ((with_reducible refine at_load 30 ?_); refine wpList_cell_h (v := .int .i64 (y1)) rfl O.held 0 rfl Cy1.out rfl agg3 rfl ?_))
          go_ret
          exact ⟨by rw [HE.out]; rfl, O.below⟩
        · cases h4 : decide (y < y1)
          · rw [h0, h1, h2, h3, h4] at HE
            rw [h0] at C
            clear h0
            go_enter Try.func15, Try.ntmps15
            go_wp2_with (first | ((with_reducible refine at_box 3 ?_); refine wpList_box_own O (M.mat 4 (r)) rfl ?_; clear O; intro g1 w1 O) | ((with_reducible refine at_load 7 ?_); refine wpList_whole rfl O 0 rfl rfl Try.underlying23 rfl (sR _) ?_) | (go_at_call 11; refine (C _).mono ?_; rintro e w2 ⟨rfl, hb⟩; replace O := O.call hb; clear hb) | ((with_reducible refine at_load 12 ?_); refine wpList_cell_h (v := .int .i64 (x0)) rfl O.held 0 rfl Cx0.out rfl agg3 rfl ?_) | ((with_reducible refine at_load 18 ?_); refine wpList_cell_h (v := .int .i64 (x1)) rfl O.held 0 rfl Cx1.out rfl agg3 rfl ?_) | ((with_reducible refine at_load 24 ?_); refine wpList_cell_h (v := .int .i64 (y0)) rfl O.held 0 rfl Cy0.out rfl agg3 rfl ?_) | ((with_reducible refine at_load 30 ?_); refine wpList_cell_h (v := .int .i64 (y1)) rfl O.held 0 rfl Cy1.out rfl agg3 rfl ?_))
            go_ret
            exact ⟨by rw [HE.out]; rfl, O.below⟩
          · rw [h0, h1, h2, h3, h4] at HE
            rw [h0] at C
            clear h0
            go_enter Try.func15, Try.ntmps15
            go_wp2_with (first | ((with_reducible refine at_box 3 ?_); refine wpList_box_own O (M.mat 4 (r)) rfl ?_; clear O; intro g1 w1 O) | ((with_reducible refine at_load 7 ?_); refine wpList_whole rfl O 0 rfl rfl Try.underlying23 rfl (sR _) ?_) | (go_at_call 11; refine (C _).mono ?_; rintro e w2 ⟨rfl, hb⟩; replace O := O.call hb; clear hb) | ((with_reducible refine at_load 12 ?_); refine wpList_cell_h (v := .int .i64 (x0)) rfl O.held 0 rfl Cx0.out rfl agg3 rfl ?_) | ((with_reducible refine at_load 18 ?_); refine wpList_cell_h (v := .int .i64 (x1)) rfl O.held 0 rfl Cx1.out rfl agg3 rfl ?_) | ((with_reducible refine at_load 24 ?_); refine wpList_cell_h (v := .int .i64 (y0)) rfl O.held 0 rfl Cy0.out rfl agg3 rfl ?_) | ((with_reducible refine at_load 30 ?_); refine wpList_cell_h (v := .int .i64 (y1)) rfl O.held 0 rfl Cy1.out rfl agg3 rfl ?_))
            go_ret
            exact ⟨by rw [HE.out]; rfl, O.below⟩
end Go.Proofs.Ythioeohmnlppcaa
