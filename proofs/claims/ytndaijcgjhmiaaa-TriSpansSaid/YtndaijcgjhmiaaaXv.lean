/- Contracts: the program's Right, Has. -/
import Derived.Test.YtndaijcgjhmiaaaXr
namespace Go.Proofs.Ytndaijcgjhmiaaa
open Go.ChangeShapes Go.WideShapes Go.ChangeAt Go.RowKit
set_option linter.unusedVariables false
set_option linter.unusedSimpArgs false
namespace RC
def way (b e : Int) : Bool := decide (-4194304 ≤ b) && (decide (b < e) && decide (e ≤ 4194304))
theorem right_way (r : Nat → Int) : right r = (way (r 0) (r 2) && way (r 1) (r 3)) := by
  rw [Bool.eq_iff_iff, right_iff]
  simp only [way, Bool.and_eq_true, decide_eq_true_eq]
  omega
def has (r : Nat → Int) (x y : Int) : Bool := right r && (decide (r 0 ≤ x) && (decide (x < r 2) && (decide (r 1 ≤ y) && decide (y < r 3))))
theorem has_is {r : Nat → Int} {x0 y0 x1 y1 x y : Int} (e0 : r 0 = x0) (e1 : r 1 = y0) (e2 : r 2 = x1) (e3 : r 3 = y1) : has r x y = (right r && (decide (x0 ≤ x) && (decide (x < x1) && (decide (y0 ≤ y) && decide (y < y1))))) := by
  rw [has, e0, e1, e2, e3]
end RC
set_option maxHeartbeats 1000000 in
theorem isWay_any (b e : Int) (w : World) : Calls Try.prog 33 #[.int .i64 b, .int .i64 e] w fun r w' => r = .returned (.bool (RC.way b e)) ∧ w' = w := by
  have HE : Hid (RC.way b e = (decide (-4194304 ≤ b) && (decide (b < e) && decide (e ≤ 4194304)))) := Lib.hid rfl
  cases h0 : decide (-4194304 ≤ b) <;> cases h1 : decide (b < e) <;> cases h2 : decide (e ≤ 4194304)
  all_goals
    rw [h0, h1, h2] at HE
    go_enter Try.func33, Try.ntmps33
    go_wp2_with fail
    go_ret
    exact ⟨by rw [HE.out]; rfl, rfl⟩
set_option maxHeartbeats 2000000 in
theorem right_any (r : Nat → Int) (w : World) : Calls Try.prog 29 #[arr 4 r] w fun e w' => e = .returned (.bool (RC.right r)) ∧ Below w.heap.size w w' := by
  have O := Own.start w
  have HE := Lib.hid (RC.right_way r)
  have C1 := fun w => isWay_any (r 0) (r 2) w
  have C2 := fun w => isWay_any (r 1) (r 3) w
  obtain ⟨x0, ex0⟩ : ∃ z, r 0 = z := ⟨_, rfl⟩
  have Cx0 := cell_is (n := 4) ex0 (by decide)
  obtain ⟨y0, ey0⟩ : ∃ z, r 1 = z := ⟨_, rfl⟩
  have Cy0 := cell_is (n := 4) ey0 (by decide)
  obtain ⟨x1, ex1⟩ : ∃ z, r 2 = z := ⟨_, rfl⟩
  have Cx1 := cell_is (n := 4) ex1 (by decide)
  obtain ⟨y1, ey1⟩ : ∃ z, r 3 = z := ⟨_, rfl⟩
  have Cy1 := cell_is (n := 4) ey1 (by decide)
  rw [ex0, ex1] at C1
  rw [ey0, ey1] at C2
  rw [ex0, ey0, ex1, ey1] at HE
  clear ex0 ey0 ex1 ey1
  have tok0 : True := trivial
  cases h1 : RC.way x0 x1 <;> cases h2 : RC.way y0 y1
  all_goals
    rw [h1, h2] at HE
    rw [h1] at C1
    rw [h2] at C2
    clear h1 h2
    go_enter Try.func29, Try.ntmps29
    go_wp2_with (first | ((with_reducible refine at_box 1 ?_); refine wpList_box_own O (M.mat 4 (r)) rfl ?_; clear O; intro g1 w1 O) | ((with_reducible refine at_load 4 ?_); refine wpList_cell_h (v := .int .i64 (x0)) rfl O.held 0 rfl Cx0.out rfl agg3 rfl ?_) | ((with_reducible refine at_load 6 ?_); refine wpList_cell_h (v := .int .i64 (x1)) rfl O.held 0 rfl Cx1.out rfl agg3 rfl ?_) | ((with_reducible refine at_load 10 ?_); refine wpList_cell_h (v := .int .i64 (y0)) rfl O.held 0 rfl Cy0.out rfl agg3 rfl ?_) | ((with_reducible refine at_load 12 ?_); refine wpList_cell_h (v := .int .i64 (y1)) rfl O.held 0 rfl Cy1.out rfl agg3 rfl ?_) | (go_at_call 33; clear tok0; have tok1 : True := trivial; refine (C1 _).mono ?_; rintro e w' ⟨rfl, rfl⟩) | (go_at_call 33; clear tok1; have tok2 : True := trivial; refine (C2 _).mono ?_; rintro e w' ⟨rfl, rfl⟩))
    go_ret
    exact ⟨by rw [HE.out]; rfl, O.below⟩
end Go.Proofs.Ytndaijcgjhmiaaa
