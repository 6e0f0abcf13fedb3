/- Contracts: may, near. -/
import Derived.Test.YtkhjjmjdicnpjaaWb
namespace Go.Proofs.Ytkhjjmjdicnpjaa
open Go.ChangeShapes Go.WideShapes Go.ChangeAt Go.RowKit
set_option linter.unusedVariables false
set_option linter.unusedSimpArgs false

namespace DM
def may (X Y : Int) : Bool := decide (-536870912 ≤ X) && (decide (X ≤ 536870912) && (decide (-536870912 ≤ Y) && decide (Y ≤ 536870912)))
theorem may_iff {X Y : Int} : may X Y = true ↔ (-536870912 ≤ X ∧ X ≤ 536870912) ∧ (-536870912 ≤ Y ∧ Y ≤ 536870912) := by
  simp only [may, Bool.and_eq_true, decide_eq_true_eq]
  omega
def near (x y : Int) : Bool := decide (-4194304 ≤ x) && (decide (x ≤ 4194304) && (decide (-4194304 ≤ y) && decide (y ≤ 4194304)))
theorem near_iff {x y : Int} : near x y = true ↔ (-4194304 ≤ x ∧ x ≤ 4194304) ∧ (-4194304 ≤ y ∧ y ≤ 4194304) := by
  simp only [near, Bool.and_eq_true, decide_eq_true_eq]
  omega
end DM
set_option maxHeartbeats 2000000 in
theorem may_any (p : Nat → Int) (w : World) : Calls Try.prog 8 #[arr 2 p] w fun e w' => e = .returned (.bool (DM.may (p 0) (p 1))) ∧ Below w.heap.size w w' := by
  have O := Own.start w
  obtain ⟨x, ex⟩ : ∃ z, p 0 = z := ⟨_, rfl⟩
  have Cx := cell_is (n := 2) ex (by decide)
  obtain ⟨y, ey⟩ : ∃ z, p 1 = z := ⟨_, rfl⟩
  have Cy := cell_is (n := 2) ey (by decide)
  rw [ex, ey]
  clear ex ey
  have HE : Hid (DM.may x y = (decide (-536870912 ≤ x) && (decide (x ≤ 536870912) && (decide (-536870912 ≤ y) && decide (y ≤ 536870912))))) := Lib.hid rfl
  cases h0 : decide (-536870912 ≤ x)
  · rw [h0] at HE
    go_enter Try.func8, Try.ntmps8
    go_wp2_with (first | ((with_reducible refine at_box 1 ?_); refine wpList_box_own O (M.mat 2 (p)) rfl ?_; clear O; intro g1 w1 O) | ((with_reducible refine at_load 4 ?_); refine wpList_cell_h (v := .int .i64 (x)) rfl O.held 0 rfl Cx.out rfl agg3 rfl ?_) | ((with_reducible refine at_load 8 ?_); refine wpList_cell_h (v := .int .i64 (x)) rfl O.held 0 rfl Cx.out rfl agg3 rfl ?_) | ((with_reducible refine at_load 13 ?_); refine wpList_cell_h (v := .int .i64 (y)) rfl O.held 0 rfl Cy.out rfl agg3 rfl ?_) | ((with_reducible refine at_load 18 ?_); refine wpList_cell_h (v := .int .i64 (y)) rfl O.held 0 rfl Cy.out rfl agg3 rfl ?_))
    go_ret
    exact ⟨by rw [HE.out]; rfl, O.below⟩
  · cases h1 : decide (x ≤ 536870912)
    · rw [h0, h1] at HE
      go_enter Try.func8, Try.ntmps8
      go_wp2_with (first | ((with_reducible refine at_box 1 ?_); refine wpList_box_own O (M.mat 2 (p)) rfl ?_; clear O; intro g1 w1 O) | ((with_reducible refine at_load 4 ?_); refine wpList_cell_h (v := .int .i64 (x)) rfl O.held 0 rfl Cx.out rfl agg3 rfl ?_) | ((with_reducible refine at_load 8 ?_); refine wpList_cell_h (v := .int .i64 (x)) rfl O.held 0 rfl Cx.out rfl agg3 rfl ?_) | ((with_reducible refine at_load 13 ?_); refine wpList_cell_h (v := .int .i64 (y)) rfl O.held 0 rfl Cy.out rfl agg3 rfl ?_) | ((with_reducible refine at_load 18 ?_); refine wpList_cell_h (v := .int .i64 (y)) rfl O.held 0 rfl Cy.out rfl agg3 rfl ?_))
      go_ret
      exact ⟨by rw [HE.out]; rfl, O.below⟩
    · cases h2 : decide (-536870912 ≤ y)
      · rw [h0, h1, h2] at HE
        go_enter Try.func8, Try.ntmps8
        go_wp2_with (first | ((with_reducible refine at_box 1 ?_); refine wpList_box_own O (M.mat 2 (p)) rfl ?_; clear O; intro g1 w1 O) | ((with_reducible refine at_load 4 ?_); refine wpList_cell_h (v := .int .i64 (x)) rfl O.held 0 rfl Cx.out rfl agg3 rfl ?_) | ((with_reducible refine at_load 8 ?_); refine wpList_cell_h (v := .int .i64 (x)) rfl O.held 0 rfl Cx.out rfl agg3 rfl ?_) | ((with_reducible refine at_load 13 ?_); refine wpList_cell_h (v := .int .i64 (y)) rfl O.held 0 rfl Cy.out rfl agg3 rfl ?_) | ((with_reducible refine at_load 18 ?_); refine wpList_cell_h (v := .int .i64 (y)) rfl O.held 0 rfl Cy.out rfl agg3 rfl ?_))
        go_ret
        exact ⟨by rw [HE.out]; rfl, O.below⟩
      · cases h3 : decide (y ≤ 536870912)
        · rw [h0, h1, h2, h3] at HE
          go_enter Try.func8, Try.ntmps8
          go_wp2_with (first | ((with_reducible refine at_box 1 ?_); refine wpList_box_own O (M.mat 2 (p)) rfl ?_; clear O; intro g1 w1 O) | ((with_reducible refine at_load 4 ?_); refine wpList_cell_h (v := .int .i64 (x)) rfl O.held 0 rfl Cx.out rfl agg3 rfl ?_) | ((with_reducible refine at_load 8 ?_); refine wpList_cell_h (v := .int .i64 (x)) rfl O.held 0 rfl Cx.out rfl agg3 rfl ?_) | ((with_reducible refine at_load 13 ?_); refine wpList_cell_h (v := .int .i64 (y)) rfl O.held 0 rfl Cy.out rfl agg3 rfl ?_) | ((with_reducible refine at_load 18 ?_); refine wpList_cell_h (v := .int .i64 (y)) rfl O.held 0 rfl Cy.out rfl agg3 rfl ?_))
          go_ret
          exact ⟨by rw [HE.out]; rfl, O.below⟩
        · rw [h0, h1, h2, h3] at HE
          go_enter Try.func8, Try.ntmps8
          go_wp2_with (first | ((with_reducible refine at_box 1 ?_); refine wpList_box_own O (M.mat 2 (p)) rfl ?_; clear O; intro g1 w1 O) | ((with_reducible refine at_load 4 ?_); refine wpList_cell_h (v := .int .i64 (x)) rfl O.held 0 rfl Cx.out rfl agg3 rfl ?_) | ((with_reducible refine at_load 8 ?_); refine wpList_cell_h (v := .int .i64 (x)) rfl O.held 0 rfl Cx.out rfl agg3 rfl ?_) | ((with_reducible refine at_load 13 ?_); refine wpList_cell_h (v := .int .i64 (y)) rfl O.held 0 rfl Cy.out rfl agg3 rfl ?_) | ((with_reducible refine at_load 18 ?_); refine wpList_cell_h (v := .int .i64 (y)) rfl O.held 0 rfl Cy.out rfl agg3 rfl ?_))
          go_ret
          exact ⟨by rw [HE.out]; rfl, O.below⟩
set_option maxHeartbeats 2000000 in
theorem near_any (x y : Int) (w : World) : Calls Try.prog 12 #[.int .i64 x, .int .i64 y] w fun e w' => e = .returned (.bool (DM.near x y)) ∧ w' = w := by
  have HE : Hid (DM.near x y = (decide (-4194304 ≤ x) && (decide (x ≤ 4194304) && (decide (-4194304 ≤ y) && decide (y ≤ 4194304))))) := Lib.hid rfl
  cases h0 : decide (-4194304 ≤ x)
  · rw [h0] at HE
    go_enter Try.func12, Try.ntmps12
    go_wp2_with fail
    go_ret
    exact ⟨by rw [HE.out]; rfl, rfl⟩
  · cases h1 : decide (x ≤ 4194304)
    · rw [h0, h1] at HE
      go_enter Try.func12, Try.ntmps12
      go_wp2_with fail
      go_ret
      exact ⟨by rw [HE.out]; rfl, rfl⟩
    · cases h2 : decide (-4194304 ≤ y)
      · rw [h0, h1, h2] at HE
        go_enter Try.func12, Try.ntmps12
        go_wp2_with fail
        go_ret
        exact ⟨by rw [HE.out]; rfl, rfl⟩
      · cases h3 : decide (y ≤ 4194304)
        · rw [h0, h1, h2, h3] at HE
          go_enter Try.func12, Try.ntmps12
          go_wp2_with fail
          go_ret
          exact ⟨by rw [HE.out]; rfl, rfl⟩
        · rw [h0, h1, h2, h3] at HE
          go_enter Try.func12, Try.ntmps12
          go_wp2_with fail
          go_ret
          exact ⟨by rw [HE.out]; rfl, rfl⟩
end Go.Proofs.Ytkhjjmjdicnpjaa
