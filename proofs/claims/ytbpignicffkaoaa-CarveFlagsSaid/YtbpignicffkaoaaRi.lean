/- Contract: the program's Right. -/
import Derived.Test.YtbpignicffkaoaaL5
namespace Go.Proofs.Ytbpignicffkaoaa
open Go.ChangeShapes Go.WideShapes Go.ChangeAt Go.RowKit
set_option linter.unusedVariables false
set_option linter.unusedSimpArgs false

set_option maxHeartbeats 2000000 in
theorem right_any (s : Nat → Int) (w : World) : Calls Try.prog 25 #[arr 5 s] w fun e w' => e = .returned (.bool (D.right s)) ∧ Below w.heap.size w w' := by
  have O := Own.start w
  by_cases h3 : s 0 = 3
  · have E : D.right s = D.allB 4 (-32768) 32768 (D.sub 1 s) := if_pos h3
    have HE := Lib.hid E
    have q : (s 0 == 3) = true := by simpa using h3
    clear h3 E
    go_enter Try.func25, Try.ntmps25
    go_wp2_with (first | ((with_reducible refine at_box 1 ?_); refine wpList_box_own O (M.mat 5 (s)) rfl ?_; clear O; intro g1 w1 O) | ((with_reducible refine at_load 4 ?_); refine wpList_cell_h (v := .int .i64 ((s) (0))) rfl O.held 0 rfl (M.mat_get (by omega)) rfl agg3 rfl ?_) | ((with_reducible refine at_load 7 ?_); refine wpList_mid_h rfl O.held 0 rfl (M.mat 4 (D.sub 1 s)) (mat_sub s (by omega)) rfl Try.underlying33 rfl (s22 _) ?_) | (go_at_call 30; refine (among_any _ _ _ _).mono ?_; rintro e w2 ⟨rfl, hb⟩; replace O := O.call hb; clear hb))
    go_ret
    exact ⟨by rw [HE.out]; rfl, O.below⟩
  · have E : D.right s = (D.inB 0 2 (s 0) && M.eqB 4 (D.sub 1 s) M.zero) := if_neg h3
    have HE := Lib.hid E
    have q : (s 0 == 3) = false := by simpa using h3
    clear h3 E
    by_cases h0 : s 0 < 0
    · have q0 : decide (0 ≤ s 0) = false := by simp; omega
      have q1 : D.inB 0 2 (s 0) = false := D.inB_no.2 (.inl h0)
      have H1 := Lib.hid q1
      clear q1 h0
      go_enter Try.func25, Try.ntmps25
      go_wp2_with (first | ((with_reducible refine at_box 1 ?_); refine wpList_box_own O (M.mat 5 (s)) rfl ?_; clear O; intro g1 w1 O) | ((with_reducible refine at_load 4 ?_); refine wpList_cell_h (v := .int .i64 ((s) (0))) rfl O.held 0 rfl (M.mat_get (by omega)) rfl agg3 rfl ?_) | ((with_reducible refine at_load 10 ?_); refine wpList_cell_h (v := .int .i64 ((s) (0))) rfl O.held 0 rfl (M.mat_get (by omega)) rfl agg3 rfl ?_) | ((with_reducible refine at_load 14 ?_); refine wpList_cell_h (v := .int .i64 ((s) (0))) rfl O.held 0 rfl (M.mat_get (by omega)) rfl agg3 rfl ?_) | ((with_reducible refine at_load 19 ?_); refine wpList_mid_h rfl O.held 0 rfl (M.mat 4 (D.sub 1 s)) (mat_sub s (by omega)) rfl Try.underlying33 rfl (s22 _) ?_) | ((with_reducible refine at_build 20 ?_); refine wpList_build_g rfl ([]) ((M.mat 4 M.zero).toArray) ?_ (built22z) ?_; (focus (simp only [List.map_toArray, List.map_cons, List.map_nil]; rfl))) | ((with_reducible refine at_binOp 21 ?_); refine wpList_eq22 rfl (D.sub 1 s) (M.zero) rfl rfl ?_))
      go_ret
      exact ⟨by rw [HE.out, H1.out]; rfl, O.below⟩
    · have q0 : decide (0 ≤ s 0) = true := by simp; omega
      by_cases h2 : 2 < s 0
      · have q2 : decide (s 0 ≤ 2) = false := by simp; omega
        have q1 : D.inB 0 2 (s 0) = false := D.inB_no.2 (.inr h2)
        have H1 := Lib.hid q1
        clear q1 h0 h2
        go_enter Try.func25, Try.ntmps25
        go_wp2_with (first | ((with_reducible refine at_box 1 ?_); refine wpList_box_own O (M.mat 5 (s)) rfl ?_; clear O; intro g1 w1 O) | ((with_reducible refine at_load 4 ?_); refine wpList_cell_h (v := .int .i64 ((s) (0))) rfl O.held 0 rfl (M.mat_get (by omega)) rfl agg3 rfl ?_) | ((with_reducible refine at_load 10 ?_); refine wpList_cell_h (v := .int .i64 ((s) (0))) rfl O.held 0 rfl (M.mat_get (by omega)) rfl agg3 rfl ?_) | ((with_reducible refine at_load 14 ?_); refine wpList_cell_h (v := .int .i64 ((s) (0))) rfl O.held 0 rfl (M.mat_get (by omega)) rfl agg3 rfl ?_) | ((with_reducible refine at_load 19 ?_); refine wpList_mid_h rfl O.held 0 rfl (M.mat 4 (D.sub 1 s)) (mat_sub s (by omega)) rfl Try.underlying33 rfl (s22 _) ?_) | ((with_reducible refine at_build 20 ?_); refine wpList_build_g rfl ([]) ((M.mat 4 M.zero).toArray) ?_ (built22z) ?_; (focus (simp only [List.map_toArray, List.map_cons, List.map_nil]; rfl))) | ((with_reducible refine at_binOp 21 ?_); refine wpList_eq22 rfl (D.sub 1 s) (M.zero) rfl rfl ?_))
        go_ret
        exact ⟨by rw [HE.out, H1.out]; rfl, O.below⟩
      · have q2 : decide (s 0 ≤ 2) = true := by simp; omega
        have q1 : D.inB 0 2 (s 0) = true := D.inB_iff.2 ⟨by omega, by omega⟩
        have H1 := Lib.hid q1
        clear q1 h0 h2
        go_enter Try.func25, Try.ntmps25
        go_wp2_with (first | ((with_reducible refine at_box 1 ?_); refine wpList_box_own O (M.mat 5 (s)) rfl ?_; clear O; intro g1 w1 O) | ((with_reducible refine at_load 4 ?_); refine wpList_cell_h (v := .int .i64 ((s) (0))) rfl O.held 0 rfl (M.mat_get (by omega)) rfl agg3 rfl ?_) | ((with_reducible refine at_load 10 ?_); refine wpList_cell_h (v := .int .i64 ((s) (0))) rfl O.held 0 rfl (M.mat_get (by omega)) rfl agg3 rfl ?_) | ((with_reducible refine at_load 14 ?_); refine wpList_cell_h (v := .int .i64 ((s) (0))) rfl O.held 0 rfl (M.mat_get (by omega)) rfl agg3 rfl ?_) | ((with_reducible refine at_load 19 ?_); refine wpList_mid_h rfl O.held 0 rfl (M.mat 4 (D.sub 1 s)) (mat_sub s (by omega)) rfl Try.underlying33 rfl (s22 _) ?_) | ((with_reducible refine at_build 20 ?_); refine wpList_build_g rfl ([]) ((M.mat 4 M.zero).toArray) ?_ (built22z) ?_; (focus (simp only [List.map_toArray, List.map_cons, List.map_nil]; rfl))) | ((with_reducible refine at_binOp 21 ?_); refine wpList_eq22 rfl (D.sub 1 s) (M.zero) rfl rfl ?_))
        go_ret
        exact ⟨by rw [HE.out, H1.out]; rfl, O.below⟩
end Go.Proofs.Ytbpignicffkaoaa
