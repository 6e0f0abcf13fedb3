/- Contract: awake. -/
import Derived.Test.YtbmigbmeadgopaaVe
namespace Go.Proofs.Ytbmigbmeadgopaa
open Go.ChangeShapes Go.WideShapes Go.ChangeAt Go.RowKit
set_option linter.unusedVariables false
set_option linter.unusedSimpArgs false

def V.aw (i : Nat) : Int := if i = 0 then 1280 else if i = 1 then 0 else if i = 2 then 8388607 else 0
theorem map_awake (w : World) : Calls Try.prog 8 #[.agg #[.int .i64 0, .int .i64 0, .int .i64 0, .int .i64 7, .int .i64 0, .int .i64 0, .int .i64 0, .int .i64 0], .agg #[.int .i64 0, .int .i64 0, .int .i64 10, .int .i64 0]] w fun e w' => e = .returned (.tuple #[arr 7 V.aw, .int .i64 0]) ∧ Below w.heap.size w w' := by
  have E : M.mat 7 (V.win 1280 0 8388607 (fun i => if i = 3 then 7 else 0)) = M.mat 7 V.aw := M.mat_ext fun i hi => by
    rcases (by omega : i = 0 ∨ i = 1 ∨ i = 2 ∨ i = 3 ∨ i = 4 ∨ i = 5 ∨ i = 6) with rfl | rfl | rfl | rfl | rfl | rfl | rfl <;> decide
  refine (map_any (fun i => if i = 3 then 7 else 0) (fun i => if i = 2 then 10 else 0) w).mono ?_
  rintro e w' ⟨rfl, hb⟩
  rw [V.awake_win]
  refine ⟨?_, hb⟩
  show Ending.returned (.tuple #[.agg (M.mat 7 (V.win 1280 0 8388607 (fun i => if i = 3 then 7 else 0))).toArray, .int .i64 0]) = _
  rw [E]
theorem pixel_awake (w : World) : Calls Try.prog 13 #[.int .i64 (-1)] w fun e w' => e = .returned (.int .i64 (-1)) ∧ w' = w := pixel_any (-1) (by decide) (by decide) w
set_option maxHeartbeats 4000000 in
theorem awake_any (w : World) : Calls Try.prog 10 #[] w fun e w' => e = .returned (.bool true) ∧ Below w.heap.size w w' := by
  have O := Own.start w
  have a0 : V.aw 0 = 1280 := rfl
  have a1 : V.aw 1 = 0 := rfl
  have a2 : V.aw 2 = 8388607 := rfl
  go_enter Try.func10, Try.ntmps10
  go_wp2_with (first | (go_at_call 8; refine (map_awake _).mono ?_; rintro e w1 ⟨rfl, hb⟩; replace O := O.call hb; clear hb) | ((with_reducible refine at_alloc 1 ?_); refine wpList_alloc_own O (M.mat 7 M.zero) zeroW ?_; clear O; intro g1 w2 O) | ((with_reducible refine at_store 1 ?_); refine wpList_put_own O 0 (M.mat 7 (V.aw)) rfl rfl rfl (sW _) (M.mat_len2 _ _ _) (M.mat_one _ _) ?_; clear O; intro w3 O) | ((with_reducible refine at_load 13 ?_); refine wpList_cell_h (v := .int .i64 ((V.aw) (0))) rfl O.held 0 rfl (M.mat_get (by omega)) rfl agg3 rfl ?_) | ((with_reducible refine at_load 18 ?_); refine wpList_cell_h (v := .int .i64 ((V.aw) (1))) rfl O.held 0 rfl (M.mat_get (by omega)) rfl agg3 rfl ?_) | ((with_reducible refine at_load 23 ?_); refine wpList_cell_h (v := .int .i64 ((V.aw) (2))) rfl O.held 0 rfl (M.mat_get (by omega)) rfl agg3 rfl ?_) | (go_at_call 13; refine (pixel_awake _).mono ?_; rintro e w' ⟨rfl, hw⟩; obtain rfl := hw.symm; clear hw))
  go_ret
  exact ⟨rfl, O.below⟩
end Go.Proofs.Ytbmigbmeadgopaa
