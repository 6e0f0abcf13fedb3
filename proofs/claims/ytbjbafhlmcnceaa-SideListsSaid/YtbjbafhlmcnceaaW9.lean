/- Contract: awake. -/
import Derived.Test.YtbjbafhlmcnceaaW6
import Derived.Test.YtbjbafhlmcnceaaW8
namespace Go.Proofs.Ytbjbafhlmcnceaa
open Go.ChangeShapes Go.WideShapes Go.ChangeAt Go.RowKit
set_option linter.unusedVariables false
set_option linter.unusedSimpArgs false

def D.vW (z : Int) (i : Nat) : Int := if i = 3 then z else 0
def D.v25 (i : Nat) : Int := if i = 2 then 2 else if i = 3 then 5 else 0
theorem at_awake (w : World) : Calls Try.prog 17 #[.agg #[.int .i64 0, .int .i64 0, .int .i64 0, .int .i64 5, .int .i64 0, .int .i64 0, .int .i64 0, .int .i64 0], .agg #[.int .i64 0, .int .i64 0, .int .i64 0, .int .i64 (-3), .int .i64 0, .int .i64 0, .int .i64 0, .int .i64 0], .int .i64 4, .int .i64 8] w fun e w' => e = .returned (.tuple #[arr 8 (D.vW 1), .int .i64 0]) ∧ Below w.heap.size w w' := by
  have E : M.mat 8 (D.way (D.vW 5) (D.vW (-3)) 4 8) = M.mat 8 (D.vW 1) := M.mat_ext fun i hi => by
    rcases (by omega : i = 0 ∨ i = 1 ∨ i = 2 ∨ i = 3 ∨ i = 4 ∨ i = 5 ∨ i = 6 ∨ i = 7) with rfl | rfl | rfl | rfl | rfl | rfl | rfl | rfl <;> decide
  refine (at_any (D.vW 5) (D.vW (-3)) 4 8 (by decide) w).mono ?_
  rintro e w' ⟨rfl, hb⟩
  rw [D.at_yes (by decide)]
  refine ⟨?_, hb⟩
  show Ending.returned (.tuple #[.agg (M.mat 8 (D.way (D.vW 5) (D.vW (-3)) 4 8)).toArray, .int .i64 0]) = _
  rw [E]
theorem list_awake (w : World) : Calls Try.prog 15 #[.slice none 0 0] w fun e w' => ∃ A c, e = .returned (.tuple #[.slice A 3 c, .int .i64 0]) ∧ Below w.heap.size w w' := by
  refine (list_any (lo := 0) (A := none) (c := 0) [] w Lies.nil).mono ?_
  rintro e w' ⟨A, c, rfl, _, hb⟩
  exact ⟨A, c, rfl, hb⟩
theorem dist_awake (w : World) : Calls Try.prog 13 #[.agg #[.int .i64 2, .int .i64 0, .int .i64 0, .int .i64 0, .int .i64 0], .agg #[.int .i64 0, .int .i64 0, .int .i64 2, .int .i64 5, .int .i64 0, .int .i64 0, .int .i64 0, .int .i64 0]] w fun e w' => e = .returned (.int .i64 3) ∧ Below w.heap.size w w' :=
  dist_any (D.kd 2) D.v25 (by decide) (by decide) w
set_option maxHeartbeats 4000000 in
theorem awake_any (w : World) : Calls Try.prog 12 #[] w fun e w' => e = .returned (.bool true) ∧ Below w.heap.size w w' := by
  have O := Own.start w
  go_enter Try.func12, Try.ntmps12
  go_wp2_with (first | (go_at_call 17; refine (at_awake _).mono ?_; rintro e w1 ⟨rfl, hb⟩; replace O := O.call hb; clear hb) | ((with_reducible refine at_alloc 1 ?_); refine wpList_alloc_own O (M.mat 8 M.zero) zero27 ?_; clear O; intro g1 w2 O) | ((with_reducible refine at_store 1 ?_); refine wpList_put_own O 0 (M.mat 8 (D.vW 1)) rfl rfl rfl (s27 _) (M.mat_len2 _ _ _) (M.mat_one _ _) ?_; clear O; intro w3 O) | (go_at_call 15; refine (list_awake _).mono ?_; rintro e w4 ⟨A, c, rfl, hb⟩; replace O := O.call hb; clear hb) | ((with_reducible refine at_load 18 ?_); refine wpList_whole rfl O 0 rfl rfl Try.underlying27 rfl (s27 _) ?_) | ((with_reducible refine at_binOp 20 ?_); refine wpList_eq27 rfl (D.vW 1) (D.vW 1) rfl rfl ?_; rw [M.eqB_refl]) | (go_at_call 13; refine (dist_awake _).mono ?_; rintro e w5 ⟨rfl, hb⟩; replace O := O.call hb; clear hb))
  go_ret
  exact ⟨rfl, O.below⟩
end Go.Proofs.Ytbjbafhlmcnceaa
