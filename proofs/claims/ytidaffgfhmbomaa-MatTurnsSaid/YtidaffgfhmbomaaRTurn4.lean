/- Contract of the document's Turn. -/
import Derived.Test.YtidaffgfhmbomaaTurn4
import Derived.Test.YtidaffgfhmbomaaRMul4
namespace Go.Proofs.Ytidaffgfhmbomaa
open Go.ChangeShapes Go.WideShapes Go.ChangeAt Go.RowKit
set_option linter.unusedVariables false
set_option linter.unusedSimpArgs false

theorem turnA_0 (a : Nat) : M.mat 16 (M.turnA a 0) = M.mat 16 M.unit := M.mat_ext fun j hj => by
  have h1 : (a + 1) % 3 < 3 := by omega
  have h2 : (a + 2) % 3 < 3 := by omega
  have h3 : (a + 1) % 3 ≠ (a + 2) % 3 := by omega
  simp only [M.turnA, M.rot, M.cosN, M.sinN, M.unit]
  generalize (a + 1) % 3 = n at *
  generalize (a + 2) % 3 = l at *
  by_cases h4 : j = n * 4 + n ∨ j = l * 4 + l
  · rw [if_pos h4, if_pos (by omega)]
  · rw [if_neg h4]
    by_cases h5 : j = n * 4 + l
    · rw [if_pos h5, if_neg (by omega)]; rfl
    · rw [if_neg h5]
      by_cases h6 : j = l * 4 + n
      · rw [if_pos h6, if_neg (by omega)]
      · rw [if_neg h6]
theorem tmod4 (q : Int) : -4 < q.tmod 4 ∧ q.tmod 4 < 4 ∧ (q.tmod 4 + 4) % 4 = (M.quarters q : Int) := by
  have h1 := Int.lt_tmod_of_pos q (show (0 : Int) < 4 by decide)
  have h2 := Int.tmod_lt_of_pos q (show (0 : Int) < 4 by decide)
  have h3 := Int.mul_tdiv_add_tmod q 4
  have h4 := M.quarters_eq q
  refine ⟨h1, h2, ?_⟩
  rw [← h4]
  omega
set_option maxHeartbeats 4000000 in
theorem rturn_no (axis q : Int) (h : axis < 0 ∨ 3 ≤ axis) (w : World) : Calls Try.prog 23 #[.int .i64 axis, .int .i64 q] w (RetTwo 16 w (M.turn axis q)) := by
  have O := Own.start w
  have hu2 := Try.underlying23
  have E : M.turn axis q = (M.zero, 1) := by unfold M.turn; rw [if_neg (by omega)]
  have HE := Lib.hid E
  clear E
  by_cases h0 : axis < 0
  · clear h
    go_enter Try.func23, Try.ntmps23
    go_wp2_with (first | ((with_reducible refine at_alloc 4 ?_); refine wpList_alloc_own O (M.mat 16 M.zero) zero23 ?_; clear O; intro g4 w1 O) | ((with_reducible refine at_build 17 ?_); refine wpList_build_own [] (M.mat 16 M.zero).toArray ?_ built23z ?_; (focus simp)) | ((with_reducible refine at_store 4 ?_); refine wpList_put_own O 0 (M.mat 16 (M.zero)) rfl rfl rfl (s23 _) (M.mat_len2 _ _ _) (M.mat_one _ _) ?_; clear O; intro w1 O))
    exact bodyPost_ret (v := .tuple #[arr 16 M.zero, .int .i64 1]) (res_cell2 rfl O 0 rfl rfl Try.underlying23 (s23 _) rfl) rfl ⟨by rw [HE.out], O.below⟩
  · have h3 : 2 < axis := by omega
    clear h
    go_enter Try.func23, Try.ntmps23
    go_wp2_with (first | ((with_reducible refine at_alloc 4 ?_); refine wpList_alloc_own O (M.mat 16 M.zero) zero23 ?_; clear O; intro g4 w1 O) | ((with_reducible refine at_build 17 ?_); refine wpList_build_own [] (M.mat 16 M.zero).toArray ?_ built23z ?_; (focus simp)) | ((with_reducible refine at_store 4 ?_); refine wpList_put_own O 0 (M.mat 16 (M.zero)) rfl rfl rfl (s23 _) (M.mat_len2 _ _ _) (M.mat_one _ _) ?_; clear O; intro w1 O))
    exact bodyPost_ret (v := .tuple #[arr 16 M.zero, .int .i64 1]) (res_cell2 rfl O 0 rfl rfl Try.underlying23 (s23 _) rfl) rfl ⟨by rw [HE.out], O.below⟩
theorem mul_turn_0_0 : M.mat 16 (M.mul (M.turnA 0 1) (M.turnA 0 0)).1 = M.mat 16 (M.turnA 0 1) := by kernel_rfl
theorem mul_turn_0_1 : M.mat 16 (M.mul (M.turnA 0 1) (M.turnA 0 1)).1 = M.mat 16 (M.turnA 0 2) := by kernel_rfl
theorem mul_turn_0_2 : M.mat 16 (M.mul (M.turnA 0 1) (M.turnA 0 2)).1 = M.mat 16 (M.turnA 0 3) := by kernel_rfl
theorem mul_turn_0 (k : Nat) (h : k < 3) : M.mat 16 (M.mul (M.turnA 0 1) (M.turnA 0 k)).1 = M.mat 16 (M.turnA 0 (k + 1)) := by
  match k, h with
  | 0, _ => exact mul_turn_0_0
  | 1, _ => exact mul_turn_0_1
  | 2, _ => exact mul_turn_0_2
set_option maxHeartbeats 8000000 in
theorem rturn_0 (q : Int) (w : World) : Calls Try.prog 23 #[.int .i64 0, .int .i64 q] w (RetTwo 16 w (M.turn 0 q)) := by
  have O := Own.start w
  have hu2 := Try.underlying23
  have E : M.turn 0 q = (M.turnA 0 (M.quarters q), 0) := by unfold M.turn; rw [if_pos (by decide)]; rfl
  have HE := Lib.hid E
  clear E
  have hr := M.quarters_lt q
  obtain ⟨t1, t2, t3⟩ := tmod4 q
  have HT := Lib.hid t3
  clear t3
  generalize M.quarters q = r at *
  have q0 : (0 : Int) ≤ r := by omega
  have q1 : (r : Int) < 4 := by omega
  go_enter Try.func23, Try.ntmps23
  have t0 : True := trivial
  go_wp2_with (first | ((with_reducible refine at_alloc 4 ?_); refine wpList_alloc_own O (M.mat 16 M.zero) zero23 ?_; clear O; intro g4 w1 O) | (go_at_call 17; refine (runit_any _).mono ?_; rintro e w1 ⟨rfl, hb⟩; replace O := O.call hb; clear hb) | ((with_reducible refine at_alloc 6 ?_); refine wpList_alloc_own O (M.mat 16 M.zero) zero23 ?_; clear O; intro g6 w1 O) | ((with_reducible refine at_store 6 ?_); refine wpList_put_own O 0 (M.mat 16 (M.unit)) rfl rfl rfl (s23 _) (M.mat_len2 _ _ _) (M.mat_one _ _) ?_; clear O; intro w1 O) | ((with_reducible refine at_alloc 7 ?_); refine wpList_alloc_own O (M.mat 16 M.zero) zero23 ?_; clear O; intro g7 w1 O) | ((with_reducible refine at_store 7 ?_); refine wpList_put_own O 0 (M.mat 16 (M.unit)) rfl rfl rfl (s23 _) (M.mat_len2 _ _ _) (M.mat_one _ _) ?_; clear O; intro w1 O) | ((with_reducible refine at_store 34 ?_); refine wpList_set_own O 0 (.int .i64 (0)) rfl (by simp [M.mat_len]) rfl rfl size3 rfl rfl ?_; clear O ; intro w1 O) | ((with_reducible refine at_store 35 ?_); refine wpList_set_own O 0 (.int .i64 (0)) rfl (by simp [M.mat_len]) rfl rfl size3 rfl rfl ?_; clear O ; intro w1 O) | ((with_reducible refine at_store 44 ?_); refine wpList_set_own O 0 (.int .i64 (65536)) rfl (by simp [M.mat_len]) rfl rfl size3 rfl rfl ?_; clear O ; intro w1 O) | ((with_reducible refine at_store 45 ?_); refine wpList_set_own O 0 (.int .i64 (-65536)) rfl (by simp [M.mat_len]) rfl rfl size3 rfl rfl ?_; clear O ; intro w1 O))
  have O2 : Own w w1 [(g7, 23, M.mat 16 (M.turnA 0 1)), (g6, 23, M.mat 16 (M.turnA 0 0)), (g4, 23, M.mat 16 M.zero)] := by rw [turnA_0]; exact O
  clear O
  go_loopw [10] (fun x wr => ∃ k : Nat, k ≤ r ∧ x = .int .i64 k ∧ Own w wr [(g7, 23, M.mat 16 (M.turnA 0 1)), (g6, 23, M.mat 16 (M.turnA 0 k)), (g4, 23, M.mat 16 M.zero)]) (fun x _ => r - (intOf x).toNat)
  case atStart => exact ⟨0, by omega, rfl, O2⟩
  case round =>
    clear O2
    obtain ⟨k, hk, rfl, O⟩ := hrel
    have q2 : (0 : Int) ≤ k := by omega
    have t3 := HT.out
    by_cases hlt : k < r
    · have q3 : (k : Int) < r := by omega
      have HM := Lib.hid (mul_turn_0 k (by omega))
      go_wp2_with (first | ((with_reducible refine at_load 55 ?_); refine wpList_row_own O 0 rfl rfl Try.underlying23 (s23 _) ?_) | ((with_reducible refine at_load 56 ?_); refine wpList_row_own O 1 rfl rfl Try.underlying23 (s23 _) ?_) | (go_at_call 10; refine (rmul_any (M.turnA 0 1) (M.turnA 0 k) _).mono ?_; rintro e w1 ⟨rfl, hb⟩; replace O := O.call hb; clear hb) | ((with_reducible refine at_store 6 ?_); refine wpList_put_own O 1 (M.mat 16 ((M.mul (M.turnA 0 1) (M.turnA 0 k)).1)) rfl rfl rfl (s23 _) (M.mat_len2 _ _ _) (M.mat_one _ _) ?_; clear O; intro w1 O))
      go_roundw
      case rel => exact ⟨k + 1, by omega, by go_num, by rw [← HM.out]; exact O⟩
      case measure => simp [intOf]; omega
    · have q3 : ¬ (k : Int) < r := by omega
      obtain rfl : r = k := by omega
      go_wp2_with (first | ((with_reducible refine at_load 60 ?_); refine wpList_row_own O 1 rfl rfl Try.underlying23 (s23 _) ?_) | ((with_reducible refine at_store 4 ?_); refine wpList_put_own O 2 (M.mat 16 (M.turnA 0 r)) rfl rfl rfl (s23 _) (M.mat_len2 _ _ _) (M.mat_one _ _) ?_; clear O; intro w1 O))
      exact bodyPost_ret (v := .tuple #[arr 16 (M.turnA 0 r), .int .i64 0]) (res_cell2 rfl O 2 rfl rfl Try.underlying23 (s23 _) rfl) rfl ⟨by rw [HE.out], O.below⟩
theorem mul_turn_1_0 : M.mat 16 (M.mul (M.turnA 1 1) (M.turnA 1 0)).1 = M.mat 16 (M.turnA 1 1) := by kernel_rfl
theorem mul_turn_1_1 : M.mat 16 (M.mul (M.turnA 1 1) (M.turnA 1 1)).1 = M.mat 16 (M.turnA 1 2) := by kernel_rfl
theorem mul_turn_1_2 : M.mat 16 (M.mul (M.turnA 1 1) (M.turnA 1 2)).1 = M.mat 16 (M.turnA 1 3) := by kernel_rfl
theorem mul_turn_1 (k : Nat) (h : k < 3) : M.mat 16 (M.mul (M.turnA 1 1) (M.turnA 1 k)).1 = M.mat 16 (M.turnA 1 (k + 1)) := by
  match k, h with
  | 0, _ => exact mul_turn_1_0
  | 1, _ => exact mul_turn_1_1
  | 2, _ => exact mul_turn_1_2
set_option maxHeartbeats 8000000 in
theorem rturn_1 (q : Int) (w : World) : Calls Try.prog 23 #[.int .i64 1, .int .i64 q] w (RetTwo 16 w (M.turn 1 q)) := by
  have O := Own.start w
  have hu2 := Try.underlying23
  have E : M.turn 1 q = (M.turnA 1 (M.quarters q), 0) := by unfold M.turn; rw [if_pos (by decide)]; rfl
  have HE := Lib.hid E
  clear E
  have hr := M.quarters_lt q
  obtain ⟨t1, t2, t3⟩ := tmod4 q
  have HT := Lib.hid t3
  clear t3
  generalize M.quarters q = r at *
  have q0 : (0 : Int) ≤ r := by omega
  have q1 : (r : Int) < 4 := by omega
  go_enter Try.func23, Try.ntmps23
  have t0 : True := trivial
  go_wp2_with (first | ((with_reducible refine at_alloc 4 ?_); refine wpList_alloc_own O (M.mat 16 M.zero) zero23 ?_; clear O; intro g4 w1 O) | (go_at_call 17; refine (runit_any _).mono ?_; rintro e w1 ⟨rfl, hb⟩; replace O := O.call hb; clear hb) | ((with_reducible refine at_alloc 6 ?_); refine wpList_alloc_own O (M.mat 16 M.zero) zero23 ?_; clear O; intro g6 w1 O) | ((with_reducible refine at_store 6 ?_); refine wpList_put_own O 0 (M.mat 16 (M.unit)) rfl rfl rfl (s23 _) (M.mat_len2 _ _ _) (M.mat_one _ _) ?_; clear O; intro w1 O) | ((with_reducible refine at_alloc 7 ?_); refine wpList_alloc_own O (M.mat 16 M.zero) zero23 ?_; clear O; intro g7 w1 O) | ((with_reducible refine at_store 7 ?_); refine wpList_put_own O 0 (M.mat 16 (M.unit)) rfl rfl rfl (s23 _) (M.mat_len2 _ _ _) (M.mat_one _ _) ?_; clear O; intro w1 O) | ((with_reducible refine at_store 34 ?_); refine wpList_set_own O 0 (.int .i64 (0)) rfl (by simp [M.mat_len]) rfl rfl size3 rfl rfl ?_; clear O ; intro w1 O) | ((with_reducible refine at_store 35 ?_); refine wpList_set_own O 0 (.int .i64 (0)) rfl (by simp [M.mat_len]) rfl rfl size3 rfl rfl ?_; clear O ; intro w1 O) | ((with_reducible refine at_store 44 ?_); refine wpList_set_own O 0 (.int .i64 (65536)) rfl (by simp [M.mat_len]) rfl rfl size3 rfl rfl ?_; clear O ; intro w1 O) | ((with_reducible refine at_store 45 ?_); refine wpList_set_own O 0 (.int .i64 (-65536)) rfl (by simp [M.mat_len]) rfl rfl size3 rfl rfl ?_; clear O ; intro w1 O))
  have O2 : Own w w1 [(g7, 23, M.mat 16 (M.turnA 1 1)), (g6, 23, M.mat 16 (M.turnA 1 0)), (g4, 23, M.mat 16 M.zero)] := by rw [turnA_0]; exact O
  clear O
  go_loopw [10] (fun x wr => ∃ k : Nat, k ≤ r ∧ x = .int .i64 k ∧ Own w wr [(g7, 23, M.mat 16 (M.turnA 1 1)), (g6, 23, M.mat 16 (M.turnA 1 k)), (g4, 23, M.mat 16 M.zero)]) (fun x _ => r - (intOf x).toNat)
  case atStart => exact ⟨0, by omega, rfl, O2⟩
  case round =>
    clear O2
    obtain ⟨k, hk, rfl, O⟩ := hrel
    have q2 : (0 : Int) ≤ k := by omega
    have t3 := HT.out
    by_cases hlt : k < r
    · have q3 : (k : Int) < r := by omega
      have HM := Lib.hid (mul_turn_1 k (by omega))
      go_wp2_with (first | ((with_reducible refine at_load 55 ?_); refine wpList_row_own O 0 rfl rfl Try.underlying23 (s23 _) ?_) | ((with_reducible refine at_load 56 ?_); refine wpList_row_own O 1 rfl rfl Try.underlying23 (s23 _) ?_) | (go_at_call 10; refine (rmul_any (M.turnA 1 1) (M.turnA 1 k) _).mono ?_; rintro e w1 ⟨rfl, hb⟩; replace O := O.call hb; clear hb) | ((with_reducible refine at_store 6 ?_); refine wpList_put_own O 1 (M.mat 16 ((M.mul (M.turnA 1 1) (M.turnA 1 k)).1)) rfl rfl rfl (s23 _) (M.mat_len2 _ _ _) (M.mat_one _ _) ?_; clear O; intro w1 O))
      go_roundw
      case rel => exact ⟨k + 1, by omega, by go_num, by rw [← HM.out]; exact O⟩
      case measure => simp [intOf]; omega
    · have q3 : ¬ (k : Int) < r := by omega
      obtain rfl : r = k := by omega
      go_wp2_with (first | ((with_reducible refine at_load 60 ?_); refine wpList_row_own O 1 rfl rfl Try.underlying23 (s23 _) ?_) | ((with_reducible refine at_store 4 ?_); refine wpList_put_own O 2 (M.mat 16 (M.turnA 1 r)) rfl rfl rfl (s23 _) (M.mat_len2 _ _ _) (M.mat_one _ _) ?_; clear O; intro w1 O))
      exact bodyPost_ret (v := .tuple #[arr 16 (M.turnA 1 r), .int .i64 0]) (res_cell2 rfl O 2 rfl rfl Try.underlying23 (s23 _) rfl) rfl ⟨by rw [HE.out], O.below⟩
theorem mul_turn_2_0 : M.mat 16 (M.mul (M.turnA 2 1) (M.turnA 2 0)).1 = M.mat 16 (M.turnA 2 1) := by kernel_rfl
theorem mul_turn_2_1 : M.mat 16 (M.mul (M.turnA 2 1) (M.turnA 2 1)).1 = M.mat 16 (M.turnA 2 2) := by kernel_rfl
theorem mul_turn_2_2 : M.mat 16 (M.mul (M.turnA 2 1) (M.turnA 2 2)).1 = M.mat 16 (M.turnA 2 3) := by kernel_rfl
theorem mul_turn_2 (k : Nat) (h : k < 3) : M.mat 16 (M.mul (M.turnA 2 1) (M.turnA 2 k)).1 = M.mat 16 (M.turnA 2 (k + 1)) := by
  match k, h with
  | 0, _ => exact mul_turn_2_0
  | 1, _ => exact mul_turn_2_1
  | 2, _ => exact mul_turn_2_2
set_option maxHeartbeats 8000000 in
theorem rturn_2 (q : Int) (w : World) : Calls Try.prog 23 #[.int .i64 2, .int .i64 q] w (RetTwo 16 w (M.turn 2 q)) := by
  have O := Own.start w
  have hu2 := Try.underlying23
  have E : M.turn 2 q = (M.turnA 2 (M.quarters q), 0) := by unfold M.turn; rw [if_pos (by decide)]; rfl
  have HE := Lib.hid E
  clear E
  have hr := M.quarters_lt q
  obtain ⟨t1, t2, t3⟩ := tmod4 q
  have HT := Lib.hid t3
  clear t3
  generalize M.quarters q = r at *
  have q0 : (0 : Int) ≤ r := by omega
  have q1 : (r : Int) < 4 := by omega
  go_enter Try.func23, Try.ntmps23
  have t0 : True := trivial
  go_wp2_with (first | ((with_reducible refine at_alloc 4 ?_); refine wpList_alloc_own O (M.mat 16 M.zero) zero23 ?_; clear O; intro g4 w1 O) | (go_at_call 17; refine (runit_any _).mono ?_; rintro e w1 ⟨rfl, hb⟩; replace O := O.call hb; clear hb) | ((with_reducible refine at_alloc 6 ?_); refine wpList_alloc_own O (M.mat 16 M.zero) zero23 ?_; clear O; intro g6 w1 O) | ((with_reducible refine at_store 6 ?_); refine wpList_put_own O 0 (M.mat 16 (M.unit)) rfl rfl rfl (s23 _) (M.mat_len2 _ _ _) (M.mat_one _ _) ?_; clear O; intro w1 O) | ((with_reducible refine at_alloc 7 ?_); refine wpList_alloc_own O (M.mat 16 M.zero) zero23 ?_; clear O; intro g7 w1 O) | ((with_reducible refine at_store 7 ?_); refine wpList_put_own O 0 (M.mat 16 (M.unit)) rfl rfl rfl (s23 _) (M.mat_len2 _ _ _) (M.mat_one _ _) ?_; clear O; intro w1 O) | ((with_reducible refine at_store 34 ?_); refine wpList_set_own O 0 (.int .i64 (0)) rfl (by simp [M.mat_len]) rfl rfl size3 rfl rfl ?_; clear O ; intro w1 O) | ((with_reducible refine at_store 35 ?_); refine wpList_set_own O 0 (.int .i64 (0)) rfl (by simp [M.mat_len]) rfl rfl size3 rfl rfl ?_; clear O ; intro w1 O) | ((with_reducible refine at_store 44 ?_); refine wpList_set_own O 0 (.int .i64 (65536)) rfl (by simp [M.mat_len]) rfl rfl size3 rfl rfl ?_; clear O ; intro w1 O) | ((with_reducible refine at_store 45 ?_); refine wpList_set_own O 0 (.int .i64 (-65536)) rfl (by simp [M.mat_len]) rfl rfl size3 rfl rfl ?_; clear O ; intro w1 O))
  have O2 : Own w w1 [(g7, 23, M.mat 16 (M.turnA 2 1)), (g6, 23, M.mat 16 (M.turnA 2 0)), (g4, 23, M.mat 16 M.zero)] := by rw [turnA_0]; exact O
  clear O
  go_loopw [10] (fun x wr => ∃ k : Nat, k ≤ r ∧ x = .int .i64 k ∧ Own w wr [(g7, 23, M.mat 16 (M.turnA 2 1)), (g6, 23, M.mat 16 (M.turnA 2 k)), (g4, 23, M.mat 16 M.zero)]) (fun x _ => r - (intOf x).toNat)
  case atStart => exact ⟨0, by omega, rfl, O2⟩
  case round =>
    clear O2
    obtain ⟨k, hk, rfl, O⟩ := hrel
    have q2 : (0 : Int) ≤ k := by omega
    have t3 := HT.out
    by_cases hlt : k < r
    · have q3 : (k : Int) < r := by omega
      have HM := Lib.hid (mul_turn_2 k (by omega))
      go_wp2_with (first | ((with_reducible refine at_load 55 ?_); refine wpList_row_own O 0 rfl rfl Try.underlying23 (s23 _) ?_) | ((with_reducible refine at_load 56 ?_); refine wpList_row_own O 1 rfl rfl Try.underlying23 (s23 _) ?_) | (go_at_call 10; refine (rmul_any (M.turnA 2 1) (M.turnA 2 k) _).mono ?_; rintro e w1 ⟨rfl, hb⟩; replace O := O.call hb; clear hb) | ((with_reducible refine at_store 6 ?_); refine wpList_put_own O 1 (M.mat 16 ((M.mul (M.turnA 2 1) (M.turnA 2 k)).1)) rfl rfl rfl (s23 _) (M.mat_len2 _ _ _) (M.mat_one _ _) ?_; clear O; intro w1 O))
      go_roundw
      case rel => exact ⟨k + 1, by omega, by go_num, by rw [← HM.out]; exact O⟩
      case measure => simp [intOf]; omega
    · have q3 : ¬ (k : Int) < r := by omega
      obtain rfl : r = k := by omega
      go_wp2_with (first | ((with_reducible refine at_load 60 ?_); refine wpList_row_own O 1 rfl rfl Try.underlying23 (s23 _) ?_) | ((with_reducible refine at_store 4 ?_); refine wpList_put_own O 2 (M.mat 16 (M.turnA 2 r)) rfl rfl rfl (s23 _) (M.mat_len2 _ _ _) (M.mat_one _ _) ?_; clear O; intro w1 O))
      exact bodyPost_ret (v := .tuple #[arr 16 (M.turnA 2 r), .int .i64 0]) (res_cell2 rfl O 2 rfl rfl Try.underlying23 (s23 _) rfl) rfl ⟨by rw [HE.out], O.below⟩
theorem rturn_any (axis q : Int) (w : World) : Calls Try.prog 23 #[.int .i64 axis, .int .i64 q] w (RetTwo 16 w (M.turn axis q)) := by
  by_cases h : axis < 0 ∨ 3 ≤ axis
  · exact rturn_no axis q h w
  · obtain rfl | rfl | rfl : axis = 0 ∨ axis = 1 ∨ axis = 2 := by omega
    · exact rturn_0 q w
    · exact rturn_1 q w
    · exact rturn_2 q w
end Go.Proofs.Ytidaffgfhmbomaa
