/- Contracts: Flip, Unit, twice each. -/
import Derived.Test.YthcieapfpgejdaaRows4
namespace Go.Proofs.Ythcieapfpgejdaa
open Go.ChangeShapes Go.WideShapes Go.ChangeAt Go.RowKit
set_option linter.unusedVariables false

/-- Columns ahead of i, and of column i what is ahead of row k, have been laid. -/
def flipK (m : Nat → Int) (i k j : Nat) : Int := if j % 4 < i ∨ (j % 4 = i ∧ j / 4 < k) then M.flip m j else 0
theorem flipK_set (m : Nat → Int) (i k : Nat) (hi : i < 4) (hk : k < 4) : (M.mat 16 (flipK m i k)).set (k * 4 + i) (.int .i64 (m (i * 4 + k))) = M.mat 16 (flipK m i (k + 1)) := by
  refine M.mat_set_to (by omega) ?_ fun j hj hne => ?_
  · have e : (k * 4 + i) % 4 = i := by omega
    have e2 : (k * 4 + i) / 4 = k := by omega
    simp only [flipK, M.flip, e, e2]
    rw [if_pos (.inr ⟨trivial, by omega⟩), Nat.mul_comm]
  · simp only [flipK]
    by_cases h : j % 4 < i ∨ (j % 4 = i ∧ j / 4 < k)
    · rw [if_pos h, if_pos (by omega)]
    · rw [if_neg h, if_neg (by omega)]
theorem flipK_next (m : Nat → Int) (i : Nat) : M.mat 16 (flipK m i 4) = M.mat 16 (flipK m (i + 1) 0) := M.mat_ext fun j hj => by
  simp only [flipK]
  by_cases h : j % 4 < i + 1
  · rw [if_pos (by omega), if_pos (by omega)]
  · rw [if_neg (by omega), if_neg (by omega)]
theorem flipK_0 (m : Nat → Int) : M.mat 16 (flipK m 0 0) = M.mat 16 M.zero := M.mat_ext fun j hj => by simp [flipK, M.zero]
theorem flipK_end (m : Nat → Int) : M.mat 16 (flipK m 4 0) = M.mat 16 (M.flip m) := M.mat_ext fun j hj => by
  simp only [flipK]
  rw [if_pos (by omega)]
/-- The first k entries aslant have been laid. -/
def unitK (k j : Nat) : Int := if j / 4 = j % 4 ∧ j / 4 < k then 65536 else 0
theorem unitK_set (k : Nat) (hk : k < 4) : (M.mat 16 (unitK k)).set (k * 4 + k) (.int .i64 65536) = M.mat 16 (unitK (k + 1)) := by
  refine M.mat_set_to (by omega) ?_ fun j hj hne => ?_
  · have e : (k * 4 + k) % 4 = k := by omega
    have e2 : (k * 4 + k) / 4 = k := by omega
    simp only [unitK, e, e2]
    rw [if_pos ⟨trivial, by omega⟩]
  · simp only [unitK]
    by_cases h : j / 4 = j % 4 ∧ j / 4 < k
    · rw [if_pos h, if_pos (by omega)]
    · rw [if_neg h, if_neg (by omega)]
theorem unitK_0 : M.mat 16 (unitK 0) = M.mat 16 M.zero := M.mat_ext fun j hj => by simp [unitK, M.zero]
theorem unitK_end : M.mat 16 (unitK 4) = M.mat 16 M.unit := M.mat_ext fun j hj => by
  simp only [unitK, M.unit]
  by_cases h : j / 4 = j % 4
  · rw [if_pos ⟨h, by omega⟩, if_pos h]
  · rw [if_neg (by omega), if_neg h]
set_option maxHeartbeats 2000000 in
theorem unit_any (w : World) : Calls Try.prog 38 #[] w fun e w' => e = .returned (arr 16 M.unit) ∧ Below w.heap.size w w' := by
  have O := Own.start w
  have hu2 := Try.underlying27
  go_enter Try.func38, Try.ntmps38
  go_wp2_with (first | ((with_reducible refine at_alloc 0 ?_); refine wpList_alloc_own O (M.mat 16 M.zero) zero23 ?_; clear O; intro g0 w1 O) | ((with_reducible refine at_alloc 1 ?_); refine wpList_alloc_own O (M.mat 16 M.zero) zero23 ?_; clear O; intro g1 w2 O))
  go_loopw [3] (fun v wr => ∃ k : Nat, k ≤ 4 ∧ v = .int .i64 k ∧ Own w wr [(g1, 27, M.mat 16 (unitK k)), (g0, 27, M.mat 16 M.zero)]) (fun v _ => 4 - (intOf v).toNat)
  case atStart => exact ⟨0, by omega, rfl, by rw [unitK_0]; exact O⟩
  case round =>
    clear O
    obtain ⟨k, hk, rfl, O⟩ := hrel
    have q0 : (0 : Int) ≤ k := by omega
    by_cases hlt : k < 4
    · have q1 : (k : Int) < 4 := by omega
      go_wp2_with (first | (go_at_call 48; refine (place_any k k _ hlt hlt).mono ?_; rintro e w' ⟨rfl, rfl⟩) | ((with_reducible refine at_store 9 ?_); refine wpList_set_own O 0 (.int .i64 (65536)) rfl (by rw [M.mat_len]; omega) rfl rfl size3 rfl rfl ?_; clear O ; intro w4 O))
      go_roundw
      case rel => exact ⟨k + 1, by omega, by go_num, by rw [← unitK_set k hlt]; exact O⟩
      case measure => simp [intOf]; omega
    · have q1 : ¬ (k : Int) < 4 := by omega
      obtain rfl : k = 4 := by omega
      go_wp2_with (first | ((with_reducible refine at_load 11 ?_); refine wpList_row_own O 0 rfl rfl Try.underlying27 (s23 _) ?_) | ((with_reducible refine at_store 0 ?_); refine wpList_put_own O 1 (M.mat 16 (unitK 4)) rfl rfl rfl (s23 _) (M.mat_len2 _ _ _) (M.mat_one _ _) ?_; clear O; intro w5 O))
      exact bodyPost_ret (v := arr 16 (unitK 4)) (res_cell rfl O 1 rfl rfl Try.underlying27 (s23 _)) rfl ⟨by rw [arr, unitK_end], O.below⟩
theorem built23 : Try.prog.built 27 [(0, .int .i64 65536), (1, .int .i64 0), (2, .int .i64 0), (3, .int .i64 0), (4, .int .i64 0), (5, .int .i64 65536), (6, .int .i64 0), (7, .int .i64 0), (8, .int .i64 0), (9, .int .i64 0), (10, .int .i64 65536), (11, .int .i64 0), (12, .int .i64 0), (13, .int .i64 0), (14, .int .i64 0), (15, .int .i64 65536)] = some (M.mat 16 M.unit).toArray := by kernel_rfl
set_option maxHeartbeats 2000000 in
theorem runit_any (w : World) : Calls Try.prog 39 #[] w fun e w' => e = .returned (arr 16 M.unit) ∧ Below w.heap.size w w' := by
  have O := Own.start w
  have hu2 := Try.underlying27
  have hb : ∀ w, (Instr.build 27 #[(0, .int .i64 65536), (1, .int .i64 0), (2, .int .i64 0), (3, .int .i64 0), (4, .int .i64 0), (5, .int .i64 65536), (6, .int .i64 0), (7, .int .i64 0), (8, .int .i64 0), (9, .int .i64 0), (10, .int .i64 65536), (11, .int .i64 0), (12, .int .i64 0), (13, .int .i64 0), (14, .int .i64 0), (15, .int .i64 65536)]).run Try.prog w = .ok (arr 16 M.unit) w := fun w => run_build w 27 _ _ built23
  go_enter Try.func39, Try.ntmps39
  go_wp2_with (first | ((with_reducible refine at_alloc 0 ?_); refine wpList_alloc_own O (M.mat 16 M.zero) zero23 ?_; clear O; intro g0 w1 O) | ((with_reducible refine at_store 0 ?_); refine wpList_put_own O 0 (M.mat 16 (M.unit)) rfl rfl rfl (s23 _) (M.mat_len2 _ _ _) (M.mat_one _ _) ?_; clear O; intro w5 O))
  exact bodyPost_ret (v := arr 16 M.unit) (res_cell rfl O 0 rfl rfl Try.underlying27 (s23 _)) rfl ⟨rfl, O.below⟩
set_option maxHeartbeats 4000000 in
theorem flip_any (m : Nat → Int) (w : World) : Calls Try.prog 45 #[arr 16 m] w fun e w' => e = .returned (arr 16 (M.flip m)) ∧ Below w.heap.size w w' := by
  have O := Own.start w
  have hu2 := Try.underlying27
  go_enter Try.func45, Try.ntmps45
  go_wp2_with (first | ((with_reducible refine at_box 1 ?_); refine wpList_box_own O (M.mat 16 m) rfl ?_; clear O; intro g1 w1 O) | ((with_reducible refine at_alloc 2 ?_); refine wpList_alloc_own O (M.mat 16 M.zero) zero23 ?_; clear O; intro g2 w2 O) | ((with_reducible refine at_alloc 3 ?_); refine wpList_alloc_own O (M.mat 16 M.zero) zero23 ?_; clear O; intro g3 w3 O))
  go_loopw [6] (fun v wr => ∃ i : Nat, i ≤ 4 ∧ v = .int .i64 i ∧ Own w wr [(g3, 27, M.mat 16 (flipK m i 0)), (g2, 27, M.mat 16 M.zero), (g1, 27, M.mat 16 m)]) (fun v _ => 4 - (intOf v).toNat)
  case atStart => exact ⟨0, by omega, rfl, by rw [flipK_0]; exact O⟩
  case round =>
    clear O
    obtain ⟨i, hi, rfl, O⟩ := hrel
    have q0 : (0 : Int) ≤ i := by omega
    by_cases hlt : i < 4
    · have q1 : (i : Int) < 4 := by omega
      go_wp2_with fail
      obtain ⟨wo, rfl⟩ : ∃ wo : World, wo = wr := ⟨_, rfl⟩
      go_loopw [9] (fun v wr => ∃ k : Nat, k ≤ 4 ∧ v = .int .i64 k ∧ Own w wr [(g3, 27, M.mat 16 (flipK m i k)), (g2, 27, M.mat 16 M.zero), (g1, 27, M.mat 16 m)]) (fun v _ => 4 - (intOf v).toNat)
      case atStart => exact ⟨0, by omega, rfl, O⟩
      case round =>
        clear O
        obtain ⟨k, hk, rfl, O⟩ := hrel
        have q2 : (0 : Int) ≤ k := by omega
        by_cases hlk : k < 4
        · have q3 : (k : Int) < 4 := by omega
          have t0 : True := trivial
          go_wp2_with (first | (go_at_call 48; have t1 := t0; clear t0; refine (place_any k i _ hlk hlt).mono ?_; rintro e w' ⟨rfl, rfl⟩) | (go_at_call 48; refine (place_any i k _ hlt hlk).mono ?_; rintro e w' ⟨rfl, rfl⟩; have c := O.cell 2 rfl (M.mat_get (a := m) (i := i * 4 + k) (by omega))) | ((with_reducible refine at_store 20 ?_); refine wpList_set_own O 0 (.int .i64 (m (i * 4 + k))) rfl (by rw [M.mat_len]; omega) rfl rfl size3 rfl rfl ?_; clear O c; intro w4 O))
          go_roundw
          case rel => exact ⟨k + 1, by omega, by go_num, by rw [← flipK_set m i k hlt hlk]; exact O⟩
          case measure => simp [intOf]; omega
        · have q3 : ¬ (k : Int) < 4 := by omega
          obtain rfl : k = 4 := by omega
          go_wp2_with fail
          go_roundw
          case rel => exact ⟨i + 1, by omega, by go_num, by rw [← flipK_next]; exact O⟩
          case measure => simp [intOf]; omega
    · have q1 : ¬ (i : Int) < 4 := by omega
      obtain rfl : i = 4 := by omega
      go_wp2_with (first | ((with_reducible refine at_load 23 ?_); refine wpList_row_own O 0 rfl rfl Try.underlying27 (s23 _) ?_) | ((with_reducible refine at_store 2 ?_); refine wpList_put_own O 1 (M.mat 16 (flipK m 4 0)) rfl rfl rfl (s23 _) (M.mat_len2 _ _ _) (M.mat_one _ _) ?_; clear O; intro w5 O))
      exact bodyPost_ret (v := arr 16 (flipK m 4 0)) (res_cell rfl O 1 rfl rfl Try.underlying27 (s23 _)) rfl ⟨by rw [arr, flipK_end], O.below⟩
end Go.Proofs.Ythcieapfpgejdaa
