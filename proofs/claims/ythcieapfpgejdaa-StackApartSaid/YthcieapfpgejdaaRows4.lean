/- Contracts: row, among, brought, Right, fits over a matrix. -/
import Derived.Test.YthcieapfpgejdaaBase
namespace Go.Proofs.Ythcieapfpgejdaa
open Go.ChangeShapes Go.WideShapes Go.ChangeAt Go.RowKit
set_option linter.unusedVariables false

def rowK (m : Nat → Int) (i k j : Nat) : Int := if j < k then M.row m i j else 0
theorem rowK_set (m : Nat → Int) (i k : Nat) (hk : k < 4) : (M.mat 4 (rowK m i k)).set k (.int .i64 (m (i * 4 + k))) = M.mat 4 (rowK m i (k + 1)) :=
  M.mat_set_to hk (by simp [rowK, M.row, Nat.mul_comm]) fun j _ hj => by
    simp only [rowK]
    by_cases h : j < k
    · rw [if_pos h, if_pos (by omega)]
    · rw [if_neg h, if_neg (by omega)]
theorem rowK_end (m : Nat → Int) (i : Nat) : M.mat 4 (rowK m i 4) = M.mat 4 (M.row m i) := M.mat_ext fun j hj => by simp [rowK, hj]
set_option maxHeartbeats 2000000 in
theorem row_any (m : Nat → Int) (i : Nat) (w : World) (hi : i < 4) : Calls Try.prog 47 #[arr 16 m, .int .i64 i] w fun e w' => e = .returned (arr 4 (M.row m i)) ∧ Below w.heap.size w w' := by
  have O := Own.start w
  have hu := Try.underlying61
  have hu2 := Try.underlying27
  have h1 : (0 : Int) ≤ i := by omega
  have h3 : (i : Int) < 4 := by omega
  go_enter Try.func47, Try.ntmps47
  go_wp2_with (first | ((with_reducible refine at_box 2 ?_); refine wpList_box_own O (M.mat 16 m) rfl ?_; clear O; intro g2 w1 O) | ((with_reducible refine at_alloc 4 ?_); refine wpList_alloc_own O (M.mat 4 M.zero) zero32 ?_; clear O; intro g4 w2 O) | ((with_reducible refine at_alloc 5 ?_); refine wpList_alloc_own O (M.mat 4 M.zero) zero32 ?_; clear O; intro g5 w3 O))
  go_loopw [7] (fun v wr => ∃ k : Nat, k ≤ 4 ∧ v = .int .i64 k ∧ Own w wr [(g5, 61, M.mat 4 (rowK m i k)), (g4, 61, M.mat 4 M.zero), (g2, 27, M.mat 16 m)]) (fun v _ => 4 - (intOf v).toNat)
  case atStart => exact ⟨0, by omega, rfl, O⟩
  case round =>
    clear O
    obtain ⟨k, hk, rfl, O⟩ := hrel
    have q0 : (0 : Int) ≤ k := by omega
    by_cases hlt : k < 4
    · have q1 : (k : Int) < 4 := by omega
      go_wp2_with (first | (go_at_call 48; refine (place_any i k _ hi hlt).mono ?_; rintro e w' ⟨rfl, rfl⟩; have c := O.cell 2 rfl (M.mat_get (a := m) (i := i * 4 + k) (by omega))) | ((with_reducible refine at_store 16 ?_); refine wpList_set_own O 0 (.int .i64 (m (i * 4 + k))) rfl (by rw [M.mat_len]; omega) rfl rfl size3 rfl rfl ?_; clear O c; intro w4 O))
      go_roundw
      case rel => exact ⟨k + 1, by omega, by go_num, by rw [← rowK_set m i k hlt]; exact O⟩
      case measure => simp [intOf]; omega
    · have q1 : ¬ (k : Int) < 4 := by omega
      obtain rfl : k = 4 := by omega
      go_wp2_with (first | ((with_reducible refine at_load 18 ?_); refine wpList_row_own O 0 rfl rfl Try.underlying61 (s32 _) ?_) | ((with_reducible refine at_store 4 ?_); refine wpList_put_own O 1 (M.mat 4 (rowK m i 4)) rfl rfl rfl (s32 _) (M.mat_len2 _ _ _) (M.mat_one _ _) ?_; clear O; intro w5 O))
      exact bodyPost_ret (v := arr 4 (rowK m i 4)) (res_cell rfl O 1 rfl rfl Try.underlying61 (s32 _)) rfl ⟨by rw [arr, rowK_end], O.below⟩

/-- Of the numbers ahead of k each is from -most to most. -/
def upto (k : Nat) (most : Int) (a : Nat → Int) : Prop := ∀ i, i < k → M.inB most (a i) = true
def clampK (m : Nat → Int) (k j : Nat) : Int := if j < k then M.clamp (m j) else m j
theorem clampK_set (m : Nat → Int) (k : Nat) (hk : k < 16) : (M.mat 16 (clampK m k)).set k (.int .i64 (M.clamp (m k))) = M.mat 16 (clampK m (k + 1)) :=
  M.mat_set_to hk (by simp [clampK]) fun j _ hj => by
    simp only [clampK]
    by_cases h : j < k
    · rw [if_pos h, if_pos (by omega)]
    · rw [if_neg h, if_neg (by omega)]
theorem clampK_end (m : Nat → Int) : M.mat 16 (clampK m 16) = M.mat 16 (fun i => M.clamp (m i)) := M.mat_ext fun j hj => by simp [clampK, hj]
set_option maxHeartbeats 2000000 in
theorem brought_any (m : Nat → Int) (w : World) : Calls Try.prog 44 #[arr 16 m] w fun e w' => e = .returned (arr 16 (fun i => M.clamp (m i))) ∧ Below w.heap.size w w' := by
  have O := Own.start w
  have hu2 := Try.underlying27
  go_enter Try.func44, Try.ntmps44
  go_wp2_with (first | ((with_reducible refine at_box 1 ?_); refine wpList_box_own O (M.mat 16 m) rfl ?_; clear O; intro g1 w1 O) | ((with_reducible refine at_alloc 2 ?_); refine wpList_alloc_own O (M.mat 16 M.zero) zero23 ?_; clear O; intro g2 w2 O))
  go_loopw [4] (fun v wr => ∃ k : Nat, k ≤ 16 ∧ v = .int .i64 k ∧ Own w wr [(g2, 27, M.mat 16 M.zero), (g1, 27, M.mat 16 (clampK m k))]) (fun v _ => 16 - (intOf v).toNat)
  case atStart => exact ⟨0, by omega, rfl, O⟩
  case round =>
    clear O
    obtain ⟨k, hk, rfl, O⟩ := hrel
    have q0 : (0 : Int) ≤ k := by omega
    by_cases hlt : k < 16
    · have q1 : (k : Int) < 16 := by omega
      have c := O.cell 1 rfl (M.mat_get (a := clampK m k) (i := k) hlt)
      have ck : clampK m k k = m k := by simp [clampK]
      rw [ck] at c
      have CK := Lib.hid ck
      clear ck
      have S : ∀ v : Int, M.clamp (m k) = v → (M.mat 16 (clampK m k)).set k (.int .i64 v) = M.mat 16 (clampK m (k + 1)) := fun v h => by rw [← h]; exact clampK_set m k hlt
      have HS := Lib.hid S
      clear S
      by_cases ha : m k < -268435456
      · go_wp2_with ((with_reducible refine at_store 13 ?_); refine wpList_set_own O 1 (.int .i64 (-268435456)) rfl (by rw [M.mat_len]; omega) rfl rfl size3 rfl rfl ?_; clear O c; intro w4 O)
        go_roundw
        case rel => exact ⟨k + 1, by omega, by go_num, by rw [← HS.out (-268435456) (by unfold M.clamp; omega)]; exact O⟩
        case measure => simp [intOf]; omega
      · by_cases hb : 268435456 < m k
        · go_wp2_with ((with_reducible refine at_store 13 ?_); refine wpList_set_own O 1 (.int .i64 (268435456)) rfl (by rw [M.mat_len]; omega) rfl rfl size3 rfl rfl ?_; clear O c; intro w4 O)
          go_roundw
          case rel => exact ⟨k + 1, by omega, by go_num, by rw [← HS.out (268435456) (by unfold M.clamp; omega)]; exact O⟩
          case measure => simp [intOf]; omega
        · go_wp2_with ((with_reducible refine at_store 13 ?_); refine wpList_set_own O 1 (.int .i64 (m k)) rfl (by rw [M.mat_len]; omega) rfl rfl size3 rfl rfl ?_; clear O c; intro w4 O)
          go_roundw
          case rel => exact ⟨k + 1, by omega, by go_num, by rw [← HS.out (m k) (by unfold M.clamp; omega)]; exact O⟩
          case measure => simp [intOf]; omega
    · have q1 : ¬ (k : Int) < 16 := by omega
      obtain rfl : k = 16 := by omega
      go_wp2_with (first | ((with_reducible refine at_load 15 ?_); refine wpList_row_own O 1 rfl rfl Try.underlying27 (s23 _) ?_) | ((with_reducible refine at_store 2 ?_); refine wpList_put_own O 0 (M.mat 16 (clampK m 16)) rfl rfl rfl (s23 _) (M.mat_len2 _ _ _) (M.mat_one _ _) ?_; clear O; intro w5 O))
      exact bodyPost_ret (v := arr 16 (clampK m 16)) (res_cell rfl O 0 rfl rfl Try.underlying27 (s23 _)) rfl ⟨by rw [arr, clampK_end], O.below⟩
set_option maxHeartbeats 2000000 in
theorem right_any (m : Nat → Int) (w : World) : Calls Try.prog 34 #[arr 16 m] w fun e w' => e = .returned (.bool (M.right m)) ∧ Below w.heap.size w w' := by
  have O := Own.start w
  have hu2 := Try.underlying27
  go_enter Try.func34, Try.ntmps34
  go_wp2_with ((with_reducible refine at_box 1 ?_); refine wpList_box_own O (M.mat 16 m) rfl ?_; clear O; intro g1 w1 O)
  refine region_V (fun w2 => Own w w2 [(g1, 27, M.mat 16 m)]) [0, 1, 2, 3] [some 3, some 4, some 5, some 6] [arr 16 m, arr 16 m, arr 16 (fun i => M.clamp (m i)), .bool (M.right m)] 1 (by kernel_rfl) (by kernel_rfl) (by rfl) (by rfl) (O.drew) (fun F hF => ?_)
  simp only [fillD, Act.put, List.setIfInBounds_toArray, List.set_cons_zero, List.set_cons_succ] at hF
  subst hF
  refine ⟨⟨does_want rfl (by rfl) (fun w' O K hK => ?_), does_want rfl (by rfl) (fun w' O K hK => ?_), does_want rfl (by rfl) (fun w' O K hK => ?_), does_want rfl (by rfl) (fun w' O K hK => ?_), trivial⟩, fun w' O => ?_⟩
  · exact wp_row_own O 0 rfl rfl Try.underlying27 (s23 _) (hK _ O)
  · exact wp_row_own O 0 rfl rfl Try.underlying27 (s23 _) (hK _ O)
  · go_simp
    go_at_call 44
    refine (brought_any m _).mono ?_
    rintro e w2 ⟨rfl, hb⟩
    exact hK _ (O.call hb)
  · refine wp_eq_mat Try.underlying27 Try.eqGuardType27 m (fun i => M.clamp (m i)) rfl rfl ?_
    rw [M.right_clamp]
    exact hK _ O
  refine wpAny_one (i := 4) (by kernel_rfl) rfl (fun K hK => ?_)
  go_simp
  refine hK _ _ ?_
  clear hK K
  try simp only [Act.put, List.setIfInBounds_toArray, List.set_cons_zero, List.set_cons_succ]
  refine wpAny_done (by kernel_rfl) ?_ _
  go_wp2_with fail
  go_ret
  exact ⟨rfl, O.below⟩
set_option maxHeartbeats 2000000 in
theorem rright_any (m : Nat → Int) (w : World) : Calls Try.prog 28 #[arr 16 m] w fun e w' => e = .returned (.bool (M.right m)) ∧ Below w.heap.size w w' := by
  have O := Own.start w
  have hu2 := Try.underlying27
  go_enter Try.func28, Try.ntmps28
  go_wp2_with ((with_reducible refine at_box 1 ?_); refine wpList_box_own O (M.mat 16 m) rfl ?_; clear O; intro g1 w1 O)
  go_loopw [3] (fun u wr => ∃ k : Nat, k ≤ 16 ∧ u = .int .i64 k ∧ upto k 268435456 m ∧ w1 = wr) (fun v _ => 16 - (intOf v).toNat)
  case atStart => exact ⟨0, by omega, rfl, fun i hi => absurd hi (by omega), rfl⟩
  case round =>
    obtain ⟨k, hk, rfl, hall, rfl⟩ := hrel
    have q0 : (0 : Int) ≤ k := by omega
    have HA := Lib.hid hall
    clear hall
    have hB := O.below
    by_cases hlt : k < 16
    · have q1 : (k : Int) < 16 := by omega
      have c := O.cell 0 rfl (M.mat_get (a := m) (i := k) hlt)
      cases hc : M.inB 268435456 (m k)
      · go_wp2_with (go_at_call 40; refine (fits_any _ _ _ (by decide) (by decide)).mono ?_; rintro e w' ⟨rfl, rfl⟩)
        go_ret
        exact ⟨by rw [M.right, M.allB_no hlt hc]; rfl, hB⟩
      · go_wp2_with (go_at_call 40; refine (fits_any _ _ _ (by decide) (by decide)).mono ?_; rintro e w' ⟨rfl, rfl⟩)
        go_roundw
        case rel => exact ⟨k + 1, by omega, by go_num, fun i hi => by
          by_cases e : i = k
          · subst e; exact hc
          · exact HA.out i (by omega), trivial⟩
        case measure => simp [intOf]; omega
    · have q1 : ¬ (k : Int) < 16 := by omega
      obtain rfl : k = 16 := by omega
      have E : M.right m = true := M.right_iff.2 fun i hi => M.inB_iff.1 (HA.out i hi)
      have HE := Lib.hid E
      clear E
      go_wp2_with fail
      go_ret
      exact ⟨by rw [HE.out]; rfl, hB⟩
end Go.Proofs.Ythcieapfpgejdaa
