/- Contract of Mul. -/
import Derived.Test.YthcieapfpgejdaaFlip4
namespace Go.Proofs.Ythcieapfpgejdaa
open Go.ChangeShapes Go.WideShapes Go.ChangeAt Go.RowKit
set_option linter.unusedVariables false
set_option linter.unusedSimpArgs false

/-- How a matrix, or another array, and a number are handed back. -/
def RetTwo (n : Nat) (w : World) (r : (Nat → Int) × Int) (e : Ending) (w' : World) : Prop := e = .returned (.tuple #[arr n r.1, .int .i64 r.2]) ∧ Below w.heap.size w w'
theorem built23z : Try.prog.built 27 [] = some (M.mat 16 M.zero).toArray := by kernel_rfl
theorem build23z (w : World) : (Instr.build 27 #[]).run Try.prog w = .ok (arr 16 M.zero) w := run_build w 27 _ _ built23z
theorem built32z : Try.prog.built 61 [] = some (M.mat 4 M.zero).toArray := by kernel_rfl
theorem build32z (w : World) : (Instr.build 61 #[]).run Try.prog w = .ok (arr 4 M.zero) w := run_build w 61 _ _ built32z
set_option maxHeartbeats 2000000 in
theorem mul_no1 (a b : Nat → Int) (ha : M.right a = false) (w : World) : Calls Try.prog 36 #[arr 16 a, arr 16 b] w (RetTwo 16 w (M.mul a b)) := by
  have O := Own.start w
  have hu2 := Try.underlying27
  have hz := build23z
  have E : M.mul a b = (M.zero, 1) := by simp [M.mul, ha]
  have HE := Lib.hid E
  clear E
  go_enter Try.func36, Try.ntmps36
  go_wp2_with (first | ((with_reducible refine at_box 2 ?_); refine wpList_box_own O (M.mat 16 a) rfl ?_; clear O; intro g2 w1 O) | ((with_reducible refine at_box 3 ?_); refine wpList_box_own O (M.mat 16 b) rfl ?_; clear O; intro g3 w1 O) | ((with_reducible refine at_alloc 4 ?_); refine wpList_alloc_own O (M.mat 16 M.zero) zero23 ?_; clear O; intro g4 w1 O) | ((with_reducible refine at_load 10 ?_); refine wpList_row_own O 2 rfl rfl Try.underlying27 (s23 _) ?_) | (go_at_call 34; refine (right_any _ _).mono ?_; rintro e w1 ⟨rfl, hb⟩; replace O := O.call hb; clear hb) | ((with_reducible refine at_load 14 ?_); refine wpList_rowg_own rfl O 1 rfl rfl Try.underlying27 (s23 _) ?_) | ((with_reducible refine at_build 18 ?_); refine wpList_build_own [] (M.mat 16 M.zero).toArray ?_ built23z ?_; (focus simp)) | ((with_reducible refine at_store 4 ?_); refine wpList_put_own O 0 (M.mat 16 (M.zero)) rfl rfl rfl (s23 _) (M.mat_len2 _ _ _) (M.mat_one _ _) ?_; clear O; intro w1 O))
  exact bodyPost_ret (v := .tuple #[arr 16 M.zero, .int .i64 1]) (res_cell2 rfl O 0 rfl rfl Try.underlying27 (s23 _) rfl) rfl ⟨by rw [HE.out], O.below⟩
set_option maxHeartbeats 2000000 in
theorem mul_no2 (a b : Nat → Int) (ha : M.right a = true) (hb : M.right b = false) (w : World) : Calls Try.prog 36 #[arr 16 a, arr 16 b] w (RetTwo 16 w (M.mul a b)) := by
  have O := Own.start w
  have hu2 := Try.underlying27
  have hz := build23z
  have E : M.mul a b = (M.zero, 1) := by simp [M.mul, ha, hb]
  have HE := Lib.hid E
  clear E
  go_enter Try.func36, Try.ntmps36
  go_wp2_with (first | ((with_reducible refine at_box 2 ?_); refine wpList_box_own O (M.mat 16 a) rfl ?_; clear O; intro g2 w1 O) | ((with_reducible refine at_box 3 ?_); refine wpList_box_own O (M.mat 16 b) rfl ?_; clear O; intro g3 w1 O) | ((with_reducible refine at_alloc 4 ?_); refine wpList_alloc_own O (M.mat 16 M.zero) zero23 ?_; clear O; intro g4 w1 O) | ((with_reducible refine at_load 10 ?_); refine wpList_row_own O 2 rfl rfl Try.underlying27 (s23 _) ?_) | (go_at_call 34; refine (right_any _ _).mono ?_; rintro e w1 ⟨rfl, hb⟩; replace O := O.call hb; clear hb) | ((with_reducible refine at_load 14 ?_); refine wpList_rowg_own rfl O 1 rfl rfl Try.underlying27 (s23 _) ?_) | ((with_reducible refine at_build 18 ?_); refine wpList_build_own [] (M.mat 16 M.zero).toArray ?_ built23z ?_; (focus simp)) | ((with_reducible refine at_store 4 ?_); refine wpList_put_own O 0 (M.mat 16 (M.zero)) rfl rfl rfl (s23 _) (M.mat_len2 _ _ _) (M.mat_one _ _) ?_; clear O; intro w1 O))
  exact bodyPost_ret (v := .tuple #[arr 16 M.zero, .int .i64 1]) (res_cell2 rfl O 0 rfl rfl Try.underlying27 (s23 _) rfl) rfl ⟨by rw [HE.out], O.below⟩
set_option maxHeartbeats 8000000 in
theorem mul_yes (a b : Nat → Int) (ha : M.right a = true) (hb : M.right b = true) (w : World) : Calls Try.prog 36 #[arr 16 a, arr 16 b] w (RetTwo 16 w (M.mul a b)) := by
  have O := Own.start w
  have hu2 := Try.underlying27
  have hz := build23z
  have HA := Lib.hid ha
  have HB := Lib.hid hb
  go_enter Try.func36, Try.ntmps36
  go_wp2_with (first | ((with_reducible refine at_box 2 ?_); refine wpList_box_own O (M.mat 16 a) rfl ?_; clear O; intro g2 w1 O) | ((with_reducible refine at_box 3 ?_); refine wpList_box_own O (M.mat 16 b) rfl ?_; clear O; intro g3 w1 O) | ((with_reducible refine at_alloc 4 ?_); refine wpList_alloc_own O (M.mat 16 M.zero) zero23 ?_; clear O; intro g4 w1 O) | ((with_reducible refine at_load 10 ?_); refine wpList_row_own O 2 rfl rfl Try.underlying27 (s23 _) ?_) | (go_at_call 34; refine (right_any _ _).mono ?_; rintro e w1 ⟨rfl, hb⟩; replace O := O.call hb; clear hb) | ((with_reducible refine at_load 14 ?_); refine wpList_rowg_own rfl O 1 rfl rfl Try.underlying27 (s23 _) ?_) | ((with_reducible refine at_alloc 6 ?_); refine wpList_alloc_own O (M.mat 16 M.zero) zero23 ?_; clear O; intro g6 w1 O) | ((with_reducible refine at_load 19 ?_); refine wpList_row_own O 2 rfl rfl Try.underlying27 (s23 _) ?_) | (go_at_call 45; refine (flip_any b _).mono ?_; rintro e w1 ⟨rfl, hb⟩; replace O := O.call hb; clear hb) | ((with_reducible refine at_alloc 7 ?_); refine wpList_alloc_own O (M.mat 16 M.zero) zero23 ?_; clear O; intro g7 w1 O) | ((with_reducible refine at_store 7 ?_); refine wpList_put_own O 0 (M.mat 16 (M.flip b)) rfl rfl rfl (s23 _) (M.mat_len2 _ _ _) (M.mat_one _ _) ?_; clear O; intro w1 O))
  clear ha hb
  go_loopw [21] (fun v wr => ∃ i : Nat, i ≤ 4 ∧ v = .int .i64 i ∧ Own w wr [(g7, 27, M.mat 16 (M.flip b)), (g6, 27, M.mat 16 (M.prodK a b (4 * i))), (g4, 27, M.mat 16 M.zero), (g3, 27, M.mat 16 b), (g2, 27, M.mat 16 a)]) (fun v _ => 4 - (intOf v).toNat)
  case atStart => exact ⟨0, by omega, rfl, by rw [Nat.mul_zero, M.prodK_0]; exact O⟩
  case round =>
    clear O
    obtain ⟨i, hi, rfl, O⟩ := hrel
    have q0 : (0 : Int) ≤ i := by omega
    by_cases hlt : i < 4
    · have q1 : (i : Int) < 4 := by omega
      go_wp2_with fail
      obtain ⟨wo, rfl⟩ : ∃ wo : World, wo = wr := ⟨_, rfl⟩
      go_loopw [24] (fun v wr => ∃ k : Nat, k ≤ 4 ∧ v = .int .i64 k ∧ Own w wr [(g7, 27, M.mat 16 (M.flip b)), (g6, 27, M.mat 16 (M.prodK a b (4 * i + k))), (g4, 27, M.mat 16 M.zero), (g3, 27, M.mat 16 b), (g2, 27, M.mat 16 a)]) (fun v _ => 4 - (intOf v).toNat)
      case atStart => exact ⟨0, by omega, rfl, O⟩
      case round =>
        clear O
        obtain ⟨k, hk, rfl, O⟩ := hrel
        have q2 : (0 : Int) ≤ k := by omega
        by_cases hlk : k < 4
        · have q3 : (k : Int) < 4 := by omega
          have hrf := M.row_flip b k hlk
          have hp : M.prod a b (4 * i + k) = M.dot (M.row a i) (M.row (M.flip b) k) := by rw [M.prod_at a b i k hlk]; exact M.dot_ext (fun _ _ => rfl) (fun n hn => (hrf n hn).symm)
          have HP := Lib.hid hp
          have HR := Lib.hid (M.row_rng HA.out hlt)
          have HC : Hid (∀ j, j < 4 → -268435456 ≤ M.row (M.flip b) k j ∧ M.row (M.flip b) k j ≤ 268435456) := Lib.hid fun j hj => by rw [hrf j hj]; exact M.col_rng HB.out hlk j hj
          clear hp hrf
          go_wp2_with fail
          refine region_V (fun w2 => Own w w2 [(g7, 27, M.mat 16 (M.flip b)), (g6, 27, M.mat 16 (M.prodK a b (4 * i + k))), (g4, 27, M.mat 16 M.zero), (g3, 27, M.mat 16 b), (g2, 27, M.mat 16 a)]) [0, 1, 2, 3, 4, 5, 6, 7, 8, 9, 10] [some 27, some 28, some 29, some 30, some 31, some 32, some 33, some 34, some 35, some 36, some 37] [.int .i64 i, .int .i64 k, .int .i64 ((i : Int) * 4 + k), arr 16 a, .int .i64 i, arr 4 (M.row a i), arr 16 (M.flip b), .int .i64 k, arr 4 (M.row (M.flip b) k), .int .i64 (M.dot (M.row a i) (M.row (M.flip b) k)), .pointer (some ⟨g6, i * 4 + k, none⟩)] 1 (by kernel_rfl) (by kernel_rfl) (by rfl) (by rfl) (O.drew) (fun F hF => ?_)
          simp only [fillD, Act.put, List.setIfInBounds_toArray, List.set_cons_zero, List.set_cons_succ] at hF
          subst hF
          refine ⟨⟨does_want rfl (by rfl) (fun w' O K hK => ?_), does_want rfl (by rfl) (fun w' O K hK => ?_), does_want rfl (by rfl) (fun w' O K hK => ?_), does_want rfl (by rfl) (fun w' O K hK => ?_), does_want rfl (by rfl) (fun w' O K hK => ?_), does_want rfl (by rfl) (fun w' O K hK => ?_), does_want rfl (by rfl) (fun w' O K hK => ?_), does_want rfl (by rfl) (fun w' O K hK => ?_), does_want rfl (by rfl) (fun w' O K hK => ?_), does_want rfl (by rfl) (fun w' O K hK => ?_), does_want rfl (by rfl) (fun w' O K hK => ?_), trivial⟩, fun w' O => ?_⟩
          · go_simp
            exact hK _ O
          · go_simp
            exact hK _ O
          · go_simp
            go_at_call 48
            refine (place_any i k _ hlt hlk).mono ?_
            rintro e w2 ⟨rfl, rfl⟩
            exact hK _ O
          · exact wp_row_own O 4 rfl rfl Try.underlying27 (s23 _) (hK _ O)
          · go_simp
            exact hK _ O
          · go_simp
            go_at_call 47
            refine (row_any a i _ hlt).mono ?_
            rintro e w2 ⟨rfl, hb⟩
            exact hK _ (O.call hb)
          · exact wp_row_own O 0 rfl rfl Try.underlying27 (s23 _) (hK _ O)
          · go_simp
            exact hK _ O
          · go_simp
            go_at_call 47
            refine (row_any (M.flip b) k _ hlk).mono ?_
            rintro e w2 ⟨rfl, hb⟩
            exact hK _ (O.call hb)
          · go_simp
            go_at_call 46
            refine (product_any _ _ _ HR.out HC.out).mono ?_
            rintro e w2 ⟨rfl, hb⟩
            exact hK _ (O.call hb)
          · exact wp_index_own Try.underlying27 sizeOf3 (by decide) (i * 4 + k) rfl rfl (by omega) (by omega) (hK _ O)
          refine wpAny_want (i := 11) (by kernel_rfl) rfl (by rfl) (fun K hK => ?_)
          refine wp_set_own O 1 (.int .i64 (M.dot (M.row a i) (M.row (M.flip b) k))) rfl (by rw [M.mat_len]; omega) rfl rfl size3 rfl rfl fun w9 O9 => hK _ _ ?_
          clear O
          have O := O9
          clear O9
          clear hK K
          try simp only [Act.put, List.setIfInBounds_toArray, List.set_cons_zero, List.set_cons_succ]
          refine wpAny_done (by kernel_rfl) ?_ _
          go_wp2_with fail
          go_roundw
          case rel => exact ⟨k + 1, by omega, by go_num, by
            have e := M.prodK_set a b (4 * i + k) (by omega) HP.out
            rw [show 4 * i + (k + 1) = 4 * i + k + 1 by omega, ← e, Nat.mul_comm 4 i]
            rw [Nat.mul_comm 4 i] at O
            exact O⟩
          case measure => simp [intOf]; omega
        · have q3 : ¬ (k : Int) < 4 := by omega
          obtain rfl : k = 4 := by omega
          go_wp2_with fail
          go_roundw
          case rel => exact ⟨i + 1, by omega, by go_num, by rw [show 4 * (i + 1) = 4 * i + 4 by omega]; exact O⟩
          case measure => simp [intOf]; omega
    · have q1 : ¬ (i : Int) < 4 := by omega
      obtain rfl : i = 4 := by omega
      rw [M.prodK_end] at O
      cases hc : M.right (M.prod a b)
      · have E : M.mul a b = (M.zero, 4) := by simp [M.mul, HA.out, HB.out, hc]
        have HE := Lib.hid E
        clear E
        go_wp2_with (first | ((with_reducible refine at_load 40 ?_); refine wpList_row_own O 1 rfl rfl Try.underlying27 (s23 _) ?_) | (go_at_call 34; refine (right_any _ _).mono ?_; rintro e w1 ⟨rfl, hb⟩; replace O := O.call hb; clear hb) | ((with_reducible refine at_build 43 ?_); refine wpList_build_own [] (M.mat 16 M.zero).toArray ?_ built23z ?_; (focus simp)) | ((with_reducible refine at_store 4 ?_); refine wpList_put_own O 2 (M.mat 16 (M.zero)) rfl rfl rfl (s23 _) (M.mat_len2 _ _ _) (M.mat_one _ _) ?_; clear O; intro w1 O))
        exact bodyPost_ret (v := .tuple #[arr 16 M.zero, .int .i64 4]) (res_cell2 rfl O 2 rfl rfl Try.underlying27 (s23 _) rfl) rfl ⟨by rw [HE.out], O.below⟩
      · have E : M.mul a b = (M.prod a b, 0) := by simp [M.mul, HA.out, HB.out, hc]
        have HE := Lib.hid E
        clear E
        go_wp2_with (first | ((with_reducible refine at_load 40 ?_); refine wpList_row_own O 1 rfl rfl Try.underlying27 (s23 _) ?_) | (go_at_call 34; refine (right_any _ _).mono ?_; rintro e w1 ⟨rfl, hb⟩; replace O := O.call hb; clear hb) | ((with_reducible refine at_load 44 ?_); refine wpList_row_own O 1 rfl rfl Try.underlying27 (s23 _) ?_) | ((with_reducible refine at_store 4 ?_); refine wpList_put_own O 2 (M.mat 16 (M.prod a b)) rfl rfl rfl (s23 _) (M.mat_len2 _ _ _) (M.mat_one _ _) ?_; clear O; intro w1 O))
        exact bodyPost_ret (v := .tuple #[arr 16 (M.prod a b), .int .i64 0]) (res_cell2 rfl O 2 rfl rfl Try.underlying27 (s23 _) rfl) rfl ⟨by rw [HE.out], O.below⟩
theorem mul_any (a b : Nat → Int) (w : World) : Calls Try.prog 36 #[arr 16 a, arr 16 b] w (RetTwo 16 w (M.mul a b)) := by
  cases ha : M.right a
  · exact mul_no1 a b ha w
  · cases hb : M.right b
    · exact mul_no2 a b ha hb w
    · exact mul_yes a b ha hb w
end Go.Proofs.Ythcieapfpgejdaa
