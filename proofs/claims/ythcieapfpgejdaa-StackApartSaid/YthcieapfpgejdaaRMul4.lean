/- Contract of the document's Mul. -/
import Derived.Test.YthcieapfpgejdaaMul4
namespace Go.Proofs.Ythcieapfpgejdaa
open Go.ChangeShapes Go.WideShapes Go.ChangeAt Go.RowKit
set_option linter.unusedVariables false
set_option linter.unusedSimpArgs false

set_option maxHeartbeats 2000000 in
theorem rmul_no1 (a b : Nat → Int) (ha : M.right a = false) (w : World) : Calls Try.prog 29 #[arr 16 a, arr 16 b] w (RetTwo 16 w (M.mul a b)) := by
  have O := Own.start w
  have hu2 := Try.underlying27
  have E : M.mul a b = (M.zero, 1) := by simp [M.mul, ha]
  have HE := Lib.hid E
  clear E
  go_enter Try.func29, Try.ntmps29
  go_wp2_with (first | ((with_reducible refine at_box 2 ?_); refine wpList_box_own O (M.mat 16 a) rfl ?_; clear O; intro g2 w1 O) | ((with_reducible refine at_box 3 ?_); refine wpList_box_own O (M.mat 16 b) rfl ?_; clear O; intro g3 w1 O) | ((with_reducible refine at_alloc 4 ?_); refine wpList_alloc_own O (M.mat 16 M.zero) zero23 ?_; clear O; intro g4 w1 O) | ((with_reducible refine at_load 11 ?_); refine wpList_row_own O 2 rfl rfl Try.underlying27 (s23 _) ?_) | (go_at_call 28; refine (rright_any _ _).mono ?_; rintro e w1 ⟨rfl, hb⟩; replace O := O.call hb; clear hb) | ((with_reducible refine at_load 15 ?_); refine wpList_rowg_own rfl O 1 rfl rfl Try.underlying27 (s23 _) ?_) | ((with_reducible refine at_build 19 ?_); refine wpList_build_own [] (M.mat 16 M.zero).toArray ?_ built23z ?_; (focus simp)) | ((with_reducible refine at_store 4 ?_); refine wpList_put_own O 0 (M.mat 16 (M.zero)) rfl rfl rfl (s23 _) (M.mat_len2 _ _ _) (M.mat_one _ _) ?_; clear O; intro w1 O))
  exact bodyPost_ret (v := .tuple #[arr 16 M.zero, .int .i64 1]) (res_cell2 rfl O 0 rfl rfl Try.underlying27 (s23 _) rfl) rfl ⟨by rw [HE.out], O.below⟩
set_option maxHeartbeats 2000000 in
theorem rmul_no2 (a b : Nat → Int) (ha : M.right a = true) (hb : M.right b = false) (w : World) : Calls Try.prog 29 #[arr 16 a, arr 16 b] w (RetTwo 16 w (M.mul a b)) := by
  have O := Own.start w
  have hu2 := Try.underlying27
  have E : M.mul a b = (M.zero, 1) := by simp [M.mul, ha, hb]
  have HE := Lib.hid E
  clear E
  go_enter Try.func29, Try.ntmps29
  go_wp2_with (first | ((with_reducible refine at_box 2 ?_); refine wpList_box_own O (M.mat 16 a) rfl ?_; clear O; intro g2 w1 O) | ((with_reducible refine at_box 3 ?_); refine wpList_box_own O (M.mat 16 b) rfl ?_; clear O; intro g3 w1 O) | ((with_reducible refine at_alloc 4 ?_); refine wpList_alloc_own O (M.mat 16 M.zero) zero23 ?_; clear O; intro g4 w1 O) | ((with_reducible refine at_load 11 ?_); refine wpList_row_own O 2 rfl rfl Try.underlying27 (s23 _) ?_) | (go_at_call 28; refine (rright_any _ _).mono ?_; rintro e w1 ⟨rfl, hb⟩; replace O := O.call hb; clear hb) | ((with_reducible refine at_load 15 ?_); refine wpList_rowg_own rfl O 1 rfl rfl Try.underlying27 (s23 _) ?_) | ((with_reducible refine at_build 19 ?_); refine wpList_build_own [] (M.mat 16 M.zero).toArray ?_ built23z ?_; (focus simp)) | ((with_reducible refine at_store 4 ?_); refine wpList_put_own O 0 (M.mat 16 (M.zero)) rfl rfl rfl (s23 _) (M.mat_len2 _ _ _) (M.mat_one _ _) ?_; clear O; intro w1 O))
  exact bodyPost_ret (v := .tuple #[arr 16 M.zero, .int .i64 1]) (res_cell2 rfl O 0 rfl rfl Try.underlying27 (s23 _) rfl) rfl ⟨by rw [HE.out], O.below⟩
set_option maxHeartbeats 8000000 in
theorem rmul_yes (a b : Nat → Int) (ha : M.right a = true) (hb : M.right b = true) (w : World) : Calls Try.prog 29 #[arr 16 a, arr 16 b] w (RetTwo 16 w (M.mul a b)) := by
  have O := Own.start w
  have hu2 := Try.underlying27
  have HA := Lib.hid ha
  have HB := Lib.hid hb
  go_enter Try.func29, Try.ntmps29
  go_wp2_with (first | ((with_reducible refine at_box 2 ?_); refine wpList_box_own O (M.mat 16 a) rfl ?_; clear O; intro g2 w1 O) | ((with_reducible refine at_box 3 ?_); refine wpList_box_own O (M.mat 16 b) rfl ?_; clear O; intro g3 w1 O) | ((with_reducible refine at_alloc 4 ?_); refine wpList_alloc_own O (M.mat 16 M.zero) zero23 ?_; clear O; intro g4 w1 O) | ((with_reducible refine at_load 11 ?_); refine wpList_row_own O 2 rfl rfl Try.underlying27 (s23 _) ?_) | (go_at_call 28; refine (rright_any _ _).mono ?_; rintro e w1 ⟨rfl, hb⟩; replace O := O.call hb; clear hb) | ((with_reducible refine at_load 15 ?_); refine wpList_rowg_own rfl O 1 rfl rfl Try.underlying27 (s23 _) ?_) | ((with_reducible refine at_alloc 6 ?_); refine wpList_alloc_own O (M.mat 16 M.zero) zero23 ?_; clear O; intro g6 w1 O))
  clear ha hb
  go_loopw [7] (fun v wr => ∃ i : Nat, i ≤ 4 ∧ v = .int .i64 i ∧ Own w wr [(g6, 27, M.mat 16 (M.prodK a b (4 * i))), (g4, 27, M.mat 16 M.zero), (g3, 27, M.mat 16 b), (g2, 27, M.mat 16 a)]) (fun v _ => 4 - (intOf v).toNat)
  case atStart => exact ⟨0, by omega, rfl, by rw [Nat.mul_zero, M.prodK_0]; exact O⟩
  case round =>
    clear O
    obtain ⟨i, hi, rfl, O⟩ := hrel
    have q0 : (0 : Int) ≤ i := by omega
    by_cases hlt : i < 4
    · have q1 : (i : Int) < 4 := by omega
      go_wp2_with fail
      obtain ⟨wo, rfl⟩ : ∃ wo : World, wo = wr := ⟨_, rfl⟩
      go_loopw [8] (fun v wr => ∃ k : Nat, k ≤ 4 ∧ v = .int .i64 k ∧ Own w wr [(g6, 27, M.mat 16 (M.prodK a b (4 * i + k))), (g4, 27, M.mat 16 M.zero), (g3, 27, M.mat 16 b), (g2, 27, M.mat 16 a)]) (fun v _ => 4 - (intOf v).toNat)
      case atStart => exact ⟨0, by omega, rfl, O⟩
      case round =>
        clear O
        obtain ⟨k, hk, rfl, O⟩ := hrel
        have q2 : (0 : Int) ≤ k := by omega
        by_cases hlk : k < 4
        · have q3 : (k : Int) < 4 := by omega
          have HP := Lib.hid (M.prod_at a b i k hlk)
          have HR := Lib.hid (M.row_rng HA.out hlt)
          have HC := Lib.hid (M.col_rng HB.out hlk)
          have HS := Lib.hid (M.part_le HR.out HC.out)
          go_wp2_with fail
          obtain ⟨wp, rfl⟩ : ∃ wp : World, wp = wr := ⟨_, rfl⟩
          go_loopw [9, 10] (fun u v wr => ∃ n : Nat, n ≤ 4 ∧ v = .int .i64 n ∧ u = .int .i64 (M.part (M.row a i) (M.col b k) n) ∧ Own w wr [(g6, 27, M.mat 16 (M.prodK a b (4 * i + k))), (g4, 27, M.mat 16 M.zero), (g3, 27, M.mat 16 b), (g2, 27, M.mat 16 a)]) (fun _ v _ => 4 - (intOf v).toNat)
          case atStart => exact ⟨0, by omega, rfl, rfl, O⟩
          case round =>
            clear O
            obtain ⟨n, hn, rfl, rfl, O⟩ := hrel
            have q4 : (0 : Int) ≤ n := by omega
            by_cases hln : n < 4
            · have q5 : (n : Int) < 4 := by omega
              have hm := M.mul_le (HR.out n hln) (HC.out n hln)
              have hp := HS.out n (by omega)
              have HN : Hid (M.part (M.row a i) (M.col b k) (n + 1) = M.part (M.row a i) (M.col b k) n + M.row a i n * M.col b k n) := Lib.hid rfl
              go_wp2_with fail
              refine region_V (fun w2 => Own w w2 [(g6, 27, M.mat 16 (M.prodK a b (4 * i + k))), (g4, 27, M.mat 16 M.zero), (g3, 27, M.mat 16 b), (g2, 27, M.mat 16 a)]) [0, 1, 2, 3, 4, 5, 6, 7, 8, 9, 10] [some 32, some 33, some 34, some 35, some 36, some 37, some 38, some 39, some 40, some 41, some 42] [.int .i64 (M.part (M.row a i) (M.col b k) n), arr 16 a, .int .i64 i, .int .i64 n, .int .i64 (M.row a i n), arr 16 b, .int .i64 n, .int .i64 k, .int .i64 (M.col b k n), .int .i64 (M.row a i n * M.col b k n), .int .i64 (M.part (M.row a i) (M.col b k) (n + 1))] 1 (by kernel_rfl) (by kernel_rfl) (by rfl) (by rfl) (O.drew) (fun F hF => ?_)
              simp only [fillD, Act.put, List.setIfInBounds_toArray, List.set_cons_zero, List.set_cons_succ] at hF
              subst hF
              refine ⟨⟨does_want rfl (by rfl) (fun w' O K hK => ?_), does_want rfl (by rfl) (fun w' O K hK => ?_), does_want rfl (by rfl) (fun w' O K hK => ?_), does_want rfl (by rfl) (fun w' O K hK => ?_), does_want rfl (by rfl) (fun w' O K hK => ?_), does_want rfl (by rfl) (fun w' O K hK => ?_), does_want rfl (by rfl) (fun w' O K hK => ?_), does_want rfl (by rfl) (fun w' O K hK => ?_), does_want rfl (by rfl) (fun w' O K hK => ?_), does_want rfl (by rfl) (fun w' O K hK => ?_), does_want rfl (by rfl) (fun w' O K hK => ?_), trivial⟩, fun w' O => ?_⟩
              · go_simp
                exact hK _ O
              · exact wp_row_own O 3 rfl rfl Try.underlying27 (s23 _) (hK _ O)
              · go_simp
                exact hK _ O
              · go_simp
                exact hK _ O
              · go_simp
                go_at_call 41
                refine (at_any a i n _ hlt hln).mono ?_
                rintro e w2 ⟨rfl, hb⟩
                exact hK _ (O.call hb)
              · exact wp_row_own O 2 rfl rfl Try.underlying27 (s23 _) (hK _ O)
              · go_simp
                exact hK _ O
              · go_simp
                exact hK _ O
              · go_simp
                go_at_call 41
                refine (at_any b n k _ hln hlk).mono ?_
                rintro e w2 ⟨rfl, hb⟩
                exact hK _ (O.call hb)
              · have e : IntKind.i64.wrap (M.row a i n * M.col b k n) = M.row a i n * M.col b k n := IntWalk.i64_in _ (by omega)
                go_simp
                exact hK _ O
              · have e : IntKind.i64.wrap (M.part (M.row a i) (M.col b k) n + M.row a i n * M.col b k n) = M.part (M.row a i) (M.col b k) (n + 1) := by rw [HN.out]; exact IntWalk.i64_in _ (by omega)
                go_simp
                exact hK _ O
              refine wpAny_one (i := 11) (by kernel_rfl) rfl (fun K hK => ?_)
              go_simp
              refine hK _ _ ?_
              clear hK K
              try simp only [Act.put, List.setIfInBounds_toArray, List.set_cons_zero, List.set_cons_succ]
              refine wpAny_done (by kernel_rfl) ?_ _
              go_wp2_with fail
              go_roundw
              case rel => exact ⟨n + 1, by omega, by go_num, rfl, O⟩
              case measure => simp [intOf]; omega
            · have q5 : ¬ (n : Int) < 4 := by omega
              obtain rfl : n = 4 := by omega
              have hp := HS.out 4 (by omega)
              go_wp2_with (first | (go_at_call 42; refine (down_any _ _ (by omega) (by omega)).mono ?_; rintro e w' ⟨rfl, rfl⟩) | ((with_reducible refine at_store 49 ?_); refine wpList_set_own O 0 (.int .i64 (M.part (M.row a i) (M.col b k) 4 / 65536)) rfl (by rw [M.mat_len]; omega) rfl rfl size3 rfl rfl ?_; clear O ; intro w4 O))
              go_roundw
              case rel => exact ⟨k + 1, by omega, by go_num, by
                have e := M.prodK_set a b (4 * i + k) (by omega) HP.out
                rw [show 4 * i + (k + 1) = 4 * i + k + 1 by omega, ← e]
                exact O⟩
              case measure => simp [intOf]; omega
        · have q3 : ¬ (k : Int) < 4 := by omega
          obtain rfl : k = 4 := by omega
          go_wp2_with fail
          go_roundw
          case rel => exact ⟨i + 1, by omega, by go_num, by rw [show 4 * (i + 1) = 4 * i + 4 by omega]; exact O⟩
          case measure => simp [intOf]; omega
    · have q1 : ¬ (i : Int) < 4 := by omega
      obtain rfl : i = 4 := by omega
      rw [M.prodK_end] at O
      cases hc : M.right (M.prod a b)
      · have E : M.mul a b = (M.zero, 4) := by simp [M.mul, HA.out, HB.out, hc]
        have HE := Lib.hid E
        clear E
        go_wp2_with (first | ((with_reducible refine at_load 50 ?_); refine wpList_row_own O 0 rfl rfl Try.underlying27 (s23 _) ?_) | (go_at_call 28; refine (rright_any _ _).mono ?_; rintro e w1 ⟨rfl, hb⟩; replace O := O.call hb; clear hb) | ((with_reducible refine at_build 53 ?_); refine wpList_build_own [] (M.mat 16 M.zero).toArray ?_ built23z ?_; (focus simp)) | ((with_reducible refine at_store 4 ?_); refine wpList_put_own O 1 (M.mat 16 (M.zero)) rfl rfl rfl (s23 _) (M.mat_len2 _ _ _) (M.mat_one _ _) ?_; clear O; intro w1 O))
        exact bodyPost_ret (v := .tuple #[arr 16 M.zero, .int .i64 4]) (res_cell2 rfl O 1 rfl rfl Try.underlying27 (s23 _) rfl) rfl ⟨by rw [HE.out], O.below⟩
      · have E : M.mul a b = (M.prod a b, 0) := by simp [M.mul, HA.out, HB.out, hc]
        have HE := Lib.hid E
        clear E
        go_wp2_with (first | ((with_reducible refine at_load 50 ?_); refine wpList_row_own O 0 rfl rfl Try.underlying27 (s23 _) ?_) | (go_at_call 28; refine (rright_any _ _).mono ?_; rintro e w1 ⟨rfl, hb⟩; replace O := O.call hb; clear hb) | ((with_reducible refine at_load 54 ?_); refine wpList_row_own O 0 rfl rfl Try.underlying27 (s23 _) ?_) | ((with_reducible refine at_store 4 ?_); refine wpList_put_own O 1 (M.mat 16 (M.prod a b)) rfl rfl rfl (s23 _) (M.mat_len2 _ _ _) (M.mat_one _ _) ?_; clear O; intro w1 O))
        exact bodyPost_ret (v := .tuple #[arr 16 (M.prod a b), .int .i64 0]) (res_cell2 rfl O 1 rfl rfl Try.underlying27 (s23 _) rfl) rfl ⟨by rw [HE.out], O.below⟩
theorem rmul_any (a b : Nat → Int) (w : World) : Calls Try.prog 29 #[arr 16 a, arr 16 b] w (RetTwo 16 w (M.mul a b)) := by
  cases ha : M.right a
  · exact rmul_no1 a b ha w
  · cases hb : M.right b
    · exact rmul_no2 a b ha hb w
    · exact rmul_yes a b ha hb w
end Go.Proofs.Ythcieapfpgejdaa
