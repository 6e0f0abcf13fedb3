/- Contract of Apply. -/
import Derived.Test.YtidaffgfhmbomaaMul4
namespace Go.Proofs.Ytidaffgfhmbomaa
open Go.ChangeShapes Go.WideShapes Go.ChangeAt Go.RowKit
set_option linter.unusedVariables false
set_option linter.unusedSimpArgs false

/-- The first n numbers that come of v. -/
def appK (m v : Nat → Int) (n j : Nat) : Int := if j < n then M.app m v j else 0
theorem appK_set (m v : Nat → Int) (n : Nat) (hn : n < 4) : (M.mat 4 (appK m v n)).set n (.int .i64 (M.dot (M.row m n) v)) = M.mat 4 (appK m v (n + 1)) :=
  M.mat_set_to hn (by simp [appK, M.app]) fun j _ hj => by
    simp only [appK]
    by_cases h : j < n
    · rw [if_pos h, if_pos (by omega)]
    · rw [if_neg h, if_neg (by omega)]
theorem appK_0 (m v : Nat → Int) : M.mat 4 (appK m v 0) = M.mat 4 M.zero := M.mat_ext fun j hj => by simp [appK, M.zero]
theorem appK_end (m v : Nat → Int) : M.mat 4 (appK m v 4) = M.mat 4 (M.app m v) := M.mat_ext fun j hj => by simp [appK, hj]
set_option maxHeartbeats 2000000 in
theorem apply_no1 (m v : Nat → Int) (most : Int) (ha : M.right m = false) (w : World) : Calls Try.prog 18 #[arr 16 m, arr 4 v, .int .i64 most] w (RetTwo 4 w (M.apply m v most)) := by
  have O := Own.start w
  have hu2 := Try.underlying23
  have hu3 := Try.underlying32
  have E : M.apply m v most = (M.zero, 1) := by simp [M.apply, ha]
  have HE := Lib.hid E
  clear E
  go_enter Try.func18, Try.ntmps18
  go_wp2_with (first | ((with_reducible refine at_box 3 ?_); refine wpList_box_own O (M.mat 16 m) rfl ?_; clear O; intro g3 w1 O) | ((with_reducible refine at_box 4 ?_); refine wpList_box_own O (M.mat 4 v) rfl ?_; clear O; intro g4 w1 O) | ((with_reducible refine at_alloc 6 ?_); refine wpList_alloc_own O (M.mat 4 M.zero) zero32 ?_; clear O; intro g6 w1 O) | ((with_reducible refine at_load 10 ?_); refine wpList_row_own O 2 rfl rfl Try.underlying23 (s23 _) ?_) | (go_at_call 12; refine (right_any _ _).mono ?_; rintro e w1 ⟨rfl, hb⟩; replace O := O.call hb; clear hb) | ((with_reducible refine at_load 14 ?_); refine wpList_rowg_own rfl O 1 rfl rfl Try.underlying32 (s32 _) ?_) | (go_at_call 31; refine (among_any _ _ _ (by decide) (by decide)).mono ?_; rintro e w1 ⟨rfl, hb⟩; replace O := O.call hb; clear hb) | ((with_reducible refine at_build 26 ?_); refine wpList_build_own [] (M.mat 4 M.zero).toArray ?_ built32z ?_; (focus simp)) | ((with_reducible refine at_store 6 ?_); refine wpList_put_own O 0 (M.mat 4 (M.zero)) rfl rfl rfl (s32 _) (M.mat_len2 _ _ _) (M.mat_one _ _) ?_; clear O; intro w1 O))
  exact bodyPost_ret (v := .tuple #[arr 4 M.zero, .int .i64 1]) (res_cell2 rfl O 0 rfl rfl Try.underlying32 (s32 _) rfl) rfl ⟨by rw [HE.out], O.below⟩
set_option maxHeartbeats 2000000 in
theorem apply_no2 (m v : Nat → Int) (most : Int) (ha : M.right m = true) (hb : M.allB 4 268435456 v = false) (w : World) : Calls Try.prog 18 #[arr 16 m, arr 4 v, .int .i64 most] w (RetTwo 4 w (M.apply m v most)) := by
  have O := Own.start w
  have hu2 := Try.underlying23
  have hu3 := Try.underlying32
  have E : M.apply m v most = (M.zero, 1) := by simp [M.apply, ha, hb]
  have HE := Lib.hid E
  clear E
  go_enter Try.func18, Try.ntmps18
  go_wp2_with (first | ((with_reducible refine at_box 3 ?_); refine wpList_box_own O (M.mat 16 m) rfl ?_; clear O; intro g3 w1 O) | ((with_reducible refine at_box 4 ?_); refine wpList_box_own O (M.mat 4 v) rfl ?_; clear O; intro g4 w1 O) | ((with_reducible refine at_alloc 6 ?_); refine wpList_alloc_own O (M.mat 4 M.zero) zero32 ?_; clear O; intro g6 w1 O) | ((with_reducible refine at_load 10 ?_); refine wpList_row_own O 2 rfl rfl Try.underlying23 (s23 _) ?_) | (go_at_call 12; refine (right_any _ _).mono ?_; rintro e w1 ⟨rfl, hb⟩; replace O := O.call hb; clear hb) | ((with_reducible refine at_load 14 ?_); refine wpList_rowg_own rfl O 1 rfl rfl Try.underlying32 (s32 _) ?_) | (go_at_call 31; refine (among_any _ _ _ (by decide) (by decide)).mono ?_; rintro e w1 ⟨rfl, hb⟩; replace O := O.call hb; clear hb) | ((with_reducible refine at_build 26 ?_); refine wpList_build_own [] (M.mat 4 M.zero).toArray ?_ built32z ?_; (focus simp)) | ((with_reducible refine at_store 6 ?_); refine wpList_put_own O 0 (M.mat 4 (M.zero)) rfl rfl rfl (s32 _) (M.mat_len2 _ _ _) (M.mat_one _ _) ?_; clear O; intro w1 O))
  exact bodyPost_ret (v := .tuple #[arr 4 M.zero, .int .i64 1]) (res_cell2 rfl O 0 rfl rfl Try.underlying32 (s32 _) rfl) rfl ⟨by rw [HE.out], O.below⟩
set_option maxHeartbeats 2000000 in
theorem apply_no3 (m v : Nat → Int) (most : Int) (ha : M.right m = true) (hb : M.allB 4 268435456 v = true) (hc : most < 0) (w : World) : Calls Try.prog 18 #[arr 16 m, arr 4 v, .int .i64 most] w (RetTwo 4 w (M.apply m v most)) := by
  have O := Own.start w
  have hu2 := Try.underlying23
  have hu3 := Try.underlying32
  have E : M.apply m v most = (M.zero, 1) := by simp [M.apply, ha, hb, show ¬ 0 ≤ most by omega]
  have HE := Lib.hid E
  clear E
  go_enter Try.func18, Try.ntmps18
  go_wp2_with (first | ((with_reducible refine at_box 3 ?_); refine wpList_box_own O (M.mat 16 m) rfl ?_; clear O; intro g3 w1 O) | ((with_reducible refine at_box 4 ?_); refine wpList_box_own O (M.mat 4 v) rfl ?_; clear O; intro g4 w1 O) | ((with_reducible refine at_alloc 6 ?_); refine wpList_alloc_own O (M.mat 4 M.zero) zero32 ?_; clear O; intro g6 w1 O) | ((with_reducible refine at_load 10 ?_); refine wpList_row_own O 2 rfl rfl Try.underlying23 (s23 _) ?_) | (go_at_call 12; refine (right_any _ _).mono ?_; rintro e w1 ⟨rfl, hb⟩; replace O := O.call hb; clear hb) | ((with_reducible refine at_load 14 ?_); refine wpList_rowg_own rfl O 1 rfl rfl Try.underlying32 (s32 _) ?_) | (go_at_call 31; refine (among_any _ _ _ (by decide) (by decide)).mono ?_; rintro e w1 ⟨rfl, hb⟩; replace O := O.call hb; clear hb) | ((with_reducible refine at_build 26 ?_); refine wpList_build_own [] (M.mat 4 M.zero).toArray ?_ built32z ?_; (focus simp)) | ((with_reducible refine at_store 6 ?_); refine wpList_put_own O 0 (M.mat 4 (M.zero)) rfl rfl rfl (s32 _) (M.mat_len2 _ _ _) (M.mat_one _ _) ?_; clear O; intro w1 O))
  exact bodyPost_ret (v := .tuple #[arr 4 M.zero, .int .i64 1]) (res_cell2 rfl O 0 rfl rfl Try.underlying32 (s32 _) rfl) rfl ⟨by rw [HE.out], O.below⟩
set_option maxHeartbeats 2000000 in
theorem apply_no4 (m v : Nat → Int) (most : Int) (ha : M.right m = true) (hb : M.allB 4 268435456 v = true) (hc : ¬ most < 0) (hd : 68719476736 < most) (w : World) : Calls Try.prog 18 #[arr 16 m, arr 4 v, .int .i64 most] w (RetTwo 4 w (M.apply m v most)) := by
  have O := Own.start w
  have hu2 := Try.underlying23
  have hu3 := Try.underlying32
  have E : M.apply m v most = (M.zero, 1) := by simp [M.apply, ha, hb, show ¬ most ≤ 68719476736 by omega]
  have HE := Lib.hid E
  clear E
  go_enter Try.func18, Try.ntmps18
  go_wp2_with (first | ((with_reducible refine at_box 3 ?_); refine wpList_box_own O (M.mat 16 m) rfl ?_; clear O; intro g3 w1 O) | ((with_reducible refine at_box 4 ?_); refine wpList_box_own O (M.mat 4 v) rfl ?_; clear O; intro g4 w1 O) | ((with_reducible refine at_alloc 6 ?_); refine wpList_alloc_own O (M.mat 4 M.zero) zero32 ?_; clear O; intro g6 w1 O) | ((with_reducible refine at_load 10 ?_); refine wpList_row_own O 2 rfl rfl Try.underlying23 (s23 _) ?_) | (go_at_call 12; refine (right_any _ _).mono ?_; rintro e w1 ⟨rfl, hb⟩; replace O := O.call hb; clear hb) | ((with_reducible refine at_load 14 ?_); refine wpList_rowg_own rfl O 1 rfl rfl Try.underlying32 (s32 _) ?_) | (go_at_call 31; refine (among_any _ _ _ (by decide) (by decide)).mono ?_; rintro e w1 ⟨rfl, hb⟩; replace O := O.call hb; clear hb) | ((with_reducible refine at_build 26 ?_); refine wpList_build_own [] (M.mat 4 M.zero).toArray ?_ built32z ?_; (focus simp)) | ((with_reducible refine at_store 6 ?_); refine wpList_put_own O 0 (M.mat 4 (M.zero)) rfl rfl rfl (s32 _) (M.mat_len2 _ _ _) (M.mat_one _ _) ?_; clear O; intro w1 O))
  exact bodyPost_ret (v := .tuple #[arr 4 M.zero, .int .i64 1]) (res_cell2 rfl O 0 rfl rfl Try.underlying32 (s32 _) rfl) rfl ⟨by rw [HE.out], O.below⟩
set_option maxHeartbeats 8000000 in
theorem apply_yes (m v : Nat → Int) (most : Int) (ha : M.right m = true) (hb : M.allB 4 268435456 v = true) (hc : ¬ most < 0) (hd : ¬ 68719476736 < most) (w : World) : Calls Try.prog 18 #[arr 16 m, arr 4 v, .int .i64 most] w (RetTwo 4 w (M.apply m v most)) := by
  have O := Own.start w
  have hu2 := Try.underlying23
  have hu3 := Try.underlying32
  have HA := Lib.hid ha
  have HB := Lib.hid hb
  have HV := Lib.hid (M.allB_iff.1 hb)
  go_enter Try.func18, Try.ntmps18
  go_wp2_with (first | ((with_reducible refine at_box 3 ?_); refine wpList_box_own O (M.mat 16 m) rfl ?_; clear O; intro g3 w1 O) | ((with_reducible refine at_box 4 ?_); refine wpList_box_own O (M.mat 4 v) rfl ?_; clear O; intro g4 w1 O) | ((with_reducible refine at_alloc 6 ?_); refine wpList_alloc_own O (M.mat 4 M.zero) zero32 ?_; clear O; intro g6 w1 O) | ((with_reducible refine at_load 10 ?_); refine wpList_row_own O 2 rfl rfl Try.underlying23 (s23 _) ?_) | (go_at_call 12; refine (right_any _ _).mono ?_; rintro e w1 ⟨rfl, hb⟩; replace O := O.call hb; clear hb) | ((with_reducible refine at_load 14 ?_); refine wpList_rowg_own rfl O 1 rfl rfl Try.underlying32 (s32 _) ?_) | (go_at_call 31; refine (among_any _ _ _ (by decide) (by decide)).mono ?_; rintro e w1 ⟨rfl, hb⟩; replace O := O.call hb; clear hb) | ((with_reducible refine at_alloc 8 ?_); refine wpList_alloc_own O (M.mat 4 M.zero) zero32 ?_; clear O; intro g8 w1 O))
  clear ha hb
  go_loopw [27] (fun u wr => ∃ k : Nat, k ≤ 4 ∧ u = .int .i64 k ∧ Own w wr [(g8, 32, M.mat 4 (appK m v k)), (g6, 32, M.mat 4 M.zero), (g4, 32, M.mat 4 v), (g3, 23, M.mat 16 m)]) (fun u _ => 4 - (intOf u).toNat)
  case atStart => exact ⟨0, by omega, rfl, by rw [appK_0]; exact O⟩
  case round =>
    clear O
    obtain ⟨k, hk, rfl, O⟩ := hrel
    have q0 : (0 : Int) ≤ k := by omega
    by_cases hlt : k < 4
    · have q1 : (k : Int) < 4 := by omega
      have HR := Lib.hid (M.row_rng HA.out hlt)
      go_wp2_with fail
      refine region_V (fun w2 => Own w w2 [(g8, 32, M.mat 4 (appK m v k)), (g6, 32, M.mat 4 M.zero), (g4, 32, M.mat 4 v), (g3, 23, M.mat 16 m)]) [0, 1, 2, 3, 4, 5, 6] [some 30, some 31, some 32, some 33, some 34, some 35, some 36] [.int .i64 k, arr 16 m, .int .i64 k, arr 4 (M.row m k), arr 4 v, .int .i64 (M.dot (M.row m k) v), .pointer (some ⟨g8, k, none⟩)] 1 (by kernel_rfl) (by kernel_rfl) (by rfl) (by rfl) (O.drew) (fun F hF => ?_)
      simp only [fillD, Act.put, List.setIfInBounds_toArray, List.set_cons_zero, List.set_cons_succ] at hF
      subst hF
      refine ⟨⟨does_want rfl (by rfl) (fun w' O K hK => ?_), does_want rfl (by rfl) (fun w' O K hK => ?_), does_want rfl (by rfl) (fun w' O K hK => ?_), does_want rfl (by rfl) (fun w' O K hK => ?_), does_want rfl (by rfl) (fun w' O K hK => ?_), does_want rfl (by rfl) (fun w' O K hK => ?_), does_want rfl (by rfl) (fun w' O K hK => ?_), trivial⟩, fun w' O => ?_⟩
      · go_simp
        exact hK _ O
      · exact wp_row_own O 3 rfl rfl Try.underlying23 (s23 _) (hK _ O)
      · go_simp
        exact hK _ O
      · go_simp
        go_at_call 25
        refine (row_any m k _ hlt).mono ?_
        rintro e w2 ⟨rfl, hb⟩
        exact hK _ (O.call hb)
      · exact wp_row_own O 2 rfl rfl Try.underlying32 (s32 _) (hK _ O)
      · go_simp
        go_at_call 24
        refine (product_any _ _ _ HR.out HV.out).mono ?_
        rintro e w2 ⟨rfl, hb⟩
        exact hK _ (O.call hb)
      · exact wp_index_own Try.underlying32 sizeOf3 (by decide) (k) rfl rfl (by omega) (by omega) (hK _ O)
      refine wpAny_want (i := 7) (by kernel_rfl) rfl (by rfl) (fun K hK => ?_)
      refine wp_set_own O 0 (.int .i64 (M.dot (M.row m k) v)) rfl (by rw [M.mat_len]; omega) rfl rfl size3 rfl rfl fun w9 O9 => hK _ _ ?_
      clear O
      have O := O9
      clear O9
      clear hK K
      try simp only [Act.put, List.setIfInBounds_toArray, List.set_cons_zero, List.set_cons_succ]
      refine wpAny_done (by kernel_rfl) ?_ _
      go_wp2_with fail
      go_roundw
      case rel => exact ⟨k + 1, by omega, by go_num, by rw [← appK_set m v k hlt]; exact O⟩
      case measure => simp [intOf]; omega
    · have q1 : ¬ (k : Int) < 4 := by omega
      obtain rfl : k = 4 := by omega
      rw [appK_end] at O
      have hc2 : 0 ≤ most := by omega
      have hd2 : most ≤ 68719476736 := by omega
      cases hr : M.allB 4 most (M.app m v)
      · have E : M.apply m v most = (M.zero, 4) := by simp [M.apply, HA.out, HB.out, hc2, hd2, hr]
        have HE := Lib.hid E
        clear E
        go_wp2_with (first | ((with_reducible refine at_load 38 ?_); refine wpList_row_own O 0 rfl rfl Try.underlying32 (s32 _) ?_) | (go_at_call 31; refine (among_any (M.app m v) most _ (by omega) (by omega)).mono ?_; rintro e w1 ⟨rfl, hb⟩; replace O := O.call hb; clear hb) | ((with_reducible refine at_build 42 ?_); refine wpList_build_own [] (M.mat 4 M.zero).toArray ?_ built32z ?_; (focus simp)) | ((with_reducible refine at_store 6 ?_); refine wpList_put_own O 1 (M.mat 4 (M.zero)) rfl rfl rfl (s32 _) (M.mat_len2 _ _ _) (M.mat_one _ _) ?_; clear O; intro w1 O))
        exact bodyPost_ret (v := .tuple #[arr 4 M.zero, .int .i64 4]) (res_cell2 rfl O 1 rfl rfl Try.underlying32 (s32 _) rfl) rfl ⟨by rw [HE.out], O.below⟩
      · have E : M.apply m v most = (M.app m v, 0) := by simp [M.apply, HA.out, HB.out, hc2, hd2, hr]
        have HE := Lib.hid E
        clear E
        go_wp2_with (first | ((with_reducible refine at_load 38 ?_); refine wpList_row_own O 0 rfl rfl Try.underlying32 (s32 _) ?_) | (go_at_call 31; refine (among_any (M.app m v) most _ (by omega) (by omega)).mono ?_; rintro e w1 ⟨rfl, hb⟩; replace O := O.call hb; clear hb) | ((with_reducible refine at_load 43 ?_); refine wpList_row_own O 0 rfl rfl Try.underlying32 (s32 _) ?_) | ((with_reducible refine at_store 6 ?_); refine wpList_put_own O 1 (M.mat 4 (M.app m v)) rfl rfl rfl (s32 _) (M.mat_len2 _ _ _) (M.mat_one _ _) ?_; clear O; intro w1 O))
        exact bodyPost_ret (v := .tuple #[arr 4 (M.app m v), .int .i64 0]) (res_cell2 rfl O 1 rfl rfl Try.underlying32 (s32 _) rfl) rfl ⟨by rw [HE.out], O.below⟩
theorem apply_any (m v : Nat → Int) (most : Int) (w : World) : Calls Try.prog 18 #[arr 16 m, arr 4 v, .int .i64 most] w (RetTwo 4 w (M.apply m v most)) := by
  cases ha : M.right m
  · exact apply_no1 m v most ha w
  · cases hb : M.allB 4 268435456 v
    · exact apply_no2 m v most ha hb w
    · by_cases hc : most < 0
      · exact apply_no3 m v most ha hb hc w
      · by_cases hd : 68719476736 < most
        · exact apply_no4 m v most ha hb hc hd w
        · exact apply_yes m v most ha hb hc hd w
end Go.Proofs.Ytidaffgfhmbomaa
