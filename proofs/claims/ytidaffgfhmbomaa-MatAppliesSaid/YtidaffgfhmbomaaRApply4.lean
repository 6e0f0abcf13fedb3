/- Contract of the document's Apply. -/
import Derived.Test.YtidaffgfhmbomaaApply4
namespace Go.Proofs.Ytidaffgfhmbomaa
open Go.ChangeShapes Go.WideShapes Go.ChangeAt Go.RowKit
set_option linter.unusedVariables false
set_option linter.unusedSimpArgs false

theorem allB_succ (n : Nat) (most : Int) (a : Nat → Int) : M.allB (n + 1) most a = (M.allB n most a && M.inB most (a n)) := by
  simp [M.allB, List.range_succ]
theorem allB_zero (most : Int) (a : Nat → Int) : M.allB 0 most a = true := rfl
set_option maxHeartbeats 2000000 in
theorem rapply_no1 (m v : Nat → Int) (most : Int) (ha : M.right m = false) (w : World) : Calls Try.prog 19 #[arr 16 m, arr 4 v, .int .i64 most] w (RetTwo 4 w (M.apply m v most)) := by
  have O := Own.start w
  have hu2 := Try.underlying23
  have hu3 := Try.underlying32
  have E : M.apply m v most = (M.zero, 1) := by simp [M.apply, ha]
  have HE := Lib.hid E
  clear E


  go_enter Try.func19, Try.ntmps19
  go_wp2_with (first | ((with_reducible refine at_box 3 ?_); refine wpList_box_own O (M.mat 16 m) rfl ?_; clear O; intro g3 w1 O) | ((with_reducible refine at_box 4 ?_); refine wpList_box_own O (M.mat 4 v) rfl ?_; clear O; intro g4 w1 O) | ((with_reducible refine at_alloc 6 ?_); refine wpList_alloc_own O (M.mat 4 M.zero) zero32 ?_; clear O; intro g6 w1 O) | ((with_reducible refine at_load 15 ?_); refine wpList_row_own O 2 rfl rfl Try.underlying23 (s23 _) ?_) | (go_at_call 13; refine (rright_any _ _).mono ?_; rintro e w1 ⟨rfl, hb⟩; replace O := O.call hb; clear hb))
  obtain ⟨wo, rfl⟩ : ∃ wo : World, wo = w1 := ⟨_, rfl⟩
  go_loopw [8, 9] (fun u x wr => ∃ k : Nat, k ≤ 4 ∧ x = .int .i64 k ∧ u = .bool false ∧ wo = wr) (fun _ x _ => 4 - (intOf x).toNat)
  case atStart => exact ⟨0, by omega, rfl, by first | rfl | rw [show decide (most ≤ 68719476736) = false from decide_eq_false (by omega)], rfl⟩
  case round =>
    obtain ⟨k, hk, rfl, rfl, rfl⟩ := hrel
    have q0 : (0 : Int) ≤ k := by omega
    by_cases hlt : k < 4
    · have q1 : (k : Int) < 4 := by omega
      go_wp2_with fail
      go_roundw
      case rel => exact ⟨k + 1, by omega, by go_num, rfl, trivial⟩
      case measure => simp [intOf]; omega
    · have q1 : ¬ (k : Int) < 4 := by omega
      obtain rfl : k = 4 := by omega
      go_wp2_with (first | ((with_reducible refine at_build 38 ?_); refine wpList_build_own [] (M.mat 4 M.zero).toArray ?_ built32z ?_; (focus simp)) | ((with_reducible refine at_store 6 ?_); refine wpList_put_own O 0 (M.mat 4 (M.zero)) rfl rfl rfl (s32 _) (M.mat_len2 _ _ _) (M.mat_one _ _) ?_; clear O; intro w1 O))
      exact bodyPost_ret (v := .tuple #[arr 4 M.zero, .int .i64 1]) (res_cell2 rfl O 0 rfl rfl Try.underlying32 (s32 _) rfl) rfl ⟨by rw [HE.out], O.below⟩
set_option maxHeartbeats 2000000 in
theorem rapply_no2 (m v : Nat → Int) (most : Int) (ha : M.right m = true) (hc : most < 0) (w : World) : Calls Try.prog 19 #[arr 16 m, arr 4 v, .int .i64 most] w (RetTwo 4 w (M.apply m v most)) := by
  have O := Own.start w
  have hu2 := Try.underlying23
  have hu3 := Try.underlying32
  have E : M.apply m v most = (M.zero, 1) := by simp [M.apply, ha, show ¬ 0 ≤ most by omega]
  have HE := Lib.hid E
  clear E
  have hc2 : ¬ 0 ≤ most := by omega

  go_enter Try.func19, Try.ntmps19
  go_wp2_with (first | ((with_reducible refine at_box 3 ?_); refine wpList_box_own O (M.mat 16 m) rfl ?_; clear O; intro g3 w1 O) | ((with_reducible refine at_box 4 ?_); refine wpList_box_own O (M.mat 4 v) rfl ?_; clear O; intro g4 w1 O) | ((with_reducible refine at_alloc 6 ?_); refine wpList_alloc_own O (M.mat 4 M.zero) zero32 ?_; clear O; intro g6 w1 O) | ((with_reducible refine at_load 15 ?_); refine wpList_row_own O 2 rfl rfl Try.underlying23 (s23 _) ?_) | (go_at_call 13; refine (rright_any _ _).mono ?_; rintro e w1 ⟨rfl, hb⟩; replace O := O.call hb; clear hb))
  obtain ⟨wo, rfl⟩ : ∃ wo : World, wo = w1 := ⟨_, rfl⟩
  go_loopw [8, 9] (fun u x wr => ∃ k : Nat, k ≤ 4 ∧ x = .int .i64 k ∧ u = .bool false ∧ wo = wr) (fun _ x _ => 4 - (intOf x).toNat)
  case atStart => exact ⟨0, by omega, rfl, by first | rfl | rw [show decide (most ≤ 68719476736) = false from decide_eq_false (by omega)], rfl⟩
  case round =>
    obtain ⟨k, hk, rfl, rfl, rfl⟩ := hrel
    have q0 : (0 : Int) ≤ k := by omega
    by_cases hlt : k < 4
    · have q1 : (k : Int) < 4 := by omega
      go_wp2_with fail
      go_roundw
      case rel => exact ⟨k + 1, by omega, by go_num, rfl, trivial⟩
      case measure => simp [intOf]; omega
    · have q1 : ¬ (k : Int) < 4 := by omega
      obtain rfl : k = 4 := by omega
      go_wp2_with (first | ((with_reducible refine at_build 38 ?_); refine wpList_build_own [] (M.mat 4 M.zero).toArray ?_ built32z ?_; (focus simp)) | ((with_reducible refine at_store 6 ?_); refine wpList_put_own O 0 (M.mat 4 (M.zero)) rfl rfl rfl (s32 _) (M.mat_len2 _ _ _) (M.mat_one _ _) ?_; clear O; intro w1 O))
      exact bodyPost_ret (v := .tuple #[arr 4 M.zero, .int .i64 1]) (res_cell2 rfl O 0 rfl rfl Try.underlying32 (s32 _) rfl) rfl ⟨by rw [HE.out], O.below⟩
set_option maxHeartbeats 2000000 in
theorem rapply_no3 (m v : Nat → Int) (most : Int) (ha : M.right m = true) (hc : ¬ most < 0) (hd : 68719476736 < most) (w : World) : Calls Try.prog 19 #[arr 16 m, arr 4 v, .int .i64 most] w (RetTwo 4 w (M.apply m v most)) := by
  have O := Own.start w
  have hu2 := Try.underlying23
  have hu3 := Try.underlying32
  have E : M.apply m v most = (M.zero, 1) := by simp [M.apply, ha, show ¬ most ≤ 68719476736 by omega]
  have HE := Lib.hid E
  clear E
  have hc2 : 0 ≤ most := by omega
  have hd2 : ¬ most ≤ 68719476736 := by omega
  go_enter Try.func19, Try.ntmps19
  go_wp2_with (first | ((with_reducible refine at_box 3 ?_); refine wpList_box_own O (M.mat 16 m) rfl ?_; clear O; intro g3 w1 O) | ((with_reducible refine at_box 4 ?_); refine wpList_box_own O (M.mat 4 v) rfl ?_; clear O; intro g4 w1 O) | ((with_reducible refine at_alloc 6 ?_); refine wpList_alloc_own O (M.mat 4 M.zero) zero32 ?_; clear O; intro g6 w1 O) | ((with_reducible refine at_load 15 ?_); refine wpList_row_own O 2 rfl rfl Try.underlying23 (s23 _) ?_) | (go_at_call 13; refine (rright_any _ _).mono ?_; rintro e w1 ⟨rfl, hb⟩; replace O := O.call hb; clear hb))
  obtain ⟨wo, rfl⟩ : ∃ wo : World, wo = w1 := ⟨_, rfl⟩
  go_loopw [8, 9] (fun u x wr => ∃ k : Nat, k ≤ 4 ∧ x = .int .i64 k ∧ u = .bool false ∧ wo = wr) (fun _ x _ => 4 - (intOf x).toNat)
  case atStart => exact ⟨0, by omega, rfl, by first | rfl | rw [show decide (most ≤ 68719476736) = false from decide_eq_false (by omega)], rfl⟩
  case round =>
    obtain ⟨k, hk, rfl, rfl, rfl⟩ := hrel
    have q0 : (0 : Int) ≤ k := by omega
    by_cases hlt : k < 4
    · have q1 : (k : Int) < 4 := by omega
      go_wp2_with fail
      go_roundw
      case rel => exact ⟨k + 1, by omega, by go_num, rfl, trivial⟩
      case measure => simp [intOf]; omega
    · have q1 : ¬ (k : Int) < 4 := by omega
      obtain rfl : k = 4 := by omega
      go_wp2_with (first | ((with_reducible refine at_build 38 ?_); refine wpList_build_own [] (M.mat 4 M.zero).toArray ?_ built32z ?_; (focus simp)) | ((with_reducible refine at_store 6 ?_); refine wpList_put_own O 0 (M.mat 4 (M.zero)) rfl rfl rfl (s32 _) (M.mat_len2 _ _ _) (M.mat_one _ _) ?_; clear O; intro w1 O))
      exact bodyPost_ret (v := .tuple #[arr 4 M.zero, .int .i64 1]) (res_cell2 rfl O 0 rfl rfl Try.underlying32 (s32 _) rfl) rfl ⟨by rw [HE.out], O.below⟩
set_option maxHeartbeats 8000000 in
theorem rapply_yes (m v : Nat → Int) (most : Int) (ha : M.right m = true) (hc : 0 ≤ most) (hd : most ≤ 68719476736) (w : World) : Calls Try.prog 19 #[arr 16 m, arr 4 v, .int .i64 most] w (RetTwo 4 w (M.apply m v most)) := by
  have O := Own.start w
  have hu2 := Try.underlying23
  have hu3 := Try.underlying32
  have HA := Lib.hid ha
  go_enter Try.func19, Try.ntmps19
  go_wp2_with (first | ((with_reducible refine at_box 3 ?_); refine wpList_box_own O (M.mat 16 m) rfl ?_; clear O; intro g3 w1 O) | ((with_reducible refine at_box 4 ?_); refine wpList_box_own O (M.mat 4 v) rfl ?_; clear O; intro g4 w1 O) | ((with_reducible refine at_alloc 6 ?_); refine wpList_alloc_own O (M.mat 4 M.zero) zero32 ?_; clear O; intro g6 w1 O) | ((with_reducible refine at_load 15 ?_); refine wpList_row_own O 2 rfl rfl Try.underlying23 (s23 _) ?_) | (go_at_call 13; refine (rright_any _ _).mono ?_; rintro e w1 ⟨rfl, hb⟩; replace O := O.call hb; clear hb))
  clear ha
  obtain ⟨wo, rfl⟩ : ∃ wo : World, wo = w1 := ⟨_, rfl⟩
  go_loopw [8, 9] (fun u x wr => ∃ k : Nat, k ≤ 4 ∧ x = .int .i64 k ∧ u = .bool (M.allB k 268435456 v) ∧ wo = wr) (fun _ x _ => 4 - (intOf x).toNat)
  case atStart => exact ⟨0, by omega, rfl, by rw [allB_zero], rfl⟩
  case round =>
    obtain ⟨k, hk, rfl, rfl, rfl⟩ := hrel
    have q0 : (0 : Int) ≤ k := by omega
    by_cases hlt : k < 4
    · have q1 : (k : Int) < 4 := by omega
      have c := O.cell 1 rfl (M.mat_get (a := v) (i := k) hlt)
      have HS := Lib.hid (allB_succ k 268435456 v)
      obtain ⟨r, hr⟩ : ∃ r, M.allB k 268435456 v = r := ⟨_, rfl⟩
      rw [hr]
      rw [hr] at HS
      clear hr
      cases r
      · go_wp2_with fail
        go_roundw
        case rel => exact ⟨k + 1, by omega, by go_num, by rw [HS.out]; rfl, trivial⟩
        case measure => simp [intOf]; omega
      · obtain ⟨s, hs⟩ : ∃ s, M.inB 268435456 (v k) = s := ⟨_, rfl⟩
        rw [hs] at HS
        have HT := Lib.hid hs
        clear hs
        go_wp2_with (go_at_call 30; refine (fits_any _ _ _ (by decide) (by decide)).mono ?_; rintro e w' ⟨rfl, rfl⟩)
        go_roundw
        case rel => exact ⟨k + 1, by omega, by go_num, by rw [HS.out, HT.out]; rfl, trivial⟩
        case measure => simp [intOf]; omega
    · have q1 : ¬ (k : Int) < 4 := by omega
      obtain rfl : k = 4 := by omega
      obtain ⟨r, hr⟩ : ∃ r, M.allB 4 268435456 v = r := ⟨_, rfl⟩
      rw [hr]
      have HB := Lib.hid hr
      clear hr
      cases r
      · have E : M.apply m v most = (M.zero, 1) := by simp [M.apply, HA.out, HB.out]
        have HE := Lib.hid E
        clear E
        go_wp2_with (first | ((with_reducible refine at_build 38 ?_); refine wpList_build_own [] (M.mat 4 M.zero).toArray ?_ built32z ?_; (focus simp)) | ((with_reducible refine at_store 6 ?_); refine wpList_put_own O 0 (M.mat 4 (M.zero)) rfl rfl rfl (s32 _) (M.mat_len2 _ _ _) (M.mat_one _ _) ?_; clear O; intro w1 O))
        exact bodyPost_ret (v := .tuple #[arr 4 M.zero, .int .i64 1]) (res_cell2 rfl O 0 rfl rfl Try.underlying32 (s32 _) rfl) rfl ⟨by rw [HE.out], O.below⟩
      · have HV := Lib.hid (M.allB_iff.1 HB.out)
        go_wp2_with ((with_reducible refine at_alloc 10 ?_); refine wpList_alloc_own O (M.mat 4 M.zero) zero32 ?_; clear O; intro g8 w1 O)
        obtain ⟨wo2, rfl⟩ : ∃ wo2 : World, wo2 = w1 := ⟨_, rfl⟩
        go_loopw [11] (fun u wr => ∃ k : Nat, k ≤ 4 ∧ u = .int .i64 k ∧ Own w wr [(g8, 32, M.mat 4 (appK m v k)), (g6, 32, M.mat 4 M.zero), (g4, 32, M.mat 4 v), (g3, 23, M.mat 16 m)]) (fun u _ => 4 - (intOf u).toNat)
        case atStart => exact ⟨0, by omega, rfl, by rw [appK_0]; exact O⟩
        case round =>
          clear O hlt q0 q1 hk
          obtain ⟨k, hk, rfl, O⟩ := hrel
          have q0 : (0 : Int) ≤ k := by omega
          by_cases hlt : k < 4
          · have q1 : (k : Int) < 4 := by omega
            have HR := Lib.hid (M.row_rng HA.out hlt)
            have HS := Lib.hid (M.part_le HR.out HV.out)
            go_wp2_with fail
            obtain ⟨wp, rfl⟩ : ∃ wp : World, wp = wr := ⟨_, rfl⟩
            go_loopw [12, 13] (fun u x wr => ∃ n : Nat, n ≤ 4 ∧ x = .int .i64 n ∧ u = .int .i64 (M.part (M.row m k) v n) ∧ Own w wr [(g8, 32, M.mat 4 (appK m v k)), (g6, 32, M.mat 4 M.zero), (g4, 32, M.mat 4 v), (g3, 23, M.mat 16 m)]) (fun _ x _ => 4 - (intOf x).toNat)
            case atStart => exact ⟨0, by omega, rfl, rfl, O⟩
            case round =>
              clear O
              obtain ⟨n, hn, rfl, rfl, O⟩ := hrel
              have q4 : (0 : Int) ≤ n := by omega
              by_cases hln : n < 4
              · have q5 : (n : Int) < 4 := by omega
                have hm := M.mul_le (HR.out n hln) (HV.out n hln)
                have hp := HS.out n (by omega)
                have HN : Hid (M.part (M.row m k) v (n + 1) = M.part (M.row m k) v n + M.row m k n * v n) := Lib.hid rfl
                go_wp2_with fail
                refine region_V (fun w2 => Own w w2 [(g8, 32, M.mat 4 (appK m v k)), (g6, 32, M.mat 4 M.zero), (g4, 32, M.mat 4 v), (g3, 23, M.mat 16 m)]) [0, 1, 2, 3, 4, 5, 6, 7, 8, 9] [some 47, some 48, some 49, some 50, some 51, some 52, some 53, some 54, some 55, some 56] [.int .i64 (M.part (M.row m k) v n), arr 16 m, .int .i64 k, .int .i64 n, .int .i64 (M.row m k n), .int .i64 n, .pointer (some ⟨g4, n, none⟩), .int .i64 (v n), .int .i64 (M.row m k n * v n), .int .i64 (M.part (M.row m k) v (n + 1))] 1 (by kernel_rfl) (by kernel_rfl) (by rfl) (by rfl) (O.drew) (fun F hF => ?_)
                simp only [fillD, Act.put, List.setIfInBounds_toArray, List.set_cons_zero, List.set_cons_succ] at hF
                subst hF
                refine ⟨⟨does_want rfl (by rfl) (fun w' O K hK => ?_), does_want rfl (by rfl) (fun w' O K hK => ?_), does_want rfl (by rfl) (fun w' O K hK => ?_), does_want rfl (by rfl) (fun w' O K hK => ?_), does_want rfl (by rfl) (fun w' O K hK => ?_), does_want rfl (by rfl) (fun w' O K hK => ?_), does_want rfl (by rfl) (fun w' O K hK => ?_), does_want rfl (by rfl) (fun w' O K hK => ?_), does_want rfl (by rfl) (fun w' O K hK => ?_), does_want rfl (by rfl) (fun w' O K hK => ?_), trivial⟩, fun w' O => ?_⟩
                · go_simp
                  exact hK _ O
                · exact wp_row_own O 3 rfl rfl Try.underlying23 (s23 _) (hK _ O)
                · go_simp
                  exact hK _ O
                · go_simp
                  exact hK _ O
                · go_simp
                  go_at_call 27
                  refine (at_any m k n _ hlt hln).mono ?_
                  rintro e w2 ⟨rfl, hb⟩
                  exact hK _ (O.call hb)
                · go_simp
                  exact hK _ O
                · exact wp_index_own Try.underlying32 sizeOf3 (by decide) (n) rfl rfl (by omega) (by omega) (hK _ O)
                · have c := O.cell 2 rfl (M.mat_get (a := v) (i := n) hln)
                  go_simp
                  exact hK _ O
                · have e : IntKind.i64.wrap (M.row m k n * v n) = M.row m k n * v n := IntWalk.i64_in _ (by omega)
                  go_simp
                  exact hK _ O
                · have e : IntKind.i64.wrap (M.part (M.row m k) v n + M.row m k n * v n) = M.part (M.row m k) v (n + 1) := by rw [HN.out]; exact IntWalk.i64_in _ (by omega)
                  go_simp
                  exact hK _ O
                refine wpAny_one (i := 10) (by kernel_rfl) rfl (fun K hK => ?_)
                go_simp
                refine hK _ _ ?_
                clear hK K
                try simp only [Act.put, List.setIfInBounds_toArray, List.set_cons_zero, List.set_cons_succ]
                refine wpAny_done (by kernel_rfl) ?_ _
                go_wp2_with fail
                go_roundw
                case rel => exact ⟨n + 1, by omega, by go_num, rfl, O⟩
                case measure => simp [intOf]; omega
              · have q5 : ¬ (n : Int) < 4 := by omega
                obtain rfl : n = 4 := by omega
                have hp := HS.out 4 (by omega)
                go_wp2_with (first | (go_at_call 28; refine (down_any _ _ (by omega) (by omega)).mono ?_; rintro e w' ⟨rfl, rfl⟩) | ((with_reducible refine at_store 60 ?_); refine wpList_set_own O 0 (.int .i64 (M.part (M.row m k) v 4 / 65536)) rfl (by rw [M.mat_len]; omega) rfl rfl size3 rfl rfl ?_; clear O ; intro w4 O))
                go_roundw
                case rel => exact ⟨k + 1, by omega, by go_num, by rw [← appK_set m v k hlt]; exact O⟩
                case measure => simp [intOf]; omega
          · have q1 : ¬ (k : Int) < 4 := by omega
            obtain rfl : k = 4 := by omega
            rw [appK_end] at O
            go_wp2_with fail
            obtain ⟨wo3, rfl⟩ : ∃ wo3 : World, wo3 = wr := ⟨_, rfl⟩
            go_loopw [14] (fun x wr => ∃ k : Nat, k ≤ 4 ∧ x = .int .i64 k ∧ M.allB k most (M.app m v) = true ∧ wo3 = wr) (fun x _ => 4 - (intOf x).toNat)
            case atStart => exact ⟨0, by omega, rfl, rfl, rfl⟩
            case round =>
              clear hlt q0 q1 hk
              obtain ⟨k, hk, rfl, hall, rfl⟩ := hrel
              have HC := Lib.hid hall
              clear hall
              have q0 : (0 : Int) ≤ k := by omega
              by_cases hlt : k < 4
              · have q1 : (k : Int) < 4 := by omega
                have c := O.cell 0 rfl (M.mat_get (a := M.app m v) (i := k) hlt)
                cases hs : M.inB most (M.app m v k)
                · have E : M.apply m v most = (M.zero, 4) := by simp [M.apply, HA.out, HB.out, hc, hd, M.allB_no hlt hs]
                  have HE := Lib.hid E
                  clear E
                  go_wp2_with (first | (go_at_call 30; refine (fits_any _ _ _ (by omega) (by omega)).mono ?_; rintro e w' ⟨rfl, rfl⟩) | ((with_reducible refine at_build 71 ?_); refine wpList_build_own [] (M.mat 4 M.zero).toArray ?_ built32z ?_; (focus simp)) | ((with_reducible refine at_store 6 ?_); refine wpList_put_own O 1 (M.mat 4 (M.zero)) rfl rfl rfl (s32 _) (M.mat_len2 _ _ _) (M.mat_one _ _) ?_; clear O c; intro w1 O))
                  exact bodyPost_ret (v := .tuple #[arr 4 M.zero, .int .i64 4]) (res_cell2 rfl O 1 rfl rfl Try.underlying32 (s32 _) rfl) rfl ⟨by rw [HE.out], O.below⟩
                · have HT := Lib.hid hs
                  go_wp2_with (go_at_call 30; refine (fits_any _ _ _ (by omega) (by omega)).mono ?_; rintro e w' ⟨rfl, rfl⟩)
                  go_roundw
                  case rel => exact ⟨k + 1, by omega, by go_num, by rw [allB_succ, HC.out, HT.out]; rfl, trivial⟩
                  case measure => simp [intOf]; omega
              · have q1 : ¬ (k : Int) < 4 := by omega
                obtain rfl : k = 4 := by omega
                have E : M.apply m v most = (M.app m v, 0) := by simp [M.apply, HA.out, HB.out, hc, hd, HC.out]
                have HE := Lib.hid E
                clear E
                go_wp2_with (first | ((with_reducible refine at_load 72 ?_); refine wpList_row_own O 0 rfl rfl Try.underlying32 (s32 _) ?_) | ((with_reducible refine at_store 6 ?_); refine wpList_put_own O 1 (M.mat 4 (M.app m v)) rfl rfl rfl (s32 _) (M.mat_len2 _ _ _) (M.mat_one _ _) ?_; clear O; intro w1 O))
                exact bodyPost_ret (v := .tuple #[arr 4 (M.app m v), .int .i64 0]) (res_cell2 rfl O 1 rfl rfl Try.underlying32 (s32 _) rfl) rfl ⟨by rw [HE.out], O.below⟩
theorem rapply_any (m v : Nat → Int) (most : Int) (w : World) : Calls Try.prog 19 #[arr 16 m, arr 4 v, .int .i64 most] w (RetTwo 4 w (M.apply m v most)) := by
  cases ha : M.right m
  · exact rapply_no1 m v most ha w
  · by_cases hc : most < 0
    · exact rapply_no2 m v most ha hc w
    · by_cases hd : 68719476736 < most
      · exact rapply_no3 m v most ha hc hd w
      · exact rapply_yes m v most ha (by omega) (by omega) w
end Go.Proofs.Ytidaffgfhmbomaa
