/- Contracts: how far in, twice. -/
import Derived.Test.YtbjbafhlmcnceaaW2
namespace Go.Proofs.Ytbjbafhlmcnceaa
open Go.ChangeShapes Go.WideShapes Go.ChangeAt Go.RowKit
set_option linter.unusedVariables false
set_option linter.unusedSimpArgs false

theorem D.part4 (x y : Nat → Int) : D.part x y 4 = x 0 * y 0 + x 1 * y 1 + x 2 * y 2 + x 3 * y 3 := by simp [D.part]
theorem D.kinds {s : Nat → Int} (h : D.right s = true) : s 0 = 0 ∨ s 0 = 1 ∨ s 0 = 2 ∨ s 0 = 3 := by
  have := D.kind_of h
  omega
theorem D.dist0 {s v : Nat → Int} (h : s 0 = 0) : D.dist s v = v 3 - 1 := by simp [D.dist, h]
theorem D.dist1 {s v : Nat → Int} (h : s 0 = 1) : D.dist s v = v 3 + v 2 := by simp [D.dist, h]
theorem D.dist2 {s v : Nat → Int} (h : s 0 = 2) : D.dist s v = v 3 - v 2 := by simp [D.dist, h]
theorem D.dist3 {s v : Nat → Int} (h : s 0 = 3) : D.dist s v = D.part (D.sub 1 s) v 4 := by simp [D.dist, h]
theorem D.dist3' {s v : Nat → Int} (h : s 0 = 3) : D.dist s v = s 1 * v 0 + s 2 * v 1 + s 3 * v 2 + s 4 * v 3 := by rw [D.dist3 h, D.part4]; rfl
set_option maxHeartbeats 4000000 in
theorem dist_any (s v : Nat → Int) (hs : D.right s = true) (hv : D.fits v = true) (w : World) : Calls Try.prog 13 #[arr 5 s, arr 8 v] w fun e w' => e = .returned (.int .i64 (D.dist s v)) ∧ Below w.heap.size w w' := by
  have O := Own.start w
  have h3 := D.fits_rng hv (i := 3) (by omega)
  have h2 := D.fits_rng hv (i := 2) (by omega)
  have HC := Lib.hid (D.coef_of hs)
  have HV := Lib.hid (D.fits_iff.1 hv).1
  have HK := D.kinds hs
  clear hs hv
  rcases HK with hk | hk | hk | hk
  · have HE := Lib.hid (D.dist0 (v := v) hk)
    have q0 : (s 0 == 0) = true := by simp [hk]
    clear hk
    go_enter Try.func13, Try.ntmps13
    go_wp2_with (first | ((with_reducible refine at_box 2 ?_); refine wpList_box_own O (M.mat 5 (s)) rfl ?_; clear O; intro g2 w1 O) | ((with_reducible refine at_box 3 ?_); refine wpList_box_own O (M.mat 8 (v)) rfl ?_; clear O; intro g3 w2 O) | ((with_reducible refine at_load 9 ?_); refine wpList_cell_h (v := .int .i64 ((s) (0))) rfl O.held 1 rfl (M.mat_get (by omega)) rfl agg3 rfl ?_) | ((with_reducible refine at_load 13 ?_); refine wpList_cell_h (v := .int .i64 ((v) (3))) rfl O.held 0 rfl (M.mat_get (by omega)) rfl agg3 rfl ?_) | ((with_reducible refine at_load 18 ?_); refine wpList_cell_h (v := .int .i64 ((v) (3))) rfl O.held 0 rfl (M.mat_get (by omega)) rfl agg3 rfl ?_) | ((with_reducible refine at_load 20 ?_); refine wpList_cell_h (v := .int .i64 ((v) (2))) rfl O.held 0 rfl (M.mat_get (by omega)) rfl agg3 rfl ?_) | ((with_reducible refine at_load 25 ?_); refine wpList_cell_h (v := .int .i64 ((v) (3))) rfl O.held 0 rfl (M.mat_get (by omega)) rfl agg3 rfl ?_) | ((with_reducible refine at_load 27 ?_); refine wpList_cell_h (v := .int .i64 ((v) (2))) rfl O.held 0 rfl (M.mat_get (by omega)) rfl agg3 rfl ?_))
    go_ret
    exact ⟨by rw [HE.out]; rfl, O.below⟩
  · have HE := Lib.hid (D.dist1 (v := v) hk)
    have q0 : (s 0 == 0) = false := by simp [hk]
    have q1 : (s 0 == 1) = true := by simp [hk]
    clear hk
    go_enter Try.func13, Try.ntmps13
    go_wp2_with (first | ((with_reducible refine at_box 2 ?_); refine wpList_box_own O (M.mat 5 (s)) rfl ?_; clear O; intro g2 w1 O) | ((with_reducible refine at_box 3 ?_); refine wpList_box_own O (M.mat 8 (v)) rfl ?_; clear O; intro g3 w2 O) | ((with_reducible refine at_load 9 ?_); refine wpList_cell_h (v := .int .i64 ((s) (0))) rfl O.held 1 rfl (M.mat_get (by omega)) rfl agg3 rfl ?_) | ((with_reducible refine at_load 13 ?_); refine wpList_cell_h (v := .int .i64 ((v) (3))) rfl O.held 0 rfl (M.mat_get (by omega)) rfl agg3 rfl ?_) | ((with_reducible refine at_load 18 ?_); refine wpList_cell_h (v := .int .i64 ((v) (3))) rfl O.held 0 rfl (M.mat_get (by omega)) rfl agg3 rfl ?_) | ((with_reducible refine at_load 20 ?_); refine wpList_cell_h (v := .int .i64 ((v) (2))) rfl O.held 0 rfl (M.mat_get (by omega)) rfl agg3 rfl ?_) | ((with_reducible refine at_load 25 ?_); refine wpList_cell_h (v := .int .i64 ((v) (3))) rfl O.held 0 rfl (M.mat_get (by omega)) rfl agg3 rfl ?_) | ((with_reducible refine at_load 27 ?_); refine wpList_cell_h (v := .int .i64 ((v) (2))) rfl O.held 0 rfl (M.mat_get (by omega)) rfl agg3 rfl ?_))
    go_ret
    exact ⟨by rw [HE.out]; rfl, O.below⟩
  · have HE := Lib.hid (D.dist2 (v := v) hk)
    have q0 : (s 0 == 0) = false := by simp [hk]
    have q1 : (s 0 == 1) = false := by simp [hk]
    have q2 : (s 0 == 2) = true := by simp [hk]
    clear hk
    go_enter Try.func13, Try.ntmps13
    go_wp2_with (first | ((with_reducible refine at_box 2 ?_); refine wpList_box_own O (M.mat 5 (s)) rfl ?_; clear O; intro g2 w1 O) | ((with_reducible refine at_box 3 ?_); refine wpList_box_own O (M.mat 8 (v)) rfl ?_; clear O; intro g3 w2 O) | ((with_reducible refine at_load 9 ?_); refine wpList_cell_h (v := .int .i64 ((s) (0))) rfl O.held 1 rfl (M.mat_get (by omega)) rfl agg3 rfl ?_) | ((with_reducible refine at_load 13 ?_); refine wpList_cell_h (v := .int .i64 ((v) (3))) rfl O.held 0 rfl (M.mat_get (by omega)) rfl agg3 rfl ?_) | ((with_reducible refine at_load 18 ?_); refine wpList_cell_h (v := .int .i64 ((v) (3))) rfl O.held 0 rfl (M.mat_get (by omega)) rfl agg3 rfl ?_) | ((with_reducible refine at_load 20 ?_); refine wpList_cell_h (v := .int .i64 ((v) (2))) rfl O.held 0 rfl (M.mat_get (by omega)) rfl agg3 rfl ?_) | ((with_reducible refine at_load 25 ?_); refine wpList_cell_h (v := .int .i64 ((v) (3))) rfl O.held 0 rfl (M.mat_get (by omega)) rfl agg3 rfl ?_) | ((with_reducible refine at_load 27 ?_); refine wpList_cell_h (v := .int .i64 ((v) (2))) rfl O.held 0 rfl (M.mat_get (by omega)) rfl agg3 rfl ?_))
    go_ret
    exact ⟨by rw [HE.out]; rfl, O.below⟩
  · have HE := Lib.hid (D.dist3 (v := v) hk)
    have q0 : (s 0 == 0) = false := by simp [hk]
    have q1 : (s 0 == 1) = false := by simp [hk]
    have q2 : (s 0 == 2) = false := by simp [hk]
    clear hk
    have HP := Lib.hid (D.part_le (x := D.sub 1 s) HC.out HV.out)
    go_enter Try.func13, Try.ntmps13
    go_wp2_with (first | ((with_reducible refine at_box 2 ?_); refine wpList_box_own O (M.mat 5 (s)) rfl ?_; clear O; intro g2 w1 O) | ((with_reducible refine at_box 3 ?_); refine wpList_box_own O (M.mat 8 (v)) rfl ?_; clear O; intro g3 w2 O) | ((with_reducible refine at_load 9 ?_); refine wpList_cell_h (v := .int .i64 ((s) (0))) rfl O.held 1 rfl (M.mat_get (by omega)) rfl agg3 rfl ?_) | ((with_reducible refine at_load 29 ?_); refine wpList_whole rfl O 0 rfl rfl Try.underlying27 rfl (s27 _) ?_) | (go_at_call 21; refine (place_any v _).mono ?_; rintro e w3 ⟨rfl, hb⟩; replace O := O.call hb; clear hb) | ((with_reducible refine at_alloc 6 ?_); refine wpList_alloc_own O (M.mat 4 M.zero) zero22 ?_; clear O; intro g6 w4 O) | ((with_reducible refine at_store 6 ?_); refine wpList_put_own O 0 (M.mat 4 (v)) rfl rfl rfl (s22 _) (M.mat_len2 _ _ _) (M.mat_one _ _) ?_; clear O; intro w5 O))
    go_loopw [5, 31] (fun u t wr => ∃ k : Nat, k ≤ 4 ∧ t = .int .i64 k ∧ u = .int .i64 (D.part (D.sub 1 s) v k) ∧ Own w wr [(g6, 22, M.mat 4 v), (g3, 27, M.mat 8 v), (g2, 24, M.mat 5 s)]) (fun _ t _ => 4 - (intOf t).toNat)
    case atStart => exact ⟨0, by omega, rfl, rfl, O⟩
    case round =>
      clear O
      obtain ⟨k, hk, rfl, rfl, O⟩ := hrel
      have q4 : (0 : Int) ≤ k := by omega
      by_cases hlt : k < 4
      · have q5 : (k : Int) < 4 := by omega
        have hm := D.mul_le (HC.out k hlt) (HV.out k hlt)
        have hp := HP.out k (by omega)
        have HS := Lib.hid (show D.part (D.sub 1 s) v (k + 1) = D.part (D.sub 1 s) v k + s (1 + k) * v k from rfl)
        go_wp2_with fail
        refine region_V (fun w2 => Own w w2 [(g6, 22, M.mat 4 v), (g3, 27, M.mat 8 v), (g2, 24, M.mat 5 s)]) [0, 1, 2, 3, 4, 5, 6, 7, 8, 9] [some 34, some 35, some 36, some 37, some 38, some 39, some 40, some 41, some 42, some 43] [.int .i64 (D.part (D.sub 1 s) v k), .int .i64 k, .pointer (some ⟨g2, 1, none⟩), .pointer (some ⟨g2, 1 + k, none⟩), .int .i64 (s (1 + k)), .int .i64 k, .pointer (some ⟨g6, k, none⟩), .int .i64 (v k), .int .i64 (s (1 + k) * v k), .int .i64 (D.part (D.sub 1 s) v (k + 1))] 1 (by kernel_rfl) (by kernel_rfl) (by rfl) (by rfl) (O.drew) (fun F hF => ?_)
        simp only [fillD, Act.put, List.setIfInBounds_toArray, List.set_cons_zero, List.set_cons_succ] at hF
        subst hF
        refine ⟨⟨does_want rfl (by rfl) (fun w' O K hK => ?_), does_want rfl (by rfl) (fun w' O K hK => ?_), does_want rfl (by rfl) (fun w' O K hK => ?_), does_want rfl (by rfl) (fun w' O K hK => ?_), does_want rfl (by rfl) (fun w' O K hK => ?_), does_want rfl (by rfl) (fun w' O K hK => ?_), does_want rfl (by rfl) (fun w' O K hK => ?_), does_want rfl (by rfl) (fun w' O K hK => ?_), does_want rfl (by rfl) (fun w' O K hK => ?_), does_want rfl (by rfl) (fun w' O K hK => ?_), trivial⟩, fun w' O => ?_⟩
        · go_simp
          exact hK _ O
        · go_simp
          exact hK _ O
        · go_simp
          exact hK _ O
        · exact wp_ino Try.underlying22 sizeOf3 (by decide) (k) rfl rfl (by omega) (by omega) (hK _ O)
        · exact wp_cell_h (v := .int .i64 ((s) (1 + k))) O.held 2 rfl (M.mat_get (by omega)) rfl agg3 rfl (hK _ O)
        · go_simp
          exact hK _ O
        · go_simp
          exact hK _ O
        · exact wp_cell_h (v := .int .i64 ((v) (k))) O.held 0 rfl (M.mat_get (by omega)) rfl agg3 rfl (hK _ O)
        · have e : IntKind.i64.wrap (s (1 + k) * v k) = s (1 + k) * v k := IntWalk.i64_in _ (by omega)
          go_simp
          exact hK _ O
        · have e : IntKind.i64.wrap (D.part (D.sub 1 s) v k + s (1 + k) * v k) = D.part (D.sub 1 s) v (k + 1) := by rw [HS.out]; exact IntWalk.i64_in _ (by omega)
          go_simp
          exact hK _ O
        refine wpAny_one (i := 10) (by kernel_rfl) rfl (fun K hK => ?_)
        go_simp
        refine hK _ _ ?_
        clear hK K
        try simp only [Act.put, List.setIfInBounds_toArray, List.set_cons_zero, List.set_cons_succ]
        refine wpAny_done (by kernel_rfl) ?_ _
        go_wp2_with fail
        go_roundw
        case rel => exact ⟨k + 1, by omega, by go_num, rfl, O⟩
        case measure => simp [intOf]; omega
      · have q5 : ¬ (k : Int) < 4 := by omega
        obtain rfl : k = 4 := by omega
        go_wp2_with fail
        go_ret
        exact ⟨by rw [HE.out]; rfl, O.below⟩
set_option maxHeartbeats 4000000 in
theorem rdist_any (s v : Nat → Int) (hs : D.right s = true) (hv : D.fits v = true) (w : World) : Calls Try.prog 14 #[arr 5 s, arr 8 v] w fun e w' => e = .returned (.int .i64 (D.dist s v)) ∧ Below w.heap.size w w' := by
  have O := Own.start w
  have h3 := D.fits_rng hv (i := 3) (by omega)
  have h2 := D.fits_rng hv (i := 2) (by omega)
  have HC := Lib.hid (D.coef_of hs)
  have HV := Lib.hid (D.fits_iff.1 hv).1
  have HK := D.kinds hs
  clear hs hv
  rcases HK with hk | hk | hk | hk
  · have HE := Lib.hid (D.dist0 (v := v) hk)
    have q0 : (s 0 == 0) = true := by simp [hk]
    clear hk
    go_enter Try.func14, Try.ntmps14
    go_wp2_with (first | ((with_reducible refine at_box 2 ?_); refine wpList_box_own O (M.mat 5 (s)) rfl ?_; clear O; intro g2 w1 O) | ((with_reducible refine at_box 3 ?_); refine wpList_box_own O (M.mat 8 (v)) rfl ?_; clear O; intro g3 w2 O) | ((with_reducible refine at_load 6 ?_); refine wpList_cell_h (v := .int .i64 ((s) (0))) rfl O.held 1 rfl (M.mat_get (by omega)) rfl agg3 rfl ?_) | ((with_reducible refine at_load 10 ?_); refine wpList_cell_h (v := .int .i64 ((v) (3))) rfl O.held 0 rfl (M.mat_get (by omega)) rfl agg3 rfl ?_) | ((with_reducible refine at_load 15 ?_); refine wpList_cell_h (v := .int .i64 ((v) (3))) rfl O.held 0 rfl (M.mat_get (by omega)) rfl agg3 rfl ?_) | ((with_reducible refine at_load 17 ?_); refine wpList_cell_h (v := .int .i64 ((v) (2))) rfl O.held 0 rfl (M.mat_get (by omega)) rfl agg3 rfl ?_) | ((with_reducible refine at_load 22 ?_); refine wpList_cell_h (v := .int .i64 ((v) (3))) rfl O.held 0 rfl (M.mat_get (by omega)) rfl agg3 rfl ?_) | ((with_reducible refine at_load 24 ?_); refine wpList_cell_h (v := .int .i64 ((v) (2))) rfl O.held 0 rfl (M.mat_get (by omega)) rfl agg3 rfl ?_))
    go_ret
    exact ⟨by rw [HE.out]; rfl, O.below⟩
  · have HE := Lib.hid (D.dist1 (v := v) hk)
    have q0 : (s 0 == 0) = false := by simp [hk]
    have q1 : (s 0 == 1) = true := by simp [hk]
    clear hk
    go_enter Try.func14, Try.ntmps14
    go_wp2_with (first | ((with_reducible refine at_box 2 ?_); refine wpList_box_own O (M.mat 5 (s)) rfl ?_; clear O; intro g2 w1 O) | ((with_reducible refine at_box 3 ?_); refine wpList_box_own O (M.mat 8 (v)) rfl ?_; clear O; intro g3 w2 O) | ((with_reducible refine at_load 6 ?_); refine wpList_cell_h (v := .int .i64 ((s) (0))) rfl O.held 1 rfl (M.mat_get (by omega)) rfl agg3 rfl ?_) | ((with_reducible refine at_load 10 ?_); refine wpList_cell_h (v := .int .i64 ((v) (3))) rfl O.held 0 rfl (M.mat_get (by omega)) rfl agg3 rfl ?_) | ((with_reducible refine at_load 15 ?_); refine wpList_cell_h (v := .int .i64 ((v) (3))) rfl O.held 0 rfl (M.mat_get (by omega)) rfl agg3 rfl ?_) | ((with_reducible refine at_load 17 ?_); refine wpList_cell_h (v := .int .i64 ((v) (2))) rfl O.held 0 rfl (M.mat_get (by omega)) rfl agg3 rfl ?_) | ((with_reducible refine at_load 22 ?_); refine wpList_cell_h (v := .int .i64 ((v) (3))) rfl O.held 0 rfl (M.mat_get (by omega)) rfl agg3 rfl ?_) | ((with_reducible refine at_load 24 ?_); refine wpList_cell_h (v := .int .i64 ((v) (2))) rfl O.held 0 rfl (M.mat_get (by omega)) rfl agg3 rfl ?_))
    go_ret
    exact ⟨by rw [HE.out]; rfl, O.below⟩
  · have HE := Lib.hid (D.dist2 (v := v) hk)
    have q0 : (s 0 == 0) = false := by simp [hk]
    have q1 : (s 0 == 1) = false := by simp [hk]
    have q2 : (s 0 == 2) = true := by simp [hk]
    clear hk
    go_enter Try.func14, Try.ntmps14
    go_wp2_with (first | ((with_reducible refine at_box 2 ?_); refine wpList_box_own O (M.mat 5 (s)) rfl ?_; clear O; intro g2 w1 O) | ((with_reducible refine at_box 3 ?_); refine wpList_box_own O (M.mat 8 (v)) rfl ?_; clear O; intro g3 w2 O) | ((with_reducible refine at_load 6 ?_); refine wpList_cell_h (v := .int .i64 ((s) (0))) rfl O.held 1 rfl (M.mat_get (by omega)) rfl agg3 rfl ?_) | ((with_reducible refine at_load 10 ?_); refine wpList_cell_h (v := .int .i64 ((v) (3))) rfl O.held 0 rfl (M.mat_get (by omega)) rfl agg3 rfl ?_) | ((with_reducible refine at_load 15 ?_); refine wpList_cell_h (v := .int .i64 ((v) (3))) rfl O.held 0 rfl (M.mat_get (by omega)) rfl agg3 rfl ?_) | ((with_reducible refine at_load 17 ?_); refine wpList_cell_h (v := .int .i64 ((v) (2))) rfl O.held 0 rfl (M.mat_get (by omega)) rfl agg3 rfl ?_) | ((with_reducible refine at_load 22 ?_); refine wpList_cell_h (v := .int .i64 ((v) (3))) rfl O.held 0 rfl (M.mat_get (by omega)) rfl agg3 rfl ?_) | ((with_reducible refine at_load 24 ?_); refine wpList_cell_h (v := .int .i64 ((v) (2))) rfl O.held 0 rfl (M.mat_get (by omega)) rfl agg3 rfl ?_))
    go_ret
    exact ⟨by rw [HE.out]; rfl, O.below⟩
  · have HE := Lib.hid (D.dist3' (v := v) hk)
    have q0 : (s 0 == 0) = false := by simp [hk]
    have q1 : (s 0 == 1) = false := by simp [hk]
    have q2 : (s 0 == 2) = false := by simp [hk]
    clear hk
    have m0 := D.mul_le (HC.out 0 (by omega)) (HV.out 0 (by omega))
    have m1 := D.mul_le (HC.out 1 (by omega)) (HV.out 1 (by omega))
    have m2 := D.mul_le (HC.out 2 (by omega)) (HV.out 2 (by omega))
    have m3 := D.mul_le (HC.out 3 (by omega)) (HV.out 3 (by omega))
    simp only [Nat.add_zero, Nat.reduceAdd] at m0 m1 m2 m3
    have e0 : wrap64 (s 1 * v 0) = s 1 * v 0 := IntWalk.wrap64_in _ (by omega)
    have e1 : wrap64 (s 2 * v 1) = s 2 * v 1 := IntWalk.wrap64_in _ (by omega)
    have e2 : wrap64 (s 3 * v 2) = s 3 * v 2 := IntWalk.wrap64_in _ (by omega)
    have e3 : wrap64 (s 4 * v 3) = s 4 * v 3 := IntWalk.wrap64_in _ (by omega)
    have e4 : wrap64 (s 1 * v 0 + s 2 * v 1) = s 1 * v 0 + s 2 * v 1 := IntWalk.wrap64_in _ (by omega)
    have e5 : wrap64 (s 1 * v 0 + s 2 * v 1 + s 3 * v 2) = s 1 * v 0 + s 2 * v 1 + s 3 * v 2 := IntWalk.wrap64_in _ (by omega)
    have e6 : wrap64 (s 1 * v 0 + s 2 * v 1 + s 3 * v 2 + s 4 * v 3) = s 1 * v 0 + s 2 * v 1 + s 3 * v 2 + s 4 * v 3 := IntWalk.wrap64_in _ (by omega)
    clear m0 m1 m2 m3
    go_enter Try.func14, Try.ntmps14
    go_wp2_with (first | ((with_reducible refine at_box 2 ?_); refine wpList_box_own O (M.mat 5 (s)) rfl ?_; clear O; intro g2 w1 O) | ((with_reducible refine at_box 3 ?_); refine wpList_box_own O (M.mat 8 (v)) rfl ?_; clear O; intro g3 w2 O) | ((with_reducible refine at_load 6 ?_); refine wpList_cell_h (v := .int .i64 ((s) (0))) rfl O.held 1 rfl (M.mat_get (by omega)) rfl agg3 rfl ?_) | ((with_reducible refine at_index_ 27 ?_); refine wpList_ino rfl Try.underlying22 sizeOf3 (by decide) (0) rfl rfl (rfl) (by omega) ?_) | ((with_reducible refine at_load 28 ?_); refine wpList_cell_h (v := .int .i64 ((s) (1))) rfl O.held 1 rfl (M.mat_get (by omega)) rfl agg3 rfl ?_) | ((with_reducible refine at_load 30 ?_); refine wpList_cell_h (v := .int .i64 ((v) (0))) rfl O.held 0 rfl (M.mat_get (by omega)) rfl agg3 rfl ?_) | ((with_reducible refine at_index_ 33 ?_); refine wpList_ino rfl Try.underlying22 sizeOf3 (by decide) (1) rfl rfl (rfl) (by omega) ?_) | ((with_reducible refine at_load 34 ?_); refine wpList_cell_h (v := .int .i64 ((s) (2))) rfl O.held 1 rfl (M.mat_get (by omega)) rfl agg3 rfl ?_) | ((with_reducible refine at_load 36 ?_); refine wpList_cell_h (v := .int .i64 ((v) (1))) rfl O.held 0 rfl (M.mat_get (by omega)) rfl agg3 rfl ?_) | ((with_reducible refine at_index_ 40 ?_); refine wpList_ino rfl Try.underlying22 sizeOf3 (by decide) (2) rfl rfl (rfl) (by omega) ?_) | ((with_reducible refine at_load 41 ?_); refine wpList_cell_h (v := .int .i64 ((s) (3))) rfl O.held 1 rfl (M.mat_get (by omega)) rfl agg3 rfl ?_) | ((with_reducible refine at_load 43 ?_); refine wpList_cell_h (v := .int .i64 ((v) (2))) rfl O.held 0 rfl (M.mat_get (by omega)) rfl agg3 rfl ?_) | ((with_reducible refine at_index_ 47 ?_); refine wpList_ino rfl Try.underlying22 sizeOf3 (by decide) (3) rfl rfl (rfl) (by omega) ?_) | ((with_reducible refine at_load 48 ?_); refine wpList_cell_h (v := .int .i64 ((s) (4))) rfl O.held 1 rfl (M.mat_get (by omega)) rfl agg3 rfl ?_) | ((with_reducible refine at_load 50 ?_); refine wpList_cell_h (v := .int .i64 ((v) (3))) rfl O.held 0 rfl (M.mat_get (by omega)) rfl agg3 rfl ?_))
    go_ret
    exact ⟨by rw [HE.out]; exact congrArg (fun z => Ending.returned (.int .i64 z)) e6, O.below⟩
end Go.Proofs.Ytbjbafhlmcnceaa
