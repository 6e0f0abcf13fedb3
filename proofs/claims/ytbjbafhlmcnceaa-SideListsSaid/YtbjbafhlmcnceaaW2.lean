/- Contracts: Right, Fits, twice each. -/
import Derived.Test.YtbjbafhlmcnceaaW1
namespace Go.Proofs.Ytbjbafhlmcnceaa
open Go.ChangeShapes Go.WideShapes Go.ChangeAt Go.RowKit
set_option linter.unusedVariables false
set_option linter.unusedSimpArgs false

theorem D.right_bad1 {s : Nat → Int} {i : Nat} (hi : i < 4) (h : D.inB (-32768) 32768 (s (1 + i)) = false) : D.right s = false := by
  rw [← Bool.not_eq_true]
  intro hr
  have h1 := D.coef_of hr i hi
  have h2 := D.inB_no.1 h
  omega
theorem D.right_bad2 {s : Nat → Int} {i : Nat} (hi : i < 4) (h3 : ¬ s 0 = 3) (h : ¬ s (1 + i) = 0) : D.right s = false := by
  rw [D.right, if_neg h3]
  have : M.eqB 4 (D.sub 1 s) M.zero = false := by
    rw [← Bool.not_eq_true, M.eqB_iff]
    exact fun ha => h (ha i hi)
  rw [this, Bool.and_false]
theorem D.right_end {s : Nat → Int} (h : ∀ i, i < 4 → D.inB (-32768) 32768 (s (1 + i)) = true ∧ (s 0 = 3 ∨ s (1 + i) = 0)) : D.inB 0 3 (s 0) = D.right s := by
  unfold D.right
  split
  · rename_i h3
    rw [h3, show D.coef s = true from D.allB_iff.2 fun i hi => D.inB_iff.1 (h i hi).1]
    rfl
  · rename_i h3
    rw [show M.eqB 4 (D.sub 1 s) M.zero = true from M.eqB_iff.2 fun i hi => ((h i hi).2.resolve_left h3), Bool.and_true, Bool.eq_iff_iff, D.inB_iff, D.inB_iff]
    omega
set_option maxHeartbeats 2000000 in
theorem right_any (s : Nat → Int) (w : World) : Calls Try.prog 8 #[arr 5 s] w fun e w' => e = .returned (.bool (D.right s)) ∧ Below w.heap.size w w' := by
  have O := Own.start w
  by_cases h3 : s 0 = 3
  · have E : D.right s = D.allB 4 (-32768) 32768 (D.sub 1 s) := if_pos h3
    have HE := Lib.hid E
    have q : (s 0 == 3) = true := by simpa using h3
    clear h3 E
    go_enter Try.func8, Try.ntmps8
    go_wp2_with (first | ((with_reducible refine at_box 1 ?_); refine wpList_box_own O (M.mat 5 (s)) rfl ?_; clear O; intro g1 w1 O) | ((with_reducible refine at_load 4 ?_); refine wpList_cell_h (v := .int .i64 ((s) (0))) rfl O.held 0 rfl (M.mat_get (by omega)) rfl agg3 rfl ?_) | ((with_reducible refine at_load 7 ?_); refine wpList_mid_h rfl O.held 0 rfl (M.mat 4 (D.sub 1 s)) (mat_sub s (by omega)) rfl Try.underlying22 rfl (s22 _) ?_) | (go_at_call 19; refine (among_any _ _ _ _).mono ?_; rintro e w2 ⟨rfl, hb⟩; replace O := O.call hb; clear hb))
    go_ret
    exact ⟨by rw [HE.out]; rfl, O.below⟩
  · have E : D.right s = (D.inB 0 2 (s 0) && M.eqB 4 (D.sub 1 s) M.zero) := if_neg h3
    have HE := Lib.hid E
    have q : (s 0 == 3) = false := by simpa using h3
    clear h3 E
    by_cases h0 : s 0 < 0
    · have q0 : decide (0 ≤ s 0) = false := by simp; omega
      have q1 : D.inB 0 2 (s 0) = false := D.inB_no.2 (.inl h0)
      have H1 := Lib.hid q1
      clear q1 h0
      go_enter Try.func8, Try.ntmps8
      go_wp2_with (first | ((with_reducible refine at_box 1 ?_); refine wpList_box_own O (M.mat 5 (s)) rfl ?_; clear O; intro g1 w1 O) | ((with_reducible refine at_load 4 ?_); refine wpList_cell_h (v := .int .i64 ((s) (0))) rfl O.held 0 rfl (M.mat_get (by omega)) rfl agg3 rfl ?_) | ((with_reducible refine at_load 10 ?_); refine wpList_cell_h (v := .int .i64 ((s) (0))) rfl O.held 0 rfl (M.mat_get (by omega)) rfl agg3 rfl ?_) | ((with_reducible refine at_load 14 ?_); refine wpList_cell_h (v := .int .i64 ((s) (0))) rfl O.held 0 rfl (M.mat_get (by omega)) rfl agg3 rfl ?_) | ((with_reducible refine at_load 19 ?_); refine wpList_mid_h rfl O.held 0 rfl (M.mat 4 (D.sub 1 s)) (mat_sub s (by omega)) rfl Try.underlying22 rfl (s22 _) ?_) | ((with_reducible refine at_build 20 ?_); refine wpList_build_g rfl ([]) ((M.mat 4 M.zero).toArray) ?_ (built22z) ?_; (focus (simp only [List.map_toArray, List.map_cons, List.map_nil]; rfl))) | ((with_reducible refine at_binOp 21 ?_); refine wpList_eq22 rfl (D.sub 1 s) (M.zero) rfl rfl ?_))
      go_ret
      exact ⟨by rw [HE.out, H1.out]; rfl, O.below⟩
    · have q0 : decide (0 ≤ s 0) = true := by simp; omega
      by_cases h2 : 2 < s 0
      · have q2 : decide (s 0 ≤ 2) = false := by simp; omega
        have q1 : D.inB 0 2 (s 0) = false := D.inB_no.2 (.inr h2)
        have H1 := Lib.hid q1
        clear q1 h0 h2
        go_enter Try.func8, Try.ntmps8
        go_wp2_with (first | ((with_reducible refine at_box 1 ?_); refine wpList_box_own O (M.mat 5 (s)) rfl ?_; clear O; intro g1 w1 O) | ((with_reducible refine at_load 4 ?_); refine wpList_cell_h (v := .int .i64 ((s) (0))) rfl O.held 0 rfl (M.mat_get (by omega)) rfl agg3 rfl ?_) | ((with_reducible refine at_load 10 ?_); refine wpList_cell_h (v := .int .i64 ((s) (0))) rfl O.held 0 rfl (M.mat_get (by omega)) rfl agg3 rfl ?_) | ((with_reducible refine at_load 14 ?_); refine wpList_cell_h (v := .int .i64 ((s) (0))) rfl O.held 0 rfl (M.mat_get (by omega)) rfl agg3 rfl ?_) | ((with_reducible refine at_load 19 ?_); refine wpList_mid_h rfl O.held 0 rfl (M.mat 4 (D.sub 1 s)) (mat_sub s (by omega)) rfl Try.underlying22 rfl (s22 _) ?_) | ((with_reducible refine at_build 20 ?_); refine wpList_build_g rfl ([]) ((M.mat 4 M.zero).toArray) ?_ (built22z) ?_; (focus (simp only [List.map_toArray, List.map_cons, List.map_nil]; rfl))) | ((with_reducible refine at_binOp 21 ?_); refine wpList_eq22 rfl (D.sub 1 s) (M.zero) rfl rfl ?_))
        go_ret
        exact ⟨by rw [HE.out, H1.out]; rfl, O.below⟩
      · have q2 : decide (s 0 ≤ 2) = true := by simp; omega
        have q1 : D.inB 0 2 (s 0) = true := D.inB_iff.2 ⟨by omega, by omega⟩
        have H1 := Lib.hid q1
        clear q1 h0 h2
        go_enter Try.func8, Try.ntmps8
        go_wp2_with (first | ((with_reducible refine at_box 1 ?_); refine wpList_box_own O (M.mat 5 (s)) rfl ?_; clear O; intro g1 w1 O) | ((with_reducible refine at_load 4 ?_); refine wpList_cell_h (v := .int .i64 ((s) (0))) rfl O.held 0 rfl (M.mat_get (by omega)) rfl agg3 rfl ?_) | ((with_reducible refine at_load 10 ?_); refine wpList_cell_h (v := .int .i64 ((s) (0))) rfl O.held 0 rfl (M.mat_get (by omega)) rfl agg3 rfl ?_) | ((with_reducible refine at_load 14 ?_); refine wpList_cell_h (v := .int .i64 ((s) (0))) rfl O.held 0 rfl (M.mat_get (by omega)) rfl agg3 rfl ?_) | ((with_reducible refine at_load 19 ?_); refine wpList_mid_h rfl O.held 0 rfl (M.mat 4 (D.sub 1 s)) (mat_sub s (by omega)) rfl Try.underlying22 rfl (s22 _) ?_) | ((with_reducible refine at_build 20 ?_); refine wpList_build_g rfl ([]) ((M.mat 4 M.zero).toArray) ?_ (built22z) ?_; (focus (simp only [List.map_toArray, List.map_cons, List.map_nil]; rfl))) | ((with_reducible refine at_binOp 21 ?_); refine wpList_eq22 rfl (D.sub 1 s) (M.zero) rfl rfl ?_))
        go_ret
        exact ⟨by rw [HE.out, H1.out]; rfl, O.below⟩
set_option maxHeartbeats 2000000 in
theorem rright_any (s : Nat → Int) (w : World) : Calls Try.prog 9 #[arr 5 s] w fun e w' => e = .returned (.bool (D.right s)) ∧ Below w.heap.size w w' := by
  have O := Own.start w
  go_enter Try.func9, Try.ntmps9
  go_wp2_with ((with_reducible refine at_box 1 ?_); refine wpList_box_own O (M.mat 5 (s)) rfl ?_; clear O; intro g1 w1 O)
  go_loopw [3] (fun u wr => ∃ k : Nat, k ≤ 4 ∧ u = .int .i64 k ∧ (∀ i, i < k → D.inB (-32768) 32768 (s (1 + i)) = true ∧ (s 0 = 3 ∨ s (1 + i) = 0)) ∧ w1 = wr) (fun v _ => 4 - (intOf v).toNat)
  case atStart => exact ⟨0, by omega, rfl, fun i hi => absurd hi (by omega), rfl⟩
  case round =>
    obtain ⟨k, hk, rfl, hall, rfl⟩ := hrel
    have q0 : (0 : Int) ≤ k := by omega
    have HA := Lib.hid hall
    clear hall
    have hB := O.below
    by_cases hlt : k < 4
    · have q1 : (k : Int) < 4 := by omega
      cases hc : D.inB (-32768) 32768 (s (1 + k))
      · have HF := Lib.hid (D.right_bad1 hlt hc)
        go_wp2_with (first | ((with_reducible refine at_index_ 10 ?_); refine wpList_ino rfl Try.underlying22 sizeOf3 (by decide) (k) rfl rfl (rfl) (by omega) ?_) | ((with_reducible refine at_load 11 ?_); refine wpList_cell_h (v := .int .i64 ((s) (1 + k))) rfl O.held 0 rfl (M.mat_get (by omega)) rfl agg3 rfl ?_) | (go_at_call 20; refine (within_any _ _ _ _).mono ?_; rintro e w' ⟨rfl, rfl⟩) | ((with_reducible refine at_load 16 ?_); refine wpList_cell_h (v := .int .i64 ((s) (0))) rfl O.held 0 rfl (M.mat_get (by omega)) rfl agg3 rfl ?_) | ((with_reducible refine at_index_ 21 ?_); refine wpList_ino rfl Try.underlying22 sizeOf3 (by decide) (k) rfl rfl (rfl) (by omega) ?_) | ((with_reducible refine at_load 22 ?_); refine wpList_cell_h (v := .int .i64 ((s) (1 + k))) rfl O.held 0 rfl (M.mat_get (by omega)) rfl agg3 rfl ?_))
        go_ret
        exact ⟨by rw [HF.out]; rfl, hB⟩
      · by_cases h3 : s 0 = 3
        · have q3 : (s 0 != 3) = false := by simpa using h3
          have H3 := Lib.hid h3
          clear h3
          go_wp2_with (first | ((with_reducible refine at_index_ 10 ?_); refine wpList_ino rfl Try.underlying22 sizeOf3 (by decide) (k) rfl rfl (rfl) (by omega) ?_) | ((with_reducible refine at_load 11 ?_); refine wpList_cell_h (v := .int .i64 ((s) (1 + k))) rfl O.held 0 rfl (M.mat_get (by omega)) rfl agg3 rfl ?_) | (go_at_call 20; refine (within_any _ _ _ _).mono ?_; rintro e w' ⟨rfl, rfl⟩) | ((with_reducible refine at_load 16 ?_); refine wpList_cell_h (v := .int .i64 ((s) (0))) rfl O.held 0 rfl (M.mat_get (by omega)) rfl agg3 rfl ?_) | ((with_reducible refine at_index_ 21 ?_); refine wpList_ino rfl Try.underlying22 sizeOf3 (by decide) (k) rfl rfl (rfl) (by omega) ?_) | ((with_reducible refine at_load 22 ?_); refine wpList_cell_h (v := .int .i64 ((s) (1 + k))) rfl O.held 0 rfl (M.mat_get (by omega)) rfl agg3 rfl ?_))
          go_roundw
          case rel => exact ⟨k + 1, by omega, by go_num, fun i hi => by
            by_cases e : i = k
            · subst e; exact ⟨hc, .inl H3.out⟩
            · exact HA.out i (by omega), trivial⟩
          case measure => simp [intOf]; omega
        · have q3 : (s 0 != 3) = true := by simpa using h3
          have H3 := Lib.hid h3
          clear h3
          by_cases h0 : s (1 + k) = 0
          · have q4 : (s (1 + k) != 0) = false := by simpa using h0
            have H0 := Lib.hid h0
            clear h0
            go_wp2_with (first | ((with_reducible refine at_index_ 10 ?_); refine wpList_ino rfl Try.underlying22 sizeOf3 (by decide) (k) rfl rfl (rfl) (by omega) ?_) | ((with_reducible refine at_load 11 ?_); refine wpList_cell_h (v := .int .i64 ((s) (1 + k))) rfl O.held 0 rfl (M.mat_get (by omega)) rfl agg3 rfl ?_) | (go_at_call 20; refine (within_any _ _ _ _).mono ?_; rintro e w' ⟨rfl, rfl⟩) | ((with_reducible refine at_load 16 ?_); refine wpList_cell_h (v := .int .i64 ((s) (0))) rfl O.held 0 rfl (M.mat_get (by omega)) rfl agg3 rfl ?_) | ((with_reducible refine at_index_ 21 ?_); refine wpList_ino rfl Try.underlying22 sizeOf3 (by decide) (k) rfl rfl (rfl) (by omega) ?_) | ((with_reducible refine at_load 22 ?_); refine wpList_cell_h (v := .int .i64 ((s) (1 + k))) rfl O.held 0 rfl (M.mat_get (by omega)) rfl agg3 rfl ?_))
            go_roundw
            case rel => exact ⟨k + 1, by omega, by go_num, fun i hi => by
              by_cases e : i = k
              · subst e; exact ⟨hc, .inr H0.out⟩
              · exact HA.out i (by omega), trivial⟩
            case measure => simp [intOf]; omega
          · have q4 : (s (1 + k) != 0) = true := by simpa using h0
            have HF := Lib.hid (D.right_bad2 hlt H3.out h0)
            clear h0
            go_wp2_with (first | ((with_reducible refine at_index_ 10 ?_); refine wpList_ino rfl Try.underlying22 sizeOf3 (by decide) (k) rfl rfl (rfl) (by omega) ?_) | ((with_reducible refine at_load 11 ?_); refine wpList_cell_h (v := .int .i64 ((s) (1 + k))) rfl O.held 0 rfl (M.mat_get (by omega)) rfl agg3 rfl ?_) | (go_at_call 20; refine (within_any _ _ _ _).mono ?_; rintro e w' ⟨rfl, rfl⟩) | ((with_reducible refine at_load 16 ?_); refine wpList_cell_h (v := .int .i64 ((s) (0))) rfl O.held 0 rfl (M.mat_get (by omega)) rfl agg3 rfl ?_) | ((with_reducible refine at_index_ 21 ?_); refine wpList_ino rfl Try.underlying22 sizeOf3 (by decide) (k) rfl rfl (rfl) (by omega) ?_) | ((with_reducible refine at_load 22 ?_); refine wpList_cell_h (v := .int .i64 ((s) (1 + k))) rfl O.held 0 rfl (M.mat_get (by omega)) rfl agg3 rfl ?_))
            go_ret
            exact ⟨by rw [HF.out]; rfl, hB⟩
    · have q1 : ¬ (k : Int) < 4 := by omega
      obtain rfl : k = 4 := by omega
      have HF := Lib.hid (D.right_end HA.out)
      go_wp2_with (first | ((with_reducible refine at_load 27 ?_); refine wpList_cell_h (v := .int .i64 ((s) (0))) rfl O.held 0 rfl (M.mat_get (by omega)) rfl agg3 rfl ?_) | (go_at_call 20; refine (within_any _ _ _ _).mono ?_; rintro e w' ⟨rfl, rfl⟩))
      go_ret
      exact ⟨by rw [HF.out]; rfl, hB⟩
set_option maxHeartbeats 2000000 in
theorem fits_any (v : Nat → Int) (w : World) : Calls Try.prog 10 #[arr 8 v] w fun e w' => e = .returned (.bool (D.fits v)) ∧ Below w.heap.size w w' := by
  have O := Own.start w
  cases hp : D.allB 4 (-68719476736) 68719476736 v
  · have E : D.fits v = false := by rw [D.fits, D.place, hp, Bool.false_and]
    have HE := Lib.hid E
    clear E
    go_enter Try.func10, Try.ntmps10
    go_wp2_with (first | ((with_reducible refine at_box 1 ?_); refine wpList_box_own O (M.mat 8 (v)) rfl ?_; clear O; intro g1 w1 O) | ((with_reducible refine at_load 3 ?_); refine wpList_whole rfl O 0 rfl rfl Try.underlying27 rfl (s27 _) ?_) | (go_at_call 21; refine (place_any v _).mono ?_; rintro e w2 ⟨rfl, hb⟩; replace O := O.call hb; clear hb) | (go_at_call 19; refine (among_any _ _ _ _).mono ?_; rintro e w3 ⟨rfl, hb⟩; replace O := O.call hb; clear hb) | ((with_reducible refine at_load 8 ?_); refine wpList_mid_h rfl O.held 0 rfl (M.mat 4 (D.sub 4 v)) (mat_sub v (by omega)) rfl Try.underlying25 rfl (s25 _) ?_))
    go_ret
    exact ⟨by rw [HE.out]; rfl, O.below⟩
  · have E : D.fits v = D.allB 4 0 255 (D.sub 4 v) := by rw [D.fits, D.place, hp, Bool.true_and, D.color]
    have HE := Lib.hid E
    clear E
    go_enter Try.func10, Try.ntmps10
    go_wp2_with (first | ((with_reducible refine at_box 1 ?_); refine wpList_box_own O (M.mat 8 (v)) rfl ?_; clear O; intro g1 w1 O) | ((with_reducible refine at_load 3 ?_); refine wpList_whole rfl O 0 rfl rfl Try.underlying27 rfl (s27 _) ?_) | (go_at_call 21; refine (place_any v _).mono ?_; rintro e w2 ⟨rfl, hb⟩; replace O := O.call hb; clear hb) | (go_at_call 19; refine (among_any _ _ _ _).mono ?_; rintro e w3 ⟨rfl, hb⟩; replace O := O.call hb; clear hb) | ((with_reducible refine at_load 8 ?_); refine wpList_mid_h rfl O.held 0 rfl (M.mat 4 (D.sub 4 v)) (mat_sub v (by omega)) rfl Try.underlying25 rfl (s25 _) ?_))
    go_ret
    exact ⟨by rw [HE.out]; rfl, O.below⟩
theorem D.fits_bad1 {v : Nat → Int} {i : Nat} (hi : i < 4) (h : D.inB (-68719476736) 68719476736 (v i) = false) : D.fits v = false := by
  rw [D.fits, D.place, D.allB_no hi h, Bool.false_and]
theorem D.fits_bad2 {v : Nat → Int} {i : Nat} (hi : i < 4) (h : D.inB 0 255 (v (4 + i)) = false) : D.fits v = false := by
  rw [D.fits, D.color, D.allB_no (a := D.sub 4 v) hi h, Bool.and_false]
theorem D.fits_end {v : Nat → Int} (h : ∀ i, i < 4 → D.inB (-68719476736) 68719476736 (v i) = true ∧ D.inB 0 255 (v (4 + i)) = true) : D.fits v = true :=
  D.fits_iff.2 ⟨fun i hi => D.inB_iff.1 (h i hi).1, fun i hi => D.inB_iff.1 (h i hi).2⟩
set_option maxHeartbeats 2000000 in
theorem rfits_any (v : Nat → Int) (w : World) : Calls Try.prog 11 #[arr 8 v] w fun e w' => e = .returned (.bool (D.fits v)) ∧ Below w.heap.size w w' := by
  have O := Own.start w
  go_enter Try.func11, Try.ntmps11
  go_wp2_with (first | ((with_reducible refine at_box 1 ?_); refine wpList_box_own O (M.mat 8 (v)) rfl ?_; clear O; intro g1 w1 O) | ((with_reducible refine at_load 6 ?_); refine wpList_cell_h (v := .int .i64 ((v) (0))) rfl O.held 0 rfl (M.mat_get (by omega)) rfl agg3 rfl ?_) | ((with_reducible refine at_load 8 ?_); refine wpList_cell_h (v := .int .i64 ((v) (1))) rfl O.held 0 rfl (M.mat_get (by omega)) rfl agg3 rfl ?_) | ((with_reducible refine at_load 10 ?_); refine wpList_cell_h (v := .int .i64 ((v) (2))) rfl O.held 0 rfl (M.mat_get (by omega)) rfl agg3 rfl ?_) | ((with_reducible refine at_load 12 ?_); refine wpList_cell_h (v := .int .i64 ((v) (3))) rfl O.held 0 rfl (M.mat_get (by omega)) rfl agg3 rfl ?_) | ((with_reducible refine at_build 13 ?_); refine wpList_build_g rfl ([(0, .int .i64 (v 0)), (1, .int .i64 (v 1)), (2, .int .i64 (v 2)), (3, .int .i64 (v 3))]) ((M.mat 4 v).toArray) ?_ (built22 v) ?_; (focus (simp only [List.map_toArray, List.map_cons, List.map_nil]; rfl))) | ((with_reducible refine at_alloc 3 ?_); refine wpList_alloc_own O (M.mat 4 M.zero) zero22 ?_; clear O; intro g3 w2 O) | ((with_reducible refine at_store 3 ?_); refine wpList_put_own O 0 (M.mat 4 (v)) rfl rfl rfl (s22 _) (M.mat_len2 _ _ _) (M.mat_one _ _) ?_; clear O; intro w3 O))
  go_loopw [4] (fun u wr => ∃ k : Nat, k ≤ 4 ∧ u = .int .i64 k ∧ (∀ i, i < k → D.inB (-68719476736) 68719476736 (v i) = true ∧ D.inB 0 255 (v (4 + i)) = true) ∧ w3 = wr) (fun v _ => 4 - (intOf v).toNat)
  case atStart => exact ⟨0, by omega, rfl, fun i hi => absurd hi (by omega), rfl⟩
  case round =>
    obtain ⟨k, hk, rfl, hall, rfl⟩ := hrel
    have q0 : (0 : Int) ≤ k := by omega
    have HA := Lib.hid hall
    clear hall
    have hB := O.below
    by_cases hlt : k < 4
    · have q1 : (k : Int) < 4 := by omega
      have c := O.cell 0 rfl (M.mat_get (a := v) (i := k) hlt)
      cases hc : D.inB (-68719476736) 68719476736 (v k)
      · have HF := Lib.hid (D.fits_bad1 hlt hc)
        go_wp2_with (first | ((with_reducible refine at_index_ 19 ?_); refine wpList_ino rfl Try.underlying22 sizeOf3 (by decide) (k) rfl rfl (rfl) (by omega) ?_) | ((with_reducible refine at_load 20 ?_); refine wpList_cell_h (v := .int .i64 ((v) (k))) rfl O.held 0 rfl (M.mat_get (by omega)) rfl agg3 rfl ?_) | (go_at_call 20; refine (within_any _ _ _ _).mono ?_; rintro e w' ⟨rfl, rfl⟩) | ((with_reducible refine at_index_ 26 ?_); refine wpList_ino rfl Try.underlying25 sizeOf3 (by decide) (k) rfl rfl (rfl) (by omega) ?_) | ((with_reducible refine at_load 27 ?_); refine wpList_cell_h (v := .int .i64 ((v) (4 + k))) rfl O.held 1 rfl (M.mat_get (by omega)) rfl agg3 rfl ?_))
        go_ret
        exact ⟨by rw [HF.out]; rfl, hB⟩
      · cases hd : D.inB 0 255 (v (4 + k))
        · have HF := Lib.hid (D.fits_bad2 hlt hd)
          go_wp2_with (first | ((with_reducible refine at_index_ 19 ?_); refine wpList_ino rfl Try.underlying22 sizeOf3 (by decide) (k) rfl rfl (rfl) (by omega) ?_) | ((with_reducible refine at_load 20 ?_); refine wpList_cell_h (v := .int .i64 ((v) (k))) rfl O.held 0 rfl (M.mat_get (by omega)) rfl agg3 rfl ?_) | (go_at_call 20; refine (within_any _ _ _ _).mono ?_; rintro e w' ⟨rfl, rfl⟩) | ((with_reducible refine at_index_ 26 ?_); refine wpList_ino rfl Try.underlying25 sizeOf3 (by decide) (k) rfl rfl (rfl) (by omega) ?_) | ((with_reducible refine at_load 27 ?_); refine wpList_cell_h (v := .int .i64 ((v) (4 + k))) rfl O.held 1 rfl (M.mat_get (by omega)) rfl agg3 rfl ?_))
          go_ret
          exact ⟨by rw [HF.out]; rfl, hB⟩
        · go_wp2_with (first | ((with_reducible refine at_index_ 19 ?_); refine wpList_ino rfl Try.underlying22 sizeOf3 (by decide) (k) rfl rfl (rfl) (by omega) ?_) | ((with_reducible refine at_load 20 ?_); refine wpList_cell_h (v := .int .i64 ((v) (k))) rfl O.held 0 rfl (M.mat_get (by omega)) rfl agg3 rfl ?_) | (go_at_call 20; refine (within_any _ _ _ _).mono ?_; rintro e w' ⟨rfl, rfl⟩) | ((with_reducible refine at_index_ 26 ?_); refine wpList_ino rfl Try.underlying25 sizeOf3 (by decide) (k) rfl rfl (rfl) (by omega) ?_) | ((with_reducible refine at_load 27 ?_); refine wpList_cell_h (v := .int .i64 ((v) (4 + k))) rfl O.held 1 rfl (M.mat_get (by omega)) rfl agg3 rfl ?_))
          go_roundw
          case rel => exact ⟨k + 1, by omega, by go_num, fun i hi => by
            by_cases e : i = k
            · subst e; exact ⟨hc, hd⟩
            · exact HA.out i (by omega), trivial⟩
          case measure => simp [intOf]; omega
    · have q1 : ¬ (k : Int) < 4 := by omega
      obtain rfl : k = 4 := by omega
      have HF := Lib.hid (D.fits_end HA.out)
      go_wp2_with fail
      go_ret
      exact ⟨by rw [HF.out]; rfl, hB⟩
end Go.Proofs.Ytbjbafhlmcnceaa
