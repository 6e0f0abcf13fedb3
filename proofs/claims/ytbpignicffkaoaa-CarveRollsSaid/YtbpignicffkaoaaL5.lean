/- Contracts: within, among, place. Contracts: Right, Fits, twice each. Contracts: how far in, twice. -/
import Derived.Test.YtbpignicffkaoaaL2
namespace Go.Proofs.Ytbpignicffkaoaa
open Go.ChangeShapes Go.WideShapes Go.ChangeAt Go.RowKit
set_option linter.unusedVariables false
set_option linter.unusedSimpArgs false

set_option maxHeartbeats 1000000 in
theorem within_any (n lo hi : Int) (w : World) : Calls Try.prog 28 #[.int .i64 n, .int .i64 lo, .int .i64 hi] w fun e w' => e = .returned (.bool (D.inB lo hi n)) ∧ w = w' := by
  by_cases h2 : lo ≤ n
  · go_enter Try.func28, Try.ntmps28
    go_wp2_with fail
    go_ret
    exact ⟨by simp [D.inB, h2], rfl⟩
  · go_enter Try.func28, Try.ntmps28
    go_wp2_with fail
    go_ret
    exact ⟨by simp [D.inB, h2]; omega, rfl⟩
/-- Of the numbers ahead of k each is from lo to hi. -/
def upto (k : Nat) (lo hi : Int) (a : Nat → Int) : Prop := ∀ i, i < k → D.inB lo hi (a i) = true
set_option maxHeartbeats 2000000 in
theorem among_any (v : Nat → Int) (lo hi : Int) (w : World) : Calls Try.prog 30 #[arr 4 v, .int .i64 lo, .int .i64 hi] w fun e w' => e = .returned (.bool (D.allB 4 lo hi v)) ∧ Below w.heap.size w w' := by
  have O := Own.start w
  have hu := Try.underlying33
  go_enter Try.func30, Try.ntmps30
  go_wp2_with (first | ((with_reducible refine at_box 3 ?_); refine wpList_box_own O (M.mat 4 (v)) rfl ?_; clear O; intro g3 w1 O) | ((with_reducible refine at_load 9 ?_); refine wpList_whole rfl O 0 rfl rfl Try.underlying33 rfl (s22 _) ?_))
  have hB := O.below
  clear O
  go_loopw [10] (fun u wr => ∃ k : Nat, k ≤ 4 ∧ u = .int .i64 k ∧ upto k lo hi v ∧ w1 = wr) (fun v _ => 4 - (intOf v).toNat)
  case atStart => exact ⟨0, by omega, rfl, fun i hi => absurd hi (by omega), rfl⟩
  case round =>
    obtain ⟨k, hk, rfl, hall, rfl⟩ := hrel
    have q0 : (0 : Int) ≤ k := by omega
    have HA := Lib.hid hall
    clear hall
    by_cases hlt : k < 4
    · have q1 : (k : Int) < 4 := by omega
      have hix : ∀ w, (Instr.index 33 (arr 4 v) (.int .i64 k)).run Try.prog w = .ok (.int .i64 (v k)) w := fun w => run_index_mat Try.underlying33 v hlt w
      by_cases ha : v k < lo
      · go_wp2_with fail
        go_ret
        exact ⟨by rw [D.allB_no hlt (D.inB_no.2 (.inl ha))]; rfl, hB⟩
      · by_cases hb : hi < v k
        · go_wp2_with fail
          go_ret
          exact ⟨by rw [D.allB_no hlt (D.inB_no.2 (.inr hb))]; rfl, hB⟩
        · go_wp2_with fail
          go_roundw
          case rel => exact ⟨k + 1, by omega, by go_num, fun i hi => by
            by_cases e : i = k
            · subst e; exact D.inB_iff.2 ⟨by omega, by omega⟩
            · exact HA.out i (by omega), trivial⟩
          case measure => simp [intOf]; omega
    · have q1 : ¬ (k : Int) < 4 := by omega
      obtain rfl : k = 4 := by omega
      have E : D.allB 4 lo hi v = true := D.allB_iff.2 fun i hi => D.inB_iff.1 (HA.out i hi)
      have HE := Lib.hid E
      clear E
      go_wp2_with fail
      go_ret
      exact ⟨by rw [HE.out]; rfl, hB⟩
set_option maxHeartbeats 2000000 in
theorem place_any (v : Nat → Int) (w : World) : Calls Try.prog 31 #[arr 8 v] w fun e w' => e = .returned (arr 4 v) ∧ Below w.heap.size w w' := by
  have O := Own.start w
  go_enter Try.func31, Try.ntmps31
  go_wp2_with (first | ((with_reducible refine at_box 1 ?_); refine wpList_box_own O (M.mat 8 (v)) rfl ?_; clear O; intro g1 w1 O) | ((with_reducible refine at_alloc 2 ?_); refine wpList_alloc_own O (M.mat 4 M.zero) zero22 ?_; clear O; intro g2 w2 O) | ((with_reducible refine at_load 4 ?_); refine wpList_cell_h (v := .int .i64 ((v) (0))) rfl O.held 1 rfl (M.mat_get (by omega)) rfl agg3 rfl ?_) | ((with_reducible refine at_load 6 ?_); refine wpList_cell_h (v := .int .i64 ((v) (1))) rfl O.held 1 rfl (M.mat_get (by omega)) rfl agg3 rfl ?_) | ((with_reducible refine at_load 8 ?_); refine wpList_cell_h (v := .int .i64 ((v) (2))) rfl O.held 1 rfl (M.mat_get (by omega)) rfl agg3 rfl ?_) | ((with_reducible refine at_load 10 ?_); refine wpList_cell_h (v := .int .i64 ((v) (3))) rfl O.held 1 rfl (M.mat_get (by omega)) rfl agg3 rfl ?_) | ((with_reducible refine at_build 11 ?_); refine wpList_build_g rfl ([(0, .int .i64 (v 0)), (1, .int .i64 (v 1)), (2, .int .i64 (v 2)), (3, .int .i64 (v 3))]) ((M.mat 4 v).toArray) ?_ (built22 v) ?_; (focus (simp only [List.map_toArray, List.map_cons, List.map_nil]; rfl))) | ((with_reducible refine at_store 2 ?_); refine wpList_put_own O 0 (M.mat 4 (v)) rfl rfl rfl (s22 _) (M.mat_len2 _ _ _) (M.mat_one _ _) ?_; clear O; intro w3 O))
  exact bodyPost_ret (v := arr 4 v) (res_cell rfl O 0 rfl rfl Try.underlying33 (s22 _)) rfl ⟨rfl, O.below⟩
end Go.Proofs.Ytbpignicffkaoaa
namespace Go.Proofs.Ytbpignicffkaoaa
open Go.ChangeShapes Go.WideShapes Go.ChangeAt Go.RowKit
set_option linter.unusedVariables false
set_option linter.unusedSimpArgs false

theorem D.right_bad1 {s : Nat → Int} {i : Nat} (hi : i < 4) (h : D.inB (-32768) 32768 (s (1 + i)) = false) : D.right s = false := by
  rw [← Bool.not_eq_true]
  intro hr
  have h1 := D.coef_of hr i hi
  have h2 := D.inB_no.1 h
  omega
theorem D.right_bad2 {s : Nat → Int} {i : Nat} (hi : i < 4) (h3 : ¬ s 0 = 3) (h : ¬ s (1 + i) = 0) : D.right s = false := by
  rw [D.right, if_neg h3]
  have : M.eqB 4 (D.sub 1 s) M.zero = false := by
    rw [← Bool.not_eq_true, M.eqB_iff]
    exact fun ha => h (ha i hi)
  rw [this, Bool.and_false]
theorem D.right_end {s : Nat → Int} (h : ∀ i, i < 4 → D.inB (-32768) 32768 (s (1 + i)) = true ∧ (s 0 = 3 ∨ s (1 + i) = 0)) : D.inB 0 3 (s 0) = D.right s := by
  unfold D.right
  split
  · rename_i h3
    rw [h3, show D.coef s = true from D.allB_iff.2 fun i hi => D.inB_iff.1 (h i hi).1]
    rfl
  · rename_i h3
    rw [show M.eqB 4 (D.sub 1 s) M.zero = true from M.eqB_iff.2 fun i hi => ((h i hi).2.resolve_left h3), Bool.and_true, Bool.eq_iff_iff, D.inB_iff, D.inB_iff]
    omega
set_option maxHeartbeats 2000000 in
theorem rright_any (s : Nat → Int) (w : World) : Calls Try.prog 22 #[arr 5 s] w fun e w' => e = .returned (.bool (D.right s)) ∧ Below w.heap.size w w' := by
  have O := Own.start w
  go_enter Try.func22, Try.ntmps22
  go_wp2_with ((with_reducible refine at_box 1 ?_); refine wpList_box_own O (M.mat 5 (s)) rfl ?_; clear O; intro g1 w1 O)
  go_loopw [3] (fun u wr => ∃ k : Nat, k ≤ 4 ∧ u = .int .i64 k ∧ (∀ i, i < k → D.inB (-32768) 32768 (s (1 + i)) = true ∧ (s 0 = 3 ∨ s (1 + i) = 0)) ∧ w1 = wr) (fun v _ => 4 - (intOf v).toNat)
  case atStart => exact ⟨0, by omega, rfl, fun i hi => absurd hi (by omega), rfl⟩
  case round =>
    obtain ⟨k, hk, rfl, hall, rfl⟩ := hrel
    have q0 : (0 : Int) ≤ k := by omega
    have HA := Lib.hid hall
    clear hall
    have hB := O.below
    by_cases hlt : k < 4
    · have q1 : (k : Int) < 4 := by omega
      cases hc : D.inB (-32768) 32768 (s (1 + k))
      · have HF := Lib.hid (D.right_bad1 hlt hc)
        go_wp2_with (first | ((with_reducible refine at_index_ 10 ?_); refine wpList_ino rfl Try.underlying33 sizeOf3 (by decide) (k) rfl rfl (rfl) (by omega) ?_) | ((with_reducible refine at_load 11 ?_); refine wpList_cell_h (v := .int .i64 ((s) (1 + k))) rfl O.held 0 rfl (M.mat_get (by omega)) rfl agg3 rfl ?_) | (go_at_call 28; refine (within_any _ _ _ _).mono ?_; rintro e w' ⟨rfl, rfl⟩) | ((with_reducible refine at_load 16 ?_); refine wpList_cell_h (v := .int .i64 ((s) (0))) rfl O.held 0 rfl (M.mat_get (by omega)) rfl agg3 rfl ?_) | ((with_reducible refine at_index_ 21 ?_); refine wpList_ino rfl Try.underlying33 sizeOf3 (by decide) (k) rfl rfl (rfl) (by omega) ?_) | ((with_reducible refine at_load 22 ?_); refine wpList_cell_h (v := .int .i64 ((s) (1 + k))) rfl O.held 0 rfl (M.mat_get (by omega)) rfl agg3 rfl ?_))
        go_ret
        exact ⟨by rw [HF.out]; rfl, hB⟩
      · by_cases h3 : s 0 = 3
        · have q3 : (s 0 != 3) = false := by simpa using h3
          have H3 := Lib.hid h3
          clear h3
          go_wp2_with (first | ((with_reducible refine at_index_ 10 ?_); refine wpList_ino rfl Try.underlying33 sizeOf3 (by decide) (k) rfl rfl (rfl) (by omega) ?_) | ((with_reducible refine at_load 11 ?_); refine wpList_cell_h (v := .int .i64 ((s) (1 + k))) rfl O.held 0 rfl (M.mat_get (by omega)) rfl agg3 rfl ?_) | (go_at_call 28; refine (within_any _ _ _ _).mono ?_; rintro e w' ⟨rfl, rfl⟩) | ((with_reducible refine at_load 16 ?_); refine wpList_cell_h (v := .int .i64 ((s) (0))) rfl O.held 0 rfl (M.mat_get (by omega)) rfl agg3 rfl ?_) | ((with_reducible refine at_index_ 21 ?_); refine wpList_ino rfl Try.underlying33 sizeOf3 (by decide) (k) rfl rfl (rfl) (by omega) ?_) | ((with_reducible refine at_load 22 ?_); refine wpList_cell_h (v := .int .i64 ((s) (1 + k))) rfl O.held 0 rfl (M.mat_get (by omega)) rfl agg3 rfl ?_))
          go_roundw
          case rel => exact ⟨k + 1, by omega, by go_num, fun i hi => by
            by_cases e : i = k
            · subst e; exact ⟨hc, .inl H3.out⟩
            · exact HA.out i (by omega), trivial⟩
          case measure => simp [intOf]; omega
        · have q3 : (s 0 != 3) = true := by simpa using h3
          have H3 := Lib.hid h3
          clear h3
          by_cases h0 : s (1 + k) = 0
          · have q4 : (s (1 + k) != 0) = false := by simpa using h0
            have H0 := Lib.hid h0
            clear h0
            go_wp2_with (first | ((with_reducible refine at_index_ 10 ?_); refine wpList_ino rfl Try.underlying33 sizeOf3 (by decide) (k) rfl rfl (rfl) (by omega) ?_) | ((with_reducible refine at_load 11 ?_); refine wpList_cell_h (v := .int .i64 ((s) (1 + k))) rfl O.held 0 rfl (M.mat_get (by omega)) rfl agg3 rfl ?_) | (go_at_call 28; refine (within_any _ _ _ _).mono ?_; rintro e w' ⟨rfl, rfl⟩) | ((with_reducible refine at_load 16 ?_); refine wpList_cell_h (v := .int .i64 ((s) (0))) rfl O.held 0 rfl (M.mat_get (by omega)) rfl agg3 rfl ?_) | ((with_reducible refine at_index_ 21 ?_); refine wpList_ino rfl Try.underlying33 sizeOf3 (by decide) (k) rfl rfl (rfl) (by omega) ?_) | ((with_reducible refine at_load 22 ?_); refine wpList_cell_h (v := .int .i64 ((s) (1 + k))) rfl O.held 0 rfl (M.mat_get (by omega)) rfl agg3 rfl ?_))
            go_roundw
            case rel => exact ⟨k + 1, by omega, by go_num, fun i hi => by
              by_cases e : i = k
              · subst e; exact ⟨hc, .inr H0.out⟩
              · exact HA.out i (by omega), trivial⟩
            case measure => simp [intOf]; omega
          · have q4 : (s (1 + k) != 0) = true := by simpa using h0
            have HF := Lib.hid (D.right_bad2 hlt H3.out h0)
            clear h0
            go_wp2_with (first | ((with_reducible refine at_index_ 10 ?_); refine wpList_ino rfl Try.underlying33 sizeOf3 (by decide) (k) rfl rfl (rfl) (by omega) ?_) | ((with_reducible refine at_load 11 ?_); refine wpList_cell_h (v := .int .i64 ((s) (1 + k))) rfl O.held 0 rfl (M.mat_get (by omega)) rfl agg3 rfl ?_) | (go_at_call 28; refine (within_any _ _ _ _).mono ?_; rintro e w' ⟨rfl, rfl⟩) | ((with_reducible refine at_load 16 ?_); refine wpList_cell_h (v := .int .i64 ((s) (0))) rfl O.held 0 rfl (M.mat_get (by omega)) rfl agg3 rfl ?_) | ((with_reducible refine at_index_ 21 ?_); refine wpList_ino rfl Try.underlying33 sizeOf3 (by decide) (k) rfl rfl (rfl) (by omega) ?_) | ((with_reducible refine at_load 22 ?_); refine wpList_cell_h (v := .int .i64 ((s) (1 + k))) rfl O.held 0 rfl (M.mat_get (by omega)) rfl agg3 rfl ?_))
            go_ret
            exact ⟨by rw [HF.out]; rfl, hB⟩
    · have q1 : ¬ (k : Int) < 4 := by omega
      obtain rfl : k = 4 := by omega
      have HF := Lib.hid (D.right_end HA.out)
      go_wp2_with (first | ((with_reducible refine at_load 27 ?_); refine wpList_cell_h (v := .int .i64 ((s) (0))) rfl O.held 0 rfl (M.mat_get (by omega)) rfl agg3 rfl ?_) | (go_at_call 28; refine (within_any _ _ _ _).mono ?_; rintro e w' ⟨rfl, rfl⟩))
      go_ret
      exact ⟨by rw [HF.out]; rfl, hB⟩
set_option maxHeartbeats 2000000 in
theorem fits_any (v : Nat → Int) (w : World) : Calls Try.prog 24 #[arr 8 v] w fun e w' => e = .returned (.bool (D.fits v)) ∧ Below w.heap.size w w' := by
  have O := Own.start w
  cases hp : D.allB 4 (-68719476736) 68719476736 v
  · have E : D.fits v = false := by rw [D.fits, D.place, hp, Bool.false_and]
    have HE := Lib.hid E
    clear E
    go_enter Try.func24, Try.ntmps24
    go_wp2_with (first | ((with_reducible refine at_box 1 ?_); refine wpList_box_own O (M.mat 8 (v)) rfl ?_; clear O; intro g1 w1 O) | ((with_reducible refine at_load 3 ?_); refine wpList_whole rfl O 0 rfl rfl Try.underlying39 rfl (s27 _) ?_) | (go_at_call 31; refine (place_any v _).mono ?_; rintro e w2 ⟨rfl, hb⟩; replace O := O.call hb; clear hb) | (go_at_call 30; refine (among_any _ _ _ _).mono ?_; rintro e w3 ⟨rfl, hb⟩; replace O := O.call hb; clear hb) | ((with_reducible refine at_load 8 ?_); refine wpList_mid_h rfl O.held 0 rfl (M.mat 4 (D.sub 4 v)) (mat_sub v (by omega)) rfl Try.underlying37 rfl (s25 _) ?_))
    go_ret
    exact ⟨by rw [HE.out]; rfl, O.below⟩
  · have E : D.fits v = D.allB 4 0 255 (D.sub 4 v) := by rw [D.fits, D.place, hp, Bool.true_and, D.color]
    have HE := Lib.hid E
    clear E
    go_enter Try.func24, Try.ntmps24
    go_wp2_with (first | ((with_reducible refine at_box 1 ?_); refine wpList_box_own O (M.mat 8 (v)) rfl ?_; clear O; intro g1 w1 O) | ((with_reducible refine at_load 3 ?_); refine wpList_whole rfl O 0 rfl rfl Try.underlying39 rfl (s27 _) ?_) | (go_at_call 31; refine (place_any v _).mono ?_; rintro e w2 ⟨rfl, hb⟩; replace O := O.call hb; clear hb) | (go_at_call 30; refine (among_any _ _ _ _).mono ?_; rintro e w3 ⟨rfl, hb⟩; replace O := O.call hb; clear hb) | ((with_reducible refine at_load 8 ?_); refine wpList_mid_h rfl O.held 0 rfl (M.mat 4 (D.sub 4 v)) (mat_sub v (by omega)) rfl Try.underlying37 rfl (s25 _) ?_))
    go_ret
    exact ⟨by rw [HE.out]; rfl, O.below⟩
theorem D.fits_bad1 {v : Nat → Int} {i : Nat} (hi : i < 4) (h : D.inB (-68719476736) 68719476736 (v i) = false) : D.fits v = false := by
  rw [D.fits, D.place, D.allB_no hi h, Bool.false_and]
theorem D.fits_bad2 {v : Nat → Int} {i : Nat} (hi : i < 4) (h : D.inB 0 255 (v (4 + i)) = false) : D.fits v = false := by
  rw [D.fits, D.color, D.allB_no (a := D.sub 4 v) hi h, Bool.and_false]
theorem D.fits_end {v : Nat → Int} (h : ∀ i, i < 4 → D.inB (-68719476736) 68719476736 (v i) = true ∧ D.inB 0 255 (v (4 + i)) = true) : D.fits v = true :=
  D.fits_iff.2 ⟨fun i hi => D.inB_iff.1 (h i hi).1, fun i hi => D.inB_iff.1 (h i hi).2⟩
set_option maxHeartbeats 2000000 in
theorem rfits_any (v : Nat → Int) (w : World) : Calls Try.prog 21 #[arr 8 v] w fun e w' => e = .returned (.bool (D.fits v)) ∧ Below w.heap.size w w' := by
  have O := Own.start w
  go_enter Try.func21, Try.ntmps21
  go_wp2_with (first | ((with_reducible refine at_box 1 ?_); refine wpList_box_own O (M.mat 8 (v)) rfl ?_; clear O; intro g1 w1 O) | ((with_reducible refine at_load 6 ?_); refine wpList_cell_h (v := .int .i64 ((v) (0))) rfl O.held 0 rfl (M.mat_get (by omega)) rfl agg3 rfl ?_) | ((with_reducible refine at_load 8 ?_); refine wpList_cell_h (v := .int .i64 ((v) (1))) rfl O.held 0 rfl (M.mat_get (by omega)) rfl agg3 rfl ?_) | ((with_reducible refine at_load 10 ?_); refine wpList_cell_h (v := .int .i64 ((v) (2))) rfl O.held 0 rfl (M.mat_get (by omega)) rfl agg3 rfl ?_) | ((with_reducible refine at_load 12 ?_); refine wpList_cell_h (v := .int .i64 ((v) (3))) rfl O.held 0 rfl (M.mat_get (by omega)) rfl agg3 rfl ?_) | ((with_reducible refine at_build 13 ?_); refine wpList_build_g rfl ([(0, .int .i64 (v 0)), (1, .int .i64 (v 1)), (2, .int .i64 (v 2)), (3, .int .i64 (v 3))]) ((M.mat 4 v).toArray) ?_ (built22 v) ?_; (focus (simp only [List.map_toArray, List.map_cons, List.map_nil]; rfl))) | ((with_reducible refine at_alloc 3 ?_); refine wpList_alloc_own O (M.mat 4 M.zero) zero22 ?_; clear O; intro g3 w2 O) | ((with_reducible refine at_store 3 ?_); refine wpList_put_own O 0 (M.mat 4 (v)) rfl rfl rfl (s22 _) (M.mat_len2 _ _ _) (M.mat_one _ _) ?_; clear O; intro w3 O))
  go_loopw [4] (fun u wr => ∃ k : Nat, k ≤ 4 ∧ u = .int .i64 k ∧ (∀ i, i < k → D.inB (-68719476736) 68719476736 (v i) = true ∧ D.inB 0 255 (v (4 + i)) = true) ∧ w3 = wr) (fun v _ => 4 - (intOf v).toNat)
  case atStart => exact ⟨0, by omega, rfl, fun i hi => absurd hi (by omega), rfl⟩
  case round =>
    obtain ⟨k, hk, rfl, hall, rfl⟩ := hrel
    have q0 : (0 : Int) ≤ k := by omega
    have HA := Lib.hid hall
    clear hall
    have hB := O.below
    by_cases hlt : k < 4
    · have q1 : (k : Int) < 4 := by omega
      have c := O.cell 0 rfl (M.mat_get (a := v) (i := k) hlt)
      cases hc : D.inB (-68719476736) 68719476736 (v k)
      · have HF := Lib.hid (D.fits_bad1 hlt hc)
        go_wp2_with (first | ((with_reducible refine at_index_ 19 ?_); refine wpList_ino rfl Try.underlying33 sizeOf3 (by decide) (k) rfl rfl (rfl) (by omega) ?_) | ((with_reducible refine at_load 20 ?_); refine wpList_cell_h (v := .int .i64 ((v) (k))) rfl O.held 0 rfl (M.mat_get (by omega)) rfl agg3 rfl ?_) | (go_at_call 28; refine (within_any _ _ _ _).mono ?_; rintro e w' ⟨rfl, rfl⟩) | ((with_reducible refine at_index_ 26 ?_); refine wpList_ino rfl Try.underlying37 sizeOf3 (by decide) (k) rfl rfl (rfl) (by omega) ?_) | ((with_reducible refine at_load 27 ?_); refine wpList_cell_h (v := .int .i64 ((v) (4 + k))) rfl O.held 1 rfl (M.mat_get (by omega)) rfl agg3 rfl ?_))
        go_ret
        exact ⟨by rw [HF.out]; rfl, hB⟩
      · cases hd : D.inB 0 255 (v (4 + k))
        · have HF := Lib.hid (D.fits_bad2 hlt hd)
          go_wp2_with (first | ((with_reducible refine at_index_ 19 ?_); refine wpList_ino rfl Try.underlying33 sizeOf3 (by decide) (k) rfl rfl (rfl) (by omega) ?_) | ((with_reducible refine at_load 20 ?_); refine wpList_cell_h (v := .int .i64 ((v) (k))) rfl O.held 0 rfl (M.mat_get (by omega)) rfl agg3 rfl ?_) | (go_at_call 28; refine (within_any _ _ _ _).mono ?_; rintro e w' ⟨rfl, rfl⟩) | ((with_reducible refine at_index_ 26 ?_); refine wpList_ino rfl Try.underlying37 sizeOf3 (by decide) (k) rfl rfl (rfl) (by omega) ?_) | ((with_reducible refine at_load 27 ?_); refine wpList_cell_h (v := .int .i64 ((v) (4 + k))) rfl O.held 1 rfl (M.mat_get (by omega)) rfl agg3 rfl ?_))
          go_ret
          exact ⟨by rw [HF.out]; rfl, hB⟩
        · go_wp2_with (first | ((with_reducible refine at_index_ 19 ?_); refine wpList_ino rfl Try.underlying33 sizeOf3 (by decide) (k) rfl rfl (rfl) (by omega) ?_) | ((with_reducible refine at_load 20 ?_); refine wpList_cell_h (v := .int .i64 ((v) (k))) rfl O.held 0 rfl (M.mat_get (by omega)) rfl agg3 rfl ?_) | (go_at_call 28; refine (within_any _ _ _ _).mono ?_; rintro e w' ⟨rfl, rfl⟩) | ((with_reducible refine at_index_ 26 ?_); refine wpList_ino rfl Try.underlying37 sizeOf3 (by decide) (k) rfl rfl (rfl) (by omega) ?_) | ((with_reducible refine at_load 27 ?_); refine wpList_cell_h (v := .int .i64 ((v) (4 + k))) rfl O.held 1 rfl (M.mat_get (by omega)) rfl agg3 rfl ?_))
          go_roundw
          case rel => exact ⟨k + 1, by omega, by go_num, fun i hi => by
            by_cases e : i = k
            · subst e; exact ⟨hc, hd⟩
            · exact HA.out i (by omega), trivial⟩
          case measure => simp [intOf]; omega
    · have q1 : ¬ (k : Int) < 4 := by omega
      obtain rfl : k = 4 := by omega
      have HF := Lib.hid (D.fits_end HA.out)
      go_wp2_with fail
      go_ret
      exact ⟨by rw [HF.out]; rfl, hB⟩
end Go.Proofs.Ytbpignicffkaoaa
namespace Go.Proofs.Ytbpignicffkaoaa
open Go.ChangeShapes Go.WideShapes Go.ChangeAt Go.RowKit
set_option linter.unusedVariables false
set_option linter.unusedSimpArgs false

theorem D.part4 (x y : Nat → Int) : D.part x y 4 = x 0 * y 0 + x 1 * y 1 + x 2 * y 2 + x 3 * y 3 := by simp [D.part]
theorem D.kinds {s : Nat → Int} (h : D.right s = true) : s 0 = 0 ∨ s 0 = 1 ∨ s 0 = 2 ∨ s 0 = 3 := by
  have := D.kind_of h
  omega
theorem D.dist0 {s v : Nat → Int} (h : s 0 = 0) : D.dist s v = v 3 - 1 := by simp [D.dist, h]
theorem D.dist1 {s v : Nat → Int} (h : s 0 = 1) : D.dist s v = v 3 + v 2 := by simp [D.dist, h]
theorem D.dist2 {s v : Nat → Int} (h : s 0 = 2) : D.dist s v = v 3 - v 2 := by simp [D.dist, h]
theorem D.dist3 {s v : Nat → Int} (h : s 0 = 3) : D.dist s v = D.part (D.sub 1 s) v 4 := by simp [D.dist, h]
theorem D.dist3' {s v : Nat → Int} (h : s 0 = 3) : D.dist s v = s 1 * v 0 + s 2 * v 1 + s 3 * v 2 + s 4 * v 3 := by rw [D.dist3 h, D.part4]; rfl
set_option maxHeartbeats 4000000 in
theorem dist_any (s v : Nat → Int) (hs : D.right s = true) (hv : D.fits v = true) (w : World) : Calls Try.prog 32 #[arr 5 s, arr 8 v] w fun e w' => e = .returned (.int .i64 (D.dist s v)) ∧ Below w.heap.size w w' := by
  have O := Own.start w
  have h3 := D.fits_rng hv (i := 3) (by omega)
  have h2 := D.fits_rng hv (i := 2) (by omega)
  have HC := Lib.hid (D.coef_of hs)
  have HV := Lib.hid (D.fits_iff.1 hv).1
  have HK := D.kinds hs
  clear hs hv
  rcases HK with hk | hk | hk | hk
  · have HE := Lib.hid (D.dist0 (v := v) hk)
    have q0 : (s 0 == 0) = true := by simp [hk]
    clear hk
    go_enter Try.func32, Try.ntmps32
    go_wp2_with (first | ((with_reducible refine at_box 2 ?_); refine wpList_box_own O (M.mat 5 (s)) rfl ?_; clear O; intro g2 w1 O) | ((with_reducible refine at_box 3 ?_); refine wpList_box_own O (M.mat 8 (v)) rfl ?_; clear O; intro g3 w2 O) | ((with_reducible refine at_load 9 ?_); refine wpList_cell_h (v := .int .i64 ((s) (0))) rfl O.held 1 rfl (M.mat_get (by omega)) rfl agg3 rfl ?_) | ((with_reducible refine at_load 13 ?_); refine wpList_cell_h (v := .int .i64 ((v) (3))) rfl O.held 0 rfl (M.mat_get (by omega)) rfl agg3 rfl ?_) | ((with_reducible refine at_load 18 ?_); refine wpList_cell_h (v := .int .i64 ((v) (3))) rfl O.held 0 rfl (M.mat_get (by omega)) rfl agg3 rfl ?_) | ((with_reducible refine at_load 20 ?_); refine wpList_cell_h (v := .int .i64 ((v) (2))) rfl O.held 0 rfl (M.mat_get (by omega)) rfl agg3 rfl ?_) | ((with_reducible refine at_load 25 ?_); refine wpList_cell_h (v := .int .i64 ((v) (3))) rfl O.held 0 rfl (M.mat_get (by omega)) rfl agg3 rfl ?_) | ((with_reducible refine at_load 27 ?_); refine wpList_cell_h (v := .int .i64 ((v) (2))) rfl O.held 0 rfl (M.mat_get (by omega)) rfl agg3 rfl ?_))
    go_ret
    exact ⟨by rw [HE.out]; rfl, O.below⟩
  · have HE := Lib.hid (D.dist1 (v := v) hk)
    have q0 : (s 0 == 0) = false := by simp [hk]
    have q1 : (s 0 == 1) = true := by simp [hk]
    clear hk
    go_enter Try.func32, Try.ntmps32
    go_wp2_with (first | ((with_reducible refine at_box 2 ?_); refine wpList_box_own O (M.mat 5 (s)) rfl ?_; clear O; intro g2 w1 O) | ((with_reducible refine at_box 3 ?_); refine wpList_box_own O (M.mat 8 (v)) rfl ?_; clear O; intro g3 w2 O) | ((with_reducible refine at_load 9 ?_); refine wpList_cell_h (v := .int .i64 ((s) (0))) rfl O.held 1 rfl (M.mat_get (by omega)) rfl agg3 rfl ?_) | ((with_reducible refine at_load 13 ?_); refine wpList_cell_h (v := .int .i64 ((v) (3))) rfl O.held 0 rfl (M.mat_get (by omega)) rfl agg3 rfl ?_) | ((with_reducible refine at_load 18 ?_); refine wpList_cell_h (v := .int .i64 ((v) (3))) rfl O.held 0 rfl (M.mat_get (by omega)) rfl agg3 rfl ?_) | ((with_reducible refine at_load 20 ?_); refine wpList_cell_h (v := .int .i64 ((v) (2))) rfl O.held 0 rfl (M.mat_get (by omega)) rfl agg3 rfl ?_) | ((with_reducible refine at_load 25 ?_); refine wpList_cell_h (v := .int .i64 ((v) (3))) rfl O.held 0 rfl (M.mat_get (by omega)) rfl agg3 rfl ?_) | ((with_reducible refine at_load 27 ?_); refine wpList_cell_h (v := .int .i64 ((v) (2))) rfl O.held 0 rfl (M.mat_get (by omega)) rfl agg3 rfl ?_))
    go_ret
    exact ⟨by rw [HE.out]; rfl, O.below⟩
  · have HE := Lib.hid (D.dist2 (v := v) hk)
    have q0 : (s 0 == 0) = false := by simp [hk]
    have q1 : (s 0 == 1) = false := by simp [hk]
    have q2 : (s 0 == 2) = true := by simp [hk]
    clear hk
    go_enter Try.func32, Try.ntmps32
    go_wp2_with (first | ((with_reducible refine at_box 2 ?_); refine wpList_box_own O (M.mat 5 (s)) rfl ?_; clear O; intro g2 w1 O) | ((with_reducible refine at_box 3 ?_); refine wpList_box_own O (M.mat 8 (v)) rfl ?_; clear O; intro g3 w2 O) | ((with_reducible refine at_load 9 ?_); refine wpList_cell_h (v := .int .i64 ((s) (0))) rfl O.held 1 rfl (M.mat_get (by omega)) rfl agg3 rfl ?_) | ((with_reducible refine at_load 13 ?_); refine wpList_cell_h (v := .int .i64 ((v) (3))) rfl O.held 0 rfl (M.mat_get (by omega)) rfl agg3 rfl ?_) | ((with_reducible refine at_load 18 ?_); refine wpList_cell_h (v := .int .i64 ((v) (3))) rfl O.held 0 rfl (M.mat_get (by omega)) rfl agg3 rfl ?_) | ((with_reducible refine at_load 20 ?_); refine wpList_cell_h (v := .int .i64 ((v) (2))) rfl O.held 0 rfl (M.mat_get (by omega)) rfl agg3 rfl ?_) | ((with_reducible refine at_load 25 ?_); refine wpList_cell_h (v := .int .i64 ((v) (3))) rfl O.held 0 rfl (M.mat_get (by omega)) rfl agg3 rfl ?_) | ((with_reducible refine at_load 27 ?_); refine wpList_cell_h (v := .int .i64 ((v) (2))) rfl O.held 0 rfl (M.mat_get (by omega)) rfl agg3 rfl ?_))
    go_ret
    exact ⟨by rw [HE.out]; rfl, O.below⟩
  · have HE := Lib.hid (D.dist3 (v := v) hk)
    have q0 : (s 0 == 0) = false := by simp [hk]
    have q1 : (s 0 == 1) = false := by simp [hk]
    have q2 : (s 0 == 2) = false := by simp [hk]
    clear hk
    have HP := Lib.hid (D.part_le (x := D.sub 1 s) HC.out HV.out)
    go_enter Try.func32, Try.ntmps32
    go_wp2_with (first | ((with_reducible refine at_box 2 ?_); refine wpList_box_own O (M.mat 5 (s)) rfl ?_; clear O; intro g2 w1 O) | ((with_reducible refine at_box 3 ?_); refine wpList_box_own O (M.mat 8 (v)) rfl ?_; clear O; intro g3 w2 O) | ((with_reducible refine at_load 9 ?_); refine wpList_cell_h (v := .int .i64 ((s) (0))) rfl O.held 1 rfl (M.mat_get (by omega)) rfl agg3 rfl ?_) | ((with_reducible refine at_load 29 ?_); refine wpList_whole rfl O 0 rfl rfl Try.underlying39 rfl (s27 _) ?_) | (go_at_call 31; refine (place_any v _).mono ?_; rintro e w3 ⟨rfl, hb⟩; replace O := O.call hb; clear hb) | ((with_reducible refine at_alloc 6 ?_); refine wpList_alloc_own O (M.mat 4 M.zero) zero22 ?_; clear O; intro g6 w4 O) | ((with_reducible refine at_store 6 ?_); refine wpList_put_own O 0 (M.mat 4 (v)) rfl rfl rfl (s22 _) (M.mat_len2 _ _ _) (M.mat_one _ _) ?_; clear O; intro w5 O))
    go_loopw [5, 31] (fun u t wr => ∃ k : Nat, k ≤ 4 ∧ t = .int .i64 k ∧ u = .int .i64 (D.part (D.sub 1 s) v k) ∧ Own w wr [(g6, 33, M.mat 4 v), (g3, 39, M.mat 8 v), (g2, 35, M.mat 5 s)]) (fun _ t _ => 4 - (intOf t).toNat)
    case atStart => exact ⟨0, by omega, rfl, rfl, O⟩
    case round =>
      clear O
      obtain ⟨k, hk, rfl, rfl, O⟩ := hrel
      have q4 : (0 : Int) ≤ k := by omega
      by_cases hlt : k < 4
      · have q5 : (k : Int) < 4 := by omega
        have hm := D.mul_le (HC.out k hlt) (HV.out k hlt)
        have hp := HP.out k (by omega)
        have HS := Lib.hid (show D.part (D.sub 1 s) v (k + 1) = D.part (D.sub 1 s) v k + s (1 + k) * v k from rfl)
        go_wp2_with fail
        refine region_V (fun w2 => Own w w2 [(g6, 33, M.mat 4 v), (g3, 39, M.mat 8 v), (g2, 35, M.mat 5 s)]) [0, 1, 2, 3, 4, 5, 6, 7, 8, 9] [some 34, some 35, some 36, some 37, some 38, some 39, some 40, some 41, some 42, some 43] [.int .i64 (D.part (D.sub 1 s) v k), .int .i64 k, .pointer (some ⟨g2, 1, none⟩), .pointer (some ⟨g2, 1 + k, none⟩), .int .i64 (s (1 + k)), .int .i64 k, .pointer (some ⟨g6, k, none⟩), .int .i64 (v k), .int .i64 (s (1 + k) * v k), .int .i64 (D.part (D.sub 1 s) v (k + 1))] 1 (by kernel_rfl) (by kernel_rfl) (by rfl) (by rfl) (O.drew) (fun F hF => ?_)
        simp only [fillD, Act.put, List.setIfInBounds_toArray, List.set_cons_zero, List.set_cons_succ] at hF
        subst hF
        refine ⟨⟨does_want rfl (by rfl) (fun w' O K hK => ?_), does_want rfl (by rfl) (fun w' O K hK => ?_), does_want rfl (by rfl) (fun w' O K hK => ?_), does_want rfl (by rfl) (fun w' O K hK => ?_), does_want rfl (by rfl) (fun w' O K hK => ?_), does_want rfl (by rfl) (fun w' O K hK => ?_), does_want rfl (by rfl) (fun w' O K hK => ?_), does_want rfl (by rfl) (fun w' O K hK => ?_), does_want rfl (by rfl) (fun w' O K hK => ?_), does_want rfl (by rfl) (fun w' O K hK => ?_), trivial⟩, fun w' O => ?_⟩
        · go_simp
          exact hK _ O
        · go_simp
          exact hK _ O
        · go_simp
          exact hK _ O
        · exact wp_ino Try.underlying33 sizeOf3 (by decide) (k) rfl rfl (by omega) (by omega) (hK _ O)
        · exact wp_cell_h (v := .int .i64 ((s) (1 + k))) O.held 2 rfl (M.mat_get (by omega)) rfl agg3 rfl (hK _ O)
        · go_simp
          exact hK _ O
        · go_simp
          exact hK _ O
        · exact wp_cell_h (v := .int .i64 ((v) (k))) O.held 0 rfl (M.mat_get (by omega)) rfl agg3 rfl (hK _ O)
        · have e : IntKind.i64.wrap (s (1 + k) * v k) = s (1 + k) * v k := IntWalk.i64_in _ (by omega)
          go_simp
          exact hK _ O
        · have e : IntKind.i64.wrap (D.part (D.sub 1 s) v k + s (1 + k) * v k) = D.part (D.sub 1 s) v (k + 1) := by rw [HS.out]; exact IntWalk.i64_in _ (by omega)
          go_simp
          exact hK _ O
        refine wpAny_one (i := 10) (by kernel_rfl) rfl (fun K hK => ?_)
        go_simp
        refine hK _ _ ?_
        clear hK K
        try simp only [Act.put, List.setIfInBounds_toArray, List.set_cons_zero, List.set_cons_succ]
        refine wpAny_done (by kernel_rfl) ?_ _
        go_wp2_with fail
        go_roundw
        case rel => exact ⟨k + 1, by omega, by go_num, rfl, O⟩
        case measure => simp [intOf]; omega
      · have q5 : ¬ (k : Int) < 4 := by omega
        obtain rfl : k = 4 := by omega
        go_wp2_with fail
        go_ret
        exact ⟨by rw [HE.out]; rfl, O.below⟩
set_option maxHeartbeats 4000000 in
theorem rdist_any (s v : Nat → Int) (hs : D.right s = true) (hv : D.fits v = true) (w : World) : Calls Try.prog 15 #[arr 5 s, arr 8 v] w fun e w' => e = .returned (.int .i64 (D.dist s v)) ∧ Below w.heap.size w w' := by
  have O := Own.start w
  have h3 := D.fits_rng hv (i := 3) (by omega)
  have h2 := D.fits_rng hv (i := 2) (by omega)
  have HC := Lib.hid (D.coef_of hs)
  have HV := Lib.hid (D.fits_iff.1 hv).1
  have HK := D.kinds hs
  clear hs hv
  rcases HK with hk | hk | hk | hk
  · have HE := Lib.hid (D.dist0 (v := v) hk)
    have q0 : (s 0 == 0) = true := by simp [hk]
    clear hk
    go_enter Try.func15, Try.ntmps15
    go_wp2_with (first | ((with_reducible refine at_box 2 ?_); refine wpList_box_own O (M.mat 5 (s)) rfl ?_; clear O; intro g2 w1 O) | ((with_reducible refine at_box 3 ?_); refine wpList_box_own O (M.mat 8 (v)) rfl ?_; clear O; intro g3 w2 O) | ((with_reducible refine at_load 6 ?_); refine wpList_cell_h (v := .int .i64 ((s) (0))) rfl O.held 1 rfl (M.mat_get (by omega)) rfl agg3 rfl ?_) | ((with_reducible refine at_load 10 ?_); refine wpList_cell_h (v := .int .i64 ((v) (3))) rfl O.held 0 rfl (M.mat_get (by omega)) rfl agg3 rfl ?_) | ((with_reducible refine at_load 15 ?_); refine wpList_cell_h (v := .int .i64 ((v) (3))) rfl O.held 0 rfl (M.mat_get (by omega)) rfl agg3 rfl ?_) | ((with_reducible refine at_load 17 ?_); refine wpList_cell_h (v := .int .i64 ((v) (2))) rfl O.held 0 rfl (M.mat_get (by omega)) rfl agg3 rfl ?_) | ((with_reducible refine at_load 22 ?_); refine wpList_cell_h (v := .int .i64 ((v) (3))) rfl O.held 0 rfl (M.mat_get (by omega)) rfl agg3 rfl ?_) | ((with_reducible refine at_load 24 ?_); refine wpList_cell_h (v := .int .i64 ((v) (2))) rfl O.held 0 rfl (M.mat_get (by omega)) rfl agg3 rfl ?_))
    go_ret
    exact ⟨by rw [HE.out]; rfl, O.below⟩
  · have HE := Lib.hid (D.dist1 (v := v) hk)
    have q0 : (s 0 == 0) = false := by simp [hk]
    have q1 : (s 0 == 1) = true := by simp [hk]
    clear hk
    go_enter Try.func15, Try.ntmps15
    go_wp2_with (first | ((with_reducible refine at_box 2 ?_); refine wpList_box_own O (M.mat 5 (s)) rfl ?_; clear O; intro g2 w1 O) | ((with_reducible refine at_box 3 ?_); refine wpList_box_own O (M.mat 8 (v)) rfl ?_; clear O; intro g3 w2 O) | ((with_reducible refine at_load 6 ?_); refine wpList_cell_h (v := .int .i64 ((s) (0))) rfl O.held 1 rfl (M.mat_get (by omega)) rfl agg3 rfl ?_) | ((with_reducible refine at_load 10 ?_); refine wpList_cell_h (v := .int .i64 ((v) (3))) rfl O.held 0 rfl (M.mat_get (by omega)) rfl agg3 rfl ?_) | ((with_reducible refine at_load 15 ?_); refine wpList_cell_h (v := .int .i64 ((v) (3))) rfl O.held 0 rfl (M.mat_get (by omega)) rfl agg3 rfl ?_) | ((with_reducible refine at_load 17 ?_); refine wpList_cell_h (v := .int .i64 ((v) (2))) rfl O.held 0 rfl (M.mat_get (by omega)) rfl agg3 rfl ?_) | ((with_reducible refine at_load 22 ?_); refine wpList_cell_h (v := .int .i64 ((v) (3))) rfl O.held 0 rfl (M.mat_get (by omega)) rfl agg3 rfl ?_) | ((with_reducible refine at_load 24 ?_); refine wpList_cell_h (v := .int .i64 ((v) (2))) rfl O.held 0 rfl (M.mat_get (by omega)) rfl agg3 rfl ?_))
    go_ret
    exact ⟨by rw [HE.out]; rfl, O.below⟩
  · have HE := Lib.hid (D.dist2 (v := v) hk)
    have q0 : (s 0 == 0) = false := by simp [hk]
    have q1 : (s 0 == 1) = false := by simp [hk]
    have q2 : (s 0 == 2) = true := by simp [hk]
    clear hk
    go_enter Try.func15, Try.ntmps15
    go_wp2_with (first | ((with_reducible refine at_box 2 ?_); refine wpList_box_own O (M.mat 5 (s)) rfl ?_; clear O; intro g2 w1 O) | ((with_reducible refine at_box 3 ?_); refine wpList_box_own O (M.mat 8 (v)) rfl ?_; clear O; intro g3 w2 O) | ((with_reducible refine at_load 6 ?_); refine wpList_cell_h (v := .int .i64 ((s) (0))) rfl O.held 1 rfl (M.mat_get (by omega)) rfl agg3 rfl ?_) | ((with_reducible refine at_load 10 ?_); refine wpList_cell_h (v := .int .i64 ((v) (3))) rfl O.held 0 rfl (M.mat_get (by omega)) rfl agg3 rfl ?_) | ((with_reducible refine at_load 15 ?_); refine wpList_cell_h (v := .int .i64 ((v) (3))) rfl O.held 0 rfl (M.mat_get (by omega)) rfl agg3 rfl ?_) | ((with_reducible refine at_load 17 ?_); refine wpList_cell_h (v := .int .i64 ((v) (2))) rfl O.held 0 rfl (M.mat_get (by omega)) rfl agg3 rfl ?_) | ((with_reducible refine at_load 22 ?_); refine wpList_cell_h (v := .int .i64 ((v) (3))) rfl O.held 0 rfl (M.mat_get (by omega)) rfl agg3 rfl ?_) | ((with_reducible refine at_load 24 ?_); refine wpList_cell_h (v := .int .i64 ((v) (2))) rfl O.held 0 rfl (M.mat_get (by omega)) rfl agg3 rfl ?_))
    go_ret
    exact ⟨by rw [HE.out]; rfl, O.below⟩
  · have HE := Lib.hid (D.dist3' (v := v) hk)
    have q0 : (s 0 == 0) = false := by simp [hk]
    have q1 : (s 0 == 1) = false := by simp [hk]
    have q2 : (s 0 == 2) = false := by simp [hk]
    clear hk
    have m0 := D.mul_le (HC.out 0 (by omega)) (HV.out 0 (by omega))
    have m1 := D.mul_le (HC.out 1 (by omega)) (HV.out 1 (by omega))
    have m2 := D.mul_le (HC.out 2 (by omega)) (HV.out 2 (by omega))
    have m3 := D.mul_le (HC.out 3 (by omega)) (HV.out 3 (by omega))
    simp only [Nat.add_zero, Nat.reduceAdd] at m0 m1 m2 m3
    have e0 : wrap64 (s 1 * v 0) = s 1 * v 0 := IntWalk.wrap64_in _ (by omega)
    have e1 : wrap64 (s 2 * v 1) = s 2 * v 1 := IntWalk.wrap64_in _ (by omega)
    have e2 : wrap64 (s 3 * v 2) = s 3 * v 2 := IntWalk.wrap64_in _ (by omega)
    have e3 : wrap64 (s 4 * v 3) = s 4 * v 3 := IntWalk.wrap64_in _ (by omega)
    have e4 : wrap64 (s 1 * v 0 + s 2 * v 1) = s 1 * v 0 + s 2 * v 1 := IntWalk.wrap64_in _ (by omega)
    have e5 : wrap64 (s 1 * v 0 + s 2 * v 1 + s 3 * v 2) = s 1 * v 0 + s 2 * v 1 + s 3 * v 2 := IntWalk.wrap64_in _ (by omega)
    have e6 : wrap64 (s 1 * v 0 + s 2 * v 1 + s 3 * v 2 + s 4 * v 3) = s 1 * v 0 + s 2 * v 1 + s 3 * v 2 + s 4 * v 3 := IntWalk.wrap64_in _ (by omega)
    clear m0 m1 m2 m3
    go_enter Try.func15, Try.ntmps15
    go_wp2_with (first | ((with_reducible refine at_box 2 ?_); refine wpList_box_own O (M.mat 5 (s)) rfl ?_; clear O; intro g2 w1 O) | ((with_reducible refine at_box 3 ?_); refine wpList_box_own O (M.mat 8 (v)) rfl ?_; clear O; intro g3 w2 O) | ((with_reducible refine at_load 6 ?_); refine wpList_cell_h (v := .int .i64 ((s) (0))) rfl O.held 1 rfl (M.mat_get (by omega)) rfl agg3 rfl ?_) | ((with_reducible refine at_index_ 27 ?_); refine wpList_ino rfl Try.underlying33 sizeOf3 (by decide) (0) rfl rfl (rfl) (by omega) ?_) | ((with_reducible refine at_load 28 ?_); refine wpList_cell_h (v := .int .i64 ((s) (1))) rfl O.held 1 rfl (M.mat_get (by omega)) rfl agg3 rfl ?_) | ((with_reducible refine at_load 30 ?_); refine wpList_cell_h (v := .int .i64 ((v) (0))) rfl O.held 0 rfl (M.mat_get (by omega)) rfl agg3 rfl ?_) | ((with_reducible refine at_index_ 33 ?_); refine wpList_ino rfl Try.underlying33 sizeOf3 (by decide) (1) rfl rfl (rfl) (by omega) ?_) | ((with_reducible refine at_load 34 ?_); refine wpList_cell_h (v := .int .i64 ((s) (2))) rfl O.held 1 rfl (M.mat_get (by omega)) rfl agg3 rfl ?_) | ((with_reducible refine at_load 36 ?_); refine wpList_cell_h (v := .int .i64 ((v) (1))) rfl O.held 0 rfl (M.mat_get (by omega)) rfl agg3 rfl ?_) | ((with_reducible refine at_index_ 40 ?_); refine wpList_ino rfl Try.underlying33 sizeOf3 (by decide) (2) rfl rfl (rfl) (by omega) ?_) | ((with_reducible refine at_load 41 ?_); refine wpList_cell_h (v := .int .i64 ((s) (3))) rfl O.held 1 rfl (M.mat_get (by omega)) rfl agg3 rfl ?_) | ((with_reducible refine at_load 43 ?_); refine wpList_cell_h (v := .int .i64 ((v) (2))) rfl O.held 0 rfl (M.mat_get (by omega)) rfl agg3 rfl ?_) | ((with_reducible refine at_index_ 47 ?_); refine wpList_ino rfl Try.underlying33 sizeOf3 (by decide) (3) rfl rfl (rfl) (by omega) ?_) | ((with_reducible refine at_load 48 ?_); refine wpList_cell_h (v := .int .i64 ((s) (4))) rfl O.held 1 rfl (M.mat_get (by omega)) rfl agg3 rfl ?_) | ((with_reducible refine at_load 50 ?_); refine wpList_cell_h (v := .int .i64 ((v) (3))) rfl O.held 0 rfl (M.mat_get (by omega)) rfl agg3 rfl ?_))
    go_ret
    exact ⟨by rw [HE.out]; exact congrArg (fun z => Ending.returned (.int .i64 z)) e6, O.below⟩
end Go.Proofs.Ytbpignicffkaoaa
