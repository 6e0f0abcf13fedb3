/- Contracts: the document's Right and Area of rectangles. -/
import Derived.Test.YtndaijcgjhmiaaaRg
namespace Go.Proofs.Ytndaijcgjhmiaaa
open Go.ChangeShapes Go.WideShapes Go.ChangeAt Go.RowKit
set_option linter.unusedVariables false
set_option linter.unusedSimpArgs false

namespace RC
def inM (x : Int) : Bool := decide (-4194304 ≤ x) && decide (x ≤ 4194304)
theorem inM_iff {x : Int} : inM x = true ↔ -4194304 ≤ x ∧ x ≤ 4194304 := by simp [inM]
/-- A rectangle as four numbers: X0, Y0, X1, Y1. -/
def mk (x0 y0 x1 y1 : Int) (i : Nat) : Int := if i = 0 then x0 else if i = 1 then y0 else if i = 2 then x1 else y1
def right (r : Nat → Int) : Bool := (inM (r 0) && (inM (r 1) && (inM (r 2) && inM (r 3)))) && (decide (r 0 < r 2) && decide (r 1 < r 3))
theorem right_iff {r : Nat → Int} : right r = true ↔ ((-4194304 ≤ r 0 ∧ r 0 ≤ 4194304) ∧ (-4194304 ≤ r 1 ∧ r 1 ≤ 4194304) ∧ (-4194304 ≤ r 2 ∧ r 2 ≤ 4194304) ∧ (-4194304 ≤ r 3 ∧ r 3 ≤ 4194304)) ∧ r 0 < r 2 ∧ r 1 < r 3 := by
  simp only [right, Bool.and_eq_true, inM_iff, decide_eq_true_eq]
theorem right_zero : right M.zero = false := by decide
def area (r : Nat → Int) : Int := if right r then (r 2 - r 0) * (r 3 - r 1) else 0
end RC
theorem sizeQ : (Try.prog.info? 31).map (·.size) = some 4 := by kernel_rfl
theorem sQ (a : Nat → Int) : (Try.prog.info? 31).map (·.size) = some (M.mat 4 a).length := by rw [M.mat_len]; exact sizeQ
theorem zeroQ : (Try.prog.info? 31).map (·.zero) = some (some (.agg (M.mat 4 M.zero).toArray)) := by kernel_rfl
theorem builtQ (x0 y0 x1 y1 : Int) : Try.prog.built 31 [(0, .int .i64 x0), (1, .int .i64 y0), (2, .int .i64 x1), (3, .int .i64 y1)] = some (M.mat 4 (RC.mk x0 y0 x1 y1)).toArray := by kernel_rfl
namespace RC
theorem right_out {r : Nat → Int} {i : Nat} (hi : i < 4) (h : inM (mk (r 0) (r 2) (r 1) (r 3) i) = false) : right r = false := by
  rw [← Bool.not_eq_true] at h ⊢
  rw [inM_iff] at h
  rw [right_iff]
  rcases (by omega : i = 0 ∨ i = 1 ∨ i = 2 ∨ i = 3) with rfl | rfl | rfl | rfl <;> simp only [mk] at h <;> simp at h <;> omega
theorem right_end {r : Nat → Int} (h : ∀ i, i < 4 → inM (mk (r 0) (r 2) (r 1) (r 3) i) = true) : right r = (decide (r 0 < r 2) && decide (r 1 < r 3)) := by
  have h0 : inM (r 0) = true := h 0 (by omega)
  have h1 : inM (r 2) = true := h 1 (by omega)
  have h2 : inM (r 1) = true := h 2 (by omega)
  have h3 : inM (r 3) = true := h 3 (by omega)
  rw [right, h0, h1, h2, h3]
  rfl
theorem area_bad {r : Nat → Int} (hr : right r = false) : area r = 0 := by rw [area, if_neg (by rw [hr]; decide)]
theorem area_in {r : Nat → Int} (hr : right r = true) : area r = (r 2 - r 0) * (r 3 - r 1) := by rw [area, if_pos hr]
theorem right_lim {r : Nat → Int} {x0 y0 x1 y1 : Int} (h : right r = true) (e0 : r 0 = x0) (e1 : r 1 = y0) (e2 : r 2 = x1) (e3 : r 3 = y1) : -4194304 ≤ x0 ∧ x0 < x1 ∧ x1 ≤ 4194304 ∧ -4194304 ≤ y0 ∧ y0 < y1 ∧ y1 ≤ 4194304 := by
  have := right_iff.1 h
  omega
theorem area_is {r : Nat → Int} {x0 y0 x1 y1 : Int} (h : right r = true) (e0 : r 0 = x0) (e1 : r 1 = y0) (e2 : r 2 = x1) (e3 : r 3 = y1) : area r = (x1 - x0) * (y1 - y0) := by
  rw [area_in h, e0, e1, e2, e3]
theorem mul_lim {a b : Int} (h1 : 0 < a) (h2 : a ≤ 8388608) (h3 : 0 < b) (h4 : b ≤ 8388608) : 0 ≤ a * b ∧ a * b ≤ 70368744177664 := by
  have e1 := Int.mul_le_mul h2 h4 (by omega) (by omega)
  have e2 := Int.mul_nonneg (show 0 ≤ a by omega) (show 0 ≤ b by omega)
  omega
end RC
set_option maxHeartbeats 4000000 in
theorem rright_any (r : Nat → Int) (w : World) : Calls Try.prog 21 #[arr 4 r] w fun e w' => e = .returned (.bool (RC.right r)) ∧ Below w.heap.size w w' := by
  have O := Own.start w
  have HB := Lib.hid (fun i (hi : i < 4) => RC.right_out (r := r) hi)
  have HN := Lib.hid (RC.right_end (r := r))
  obtain ⟨x0, ex0⟩ : ∃ z, r 0 = z := ⟨_, rfl⟩
  have Cx0 := cell_is (n := 4) ex0 (by decide)
  obtain ⟨y0, ey0⟩ : ∃ z, r 1 = z := ⟨_, rfl⟩
  have Cy0 := cell_is (n := 4) ey0 (by decide)
  obtain ⟨x1, ex1⟩ : ∃ z, r 2 = z := ⟨_, rfl⟩
  have Cx1 := cell_is (n := 4) ex1 (by decide)
  obtain ⟨y1, ey1⟩ : ∃ z, r 3 = z := ⟨_, rfl⟩
  have Cy1 := cell_is (n := 4) ey1 (by decide)
  rw [ex0, ey0, ex1, ey1] at HB HN
  clear ex0 ey0 ex1 ey1
  obtain ⟨q, hq⟩ : ∃ q, RC.mk x0 x1 y0 y1 = q := ⟨_, rfl⟩
  have BQ : Try.prog.built 31 [(0, .int .i64 x0), (1, .int .i64 x1), (2, .int .i64 y0), (3, .int .i64 y1)] = some (M.mat 4 q).toArray := by rw [← hq]; exact builtQ x0 x1 y0 y1
  rw [hq] at HB HN
  clear hq
  go_enter Try.func21, Try.ntmps21
  go_wp2_with (first | ((with_reducible refine at_box 1 ?_); refine wpList_box_own O (M.mat 4 (r)) rfl ?_; clear O; intro g1 w1 O) | ((with_reducible refine at_load 6 ?_); refine wpList_cell_h (v := .int .i64 (x0)) rfl O.held 0 rfl Cx0.out rfl agg3 rfl ?_) | ((with_reducible refine at_load 8 ?_); refine wpList_cell_h (v := .int .i64 (x1)) rfl O.held 0 rfl Cx1.out rfl agg3 rfl ?_) | ((with_reducible refine at_load 10 ?_); refine wpList_cell_h (v := .int .i64 (y0)) rfl O.held 0 rfl Cy0.out rfl agg3 rfl ?_) | ((with_reducible refine at_load 12 ?_); refine wpList_cell_h (v := .int .i64 (y1)) rfl O.held 0 rfl Cy1.out rfl agg3 rfl ?_) | ((with_reducible refine at_build 13 ?_); refine wpList_build_g rfl ([(0, .int .i64 x0), (1, .int .i64 x1), (2, .int .i64 y0), (3, .int .i64 y1)]) ((M.mat 4 q).toArray) ?_ (BQ) ?_; (focus (simp only [List.map_toArray, List.map_cons, List.map_nil]; rfl))) | ((with_reducible refine at_alloc 3 ?_); refine wpList_alloc_own O (M.mat 4 M.zero) zeroQ ?_; clear O; intro g3 w2 O) | ((with_reducible refine at_store 3 ?_); refine wpList_put_own O 0 (M.mat 4 (q)) rfl rfl rfl (sQ _) (M.mat_len2 _ _ _) (M.mat_one _ _) ?_; clear O; intro w3 O))
  clear BQ
  go_loopw [4] (fun u wr => ∃ k : Nat, k ≤ 4 ∧ u = .int .i64 k ∧ (∀ i, i < k → RC.inM (q i) = true) ∧ w3 = wr) (fun v _ => 4 - (intOf v).toNat)
  case atStart => exact ⟨0, by omega, rfl, fun i hi => absurd hi (by omega), rfl⟩
  case round =>
    obtain ⟨k, hk, rfl, hall, rfl⟩ := hrel
    have q0 : (0 : Int) ≤ k := by omega
    have HA := Lib.hid hall
    clear hall
    have hB := O.below
    by_cases hlt : k < 4
    · have q1 : (k : Int) < 4 := by omega
      obtain ⟨z, hz⟩ : ∃ z, q k = z := ⟨_, rfl⟩
      have CZ := cell_is (n := 4) hz hlt
      have cz := O.cell 0 rfl CZ.out
      have HK := HB.out k hlt
      rw [hz] at HK
      cases hc : RC.inM z
      · have HF := Lib.hid (HK hc)
        clear HK hz HB HN
        have hd : z < -4194304 ∨ 4194304 < z := by
          rw [← Bool.not_eq_true, RC.inM_iff] at hc
          omega
        clear hc
        rcases hd with hd | hd
        · have k1 : decide (z < -4194304) = true := by simpa using hd
          clear hd
          go_wp2_with (first | ((with_reducible refine at_index_ 19 ?_); refine wpList_ino rfl Try.underlying31 sizeOf3 (by decide) (k) rfl rfl (rfl) (by omega) ?_) | ((with_reducible refine at_load 20 ?_); refine wpList_cell_h (v := .int .i64 (z)) rfl O.held 0 rfl CZ.out rfl agg3 rfl ?_) | ((with_reducible refine at_index_ 24 ?_); refine wpList_ino rfl Try.underlying31 sizeOf3 (by decide) (k) rfl rfl (rfl) (by omega) ?_) | ((with_reducible refine at_load 25 ?_); refine wpList_cell_h (v := .int .i64 (z)) rfl O.held 0 rfl CZ.out rfl agg3 rfl ?_))
          go_ret
          exact ⟨by rw [HF.out]; rfl, hB⟩
        · have k1 : decide (z < -4194304) = false := by simp; omega
          have k2 : decide (4194304 < z) = true := by simpa using hd
          clear hd
          go_wp2_with (first | ((with_reducible refine at_index_ 19 ?_); refine wpList_ino rfl Try.underlying31 sizeOf3 (by decide) (k) rfl rfl (rfl) (by omega) ?_) | ((with_reducible refine at_load 20 ?_); refine wpList_cell_h (v := .int .i64 (z)) rfl O.held 0 rfl CZ.out rfl agg3 rfl ?_) | ((with_reducible refine at_index_ 24 ?_); refine wpList_ino rfl Try.underlying31 sizeOf3 (by decide) (k) rfl rfl (rfl) (by omega) ?_) | ((with_reducible refine at_load 25 ?_); refine wpList_cell_h (v := .int .i64 (z)) rfl O.held 0 rfl CZ.out rfl agg3 rfl ?_))
          go_ret
          exact ⟨by rw [HF.out]; rfl, hB⟩
      · clear HK
        have HC := Lib.hid (show RC.inM (q k) = true by rw [hz]; exact hc)
        obtain ⟨d1, d2⟩ := RC.inM_iff.1 hc
        have k1 : decide (z < -4194304) = false := by simp; omega
        have k2 : decide (4194304 < z) = false := by simp; omega
        clear hc hz d1 d2
        go_wp2_with (first | ((with_reducible refine at_index_ 19 ?_); refine wpList_ino rfl Try.underlying31 sizeOf3 (by decide) (k) rfl rfl (rfl) (by omega) ?_) | ((with_reducible refine at_load 20 ?_); refine wpList_cell_h (v := .int .i64 (z)) rfl O.held 0 rfl CZ.out rfl agg3 rfl ?_) | ((with_reducible refine at_index_ 24 ?_); refine wpList_ino rfl Try.underlying31 sizeOf3 (by decide) (k) rfl rfl (rfl) (by omega) ?_) | ((with_reducible refine at_load 25 ?_); refine wpList_cell_h (v := .int .i64 (z)) rfl O.held 0 rfl CZ.out rfl agg3 rfl ?_))
        go_roundw
        case rel => exact ⟨k + 1, by omega, by go_num, fun i hi => by
          by_cases e : i = k
          · subst e; exact HC.out
          · exact HA.out i (by omega), trivial⟩
        case measure => simp [intOf]; omega
    · have q1 : ¬ (k : Int) < 4 := by omega
      obtain rfl : k = 4 := by omega
      have HF := Lib.hid (HN.out HA.out)
      clear HN HB HA
      cases h0 : decide (x0 < x1) <;> cases h1 : decide (y0 < y1)
      all_goals
        rw [h0, h1] at HF
        go_wp2_with (first | ((with_reducible refine at_load 29 ?_); refine wpList_cell_h (v := .int .i64 (x0)) rfl O.held 1 rfl Cx0.out rfl agg3 rfl ?_) | ((with_reducible refine at_load 31 ?_); refine wpList_cell_h (v := .int .i64 (x1)) rfl O.held 1 rfl Cx1.out rfl agg3 rfl ?_) | ((with_reducible refine at_load 35 ?_); refine wpList_cell_h (v := .int .i64 (y0)) rfl O.held 1 rfl Cy0.out rfl agg3 rfl ?_) | ((with_reducible refine at_load 37 ?_); refine wpList_cell_h (v := .int .i64 (y1)) rfl O.held 1 rfl Cy1.out rfl agg3 rfl ?_))
        go_ret
        exact ⟨by rw [HF.out]; rfl, hB⟩
set_option maxHeartbeats 2000000 in
theorem rarea_any (r : Nat → Int) (w : World) : Calls Try.prog 9 #[arr 4 r] w fun e w' => e = .returned (.int .i64 (RC.area r)) ∧ Below w.heap.size w w' := by
  have O := Own.start w
  have C := fun w => rright_any r w
  cases hr : RC.right r
  · have HE := Lib.hid (RC.area_bad hr)
    rw [hr] at C
    clear hr
    go_enter Try.func9, Try.ntmps9
    go_wp2_with (first | ((with_reducible refine at_box 1 ?_); refine wpList_box_own O (M.mat 4 (r)) rfl ?_; clear O; intro g1 w1 O) | ((with_reducible refine at_load 3 ?_); refine wpList_whole rfl O 0 rfl rfl Try.underlying27 rfl (sR _) ?_) | (go_at_call 21; refine (C _).mono ?_; rintro e w2 ⟨rfl, hb⟩; replace O := O.call hb; clear hb))
    go_ret
    exact ⟨by rw [HE.out]; rfl, O.below⟩
  · obtain ⟨x0, ex0⟩ : ∃ z, r 0 = z := ⟨_, rfl⟩
    have Cx0 := cell_is (n := 4) ex0 (by decide)
    obtain ⟨y0, ey0⟩ : ∃ z, r 1 = z := ⟨_, rfl⟩
    have Cy0 := cell_is (n := 4) ey0 (by decide)
    obtain ⟨x1, ex1⟩ : ∃ z, r 2 = z := ⟨_, rfl⟩
    have Cx1 := cell_is (n := 4) ex1 (by decide)
    obtain ⟨y1, ey1⟩ : ∃ z, r 3 = z := ⟨_, rfl⟩
    have Cy1 := cell_is (n := 4) ey1 (by decide)
    obtain ⟨b1, b2, b3, b4, b5, b6⟩ := RC.right_lim hr ex0 ey0 ex1 ey1
    have HE := Lib.hid (RC.area_is hr ex0 ey0 ex1 ey1)
    have b7 := RC.mul_lim (a := x1 - x0) (b := y1 - y0) (by omega) (by omega) (by omega) (by omega)
    rw [hr] at C
    clear hr ex0 ey0 ex1 ey1
    have W1 : wrap64 (x1 - x0) = x1 - x0 := IntWalk.wrap64_in _ (by omega)
    have W2 : wrap64 (y1 - y0) = y1 - y0 := IntWalk.wrap64_in _ (by omega)
    have W3 : wrap64 ((x1 - x0) * (y1 - y0)) = (x1 - x0) * (y1 - y0) := IntWalk.wrap64_in _ (by omega)
    clear b1 b2 b3 b4 b5 b6 b7
    go_enter Try.func9, Try.ntmps9
    go_wp2_with (first | ((with_reducible refine at_box 1 ?_); refine wpList_box_own O (M.mat 4 (r)) rfl ?_; clear O; intro g1 w1 O) | ((with_reducible refine at_load 3 ?_); refine wpList_whole rfl O 0 rfl rfl Try.underlying27 rfl (sR _) ?_) | (go_at_call 21; refine (C _).mono ?_; rintro e w2 ⟨rfl, hb⟩; replace O := O.call hb; clear hb) | ((with_reducible refine at_load 7 ?_); refine wpList_cell_h (v := .int .i64 (x1)) rfl O.held 0 rfl Cx1.out rfl agg3 rfl ?_) | ((with_reducible refine at_load 9 ?_); refine wpList_cell_h (v := .int .i64 (x0)) rfl O.held 0 rfl Cx0.out rfl agg3 rfl ?_) | ((with_reducible refine at_load 12 ?_); refine wpList_cell_h (v := .int .i64 (y1)) rfl O.held 0 rfl Cy1.out rfl agg3 rfl ?_) | ((with_reducible refine at_load 14 ?_); refine wpList_cell_h (v := .int .i64 (y0)) rfl O.held 0 rfl Cy0.out rfl agg3 rfl ?_))
    go_ret
    exact ⟨by rw [HE.out]; exact congrArg (fun z => Ending.returned (Value.int IntKind.i64 z)) W3, O.below⟩
end Go.Proofs.Ytndaijcgjhmiaaa
