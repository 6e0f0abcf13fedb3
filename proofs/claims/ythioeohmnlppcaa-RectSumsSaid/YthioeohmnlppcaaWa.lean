/- Contracts: isWay, Right, twice. -/
import Derived.Test.YthioeohmnlppcaaLb
namespace Go.Proofs.Ythioeohmnlppcaa
open Go.ChangeShapes Go.WideShapes Go.ChangeAt Go.RowKit
set_option linter.unusedVariables false
set_option linter.unusedSimpArgs false

namespace RC
def way (b e : Int) : Bool := decide (-4194304 ≤ b) && (decide (b < e) && decide (e ≤ 4194304))
theorem right_way (r : Nat → Int) : right r = (way (r 0) (r 2) && way (r 1) (r 3)) := by
  rw [Bool.eq_iff_iff, right_iff]
  simp only [way, Bool.and_eq_true, decide_eq_true_eq]
  omega
theorem right_out {r : Nat → Int} {i : Nat} (hi : i < 4) (h : inM (mk (r 0) (r 2) (r 1) (r 3) i) = false) : right r = false := by
  rw [← Bool.not_eq_true] at h ⊢
  rw [inM_iff] at h
  rw [right_iff]
  rcases (by omega : i = 0 ∨ i = 1 ∨ i = 2 ∨ i = 3) with rfl | rfl | rfl | rfl <;> simp only [mk] at h <;> simp at h <;> omega
theorem right_end {r : Nat → Int} (h : ∀ i, i < 4 → inM (mk (r 0) (r 2) (r 1) (r 3) i) = true) : right r = (decide (r 0 < r 2) && decide (r 1 < r 3)) := by
  have h0 : inM (r 0) = true := h 0 (by omega)
  have h1 : inM (r 2) = true := h 1 (by omega)
  have h2 : inM (r 1) = true := h 2 (by omega)
  have h3 : inM (r 3) = true := h 3 (by omega)
  rw [right, h0, h1, h2, h3]
  rfl
end RC
set_option maxHeartbeats 1000000 in
theorem isWay_any (b e : Int) (w : World) : Calls Try.prog 24 #[.int .i64 b, .int .i64 e] w fun r w' => r = .returned (.bool (RC.way b e)) ∧ w' = w := by
  have HE : Hid (RC.way b e = (decide (-4194304 ≤ b) && (decide (b < e) && decide (e ≤ 4194304)))) := Lib.hid rfl
  cases h0 : decide (-4194304 ≤ b) <;> cases h1 : decide (b < e) <;> cases h2 : decide (e ≤ 4194304)
  all_goals
    rw [h0, h1, h2] at HE
    go_enter Try.func24, Try.ntmps24
    go_wp2_with fail
    go_ret
    exact ⟨by rw [HE.out]; rfl, rfl⟩
set_option maxHeartbeats 2000000 in
theorem right_any (r : Nat → Int) (w : World) : Calls Try.prog 10 #[arr 4 r] w fun e w' => e = .returned (.bool (RC.right r)) ∧ Below w.heap.size w w' := by
  have O := Own.start w
  have HE := Lib.hid (RC.right_way r)
  have C1 := fun w => isWay_any (r 0) (r 2) w
  have C2 := fun w => isWay_any (r 1) (r 3) w
  obtain ⟨x0, ex0⟩ : ∃ z, r 0 = z := ⟨_, rfl⟩
  have Cx0 := cell_is (n := 4) ex0 (by decide)
  obtain ⟨y0, ey0⟩ : ∃ z, r 1 = z := ⟨_, rfl⟩
  have Cy0 := cell_is (n := 4) ey0 (by decide)
  obtain ⟨x1, ex1⟩ : ∃ z, r 2 = z := ⟨_, rfl⟩
  have Cx1 := cell_is (n := 4) ex1 (by decide)
  obtain ⟨y1, ey1⟩ : ∃ z, r 3 = z := ⟨_, rfl⟩
  have Cy1 := cell_is (n := 4) ey1 (by decide)
  rw [ex0, ex1] at C1
  rw [ey0, ey1] at C2
  rw [ex0, ey0, ex1, ey1] at HE
  clear ex0 ey0 ex1 ey1
  have tok0 : True := trivial
  cases h1 : RC.way x0 x1 <;> cases h2 : RC.way y0 y1
  all_goals
    rw [h1, h2] at HE
    rw [h1] at C1
    rw [h2] at C2
    clear h1 h2
    go_enter Try.func10, Try.ntmps10
    go_wp2_with (first | ((with_reducible refine at_box 1 ?_); refine wpList_box_own O (M.mat 4 (r)) rfl ?_; clear O; intro g1 w1 O) | ((with_reducible refine at_load 4 ?_); refine wpList_cell_h (v := .int .i64 (x0)) rfl O.held 0 rfl Cx0.out rfl agg3 rfl ?_) | ((with_reducible refine at_load 6 ?_); refine wpList_cell_h (v := .int .i64 (x1)) rfl O.held 0 rfl Cx1.out rfl agg3 rfl ?_) | ((with_reducible refine at_load 10 ?_); refine wpList_cell_h (v := .int .i64 (y0)) rfl O.held 0 rfl Cy0.out rfl agg3 rfl ?_) | ((with_reducible refine at_load 12 ?_); refine wpList_cell_h (v := .int .i64 (y1)) rfl O.held 0 rfl Cy1.out rfl agg3 rfl ?_) | (go_at_call 24; clear tok0; have tok1 : True := trivial; refine (C1 _).mono ?_; rintro e w' ⟨rfl, rfl⟩) | (go_at_call 24; clear tok1; have tok2 : True := trivial; refine (C2 _).mono ?_; rintro e w' ⟨rfl, rfl⟩))
    go_ret
    exact ⟨by rw [HE.out]; rfl, O.below⟩
set_option maxHeartbeats 4000000 in
theorem rright_any (r : Nat → Int) (w : World) : Calls Try.prog 11 #[arr 4 r] w fun e w' => e = .returned (.bool (RC.right r)) ∧ Below w.heap.size w w' := by
  have O := Own.start w
  have HB := Lib.hid (fun i (hi : i < 4) => RC.right_out (r := r) hi)
  have HN := Lib.hid (RC.right_end (r := r))
  obtain ⟨x0, ex0⟩ : ∃ z, r 0 = z := ⟨_, rfl⟩
  have Cx0 := cell_is (n := 4) ex0 (by decide)
  obtain ⟨y0, ey0⟩ : ∃ z, r 1 = z := ⟨_, rfl⟩
  have Cy0 := cell_is (n := 4) ey0 (by decide)
  obtain ⟨x1, ex1⟩ : ∃ z, r 2 = z := ⟨_, rfl⟩
  have Cx1 := cell_is (n := 4) ex1 (by decide)
  obtain ⟨y1, ey1⟩ : ∃ z, r 3 = z := ⟨_, rfl⟩
  have Cy1 := cell_is (n := 4) ey1 (by decide)
  rw [ex0, ey0, ex1, ey1] at HB HN
  clear ex0 ey0 ex1 ey1
  obtain ⟨q, hq⟩ : ∃ q, RC.mk x0 x1 y0 y1 = q := ⟨_, rfl⟩
  have BQ : Try.prog.built 42 [(0, .int .i64 x0), (1, .int .i64 x1), (2, .int .i64 y0), (3, .int .i64 y1)] = some (M.mat 4 q).toArray := by rw [← hq]; exact builtQ x0 x1 y0 y1
  rw [hq] at HB HN
  clear hq
  go_enter Try.func11, Try.ntmps11
  go_wp2_with (first | ((with_reducible refine at_box 1 ?_); refine wpList_box_own O (M.mat 4 (r)) rfl ?_; clear O; intro g1 w1 O) | ((with_reducible refine at_load 6 ?_); refine wpList_cell_h (v := .int .i64 (x0)) rfl O.held 0 rfl Cx0.out rfl agg3 rfl ?_) | ((with_reducible refine at_load 8 ?_); refine wpList_cell_h (v := .int .i64 (x1)) rfl O.held 0 rfl Cx1.out rfl agg3 rfl ?_) | ((with_reducible refine at_load 10 ?_); refine wpList_cell_h (v := .int .i64 (y0)) rfl O.held 0 rfl Cy0.out rfl agg3 rfl ?_) | ((with_reducible refine at_load 12 ?_); refine wpList_cell_h (v := .int .i64 (y1)) rfl O.held 0 rfl Cy1.out rfl agg3 rfl ?_) | ((with_reducible refine at_build 13 ?_); refine wpList_build_g rfl ([(0, .int .i64 x0), (1, .int .i64 x1), (2, .int .i64 y0), (3, .int .i64 y1)]) ((M.mat 4 q).toArray) ?_ (BQ) ?_; (focus (simp only [List.map_toArray, List.map_cons, List.map_nil]; rfl))) | ((with_reducible refine at_alloc 3 ?_); refine wpList_alloc_own O (M.mat 4 M.zero) zeroQ ?_; clear O; intro g3 w2 O) | ((with_reducible refine at_store 3 ?_); refine wpList_put_own O 0 (M.mat 4 (q)) rfl rfl rfl (sQ _) (M.mat_len2 _ _ _) (M.mat_one _ _) ?_; clear O; intro w3 O))
  clear BQ
  go_loopw [4] (fun u wr => ∃ k : Nat, k ≤ 4 ∧ u = .int .i64 k ∧ (∀ i, i < k → RC.inM (q i) = true) ∧ w3 = wr) (fun v _ => 4 - (intOf v).toNat)
  case atStart => exact ⟨0, by omega, rfl, fun i hi => absurd hi (by omega), rfl⟩
  case round =>
    obtain ⟨k, hk, rfl, hall, rfl⟩ := hrel
    have q0 : (0 : Int) ≤ k := by omega
    have HA := Lib.hid hall
    clear hall
    have hB := O.below
    by_cases hlt : k < 4
    · have q1 : (k : Int) < 4 := by omega
      obtain ⟨z, hz⟩ : ∃ z, q k = z := ⟨_, rfl⟩
      have CZ := cell_is (n := 4) hz hlt
      have cz := O.cell 0 rfl CZ.out
      have HK := HB.out k hlt
      rw [hz] at HK
      cases hc : RC.inM z
      · have HF := Lib.hid (HK hc)
        clear HK hz HB HN
        have hd : z < -4194304 ∨ 4194304 < z := by
          rw [← Bool.not_eq_true, RC.inM_iff] at hc
          omega
        clear hc
        rcases hd with hd | hd
        · have k1 : decide (z < -4194304) = true := by simpa using hd
          clear hd
          go_wp2_with (first | ((with_reducible refine at_index_ 19 ?_); refine wpList_ino rfl Try.underlying42 sizeOf3 (by decide) (k) rfl rfl (rfl) (by omega) ?_) | ((with_reducible refine at_load 20 ?_); refine wpList_cell_h (v := .int .i64 (z)) rfl O.held 0 rfl CZ.out rfl agg3 rfl ?_) | ((with_reducible refine at_index_ 24 ?_); refine wpList_ino rfl Try.underlying42 sizeOf3 (by decide) (k) rfl rfl (rfl) (by omega) ?_) | ((with_reducible refine at_load 25 ?_); refine wpList_cell_h (v := .int .i64 (z)) rfl O.held 0 rfl CZ.out rfl agg3 rfl ?_))
          go_ret
          exact ⟨by rw [HF.out]; rfl, hB⟩
        · have k1 : decide (z < -4194304) = false := by simp; omega
          have k2 : decide (4194304 < z) = true := by simpa using hd
          clear hd
          go_wp2_with (first | ((with_reducible refine at_index_ 19 ?_); refine wpList_ino rfl Try.underlying42 sizeOf3 (by decide) (k) rfl rfl (rfl) (by omega) ?_) | ((with_reducible refine at_load 20 ?_); refine wpList_cell_h (v := .int .i64 (z)) rfl O.held 0 rfl CZ.out rfl agg3 rfl ?_) | ((with_reducible refine at_index_ 24 ?_); refine wpList_ino rfl Try.underlying42 sizeOf3 (by decide) (k) rfl rfl (rfl) (by omega) ?_) | ((with_reducible refine at_load 25 ?_); refine wpList_cell_h (v := .int .i64 (z)) rfl O.held 0 rfl CZ.out rfl agg3 rfl ?_))
          go_ret
          exact ⟨by rw [HF.out]; rfl, hB⟩
      · clear HK
        have HC := Lib.hid (show RC.inM (q k) = true by rw [hz]; exact hc)
        obtain ⟨d1, d2⟩ := RC.inM_iff.1 hc
        have k1 : decide (z < -4194304) = false := by simp; omega
        have k2 : decide (4194304 < z) = false := by simp; omega
        clear hc hz d1 d2
        go_wp2_with (first | ((with_reducible refine at_index_ 19 ?_); refine wpList_ino rfl Try.underlying42 sizeOf3 (by decide) (k) rfl rfl (rfl) (by omega) ?_) | ((with_reducible refine at_load 20 ?_); refine wpList_cell_h (v := .int .i64 (z)) rfl O.held 0 rfl CZ.out rfl agg3 rfl ?_) | ((with_reducible refine at_index_ 24 ?_); refine wpList_ino rfl Try.underlying42 sizeOf3 (by decide) (k) rfl rfl (rfl) (by omega) ?_) | ((with_reducible refine at_load 25 ?_); refine wpList_cell_h (v := .int .i64 (z)) rfl O.held 0 rfl CZ.out rfl agg3 rfl ?_))
        go_roundw
        case rel => exact ⟨k + 1, by omega, by go_num, fun i hi => by
          by_cases e : i = k
          · subst e; exact HC.out
          · exact HA.out i (by omega), trivial⟩
        case measure => simp [intOf]; omega
    · have q1 : ¬ (k : Int) < 4 := by omega
      obtain rfl : k = 4 := by omega
      have HF := Lib.hid (HN.out HA.out)
      clear HN HB HA
      cases h0 : decide (x0 < x1) <;> cases h1 : decide (y0 < y1)
      all_goals
        rw [h0, h1] at HF
        go_wp2_with (first | ((with_reducible refine at_load 29 ?_); refine wpList_cell_h (v := .int .i64 (x0)) rfl O.held 1 rfl Cx0.out rfl agg3 rfl ?_) | ((with_reducible refine at_load 31 ?_); refine wpList_cell_h (v := .int .i64 (x1)) rfl O.held 1 rfl Cx1.out rfl agg3 rfl ?_) | ((with_reducible refine at_load 35 ?_); refine wpList_cell_h (v := .int .i64 (y0)) rfl O.held 1 rfl Cy0.out rfl agg3 rfl ?_) | ((with_reducible refine at_load 37 ?_); refine wpList_cell_h (v := .int .i64 (y1)) rfl O.held 1 rfl Cy1.out rfl agg3 rfl ?_))
        go_ret
        exact ⟨by rw [HF.out]; rfl, hB⟩
end Go.Proofs.Ythioeohmnlppcaa
