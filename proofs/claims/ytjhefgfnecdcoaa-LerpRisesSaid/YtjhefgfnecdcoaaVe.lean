/- Contracts: far, near, fits. -/
import Derived.Test.YtjhefgfnecdcoaaVt
namespace Go.Proofs.Ytjhefgfnecdcoaa
open Go.ChangeShapes Go.WideShapes Go.ChangeAt Go.RowKit
set_option linter.unusedVariables false
set_option linter.unusedSimpArgs false

namespace VM
def okc (x : Int) : Bool := decide (0 ≤ x) && decide (x ≤ 255)
theorem okc_iff {x : Int} : okc x = true ↔ 0 ≤ x ∧ x ≤ 255 := by simp [okc]
def okv (x y z : Int) : Bool := decide (-268435456 ≤ x) && (decide (x ≤ 268435456) && (decide (-268435456 ≤ y) && (decide (y ≤ 268435456) && (decide (0 ≤ z) && decide (z ≤ 16777215)))))
def fit (v : Nat → Int) : Bool := okc (v 3) && (okc (v 4) && (okc (v 5) && (okc (v 6) && okv (v 0) (v 1) (v 2))))
def near (p : Nat → Int) : Bool := decide (-4194304 ≤ p 0) && (decide (p 0 ≤ 4194304) && (decide (-4194304 ≤ p 1) && decide (p 1 ≤ 4194304)))
def far (x : Int) : Bool := decide (x < -1099511627776) || decide (1099511627776 < x)
theorem far_no {x : Int} (h : far x = false) : -1099511627776 ≤ x ∧ x ≤ 1099511627776 := by simp [far] at h; omega
theorem near_lim {p : Nat → Int} (h : near p = true) : (-4194304 ≤ p 0 ∧ p 0 ≤ 4194304) ∧ (-4194304 ≤ p 1 ∧ p 1 ≤ 4194304) := by simp [near] at h; omega
theorem fit_lim {v : Nat → Int} (h : fit v = true) : (-268435456 ≤ v 0 ∧ v 0 ≤ 268435456) ∧ (-268435456 ≤ v 1 ∧ v 1 ≤ 268435456) ∧ (0 ≤ v 2 ∧ v 2 ≤ 16777215) ∧ ∀ i, i < 4 → 0 ≤ v (3 + i) ∧ v (3 + i) ≤ 255 := by
  simp only [fit, okv, Bool.and_eq_true, okc_iff, decide_eq_true_eq] at h
  refine ⟨by omega, by omega, by omega, fun i hi => ?_⟩
  rcases (by omega : i = 0 ∨ i = 1 ∨ i = 2 ∨ i = 3) with rfl | rfl | rfl | rfl
  · exact h.1
  · exact h.2.1
  · exact h.2.2.1
  · exact h.2.2.2.1
theorem fit_out {v : Nat → Int} {i : Nat} (hi : i < 4) (h : okc (v (3 + i)) = false) : fit v = false := by
  rcases (by omega : i = 0 ∨ i = 1 ∨ i = 2 ∨ i = 3) with rfl | rfl | rfl | rfl <;> simp only [fit] <;> rw [h] <;> simp
theorem fit_end {v : Nat → Int} (h : ∀ i, i < 4 → okc (v (3 + i)) = true) : fit v = okv (v 0) (v 1) (v 2) := by
  have h0 : okc (v 3) = true := h 0 (by omega)
  have h1 : okc (v 4) = true := h 1 (by omega)
  have h2 : okc (v 5) = true := h 2 (by omega)
  have h3 : okc (v 6) = true := h 3 (by omega)
  rw [fit, h0, h1, h2, h3]
  rfl
end VM
set_option maxHeartbeats 1000000 in
theorem far_any (x : Int) (w : World) : Calls Try.prog 7 #[.int .i64 x] w fun e w' => e = .returned (.bool (VM.far x)) ∧ w' = w := by
  have HE : Hid (VM.far x = (decide (x < -1099511627776) || decide (1099511627776 < x))) := Lib.hid rfl
  cases k0 : decide (x < -1099511627776) <;> cases k1 : decide (1099511627776 < x)
  all_goals
    rw [k0, k1] at HE
    go_enter Try.func7, Try.ntmps7
    go_wp2_with fail
    go_ret
    exact ⟨by rw [HE.out]; rfl, rfl⟩
set_option maxHeartbeats 4000000 in
theorem near_any (p : Nat → Int) (w : World) : Calls Try.prog 12 #[arr 2 p] w fun e w' => e = .returned (.bool (VM.near p)) ∧ Below w.heap.size w w' := by
  have O := Own.start w
  have HE : Hid (VM.near p = (decide (-4194304 ≤ p 0) && (decide (p 0 ≤ 4194304) && (decide (-4194304 ≤ p 1) && decide (p 1 ≤ 4194304))))) := Lib.hid rfl
  obtain ⟨x, ex⟩ : ∃ z, p 0 = z := ⟨_, rfl⟩
  have Cx := cell_is (n := 2) ex (by decide)
  obtain ⟨y, ey⟩ : ∃ z, p 1 = z := ⟨_, rfl⟩
  have Cy := cell_is (n := 2) ey (by decide)
  rw [ex, ey] at HE
  clear ex ey
  cases k0 : decide (-4194304 ≤ x)
  · rw [k0] at HE
    go_enter Try.func12, Try.ntmps12
    go_wp2_with (first | ((with_reducible refine at_box 1 ?_); refine wpList_box_own O (M.mat 2 (p)) rfl ?_; clear O; intro g1 w1 O) | ((with_reducible refine at_load 4 ?_); refine wpList_cell_h (v := .int .i64 (x)) rfl O.held 0 rfl Cx.out rfl agg3 rfl ?_) | ((with_reducible refine at_load 8 ?_); refine wpList_cell_h (v := .int .i64 (x)) rfl O.held 0 rfl Cx.out rfl agg3 rfl ?_) | ((with_reducible refine at_load 13 ?_); refine wpList_cell_h (v := .int .i64 (y)) rfl O.held 0 rfl Cy.out rfl agg3 rfl ?_) | ((with_reducible refine at_load 18 ?_); refine wpList_cell_h (v := .int .i64 (y)) rfl O.held 0 rfl Cy.out rfl agg3 rfl ?_))
    go_ret
    exact ⟨by rw [HE.out]; rfl, O.below⟩
  cases k1 : decide (x ≤ 4194304)
  · rw [k0, k1] at HE
    go_enter Try.func12, Try.ntmps12
    go_wp2_with (first | ((with_reducible refine at_box 1 ?_); refine wpList_box_own O (M.mat 2 (p)) rfl ?_; clear O; intro g1 w1 O) | ((with_reducible refine at_load 4 ?_); refine wpList_cell_h (v := .int .i64 (x)) rfl O.held 0 rfl Cx.out rfl agg3 rfl ?_) | ((with_reducible refine at_load 8 ?_); refine wpList_cell_h (v := .int .i64 (x)) rfl O.held 0 rfl Cx.out rfl agg3 rfl ?_) | ((with_reducible refine at_load 13 ?_); refine wpList_cell_h (v := .int .i64 (y)) rfl O.held 0 rfl Cy.out rfl agg3 rfl ?_) | ((with_reducible refine at_load 18 ?_); refine wpList_cell_h (v := .int .i64 (y)) rfl O.held 0 rfl Cy.out rfl agg3 rfl ?_))
    go_ret
    exact ⟨by rw [HE.out]; rfl, O.below⟩
  cases k2 : decide (-4194304 ≤ y)
  · rw [k0, k1, k2] at HE
    go_enter Try.func12, Try.ntmps12
    go_wp2_with (first | ((with_reducible refine at_box 1 ?_); refine wpList_box_own O (M.mat 2 (p)) rfl ?_; clear O; intro g1 w1 O) | ((with_reducible refine at_load 4 ?_); refine wpList_cell_h (v := .int .i64 (x)) rfl O.held 0 rfl Cx.out rfl agg3 rfl ?_) | ((with_reducible refine at_load 8 ?_); refine wpList_cell_h (v := .int .i64 (x)) rfl O.held 0 rfl Cx.out rfl agg3 rfl ?_) | ((with_reducible refine at_load 13 ?_); refine wpList_cell_h (v := .int .i64 (y)) rfl O.held 0 rfl Cy.out rfl agg3 rfl ?_) | ((with_reducible refine at_load 18 ?_); refine wpList_cell_h (v := .int .i64 (y)) rfl O.held 0 rfl Cy.out rfl agg3 rfl ?_))
    go_ret
    exact ⟨by rw [HE.out]; rfl, O.below⟩
  cases k3 : decide (y ≤ 4194304)
  · rw [k0, k1, k2, k3] at HE
    go_enter Try.func12, Try.ntmps12
    go_wp2_with (first | ((with_reducible refine at_box 1 ?_); refine wpList_box_own O (M.mat 2 (p)) rfl ?_; clear O; intro g1 w1 O) | ((with_reducible refine at_load 4 ?_); refine wpList_cell_h (v := .int .i64 (x)) rfl O.held 0 rfl Cx.out rfl agg3 rfl ?_) | ((with_reducible refine at_load 8 ?_); refine wpList_cell_h (v := .int .i64 (x)) rfl O.held 0 rfl Cx.out rfl agg3 rfl ?_) | ((with_reducible refine at_load 13 ?_); refine wpList_cell_h (v := .int .i64 (y)) rfl O.held 0 rfl Cy.out rfl agg3 rfl ?_) | ((with_reducible refine at_load 18 ?_); refine wpList_cell_h (v := .int .i64 (y)) rfl O.held 0 rfl Cy.out rfl agg3 rfl ?_))
    go_ret
    exact ⟨by rw [HE.out]; rfl, O.below⟩
  rw [k0, k1, k2, k3] at HE
  go_enter Try.func12, Try.ntmps12
  go_wp2_with (first | ((with_reducible refine at_box 1 ?_); refine wpList_box_own O (M.mat 2 (p)) rfl ?_; clear O; intro g1 w1 O) | ((with_reducible refine at_load 4 ?_); refine wpList_cell_h (v := .int .i64 (x)) rfl O.held 0 rfl Cx.out rfl agg3 rfl ?_) | ((with_reducible refine at_load 8 ?_); refine wpList_cell_h (v := .int .i64 (x)) rfl O.held 0 rfl Cx.out rfl agg3 rfl ?_) | ((with_reducible refine at_load 13 ?_); refine wpList_cell_h (v := .int .i64 (y)) rfl O.held 0 rfl Cy.out rfl agg3 rfl ?_) | ((with_reducible refine at_load 18 ?_); refine wpList_cell_h (v := .int .i64 (y)) rfl O.held 0 rfl Cy.out rfl agg3 rfl ?_))
  go_ret
  exact ⟨by rw [HE.out]; rfl, O.below⟩
set_option maxHeartbeats 8000000 in
theorem fits_any (v : Nat → Int) (w : World) : Calls Try.prog 11 #[arr 7 v] w fun e w' => e = .returned (.bool (VM.fit v)) ∧ Below w.heap.size w w' := by
  have O := Own.start w
  have HB := Lib.hid (fun i (hi : i < 4) => VM.fit_out (v := v) hi)
  have HN := Lib.hid (VM.fit_end (v := v))
  obtain ⟨x0, ex0⟩ : ∃ z, v 0 = z := ⟨_, rfl⟩
  have Cx0 := cell_is (n := 7) ex0 (by decide)
  obtain ⟨x1, ex1⟩ : ∃ z, v 1 = z := ⟨_, rfl⟩
  have Cx1 := cell_is (n := 7) ex1 (by decide)
  obtain ⟨x2, ex2⟩ : ∃ z, v 2 = z := ⟨_, rfl⟩
  have Cx2 := cell_is (n := 7) ex2 (by decide)
  rw [ex0, ex1, ex2] at HN
  clear ex0 ex1 ex2
  go_enter Try.func11, Try.ntmps11
  go_wp2_with ((with_reducible refine at_box 1 ?_); refine wpList_box_own O (M.mat 7 (v)) rfl ?_; clear O; intro g1 w1 O)
  go_loopw [3] (fun u wr => ∃ k : Nat, k ≤ 4 ∧ u = .int .i64 k ∧ (∀ i, i < k → VM.okc (v (3 + i)) = true) ∧ w1 = wr) (fun t _ => 4 - (intOf t).toNat)
  case atStart => exact ⟨0, by omega, rfl, fun i hi => absurd hi (by omega), rfl⟩
  case round =>
    obtain ⟨k, hk, rfl, hall, rfl⟩ := hrel
    have q0 : (0 : Int) ≤ k := by omega
    have HA := Lib.hid hall
    clear hall
    have hB := O.below
    by_cases hlt : k < 4
    · have q1 : (k : Int) < 4 := by omega
      obtain ⟨z, hz⟩ : ∃ z, v (3 + k) = z := ⟨_, rfl⟩
      have CZ := cell_is (n := 7) hz (by omega)
      have HK := HB.out k hlt
      rw [hz] at HK
      cases hc : VM.okc z
      · have HF := Lib.hid (HK hc)
        clear HK hz HB HN
        have hd : z < 0 ∨ 255 < z := by
          rw [← Bool.not_eq_true, VM.okc_iff] at hc
          omega
        clear hc
        rcases hd with hd | hd
        · have k1 : decide (z < 0) = true := by simpa using hd
          clear hd
          go_wp2_with (first | ((with_reducible refine at_index_ 10 ?_); refine wpList_ino rfl Try.underlying28 sizeOf3 (by decide) (k) rfl rfl (rfl) (by omega) ?_) | ((with_reducible refine at_load 11 ?_); refine wpList_cell_h (v := .int .i64 (z)) rfl O.held 0 rfl CZ.out rfl agg3 rfl ?_) | ((with_reducible refine at_index_ 16 ?_); refine wpList_ino rfl Try.underlying28 sizeOf3 (by decide) (k) rfl rfl (rfl) (by omega) ?_) | ((with_reducible refine at_load 17 ?_); refine wpList_cell_h (v := .int .i64 (z)) rfl O.held 0 rfl CZ.out rfl agg3 rfl ?_))
          go_ret
          exact ⟨by rw [HF.out]; rfl, hB⟩
        · have k1 : decide (z < 0) = false := by simp; omega
          have k2 : decide (255 < z) = true := by simpa using hd
          clear hd
          go_wp2_with (first | ((with_reducible refine at_index_ 10 ?_); refine wpList_ino rfl Try.underlying28 sizeOf3 (by decide) (k) rfl rfl (rfl) (by omega) ?_) | ((with_reducible refine at_load 11 ?_); refine wpList_cell_h (v := .int .i64 (z)) rfl O.held 0 rfl CZ.out rfl agg3 rfl ?_) | ((with_reducible refine at_index_ 16 ?_); refine wpList_ino rfl Try.underlying28 sizeOf3 (by decide) (k) rfl rfl (rfl) (by omega) ?_) | ((with_reducible refine at_load 17 ?_); refine wpList_cell_h (v := .int .i64 (z)) rfl O.held 0 rfl CZ.out rfl agg3 rfl ?_))
          go_ret
          exact ⟨by rw [HF.out]; rfl, hB⟩
      · clear HK
        have HC := Lib.hid (show VM.okc (v (3 + k)) = true by rw [hz]; exact hc)
        obtain ⟨d1, d2⟩ := VM.okc_iff.1 hc
        have k1 : decide (z < 0) = false := by simp; omega
        have k2 : decide (255 < z) = false := by simp; omega
        clear hc hz d1 d2
        go_wp2_with (first | ((with_reducible refine at_index_ 10 ?_); refine wpList_ino rfl Try.underlying28 sizeOf3 (by decide) (k) rfl rfl (rfl) (by omega) ?_) | ((with_reducible refine at_load 11 ?_); refine wpList_cell_h (v := .int .i64 (z)) rfl O.held 0 rfl CZ.out rfl agg3 rfl ?_) | ((with_reducible refine at_index_ 16 ?_); refine wpList_ino rfl Try.underlying28 sizeOf3 (by decide) (k) rfl rfl (rfl) (by omega) ?_) | ((with_reducible refine at_load 17 ?_); refine wpList_cell_h (v := .int .i64 (z)) rfl O.held 0 rfl CZ.out rfl agg3 rfl ?_))
        go_roundw
        case rel => exact ⟨k + 1, by omega, by go_num, fun i hi => by
          by_cases e : i = k
          · subst e; exact HC.out
          · exact HA.out i (by omega), trivial⟩
        case measure => simp [intOf]; omega
    · have q1 : ¬ (k : Int) < 4 := by omega
      obtain rfl : k = 4 := by omega
      have HE := Lib.hid (HN.out HA.out)
      unfold VM.okv at HE
      clear HN HB HA
      cases k0 : decide (-268435456 ≤ x0)
      · rw [k0] at HE
        go_wp2_with (first | ((with_reducible refine at_load 21 ?_); refine wpList_cell_h (v := .int .i64 (x0)) rfl O.held 0 rfl Cx0.out rfl agg3 rfl ?_) | ((with_reducible refine at_load 25 ?_); refine wpList_cell_h (v := .int .i64 (x0)) rfl O.held 0 rfl Cx0.out rfl agg3 rfl ?_) | ((with_reducible refine at_load 30 ?_); refine wpList_cell_h (v := .int .i64 (x1)) rfl O.held 0 rfl Cx1.out rfl agg3 rfl ?_) | ((with_reducible refine at_load 35 ?_); refine wpList_cell_h (v := .int .i64 (x1)) rfl O.held 0 rfl Cx1.out rfl agg3 rfl ?_) | ((with_reducible refine at_load 40 ?_); refine wpList_cell_h (v := .int .i64 (x2)) rfl O.held 0 rfl Cx2.out rfl agg3 rfl ?_) | ((with_reducible refine at_load 45 ?_); refine wpList_cell_h (v := .int .i64 (x2)) rfl O.held 0 rfl Cx2.out rfl agg3 rfl ?_))
        go_ret
        exact ⟨by rw [HE.out]; rfl, hB⟩
      cases k1 : decide (x0 ≤ 268435456)
      · rw [k0, k1] at HE
        go_wp2_with (first | ((with_reducible refine at_load 21 ?_); refine wpList_cell_h (v := .int .i64 (x0)) rfl O.held 0 rfl Cx0.out rfl agg3 rfl ?_) | ((with_reducible refine at_load 25 ?_); refine wpList_cell_h (v := .int .i64 (x0)) rfl O.held 0 rfl Cx0.out rfl agg3 rfl ?_) | ((with_reducible refine at_load 30 ?_); refine wpList_cell_h (v := .int .i64 (x1)) rfl O.held 0 rfl Cx1.out rfl agg3 rfl ?_) | ((with_reducible refine at_load 35 ?_); refine wpList_cell_h (v := .int .i64 (x1)) rfl O.held 0 rfl Cx1.out rfl agg3 rfl ?_) | ((with_reducible refine at_load 40 ?_); refine wpList_cell_h (v := .int .i64 (x2)) rfl O.held 0 rfl Cx2.out rfl agg3 rfl ?_) | ((with_reducible refine at_load 45 ?_); refine wpList_cell_h (v := .int .i64 (x2)) rfl O.held 0 rfl Cx2.out rfl agg3 rfl ?_))
        go_ret
        exact ⟨by rw [HE.out]; rfl, hB⟩
      cases k2 : decide (-268435456 ≤ x1)
      · rw [k0, k1, k2] at HE
        go_wp2_with (first | ((with_reducible refine at_load 21 ?_); refine wpList_cell_h (v := .int .i64 (x0)) rfl O.held 0 rfl Cx0.out rfl agg3 rfl ?_) | ((with_reducible refine at_load 25 ?_); refine wpList_cell_h (v := .int .i64 (x0)) rfl O.held 0 rfl Cx0.out rfl agg3 rfl ?_) | ((with_reducible refine at_load 30 ?_); refine wpList_cell_h (v := .int .i64 (x1)) rfl O.held 0 rfl Cx1.out rfl agg3 rfl ?_) | ((with_reducible refine at_load 35 ?_); refine wpList_cell_h (v := .int .i64 (x1)) rfl O.held 0 rfl Cx1.out rfl agg3 rfl ?_) | ((with_reducible refine at_load 40 ?_); refine wpList_cell_h (v := .int .i64 (x2)) rfl O.held 0 rfl Cx2.out rfl agg3 rfl ?_) | ((with_reducible refine at_load 45 ?_); refine wpList_cell_h (v := .int .i64 (x2)) rfl O.held 0 rfl Cx2.out rfl agg3 rfl ?_))
        go_ret
        exact ⟨by rw [HE.out]; rfl, hB⟩
      cases k3 : decide (x1 ≤ 268435456)
      · rw [k0, k1, k2, k3] at HE
        go_wp2_with (first | ((with_reducible refine at_load 21 ?_); refine wpList_cell_h (v := .int .i64 (x0)) rfl O.held 0 rfl Cx0.out rfl agg3 rfl ?_) | ((with_reducible refine at_load 25 ?_); refine wpList_cell_h (v := .int .i64 (x0)) rfl O.held 0 rfl Cx0.out rfl agg3 rfl ?_) | ((with_reducible refine at_load 30 ?_); refine wpList_cell_h (v := .int .i64 (x1)) rfl O.held 0 rfl Cx1.out rfl agg3 rfl ?_) | ((with_reducible refine at_load 35 ?_); refine wpList_cell_h (v := .int .i64 (x1)) rfl O.held 0 rfl Cx1.out rfl agg3 rfl ?_) | ((with_reducible refine at_load 40 ?_); refine wpList_cell_h (v := .int .i64 (x2)) rfl O.held 0 rfl Cx2.out rfl agg3 rfl ?_) | ((with_reducible refine at_load 45 ?_); refine wpList_cell_h (v := .int .i64 (x2)) rfl O.held 0 rfl Cx2.out rfl agg3 rfl ?_))
        go_ret
        exact ⟨by rw [HE.out]; rfl, hB⟩
      cases k4 : decide (0 ≤ x2)
      · rw [k0, k1, k2, k3, k4] at HE
        go_wp2_with (first | ((with_reducible refine at_load 21 ?_); refine wpList_cell_h (v := .int .i64 (x0)) rfl O.held 0 rfl Cx0.out rfl agg3 rfl ?_) | ((with_reducible refine at_load 25 ?_); refine wpList_cell_h (v := .int .i64 (x0)) rfl O.held 0 rfl Cx0.out rfl agg3 rfl ?_) | ((with_reducible refine at_load 30 ?_); refine wpList_cell_h (v := .int .i64 (x1)) rfl O.held 0 rfl Cx1.out rfl agg3 rfl ?_) | ((with_reducible refine at_load 35 ?_); refine wpList_cell_h (v := .int .i64 (x1)) rfl O.held 0 rfl Cx1.out rfl agg3 rfl ?_) | ((with_reducible refine at_load 40 ?_); refine wpList_cell_h (v := .int .i64 (x2)) rfl O.held 0 rfl Cx2.out rfl agg3 rfl ?_) | ((with_reducible refine at_load 45 ?_); refine wpList_cell_h (v := .int .i64 (x2)) rfl O.held 0 rfl Cx2.out rfl agg3 rfl ?_))
        go_ret
        exact ⟨by rw [HE.out]; rfl, hB⟩
      cases k5 : decide (x2 ≤ 16777215)
      · rw [k0, k1, k2, k3, k4, k5] at HE
        go_wp2_with (first | ((with_reducible refine at_load 21 ?_); refine wpList_cell_h (v := .int .i64 (x0)) rfl O.held 0 rfl Cx0.out rfl agg3 rfl ?_) | ((with_reducible refine at_load 25 ?_); refine wpList_cell_h (v := .int .i64 (x0)) rfl O.held 0 rfl Cx0.out rfl agg3 rfl ?_) | ((with_reducible refine at_load 30 ?_); refine wpList_cell_h (v := .int .i64 (x1)) rfl O.held 0 rfl Cx1.out rfl agg3 rfl ?_) | ((with_reducible refine at_load 35 ?_); refine wpList_cell_h (v := .int .i64 (x1)) rfl O.held 0 rfl Cx1.out rfl agg3 rfl ?_) | ((with_reducible refine at_load 40 ?_); refine wpList_cell_h (v := .int .i64 (x2)) rfl O.held 0 rfl Cx2.out rfl agg3 rfl ?_) | ((with_reducible refine at_load 45 ?_); refine wpList_cell_h (v := .int .i64 (x2)) rfl O.held 0 rfl Cx2.out rfl agg3 rfl ?_))
        go_ret
        exact ⟨by rw [HE.out]; rfl, hB⟩
      rw [k0, k1, k2, k3, k4, k5] at HE
      go_wp2_with (first | ((with_reducible refine at_load 21 ?_); refine wpList_cell_h (v := .int .i64 (x0)) rfl O.held 0 rfl Cx0.out rfl agg3 rfl ?_) | ((with_reducible refine at_load 25 ?_); refine wpList_cell_h (v := .int .i64 (x0)) rfl O.held 0 rfl Cx0.out rfl agg3 rfl ?_) | ((with_reducible refine at_load 30 ?_); refine wpList_cell_h (v := .int .i64 (x1)) rfl O.held 0 rfl Cx1.out rfl agg3 rfl ?_) | ((with_reducible refine at_load 35 ?_); refine wpList_cell_h (v := .int .i64 (x1)) rfl O.held 0 rfl Cx1.out rfl agg3 rfl ?_) | ((with_reducible refine at_load 40 ?_); refine wpList_cell_h (v := .int .i64 (x2)) rfl O.held 0 rfl Cx2.out rfl agg3 rfl ?_) | ((with_reducible refine at_load 45 ?_); refine wpList_cell_h (v := .int .i64 (x2)) rfl O.held 0 rfl Cx2.out rfl agg3 rfl ?_))
      go_ret
      exact ⟨by rw [HE.out]; rfl, hB⟩
end Go.Proofs.Ytjhefgfnecdcoaa
