/-
  ViewIn: for every vertex and every port, what is W or less from the middle has a place in the port, and its depth goes with Z.
-/
import Derived.Test.YtbmigbmeadgopaaVg
import Derived.Test.YtbmigbmeadgopaaVh
import Derived.Test.YtbmigbmeadgopaaVi
import Derived.Deep.DeepCutAuto
namespace Go.Proofs.Ytbmigbmeadgopaa.viewIn
open Go.ChangeShapes Go.WideShapes Go.ChangeAt Go.RowKit
set_option linter.unusedVariables false
set_option linter.unusedSimpArgs false

theorem own : ownKnob Try.prog.godebug = none := by kernel_rfl
theorem win0 (x y z : Int) (v : Nat → Int) : V.win x y z v 0 = x := rfl
theorem win1 (x y z : Int) (v : Nat → Int) : V.win x y z v 1 = y := rfl
theorem win2 (x y z : Int) (v : Nat → Int) : V.win x y z v 2 = z := rfl
theorem cell_is {n i : Nat} {a : Nat → Int} {z : Int} (h : a i = z) (hi : i < n) : Hid ((M.mat n a)[i]? = some (.int .i64 z)) := Lib.hid (by rw [← h]; exact M.mat_get hi)

set_option maxRecDepth 100000 in
set_option maxHeartbeats 16000000 in
theorem walk (w : World) (v p : Nat → Int) :
    Calls Try.prog 4 #[arr 8 v, arr 4 p] w fun e w' => e = .returned (.bool true) ∧ Below w.heap.size w w' := by
  have O := Own.start w
  have CM := fun w => map_any v p w
  unfold RetMap at CM
  obtain ⟨r, hr⟩ : ∃ r, V.map v p = r := ⟨_, rfl⟩
  rw [hr] at CM
  obtain ⟨m, e⟩ := r
  simp only at CM
  by_cases he : e = 0
  · subst he
    obtain ⟨hg, hm⟩ := V.map_ok hr
    obtain ⟨hv, h3, p0, p1, p2, p3⟩ := V.good_parts hg
    have hv0 := hv 0 (by omega)
    have hv1 := hv 1 (by omega)
    have hv2 := hv 2 (by omega)
    have W0 := cell_is (n := 7) (i := 0) (congrFun hm 0) (by decide)
    have W1 := cell_is (n := 7) (i := 1) (congrFun hm 1) (by decide)
    have W2 := cell_is (n := 7) (i := 2) (congrFun hm 2) (by decide)
    rw [win0] at W0
    rw [win1] at W1
    rw [win2] at W2
    have AX := fun h1 h2 => V.along_in (b := p 0) p2.1 h3.1 (x := v 0) h1 h2
    have AY := fun h1 h2 => V.along_in (b := p 1) p3.1 h3.1 (x := v 1) h1 h2
    have ZN := V.deep_near (z := v 2) h3.1
    have ZF := V.deep_far (z := v 2) h3.1
    have ZR := V.deep_rng (v 2) (v 3)
    generalize V.along (p 0) (p 2) (v 0) (v 3) = x at *
    generalize V.along (p 1) (p 3) (v 1) (v 3) = y at *
    generalize V.deep (v 2) (v 3) = z at *
    clear hm hg hr hv
    obtain ⟨v0, c0⟩ : ∃ z, v 0 = z := ⟨_, rfl⟩
    obtain ⟨v1, c1⟩ : ∃ z, v 1 = z := ⟨_, rfl⟩
    obtain ⟨v2, c2⟩ : ∃ z, v 2 = z := ⟨_, rfl⟩
    obtain ⟨v3, c3⟩ : ∃ z, v 3 = z := ⟨_, rfl⟩
    obtain ⟨q0, d0⟩ : ∃ z, p 0 = z := ⟨_, rfl⟩
    obtain ⟨q1, d1⟩ : ∃ z, p 1 = z := ⟨_, rfl⟩
    obtain ⟨q2, d2⟩ : ∃ z, p 2 = z := ⟨_, rfl⟩
    obtain ⟨q3, d3⟩ : ∃ z, p 3 = z := ⟨_, rfl⟩
    rw [c0] at hv0 AX
    rw [c1] at hv1 AY
    rw [c2] at hv2 ZN ZF
    rw [c3] at h3 AX AY ZN ZF
    rw [d0] at p0 AX
    rw [d1] at p1 AY
    rw [d2] at p2 AX
    rw [d3] at p3 AY
    have C0 := cell_is (n := 8) c0 (by decide)
    have C1 := cell_is (n := 8) c1 (by decide)
    have C2 := cell_is (n := 8) c2 (by decide)
    have C3 := cell_is (n := 8) c3 (by decide)
    have D0 := cell_is (n := 4) d0 (by decide)
    have D1 := cell_is (n := 4) d1 (by decide)
    have D2 := cell_is (n := 4) d2 (by decide)
    have D3 := cell_is (n := 4) d3 (by decide)
    clear c0 c1 c2 c3 d0 d1 d2 d3
    by_cases k0 : v0 < -v3
    · have F0 : decide (v0 < -v3) = true := decide_eq_true (by omega)
      clear AX AY ZN ZF ZR W0 W1 W2 hv2 k0
      go_enter Try.func4, Try.ntmps4
      go_wp2_with (first | ((with_reducible refine at_box 2 ?_); refine wpList_box_own O (M.mat 8 (v)) rfl ?_; clear O; intro g2 w1 O) | ((with_reducible refine at_box 3 ?_); refine wpList_box_own O (M.mat 4 (p)) rfl ?_; clear O; intro g3 w2 O) | ((with_reducible refine at_load 9 ?_); refine wpList_whole rfl O 1 rfl rfl Try.underlying25 rfl (s27 _) ?_) | ((with_reducible refine at_load 10 ?_); refine wpList_whole rfl O 0 rfl rfl Try.underlying27 rfl (sP _) ?_) | (go_at_call 8; refine (CM _).mono ?_; rintro e w3 ⟨rfl, hb⟩; replace O := O.call hb; clear hb) | ((with_reducible refine at_alloc 5 ?_); refine wpList_alloc_own O (M.mat 7 M.zero) zeroW ?_; clear O; intro g5 w4 O) | ((with_reducible refine at_store 5 ?_); refine wpList_put_own O 0 (M.mat 7 (m)) rfl rfl rfl (sW _) (M.mat_len2 _ _ _) (M.mat_one _ _) ?_; clear O; intro w5 O) | ((with_reducible refine at_load 23 ?_); refine wpList_cell_h (v := .int .i64 (v0)) rfl O.held 2 rfl C0.out rfl agg3 rfl ?_) | ((with_reducible refine at_load 25 ?_); refine wpList_cell_h (v := .int .i64 (v3)) rfl O.held 2 rfl C3.out rfl agg3 rfl ?_) | ((with_reducible refine at_load 30 ?_); refine wpList_cell_h (v := .int .i64 (v0)) rfl O.held 2 rfl C0.out rfl agg3 rfl ?_) | ((with_reducible refine at_load 32 ?_); refine wpList_cell_h (v := .int .i64 (v3)) rfl O.held 2 rfl C3.out rfl agg3 rfl ?_) | ((with_reducible refine at_load 37 ?_); refine wpList_cell_h (v := .int .i64 (v1)) rfl O.held 2 rfl C1.out rfl agg3 rfl ?_) | ((with_reducible refine at_load 39 ?_); refine wpList_cell_h (v := .int .i64 (v3)) rfl O.held 2 rfl C3.out rfl agg3 rfl ?_) | ((with_reducible refine at_load 45 ?_); refine wpList_cell_h (v := .int .i64 (v1)) rfl O.held 2 rfl C1.out rfl agg3 rfl ?_) | ((with_reducible refine at_load 47 ?_); refine wpList_cell_h (v := .int .i64 (v3)) rfl O.held 2 rfl C3.out rfl agg3 rfl ?_) | (go_at_call 10; refine (awake_any _).mono ?_; rintro e w6 ⟨rfl, hb⟩; replace O := O.call hb; clear hb))
      go_ret
      exact ⟨rfl, O.below⟩
    by_cases k1 : v3 < v0
    · have F0 : decide (v0 < -v3) = false := decide_eq_false (by omega)
      have F1 : decide (v3 < v0) = true := decide_eq_true (by omega)
      clear AX AY ZN ZF ZR W0 W1 W2 hv2 k0 k1
      go_enter Try.func4, Try.ntmps4
      go_wp2_with (first | ((with_reducible refine at_box 2 ?_); refine wpList_box_own O (M.mat 8 (v)) rfl ?_; clear O; intro g2 w1 O) | ((with_reducible refine at_box 3 ?_); refine wpList_box_own O (M.mat 4 (p)) rfl ?_; clear O; intro g3 w2 O) | ((with_reducible refine at_load 9 ?_); refine wpList_whole rfl O 1 rfl rfl Try.underlying25 rfl (s27 _) ?_) | ((with_reducible refine at_load 10 ?_); refine wpList_whole rfl O 0 rfl rfl Try.underlying27 rfl (sP _) ?_) | (go_at_call 8; refine (CM _).mono ?_; rintro e w3 ⟨rfl, hb⟩; replace O := O.call hb; clear hb) | ((with_reducible refine at_alloc 5 ?_); refine wpList_alloc_own O (M.mat 7 M.zero) zeroW ?_; clear O; intro g5 w4 O) | ((with_reducible refine at_store 5 ?_); refine wpList_put_own O 0 (M.mat 7 (m)) rfl rfl rfl (sW _) (M.mat_len2 _ _ _) (M.mat_one _ _) ?_; clear O; intro w5 O) | ((with_reducible refine at_load 23 ?_); refine wpList_cell_h (v := .int .i64 (v0)) rfl O.held 2 rfl C0.out rfl agg3 rfl ?_) | ((with_reducible refine at_load 25 ?_); refine wpList_cell_h (v := .int .i64 (v3)) rfl O.held 2 rfl C3.out rfl agg3 rfl ?_) | ((with_reducible refine at_load 30 ?_); refine wpList_cell_h (v := .int .i64 (v0)) rfl O.held 2 rfl C0.out rfl agg3 rfl ?_) | ((with_reducible refine at_load 32 ?_); refine wpList_cell_h (v := .int .i64 (v3)) rfl O.held 2 rfl C3.out rfl agg3 rfl ?_) | ((with_reducible refine at_load 37 ?_); refine wpList_cell_h (v := .int .i64 (v1)) rfl O.held 2 rfl C1.out rfl agg3 rfl ?_) | ((with_reducible refine at_load 39 ?_); refine wpList_cell_h (v := .int .i64 (v3)) rfl O.held 2 rfl C3.out rfl agg3 rfl ?_) | ((with_reducible refine at_load 45 ?_); refine wpList_cell_h (v := .int .i64 (v1)) rfl O.held 2 rfl C1.out rfl agg3 rfl ?_) | ((with_reducible refine at_load 47 ?_); refine wpList_cell_h (v := .int .i64 (v3)) rfl O.held 2 rfl C3.out rfl agg3 rfl ?_) | (go_at_call 10; refine (awake_any _).mono ?_; rintro e w6 ⟨rfl, hb⟩; replace O := O.call hb; clear hb))
      go_ret
      exact ⟨rfl, O.below⟩
    by_cases k2 : v1 < -v3
    · have F0 : decide (v0 < -v3) = false := decide_eq_false (by omega)
      have F1 : decide (v3 < v0) = false := decide_eq_false (by omega)
      have F2 : decide (v1 < -v3) = true := decide_eq_true (by omega)
      clear AX AY ZN ZF ZR W0 W1 W2 hv2 k0 k1 k2
      go_enter Try.func4, Try.ntmps4
      go_wp2_with (first | ((with_reducible refine at_box 2 ?_); refine wpList_box_own O (M.mat 8 (v)) rfl ?_; clear O; intro g2 w1 O) | ((with_reducible refine at_box 3 ?_); refine wpList_box_own O (M.mat 4 (p)) rfl ?_; clear O; intro g3 w2 O) | ((with_reducible refine at_load 9 ?_); refine wpList_whole rfl O 1 rfl rfl Try.underlying25 rfl (s27 _) ?_) | ((with_reducible refine at_load 10 ?_); refine wpList_whole rfl O 0 rfl rfl Try.underlying27 rfl (sP _) ?_) | (go_at_call 8; refine (CM _).mono ?_; rintro e w3 ⟨rfl, hb⟩; replace O := O.call hb; clear hb) | ((with_reducible refine at_alloc 5 ?_); refine wpList_alloc_own O (M.mat 7 M.zero) zeroW ?_; clear O; intro g5 w4 O) | ((with_reducible refine at_store 5 ?_); refine wpList_put_own O 0 (M.mat 7 (m)) rfl rfl rfl (sW _) (M.mat_len2 _ _ _) (M.mat_one _ _) ?_; clear O; intro w5 O) | ((with_reducible refine at_load 23 ?_); refine wpList_cell_h (v := .int .i64 (v0)) rfl O.held 2 rfl C0.out rfl agg3 rfl ?_) | ((with_reducible refine at_load 25 ?_); refine wpList_cell_h (v := .int .i64 (v3)) rfl O.held 2 rfl C3.out rfl agg3 rfl ?_) | ((with_reducible refine at_load 30 ?_); refine wpList_cell_h (v := .int .i64 (v0)) rfl O.held 2 rfl C0.out rfl agg3 rfl ?_) | ((with_reducible refine at_load 32 ?_); refine wpList_cell_h (v := .int .i64 (v3)) rfl O.held 2 rfl C3.out rfl agg3 rfl ?_) | ((with_reducible refine at_load 37 ?_); refine wpList_cell_h (v := .int .i64 (v1)) rfl O.held 2 rfl C1.out rfl agg3 rfl ?_) | ((with_reducible refine at_load 39 ?_); refine wpList_cell_h (v := .int .i64 (v3)) rfl O.held 2 rfl C3.out rfl agg3 rfl ?_) | ((with_reducible refine at_load 45 ?_); refine wpList_cell_h (v := .int .i64 (v1)) rfl O.held 2 rfl C1.out rfl agg3 rfl ?_) | ((with_reducible refine at_load 47 ?_); refine wpList_cell_h (v := .int .i64 (v3)) rfl O.held 2 rfl C3.out rfl agg3 rfl ?_) | (go_at_call 10; refine (awake_any _).mono ?_; rintro e w6 ⟨rfl, hb⟩; replace O := O.call hb; clear hb))
      go_ret
      exact ⟨rfl, O.below⟩
    by_cases k3 : v3 < v1
    · have F0 : decide (v0 < -v3) = false := decide_eq_false (by omega)
      have F1 : decide (v3 < v0) = false := decide_eq_false (by omega)
      have F2 : decide (v1 < -v3) = false := decide_eq_false (by omega)
      have F3 : decide (v3 < v1) = true := decide_eq_true (by omega)
      clear AX AY ZN ZF ZR W0 W1 W2 hv2 k0 k1 k2 k3
      go_enter Try.func4, Try.ntmps4
      go_wp2_with (first | ((with_reducible refine at_box 2 ?_); refine wpList_box_own O (M.mat 8 (v)) rfl ?_; clear O; intro g2 w1 O) | ((with_reducible refine at_box 3 ?_); refine wpList_box_own O (M.mat 4 (p)) rfl ?_; clear O; intro g3 w2 O) | ((with_reducible refine at_load 9 ?_); refine wpList_whole rfl O 1 rfl rfl Try.underlying25 rfl (s27 _) ?_) | ((with_reducible refine at_load 10 ?_); refine wpList_whole rfl O 0 rfl rfl Try.underlying27 rfl (sP _) ?_) | (go_at_call 8; refine (CM _).mono ?_; rintro e w3 ⟨rfl, hb⟩; replace O := O.call hb; clear hb) | ((with_reducible refine at_alloc 5 ?_); refine wpList_alloc_own O (M.mat 7 M.zero) zeroW ?_; clear O; intro g5 w4 O) | ((with_reducible refine at_store 5 ?_); refine wpList_put_own O 0 (M.mat 7 (m)) rfl rfl rfl (sW _) (M.mat_len2 _ _ _) (M.mat_one _ _) ?_; clear O; intro w5 O) | ((with_reducible refine at_load 23 ?_); refine wpList_cell_h (v := .int .i64 (v0)) rfl O.held 2 rfl C0.out rfl agg3 rfl ?_) | ((with_reducible refine at_load 25 ?_); refine wpList_cell_h (v := .int .i64 (v3)) rfl O.held 2 rfl C3.out rfl agg3 rfl ?_) | ((with_reducible refine at_load 30 ?_); refine wpList_cell_h (v := .int .i64 (v0)) rfl O.held 2 rfl C0.out rfl agg3 rfl ?_) | ((with_reducible refine at_load 32 ?_); refine wpList_cell_h (v := .int .i64 (v3)) rfl O.held 2 rfl C3.out rfl agg3 rfl ?_) | ((with_reducible refine at_load 37 ?_); refine wpList_cell_h (v := .int .i64 (v1)) rfl O.held 2 rfl C1.out rfl agg3 rfl ?_) | ((with_reducible refine at_load 39 ?_); refine wpList_cell_h (v := .int .i64 (v3)) rfl O.held 2 rfl C3.out rfl agg3 rfl ?_) | ((with_reducible refine at_load 45 ?_); refine wpList_cell_h (v := .int .i64 (v1)) rfl O.held 2 rfl C1.out rfl agg3 rfl ?_) | ((with_reducible refine at_load 47 ?_); refine wpList_cell_h (v := .int .i64 (v3)) rfl O.held 2 rfl C3.out rfl agg3 rfl ?_) | (go_at_call 10; refine (awake_any _).mono ?_; rintro e w6 ⟨rfl, hb⟩; replace O := O.call hb; clear hb))
      go_ret
      exact ⟨rfl, O.below⟩
    have F0 : decide (v0 < -v3) = false := decide_eq_false (by omega)
    have F1 : decide (v3 < v0) = false := decide_eq_false (by omega)
    have F2 : decide (v1 < -v3) = false := decide_eq_false (by omega)
    have F3 : decide (v3 < v1) = false := decide_eq_false (by omega)
    obtain ⟨x1, x2⟩ := AX (by omega) (by omega)
    obtain ⟨y1, y2⟩ := AY (by omega) (by omega)
    have G0 : decide (256 * q0 ≤ x) = true := decide_eq_true x1
    have G1 : decide (x ≤ 256 * (q0 + q2)) = true := decide_eq_true x2
    have G2 : decide (256 * q1 ≤ y) = true := decide_eq_true y1
    have G3 : decide (y ≤ 256 * (q1 + q3)) = true := decide_eq_true y2
    clear AX AY x1 x2 y1 y2 k0 k1 k2 k3
    by_cases k : -v3 < v2
    · have H0 : decide (-v3 < v2) = true := decide_eq_true k
      by_cases l : v2 < v3
      · have H1 : decide (v2 < v3) = true := decide_eq_true l
        have H2 : decide (0 ≤ z) = true := decide_eq_true ZR.1
        have H3 : decide (z ≤ 16777215) = true := decide_eq_true ZR.2
        clear ZN ZF ZR k l
        go_enter Try.func4, Try.ntmps4
        go_wp2_with (first | ((with_reducible refine at_box 2 ?_); refine wpList_box_own O (M.mat 8 (v)) rfl ?_; clear O; intro g2 w1 O) | ((with_reducible refine at_box 3 ?_); refine wpList_box_own O (M.mat 4 (p)) rfl ?_; clear O; intro g3 w2 O) | ((with_reducible refine at_load 9 ?_); refine wpList_whole rfl O 1 rfl rfl Try.underlying25 rfl (s27 _) ?_) | ((with_reducible refine at_load 10 ?_); refine wpList_whole rfl O 0 rfl rfl Try.underlying27 rfl (sP _) ?_) | (go_at_call 8; refine (CM _).mono ?_; rintro e w3 ⟨rfl, hb⟩; replace O := O.call hb; clear hb) | ((with_reducible refine at_alloc 5 ?_); refine wpList_alloc_own O (M.mat 7 M.zero) zeroW ?_; clear O; intro g5 w4 O) | ((with_reducible refine at_store 5 ?_); refine wpList_put_own O 0 (M.mat 7 (m)) rfl rfl rfl (sW _) (M.mat_len2 _ _ _) (M.mat_one _ _) ?_; clear O; intro w5 O) | ((with_reducible refine at_load 23 ?_); refine wpList_cell_h (v := .int .i64 (v0)) rfl O.held 2 rfl C0.out rfl agg3 rfl ?_) | ((with_reducible refine at_load 25 ?_); refine wpList_cell_h (v := .int .i64 (v3)) rfl O.held 2 rfl C3.out rfl agg3 rfl ?_) | ((with_reducible refine at_load 30 ?_); refine wpList_cell_h (v := .int .i64 (v0)) rfl O.held 2 rfl C0.out rfl agg3 rfl ?_) | ((with_reducible refine at_load 32 ?_); refine wpList_cell_h (v := .int .i64 (v3)) rfl O.held 2 rfl C3.out rfl agg3 rfl ?_) | ((with_reducible refine at_load 37 ?_); refine wpList_cell_h (v := .int .i64 (v1)) rfl O.held 2 rfl C1.out rfl agg3 rfl ?_) | ((with_reducible refine at_load 39 ?_); refine wpList_cell_h (v := .int .i64 (v3)) rfl O.held 2 rfl C3.out rfl agg3 rfl ?_) | ((with_reducible refine at_load 45 ?_); refine wpList_cell_h (v := .int .i64 (v1)) rfl O.held 2 rfl C1.out rfl agg3 rfl ?_) | ((with_reducible refine at_load 47 ?_); refine wpList_cell_h (v := .int .i64 (v3)) rfl O.held 2 rfl C3.out rfl agg3 rfl ?_) | ((with_reducible refine at_load 52 ?_); refine wpList_cell_h (v := .int .i64 (x)) rfl O.held 0 rfl W0.out rfl agg3 rfl ?_) | ((with_reducible refine at_load 54 ?_); refine wpList_cell_h (v := .int .i64 (q0)) rfl O.held 1 rfl D0.out rfl agg3 rfl ?_) | ((with_reducible refine at_load 59 ?_); refine wpList_cell_h (v := .int .i64 (x)) rfl O.held 0 rfl W0.out rfl agg3 rfl ?_) | ((with_reducible refine at_load 61 ?_); refine wpList_cell_h (v := .int .i64 (q0)) rfl O.held 1 rfl D0.out rfl agg3 rfl ?_) | ((with_reducible refine at_load 63 ?_); refine wpList_cell_h (v := .int .i64 (q2)) rfl O.held 1 rfl D2.out rfl agg3 rfl ?_) | ((with_reducible refine at_load 70 ?_); refine wpList_cell_h (v := .int .i64 (y)) rfl O.held 0 rfl W1.out rfl agg3 rfl ?_) | ((with_reducible refine at_load 72 ?_); refine wpList_cell_h (v := .int .i64 (q1)) rfl O.held 1 rfl D1.out rfl agg3 rfl ?_) | ((with_reducible refine at_load 78 ?_); refine wpList_cell_h (v := .int .i64 (y)) rfl O.held 0 rfl W1.out rfl agg3 rfl ?_) | ((with_reducible refine at_load 80 ?_); refine wpList_cell_h (v := .int .i64 (q1)) rfl O.held 1 rfl D1.out rfl agg3 rfl ?_) | ((with_reducible refine at_load 82 ?_); refine wpList_cell_h (v := .int .i64 (q3)) rfl O.held 1 rfl D3.out rfl agg3 rfl ?_) | (go_at_call 10; refine (awake_any _).mono ?_; rintro e w6 ⟨rfl, hb⟩; replace O := O.call hb; clear hb) | ((with_reducible refine at_load 93 ?_); refine wpList_cell_h (v := .int .i64 (v2)) rfl O.held 2 rfl C2.out rfl agg3 rfl ?_) | ((with_reducible refine at_load 95 ?_); refine wpList_cell_h (v := .int .i64 (v3)) rfl O.held 2 rfl C3.out rfl agg3 rfl ?_) | ((with_reducible refine at_load 100 ?_); refine wpList_cell_h (v := .int .i64 (_)) rfl O.held 0 rfl W2.out rfl agg3 rfl ?_) | ((with_reducible refine at_load 106 ?_); refine wpList_cell_h (v := .int .i64 (v2)) rfl O.held 2 rfl C2.out rfl agg3 rfl ?_) | ((with_reducible refine at_load 108 ?_); refine wpList_cell_h (v := .int .i64 (v3)) rfl O.held 2 rfl C3.out rfl agg3 rfl ?_) | ((with_reducible refine at_load 112 ?_); refine wpList_cell_h (v := .int .i64 (_)) rfl O.held 0 rfl W2.out rfl agg3 rfl ?_) | ((with_reducible refine at_load 118 ?_); refine wpList_cell_h (v := .int .i64 (_)) rfl O.held 0 rfl W2.out rfl agg3 rfl ?_) | ((with_reducible refine at_load 123 ?_); refine wpList_cell_h (v := .int .i64 (_)) rfl O.held 0 rfl W2.out rfl agg3 rfl ?_))
        go_ret
        exact ⟨rfl, O.below⟩
      · have H1 : decide (v2 < v3) = false := decide_eq_false l
        obtain rfl := ZF (by omega)
        clear ZN ZF ZR k l
        go_enter Try.func4, Try.ntmps4
        go_wp2_with (first | ((with_reducible refine at_box 2 ?_); refine wpList_box_own O (M.mat 8 (v)) rfl ?_; clear O; intro g2 w1 O) | ((with_reducible refine at_box 3 ?_); refine wpList_box_own O (M.mat 4 (p)) rfl ?_; clear O; intro g3 w2 O) | ((with_reducible refine at_load 9 ?_); refine wpList_whole rfl O 1 rfl rfl Try.underlying25 rfl (s27 _) ?_) | ((with_reducible refine at_load 10 ?_); refine wpList_whole rfl O 0 rfl rfl Try.underlying27 rfl (sP _) ?_) | (go_at_call 8; refine (CM _).mono ?_; rintro e w3 ⟨rfl, hb⟩; replace O := O.call hb; clear hb) | ((with_reducible refine at_alloc 5 ?_); refine wpList_alloc_own O (M.mat 7 M.zero) zeroW ?_; clear O; intro g5 w4 O) | ((with_reducible refine at_store 5 ?_); refine wpList_put_own O 0 (M.mat 7 (m)) rfl rfl rfl (sW _) (M.mat_len2 _ _ _) (M.mat_one _ _) ?_; clear O; intro w5 O) | ((with_reducible refine at_load 23 ?_); refine wpList_cell_h (v := .int .i64 (v0)) rfl O.held 2 rfl C0.out rfl agg3 rfl ?_) | ((with_reducible refine at_load 25 ?_); refine wpList_cell_h (v := .int .i64 (v3)) rfl O.held 2 rfl C3.out rfl agg3 rfl ?_) | ((with_reducible refine at_load 30 ?_); refine wpList_cell_h (v := .int .i64 (v0)) rfl O.held 2 rfl C0.out rfl agg3 rfl ?_) | ((with_reducible refine at_load 32 ?_); refine wpList_cell_h (v := .int .i64 (v3)) rfl O.held 2 rfl C3.out rfl agg3 rfl ?_) | ((with_reducible refine at_load 37 ?_); refine wpList_cell_h (v := .int .i64 (v1)) rfl O.held 2 rfl C1.out rfl agg3 rfl ?_) | ((with_reducible refine at_load 39 ?_); refine wpList_cell_h (v := .int .i64 (v3)) rfl O.held 2 rfl C3.out rfl agg3 rfl ?_) | ((with_reducible refine at_load 45 ?_); refine wpList_cell_h (v := .int .i64 (v1)) rfl O.held 2 rfl C1.out rfl agg3 rfl ?_) | ((with_reducible refine at_load 47 ?_); refine wpList_cell_h (v := .int .i64 (v3)) rfl O.held 2 rfl C3.out rfl agg3 rfl ?_) | ((with_reducible refine at_load 52 ?_); refine wpList_cell_h (v := .int .i64 (x)) rfl O.held 0 rfl W0.out rfl agg3 rfl ?_) | ((with_reducible refine at_load 54 ?_); refine wpList_cell_h (v := .int .i64 (q0)) rfl O.held 1 rfl D0.out rfl agg3 rfl ?_) | ((with_reducible refine at_load 59 ?_); refine wpList_cell_h (v := .int .i64 (x)) rfl O.held 0 rfl W0.out rfl agg3 rfl ?_) | ((with_reducible refine at_load 61 ?_); refine wpList_cell_h (v := .int .i64 (q0)) rfl O.held 1 rfl D0.out rfl agg3 rfl ?_) | ((with_reducible refine at_load 63 ?_); refine wpList_cell_h (v := .int .i64 (q2)) rfl O.held 1 rfl D2.out rfl agg3 rfl ?_) | ((with_reducible refine at_load 70 ?_); refine wpList_cell_h (v := .int .i64 (y)) rfl O.held 0 rfl W1.out rfl agg3 rfl ?_) | ((with_reducible refine at_load 72 ?_); refine wpList_cell_h (v := .int .i64 (q1)) rfl O.held 1 rfl D1.out rfl agg3 rfl ?_) | ((with_reducible refine at_load 78 ?_); refine wpList_cell_h (v := .int .i64 (y)) rfl O.held 0 rfl W1.out rfl agg3 rfl ?_) | ((with_reducible refine at_load 80 ?_); refine wpList_cell_h (v := .int .i64 (q1)) rfl O.held 1 rfl D1.out rfl agg3 rfl ?_) | ((with_reducible refine at_load 82 ?_); refine wpList_cell_h (v := .int .i64 (q3)) rfl O.held 1 rfl D3.out rfl agg3 rfl ?_) | (go_at_call 10; refine (awake_any _).mono ?_; rintro e w6 ⟨rfl, hb⟩; replace O := O.call hb; clear hb) | ((with_reducible refine at_load 93 ?_); refine wpList_cell_h (v := .int .i64 (v2)) rfl O.held 2 rfl C2.out rfl agg3 rfl ?_) | ((with_reducible refine at_load 95 ?_); refine wpList_cell_h (v := .int .i64 (v3)) rfl O.held 2 rfl C3.out rfl agg3 rfl ?_) | ((with_reducible refine at_load 100 ?_); refine wpList_cell_h (v := .int .i64 (_)) rfl O.held 0 rfl W2.out rfl agg3 rfl ?_) | ((with_reducible refine at_load 106 ?_); refine wpList_cell_h (v := .int .i64 (v2)) rfl O.held 2 rfl C2.out rfl agg3 rfl ?_) | ((with_reducible refine at_load 108 ?_); refine wpList_cell_h (v := .int .i64 (v3)) rfl O.held 2 rfl C3.out rfl agg3 rfl ?_) | ((with_reducible refine at_load 112 ?_); refine wpList_cell_h (v := .int .i64 (_)) rfl O.held 0 rfl W2.out rfl agg3 rfl ?_) | ((with_reducible refine at_load 118 ?_); refine wpList_cell_h (v := .int .i64 (_)) rfl O.held 0 rfl W2.out rfl agg3 rfl ?_) | ((with_reducible refine at_load 123 ?_); refine wpList_cell_h (v := .int .i64 (_)) rfl O.held 0 rfl W2.out rfl agg3 rfl ?_))
        go_ret
        exact ⟨rfl, O.below⟩
    · have H0 : decide (-v3 < v2) = false := decide_eq_false k
      have H1 : decide (v2 < v3) = true := decide_eq_true (by omega)
      obtain rfl := ZN (by omega)
      clear ZN ZF ZR k
      go_enter Try.func4, Try.ntmps4
      go_wp2_with (first | ((with_reducible refine at_box 2 ?_); refine wpList_box_own O (M.mat 8 (v)) rfl ?_; clear O; intro g2 w1 O) | ((with_reducible refine at_box 3 ?_); refine wpList_box_own O (M.mat 4 (p)) rfl ?_; clear O; intro g3 w2 O) | ((with_reducible refine at_load 9 ?_); refine wpList_whole rfl O 1 rfl rfl Try.underlying25 rfl (s27 _) ?_) | ((with_reducible refine at_load 10 ?_); refine wpList_whole rfl O 0 rfl rfl Try.underlying27 rfl (sP _) ?_) | (go_at_call 8; refine (CM _).mono ?_; rintro e w3 ⟨rfl, hb⟩; replace O := O.call hb; clear hb) | ((with_reducible refine at_alloc 5 ?_); refine wpList_alloc_own O (M.mat 7 M.zero) zeroW ?_; clear O; intro g5 w4 O) | ((with_reducible refine at_store 5 ?_); refine wpList_put_own O 0 (M.mat 7 (m)) rfl rfl rfl (sW _) (M.mat_len2 _ _ _) (M.mat_one _ _) ?_; clear O; intro w5 O) | ((with_reducible refine at_load 23 ?_); refine wpList_cell_h (v := .int .i64 (v0)) rfl O.held 2 rfl C0.out rfl agg3 rfl ?_) | ((with_reducible refine at_load 25 ?_); refine wpList_cell_h (v := .int .i64 (v3)) rfl O.held 2 rfl C3.out rfl agg3 rfl ?_) | ((with_reducible refine at_load 30 ?_); refine wpList_cell_h (v := .int .i64 (v0)) rfl O.held 2 rfl C0.out rfl agg3 rfl ?_) | ((with_reducible refine at_load 32 ?_); refine wpList_cell_h (v := .int .i64 (v3)) rfl O.held 2 rfl C3.out rfl agg3 rfl ?_) | ((with_reducible refine at_load 37 ?_); refine wpList_cell_h (v := .int .i64 (v1)) rfl O.held 2 rfl C1.out rfl agg3 rfl ?_) | ((with_reducible refine at_load 39 ?_); refine wpList_cell_h (v := .int .i64 (v3)) rfl O.held 2 rfl C3.out rfl agg3 rfl ?_) | ((with_reducible refine at_load 45 ?_); refine wpList_cell_h (v := .int .i64 (v1)) rfl O.held 2 rfl C1.out rfl agg3 rfl ?_) | ((with_reducible refine at_load 47 ?_); refine wpList_cell_h (v := .int .i64 (v3)) rfl O.held 2 rfl C3.out rfl agg3 rfl ?_) | ((with_reducible refine at_load 52 ?_); refine wpList_cell_h (v := .int .i64 (x)) rfl O.held 0 rfl W0.out rfl agg3 rfl ?_) | ((with_reducible refine at_load 54 ?_); refine wpList_cell_h (v := .int .i64 (q0)) rfl O.held 1 rfl D0.out rfl agg3 rfl ?_) | ((with_reducible refine at_load 59 ?_); refine wpList_cell_h (v := .int .i64 (x)) rfl O.held 0 rfl W0.out rfl agg3 rfl ?_) | ((with_reducible refine at_load 61 ?_); refine wpList_cell_h (v := .int .i64 (q0)) rfl O.held 1 rfl D0.out rfl agg3 rfl ?_) | ((with_reducible refine at_load 63 ?_); refine wpList_cell_h (v := .int .i64 (q2)) rfl O.held 1 rfl D2.out rfl agg3 rfl ?_) | ((with_reducible refine at_load 70 ?_); refine wpList_cell_h (v := .int .i64 (y)) rfl O.held 0 rfl W1.out rfl agg3 rfl ?_) | ((with_reducible refine at_load 72 ?_); refine wpList_cell_h (v := .int .i64 (q1)) rfl O.held 1 rfl D1.out rfl agg3 rfl ?_) | ((with_reducible refine at_load 78 ?_); refine wpList_cell_h (v := .int .i64 (y)) rfl O.held 0 rfl W1.out rfl agg3 rfl ?_) | ((with_reducible refine at_load 80 ?_); refine wpList_cell_h (v := .int .i64 (q1)) rfl O.held 1 rfl D1.out rfl agg3 rfl ?_) | ((with_reducible refine at_load 82 ?_); refine wpList_cell_h (v := .int .i64 (q3)) rfl O.held 1 rfl D3.out rfl agg3 rfl ?_) | (go_at_call 10; refine (awake_any _).mono ?_; rintro e w6 ⟨rfl, hb⟩; replace O := O.call hb; clear hb) | ((with_reducible refine at_load 93 ?_); refine wpList_cell_h (v := .int .i64 (v2)) rfl O.held 2 rfl C2.out rfl agg3 rfl ?_) | ((with_reducible refine at_load 95 ?_); refine wpList_cell_h (v := .int .i64 (v3)) rfl O.held 2 rfl C3.out rfl agg3 rfl ?_) | ((with_reducible refine at_load 100 ?_); refine wpList_cell_h (v := .int .i64 (_)) rfl O.held 0 rfl W2.out rfl agg3 rfl ?_) | ((with_reducible refine at_load 106 ?_); refine wpList_cell_h (v := .int .i64 (v2)) rfl O.held 2 rfl C2.out rfl agg3 rfl ?_) | ((with_reducible refine at_load 108 ?_); refine wpList_cell_h (v := .int .i64 (v3)) rfl O.held 2 rfl C3.out rfl agg3 rfl ?_) | ((with_reducible refine at_load 112 ?_); refine wpList_cell_h (v := .int .i64 (_)) rfl O.held 0 rfl W2.out rfl agg3 rfl ?_) | ((with_reducible refine at_load 118 ?_); refine wpList_cell_h (v := .int .i64 (_)) rfl O.held 0 rfl W2.out rfl agg3 rfl ?_) | ((with_reducible refine at_load 123 ?_); refine wpList_cell_h (v := .int .i64 (_)) rfl O.held 0 rfl W2.out rfl agg3 rfl ?_))
      go_ret
      exact ⟨rfl, O.below⟩
  · obtain rfl := V.map_not hr he
    have E : (e == 0) = false := beq_eq_false_iff_ne.2 he
    clear he hr
    go_enter Try.func4, Try.ntmps4
    go_wp2_with (first | ((with_reducible refine at_box 2 ?_); refine wpList_box_own O (M.mat 8 (v)) rfl ?_; clear O; intro g2 w1 O) | ((with_reducible refine at_box 3 ?_); refine wpList_box_own O (M.mat 4 (p)) rfl ?_; clear O; intro g3 w2 O) | ((with_reducible refine at_load 9 ?_); refine wpList_whole rfl O 1 rfl rfl Try.underlying25 rfl (s27 _) ?_) | ((with_reducible refine at_load 10 ?_); refine wpList_whole rfl O 0 rfl rfl Try.underlying27 rfl (sP _) ?_) | (go_at_call 8; refine (CM _).mono ?_; rintro e w3 ⟨rfl, hb⟩; replace O := O.call hb; clear hb) | ((with_reducible refine at_alloc 5 ?_); refine wpList_alloc_own O (M.mat 7 M.zero) zeroW ?_; clear O; intro g5 w4 O) | ((with_reducible refine at_store 5 ?_); refine wpList_put_own O 0 (M.mat 7 (M.zero)) rfl rfl rfl (sW _) (M.mat_len2 _ _ _) (M.mat_one _ _) ?_; clear O; intro w5 O) | (go_at_call 10; refine (awake_any _).mono ?_; rintro e w6 ⟨rfl, hb⟩; replace O := O.call hb; clear hb) | ((with_reducible refine at_load 18 ?_); refine wpList_whole rfl O 0 rfl rfl Try.underlying29 rfl (sW _) ?_) | ((with_reducible refine at_build 19 ?_); refine wpList_build_g rfl ([]) ((M.mat 7 M.zero).toArray) ?_ (builtWz) ?_; (focus (simp only [List.map_toArray, List.map_cons, List.map_nil]; rfl))) | ((with_reducible refine at_binOp 20 ?_); refine wpList_eqW rfl (M.zero) (M.zero) rfl rfl ?_; rw [M.eqB_refl]))
    go_ret
    exact ⟨rfl, O.below⟩

theorem readable : ∀ t ∈ Try.f4.params.toList, Try.prog.readableRec t = true ∧ t < Try.prog.types.size := by
  intro t ht
  rw [Try.params4] at ht
  simp only [List.mem_cons, List.not_mem_nil, or_false] at ht
  repeat (first | (rcases ht with rfl | ht; exact ⟨by kernel_rfl, of_decide_eq_true (by kernel_rfl)⟩) | (subst ht; exact ⟨by kernel_rfl, of_decide_eq_true (by kernel_rfl)⟩))
set_option maxRecDepth 100000 in
theorem lifted (os : Os) (started : os.Started) (H : Type) (enc : TypeId × Value → H) :
    ReturnsInHanded {} Try.checked os 4 .any (Rows.viewInSpec.pre6 enc Try.prog Try.f4 Rows.viewInRow.domain false) (Rows.viewInSpec.post enc Try.prog Try.f4 false true false false) := by
  refine returnsInHanded_of_change (C := Try.checked) own started (by kernel_rfl) Try.func4
    (ChangeSpec.witness6 (enc := enc) (C := Try.checked) false ⟨#[], #[.agg #[.int .i64 0, .int .i64 0, .int .i64 0, .int .i64 0, .int .i64 0, .int .i64 0, .int .i64 0, .int .i64 0], .agg #[.int .i64 0, .int .i64 0, .int .i64 0, .int .i64 0]], []⟩ 8 (by kernel_rfl) (by kernel_rfl) (by kernel_rfl) (by kernel_rfl)) ?_
  intro W base args ds gs before hval0 hW hcnd _
  have hval : ∀ (j : Nat) t v, Try.f4.params[j]? = some t → args[j]? = some v → Value.okWide Try.prog W .any base t v := hval0
  have hW' := hW
  obtain ⟨p, q, hA0, hV, rfl, hfz, hnd⟩ := hW
  have hA : DataW.TrodAll enc Try.prog W 0 (fun _ => true) true Try.f4.params.toList args.toList ds p := hA0
  rw [Try.params4] at hA hval
  have hlt : ∀ x ∈ p ++ q, x.block < W.heap.size := fun x hx => hW'.lt x hx
  obtain ⟨v0, vs0, d0, ds0, p0, q0, hargs, rfl, rfl, h0, rr0⟩ := trodAll_cons hA
  obtain ⟨v1, vs1, d1, ds1, p1, q1, rfl, rfl, rfl, h1, rr1⟩ := trodAll_cons rr0
  obtain ⟨rfl, rfl, rfl⟩ := trodAll_nil rr1
  obtain rfl : args = #[v0, v1] := by cases args; simp_all
  obtain ⟨rfl, rfl⟩ := trodVars_none hV
  obtain ⟨a0, rfl⟩ := openVert (hval 0 25 v0 rfl rfl) h0
  obtain ⟨a1, rfl⟩ := openPort (hval 1 27 v1 rfl rfl) h1
  clear hA0 hval0
  refine (walk W a0 a1).mono fun e W' ⟨he, hg⟩ => ?_
  subst he
  exact ⟨_, rfl, post_true (tb := 4) laid readable (by kernel_rfl) Try.underlying4 rfl (fun l hl => by
    match l, hl with
    | [_, _], _ => exact ⟨rfl, rfl, rfl⟩) hW' hg⟩

theorem over : Rows.viewInRow.holds Try.pinned (OpenSpec.ofChange Rows.viewInSpec) :=
  OpenClaim.holds_of_wide 4 Try.f4 rfl rfl rfl rfl rfl rfl rfl ⟨rfl, rfl, rfl, rfl, rfl⟩ rfl rfl rfl rfl rfl (by kernel_rfl) Try.func4 (by kernel_rfl)
    (of_decide_eq_true (by kernel_rfl)) (by unfold Func.isWrapper; first | (rw [if_pos (by decide +kernel)]; kernel_rfl) | (rw [if_neg (by decide +kernel)]; exact ⟨rfl, rfl⟩))
    (fun os started H enc _ => lifted os started H enc)

theorem proved : Rows.ViewInSaid :=
  over
#print axioms proved
end Go.Proofs.Ytbmigbmeadgopaa.viewIn
