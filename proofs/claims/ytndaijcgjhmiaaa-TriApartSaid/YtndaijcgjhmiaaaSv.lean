/- Contract: And of rectangles. -/
import Derived.Test.YtndaijcgjhmiaaaWr
import Derived.Test.YtndaijcgjhmiaaaXv
namespace Go.Proofs.Ytndaijcgjhmiaaa
open Go.ChangeShapes Go.WideShapes Go.ChangeAt Go.RowKit
set_option linter.unusedVariables false
set_option linter.unusedSimpArgs false

set_option maxRecDepth 100000 in
set_option maxHeartbeats 8000000 in
theorem prand18 (a b : Nat → Int) (w : World) : Calls Try.prog 23 #[arr 4 a, arr 4 b] w fun e w' => e = .returned (arr 4 (RC.both a b)) ∧ Below w.heap.size w w' := by
  have O := Own.start w
  have C1 := fun w => right_any a w
  have C2 := fun w => right_any b w
  have C3 := fun w => right_any (RC.meet a b) w
  have tok0 : True := trivial
  cases h1 : RC.right a
  · have HE := Lib.hid (RC.both_no1 (b := b) h1)
    rw [h1] at C1
    clear h1 C2 C3
    go_enter Try.func23, Try.ntmps23
    go_wp2_with (first | ((with_reducible refine at_box 2 ?_); refine wpList_box_own O (M.mat 4 (a)) rfl ?_; clear O; intro g2 w1 O) | ((with_reducible refine at_box 3 ?_); refine wpList_box_own O (M.mat 4 (b)) rfl ?_; clear O; intro g3 w2 O) | ((with_reducible refine at_alloc 4 ?_); refine wpList_alloc_own O (M.mat 4 M.zero) zeroR ?_; clear O; intro g4 w3 O) | ((with_reducible refine at_load 6 ?_); refine wpList_whole rfl O 2 rfl rfl Try.underlying27 rfl (sR _) ?_) | (go_at_call 29; clear tok0; have tok1 : True := trivial; refine (C1 _).mono ?_; rintro e w4 ⟨rfl, hb⟩; replace O := O.call hb; clear hb) | ((with_reducible refine at_load 10 ?_); refine wpList_whole rfl O 1 rfl rfl Try.underlying27 rfl (sR _) ?_) | (go_at_call 29; clear tok1; have tok2 : True := trivial; refine (C2 _).mono ?_; rintro e w5 ⟨rfl, hb⟩; replace O := O.call hb; clear hb) | ((with_reducible refine at_build 14 ?_); refine wpList_build_g rfl ([]) ((M.mat 4 M.zero).toArray) ?_ (builtRz) ?_; (focus (simp only [List.map_toArray, List.map_cons, List.map_nil]; rfl))) | ((with_reducible refine at_store 4 ?_); refine wpList_put_own O 0 (M.mat 4 (M.zero)) rfl rfl rfl (sR _) (M.mat_len2 _ _ _) (M.mat_one _ _) ?_; clear O; intro w6 O))
    exact bodyPost_ret (v := arr 4 (RC.both a b)) (by rw [HE.out]; exact res_h rfl O.held 0 rfl rfl Try.underlying27 rfl (sR _)) rfl ⟨rfl, O.below⟩
  cases h2 : RC.right b
  · have HE := Lib.hid (RC.both_no2 (a := a) h2)
    rw [h1] at C1
    rw [h2] at C2
    clear h1 h2 C3
    go_enter Try.func23, Try.ntmps23
    go_wp2_with (first | ((with_reducible refine at_box 2 ?_); refine wpList_box_own O (M.mat 4 (a)) rfl ?_; clear O; intro g2 w1 O) | ((with_reducible refine at_box 3 ?_); refine wpList_box_own O (M.mat 4 (b)) rfl ?_; clear O; intro g3 w2 O) | ((with_reducible refine at_alloc 4 ?_); refine wpList_alloc_own O (M.mat 4 M.zero) zeroR ?_; clear O; intro g4 w3 O) | ((with_reducible refine at_load 6 ?_); refine wpList_whole rfl O 2 rfl rfl Try.underlying27 rfl (sR _) ?_) | (go_at_call 29; clear tok0; have tok1 : True := trivial; refine (C1 _).mono ?_; rintro e w4 ⟨rfl, hb⟩; replace O := O.call hb; clear hb) | ((with_reducible refine at_load 10 ?_); refine wpList_whole rfl O 1 rfl rfl Try.underlying27 rfl (sR _) ?_) | (go_at_call 29; clear tok1; have tok2 : True := trivial; refine (C2 _).mono ?_; rintro e w5 ⟨rfl, hb⟩; replace O := O.call hb; clear hb) | ((with_reducible refine at_build 14 ?_); refine wpList_build_g rfl ([]) ((M.mat 4 M.zero).toArray) ?_ (builtRz) ?_; (focus (simp only [List.map_toArray, List.map_cons, List.map_nil]; rfl))) | ((with_reducible refine at_store 4 ?_); refine wpList_put_own O 0 (M.mat 4 (M.zero)) rfl rfl rfl (sR _) (M.mat_len2 _ _ _) (M.mat_one _ _) ?_; clear O; intro w6 O))
    exact bodyPost_ret (v := arr 4 (RC.both a b)) (by rw [HE.out]; exact res_h rfl O.held 0 rfl rfl Try.underlying27 rfl (sR _)) rfl ⟨rfl, O.below⟩
  have HN := Lib.hid (fun h => RC.both_no3 (a := a) (b := b) h)
  have HY := Lib.hid (fun h => RC.both_yes (a := a) (b := b) h1 h2 h)
  rw [h1] at C1
  rw [h2] at C2
  clear h1 h2
  obtain ⟨t, ht⟩ : ∃ t, RC.meet a b = t := ⟨_, rfl⟩
  rw [ht] at C3 HN HY
  obtain ⟨x0, ex0⟩ : ∃ z, a 0 = z := ⟨_, rfl⟩
  have Cx0 := cell_is (n := 4) ex0 (by decide)
  obtain ⟨y0, ey0⟩ : ∃ z, a 1 = z := ⟨_, rfl⟩
  have Cy0 := cell_is (n := 4) ey0 (by decide)
  obtain ⟨x1, ex1⟩ : ∃ z, a 2 = z := ⟨_, rfl⟩
  have Cx1 := cell_is (n := 4) ex1 (by decide)
  obtain ⟨y1, ey1⟩ : ∃ z, a 3 = z := ⟨_, rfl⟩
  have Cy1 := cell_is (n := 4) ey1 (by decide)
  obtain ⟨p0, ep0⟩ : ∃ z, b 0 = z := ⟨_, rfl⟩
  have Cp0 := cell_is (n := 4) ep0 (by decide)
  obtain ⟨q0, eq0⟩ : ∃ z, b 1 = z := ⟨_, rfl⟩
  have Cq0 := cell_is (n := 4) eq0 (by decide)
  obtain ⟨p1, ep1⟩ : ∃ z, b 2 = z := ⟨_, rfl⟩
  have Cp1 := cell_is (n := 4) ep1 (by decide)
  obtain ⟨q1, eq1⟩ : ∃ z, b 3 = z := ⟨_, rfl⟩
  have Cq1 := cell_is (n := 4) eq1 (by decide)
  have BT : ∀ m0 m1 m2 m3, max x0 p0 = m0 → max y0 q0 = m1 → min x1 p1 = m2 → min y1 q1 = m3 → Try.prog.built 27 [(0, .int .i64 m0), (1, .int .i64 m1), (2, .int .i64 m2), (3, .int .i64 m3)] = some (M.mat 4 t).toArray := by
    rintro m0 m1 m2 m3 rfl rfl rfl rfl
    rw [← ht, RC.meet, ex0, ey0, ex1, ey1, ep0, eq0, ep1, eq1]
    exact builtR17 _ _ _ _
  clear ht ex0 ey0 ex1 ey1 ep0 eq0 ep1 eq1
  obtain ⟨m0, hm0⟩ : ∃ m, max x0 p0 = m := ⟨_, rfl⟩
  have G0 := (max_if x0 p0).trans hm0
  obtain ⟨m1, hm1⟩ : ∃ m, max y0 q0 = m := ⟨_, rfl⟩
  have G1 := (max_if y0 q0).trans hm1
  obtain ⟨m2, hm2⟩ : ∃ m, min x1 p1 = m := ⟨_, rfl⟩
  have G2 := (min_if x1 p1).trans hm2
  obtain ⟨m3, hm3⟩ : ∃ m, min y1 q1 = m := ⟨_, rfl⟩
  have G3 := (min_if y1 q1).trans hm3
  replace BT := Lib.hid (BT m0 m1 m2 m3 hm0 hm1 hm2 hm3)
  cases h3 : RC.right t
  · have HE := Lib.hid (HN.out h3)
    rw [h3] at C3
    clear h3 HN HY
    go_enter Try.func23, Try.ntmps23
    go_wp2_with (first | ((with_reducible refine at_box 2 ?_); refine wpList_box_own O (M.mat 4 (a)) rfl ?_; clear O; intro g2 w1 O) | ((with_reducible refine at_box 3 ?_); refine wpList_box_own O (M.mat 4 (b)) rfl ?_; clear O; intro g3 w2 O) | ((with_reducible refine at_alloc 4 ?_); refine wpList_alloc_own O (M.mat 4 M.zero) zeroR ?_; clear O; intro g4 w3 O) | ((with_reducible refine at_load 6 ?_); refine wpList_whole rfl O 2 rfl rfl Try.underlying27 rfl (sR _) ?_) | (go_at_call 29; clear tok0; have tok1 : True := trivial; refine (C1 _).mono ?_; rintro e w4 ⟨rfl, hb⟩; replace O := O.call hb; clear hb) | ((with_reducible refine at_load 10 ?_); refine wpList_whole rfl O 1 rfl rfl Try.underlying27 rfl (sR _) ?_) | (go_at_call 29; clear tok1; have tok2 : True := trivial; refine (C2 _).mono ?_; rintro e w5 ⟨rfl, hb⟩; replace O := O.call hb; clear hb) | ((with_reducible refine at_load 16 ?_); refine wpList_cell_h (v := .int .i64 (x0)) rfl O.held 2 rfl Cx0.out rfl agg3 rfl ?_) | ((with_reducible refine at_load 18 ?_); refine wpList_cell_h (v := .int .i64 (p0)) rfl O.held 1 rfl Cp0.out rfl agg3 rfl ?_) | ((with_reducible refine at_load 21 ?_); refine wpList_cell_h (v := .int .i64 (y0)) rfl O.held 2 rfl Cy0.out rfl agg3 rfl ?_) | ((with_reducible refine at_load 23 ?_); refine wpList_cell_h (v := .int .i64 (q0)) rfl O.held 1 rfl Cq0.out rfl agg3 rfl ?_) | ((with_reducible refine at_load 26 ?_); refine wpList_cell_h (v := .int .i64 (x1)) rfl O.held 2 rfl Cx1.out rfl agg3 rfl ?_) | ((with_reducible refine at_load 28 ?_); refine wpList_cell_h (v := .int .i64 (p1)) rfl O.held 1 rfl Cp1.out rfl agg3 rfl ?_) | ((with_reducible refine at_load 31 ?_); refine wpList_cell_h (v := .int .i64 (y1)) rfl O.held 2 rfl Cy1.out rfl agg3 rfl ?_) | ((with_reducible refine at_load 33 ?_); refine wpList_cell_h (v := .int .i64 (q1)) rfl O.held 1 rfl Cq1.out rfl agg3 rfl ?_) | ((with_reducible refine at_build 35 ?_); refine wpList_build_g rfl ([(0, .int .i64 m0), (1, .int .i64 m1), (2, .int .i64 m2), (3, .int .i64 m3)]) ((M.mat 4 t).toArray) ?_ (BT.out) ?_; (focus (simp only [List.map_toArray, List.map_cons, List.map_nil]; rfl))) | ((with_reducible refine at_alloc 5 ?_); refine wpList_alloc_own O (M.mat 4 M.zero) zeroR ?_; clear O; intro g5 w6 O) | ((with_reducible refine at_store 5 ?_); refine wpList_put_own O 0 (M.mat 4 (t)) rfl rfl rfl (sR _) (M.mat_len2 _ _ _) (M.mat_one _ _) ?_; clear O; intro w7 O) | ((with_reducible refine at_load 36 ?_); refine wpList_whole rfl O 0 rfl rfl Try.underlying27 rfl (sR _) ?_) | (go_at_call 29; clear tok2; have tok3 : True := trivial; refine (C3 _).mono ?_; rintro e w8 ⟨rfl, hb⟩; replace O := O.call hb; clear hb) | ((with_reducible refine at_build 39 ?_); refine wpList_build_g rfl ([]) ((M.mat 4 M.zero).toArray) ?_ (builtRz) ?_; (focus (simp only [List.map_toArray, List.map_cons, List.map_nil]; rfl))) | ((with_reducible refine at_store 4 ?_); refine wpList_put_own O 1 (M.mat 4 (M.zero)) rfl rfl rfl (sR _) (M.mat_len2 _ _ _) (M.mat_one _ _) ?_; clear O; intro w9 O))
    exact bodyPost_ret (v := arr 4 (RC.both a b)) (by rw [HE.out]; exact res_h rfl O.held 1 rfl rfl Try.underlying27 rfl (sR _)) rfl ⟨rfl, O.below⟩
  · have HE := Lib.hid (HY.out h3)
    rw [h3] at C3
    clear h3 HN HY
    go_enter Try.func23, Try.ntmps23
    go_wp2_with (first | ((with_reducible refine at_box 2 ?_); refine wpList_box_own O (M.mat 4 (a)) rfl ?_; clear O; intro g2 w1 O) | ((with_reducible refine at_box 3 ?_); refine wpList_box_own O (M.mat 4 (b)) rfl ?_; clear O; intro g3 w2 O) | ((with_reducible refine at_alloc 4 ?_); refine wpList_alloc_own O (M.mat 4 M.zero) zeroR ?_; clear O; intro g4 w3 O) | ((with_reducible refine at_load 6 ?_); refine wpList_whole rfl O 2 rfl rfl Try.underlying27 rfl (sR _) ?_) | (go_at_call 29; clear tok0; have tok1 : True := trivial; refine (C1 _).mono ?_; rintro e w4 ⟨rfl, hb⟩; replace O := O.call hb; clear hb) | ((with_reducible refine at_load 10 ?_); refine wpList_whole rfl O 1 rfl rfl Try.underlying27 rfl (sR _) ?_) | (go_at_call 29; clear tok1; have tok2 : True := trivial; refine (C2 _).mono ?_; rintro e w5 ⟨rfl, hb⟩; replace O := O.call hb; clear hb) | ((with_reducible refine at_load 16 ?_); refine wpList_cell_h (v := .int .i64 (x0)) rfl O.held 2 rfl Cx0.out rfl agg3 rfl ?_) | ((with_reducible refine at_load 18 ?_); refine wpList_cell_h (v := .int .i64 (p0)) rfl O.held 1 rfl Cp0.out rfl agg3 rfl ?_) | ((with_reducible refine at_load 21 ?_); refine wpList_cell_h (v := .int .i64 (y0)) rfl O.held 2 rfl Cy0.out rfl agg3 rfl ?_) | ((with_reducible refine at_load 23 ?_); refine wpList_cell_h (v := .int .i64 (q0)) rfl O.held 1 rfl Cq0.out rfl agg3 rfl ?_) | ((with_reducible refine at_load 26 ?_); refine wpList_cell_h (v := .int .i64 (x1)) rfl O.held 2 rfl Cx1.out rfl agg3 rfl ?_) | ((with_reducible refine at_load 28 ?_); refine wpList_cell_h (v := .int .i64 (p1)) rfl O.held 1 rfl Cp1.out rfl agg3 rfl ?_) | ((with_reducible refine at_load 31 ?_); refine wpList_cell_h (v := .int .i64 (y1)) rfl O.held 2 rfl Cy1.out rfl agg3 rfl ?_) | ((with_reducible refine at_load 33 ?_); refine wpList_cell_h (v := .int .i64 (q1)) rfl O.held 1 rfl Cq1.out rfl agg3 rfl ?_) | ((with_reducible refine at_build 35 ?_); refine wpList_build_g rfl ([(0, .int .i64 m0), (1, .int .i64 m1), (2, .int .i64 m2), (3, .int .i64 m3)]) ((M.mat 4 t).toArray) ?_ (BT.out) ?_; (focus (simp only [List.map_toArray, List.map_cons, List.map_nil]; rfl))) | ((with_reducible refine at_alloc 5 ?_); refine wpList_alloc_own O (M.mat 4 M.zero) zeroR ?_; clear O; intro g5 w6 O) | ((with_reducible refine at_store 5 ?_); refine wpList_put_own O 0 (M.mat 4 (t)) rfl rfl rfl (sR _) (M.mat_len2 _ _ _) (M.mat_one _ _) ?_; clear O; intro w7 O) | ((with_reducible refine at_load 36 ?_); refine wpList_whole rfl O 0 rfl rfl Try.underlying27 rfl (sR _) ?_) | (go_at_call 29; clear tok2; have tok3 : True := trivial; refine (C3 _).mono ?_; rintro e w8 ⟨rfl, hb⟩; replace O := O.call hb; clear hb) | ((with_reducible refine at_load 40 ?_); refine wpList_whole rfl O 0 rfl rfl Try.underlying27 rfl (sR _) ?_) | ((with_reducible refine at_store 4 ?_); refine wpList_put_own O 1 (M.mat 4 (t)) rfl rfl rfl (sR _) (M.mat_len2 _ _ _) (M.mat_one _ _) ?_; clear O; intro w9 O))
    exact bodyPost_ret (v := arr 4 (RC.both a b)) (by rw [HE.out]; exact res_h rfl O.held 1 rfl rfl Try.underlying27 rfl (sR _)) rfl ⟨rfl, O.below⟩
end Go.Proofs.Ytndaijcgjhmiaaa
