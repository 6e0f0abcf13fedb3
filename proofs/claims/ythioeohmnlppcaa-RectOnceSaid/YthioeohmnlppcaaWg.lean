/- Contracts: Parts, twice. -/
import Derived.Test.YthioeohmnlppcaaWf
namespace Go.Proofs.Ythioeohmnlppcaa
open Go.ChangeShapes Go.WideShapes Go.ChangeAt Go.RowKit
set_option linter.unusedVariables false
set_option linter.unusedSimpArgs false

namespace RC
theorem parts_no {r : Nat → Int} {x y : Int} (h : right r = false) : parts r x y = [] := by rw [parts, if_neg (by rw [h]; decide)]
theorem parts_yes {r : Nat → Int} {x y x0 y0 x1 y1 u v : Int} (h : right r = true) (e0 : r 0 = x0) (e1 : r 1 = y0) (e2 : r 2 = x1) (e3 : r 3 = y1) (hu : max x0 (min x x1) = u) (hv : max y0 (min y y1) = v) :
    parts r x y = those [mk x0 y0 u v, mk u y0 x1 v, mk x0 v u y1, mk u v x1 y1] := by
  rw [parts, if_pos h, quarter, e0, e1, e2, e3, hu, hv]
end RC
set_option maxRecDepth 100000 in
set_option maxHeartbeats 16000000 in
theorem parts_any (r : Nat → Int) (x y : Int) (w : World) : Calls Try.prog 21 #[arr 4 r, .int .i64 x, .int .i64 y] w (RetR w (RC.parts r x y)) := by
  have O := Own.start w
  have C := fun w => right_any r w
  cases hr : RC.right r
  · have HE := Lib.hid (RC.parts_no (x := x) (y := y) hr)
    rw [hr] at C
    clear hr
    go_enter Try.func21, Try.ntmps21
    go_wp2_with (first | ((with_reducible refine at_box 3 ?_); refine wpList_box_own O (M.mat 4 (r)) rfl ?_; clear O; intro g3 w1 O) | ((with_reducible refine at_load 7 ?_); refine wpList_whole rfl O 0 rfl rfl Try.underlying23 rfl (sR _) ?_) | (go_at_call 10; refine (C _).mono ?_; rintro e w2 ⟨rfl, hb⟩; replace O := O.call hb; clear hb))
    go_ret
    rw [HE.out]
    exact retR_nil O.below
  · obtain ⟨x0, ex0⟩ : ∃ z, r 0 = z := ⟨_, rfl⟩
    have Cx0 := cell_is (n := 4) ex0 (by decide)
    obtain ⟨y0, ey0⟩ : ∃ z, r 1 = z := ⟨_, rfl⟩
    have Cy0 := cell_is (n := 4) ey0 (by decide)
    obtain ⟨x1, ex1⟩ : ∃ z, r 2 = z := ⟨_, rfl⟩
    have Cx1 := cell_is (n := 4) ex1 (by decide)
    obtain ⟨y1, ey1⟩ : ∃ z, r 3 = z := ⟨_, rfl⟩
    have Cy1 := cell_is (n := 4) ey1 (by decide)
    obtain ⟨b1, b2, b3, b4, b5, b6⟩ := RC.right_lim hr ex0 ey0 ex1 ey1
    obtain ⟨u, hu⟩ : ∃ u, max x0 (min x x1) = u := ⟨_, rfl⟩
    obtain ⟨v, hv⟩ : ∃ v, max y0 (min y y1) = v := ⟨_, rfl⟩
    have HE := Lib.hid (RC.parts_yes hr ex0 ey0 ex1 ey1 hu hv)
    rw [hr] at C
    clear hr ex0 ey0 ex1 ey1
    have CP := fun (A : Option Addr) c w hL => ((withPixels_any [RC.mk x0 y0 u v, RC.mk u y0 x1 v, RC.mk x0 v u y1, RC.mk u v x1 y1] (by simp) (A := A) (c := c) (lo := 0) w hL) : Calls Try.prog 25 #[.slice A 4 c] w _)
    obtain ⟨R, hR⟩ : ∃ R, RC.those [RC.mk x0 y0 u v, RC.mk u y0 x1 v, RC.mk x0 v u y1, RC.mk u v x1 y1] = R := ⟨_, rfl⟩
    rw [hR] at HE CP
    clear hR
    obtain ⟨m, hm⟩ : ∃ m, max x x0 = m := ⟨_, rfl⟩
    obtain ⟨n, hn⟩ : ∃ n, max y y0 = n := ⟨_, rfl⟩
    have HM := Lib.hid (⟨hm, (max_if x x0).trans hm⟩ : _ ∧ _)
    have HN := Lib.hid (⟨hn, (max_if y y0).trans hn⟩ : _ ∧ _)
    have hu2 : min m x1 = u := by omega
    have hv2 : min n y1 = v := by omega
    have HU := Lib.hid (⟨hu2, (min_if m x1).trans hu2⟩ : _ ∧ _)
    have HV := Lib.hid (⟨hv2, (min_if n y1).trans hv2⟩ : _ ∧ _)
    clear hm hn hu2 hv2
    clear hu hv b1 b2 b3 b4 b5 b6
    go_enter Try.func21, Try.ntmps21
    go_wp2_with (first | ((with_reducible refine at_box 3 ?_); refine wpList_box_own O (M.mat 4 (r)) rfl ?_; clear O; intro g3 w1 O) | ((with_reducible refine at_load 7 ?_); refine wpList_whole rfl O 0 rfl rfl Try.underlying23 rfl (sR _) ?_) | (go_at_call 10; refine (C _).mono ?_; rintro e w2 ⟨rfl, hb⟩; replace O := O.call hb; clear hb))
    have OO := O.drew
    clear O
    have O := OO
    clear OO
    have d0 := O.cell 0 rfl Cx0.out
    have d1 := O.cell 0 rfl Cy0.out
    have d2 := O.cell 0 rfl Cx1.out
    have d3 := O.cell 0 rfl Cy1.out
    obtain ⟨e1, e2⟩ := HM.out
    obtain ⟨e3, e4⟩ := HN.out
    obtain ⟨e5, e6⟩ := HU.out
    obtain ⟨e7, e8⟩ := HV.out
    go_region
    clear d0 d1 d2 d3 e1 e2 e3 e4 e5 e6 e7 e8
    have OO := O.held
    clear O
    have O := OO
    clear OO
    go_wp2_with (first | ((with_reducible refine at_load 25 ?_); refine wpList_cell_h (v := .int .i64 (x0)) rfl O 0 rfl Cx0.out rfl agg3 rfl ?_) | ((with_reducible refine at_load 27 ?_); refine wpList_cell_h (v := .int .i64 (y0)) rfl O 0 rfl Cy0.out rfl agg3 rfl ?_) | ((with_reducible refine at_load 33 ?_); refine wpList_cell_h (v := .int .i64 (y0)) rfl O 0 rfl Cy0.out rfl agg3 rfl ?_) | ((with_reducible refine at_load 35 ?_); refine wpList_cell_h (v := .int .i64 (x1)) rfl O 0 rfl Cx1.out rfl agg3 rfl ?_) | ((with_reducible refine at_load 39 ?_); refine wpList_cell_h (v := .int .i64 (x0)) rfl O 0 rfl Cx0.out rfl agg3 rfl ?_) | ((with_reducible refine at_load 43 ?_); refine wpList_cell_h (v := .int .i64 (y1)) rfl O 0 rfl Cy1.out rfl agg3 rfl ?_) | ((with_reducible refine at_load 48 ?_); refine wpList_cell_h (v := .int .i64 (x1)) rfl O 0 rfl Cx1.out rfl agg3 rfl ?_) | ((with_reducible refine at_load 50 ?_); refine wpList_cell_h (v := .int .i64 (y1)) rfl O 0 rfl Cy1.out rfl agg3 rfl ?_) | ((with_reducible refine at_build 30 ?_); refine wpList_build_g rfl ([(0, .int .i64 x0), (1, .int .i64 y0), (2, .int .i64 u), (3, .int .i64 v)]) ((M.mat 4 (RC.mk x0 y0 u v)).toArray) ?_ (builtR _ _ _ _) ?_; (focus (simp only [List.map_toArray, List.map_cons, List.map_nil]; rfl))) | ((with_reducible refine at_build 37 ?_); refine wpList_build_g rfl ([(0, .int .i64 u), (1, .int .i64 y0), (2, .int .i64 x1), (3, .int .i64 v)]) ((M.mat 4 (RC.mk u y0 x1 v)).toArray) ?_ (builtR _ _ _ _) ?_; (focus (simp only [List.map_toArray, List.map_cons, List.map_nil]; rfl))) | ((with_reducible refine at_build 44 ?_); refine wpList_build_g rfl ([(0, .int .i64 x0), (1, .int .i64 v), (2, .int .i64 u), (3, .int .i64 y1)]) ((M.mat 4 (RC.mk x0 v u y1)).toArray) ?_ (builtR _ _ _ _) ?_; (focus (simp only [List.map_toArray, List.map_cons, List.map_nil]; rfl))) | ((with_reducible refine at_build 51 ?_); refine wpList_build_g rfl ([(0, .int .i64 u), (1, .int .i64 v), (2, .int .i64 x1), (3, .int .i64 y1)]) ((M.mat 4 (RC.mk u v x1 y1)).toArray) ?_ (builtR _ _ _ _) ?_; (focus (simp only [List.map_toArray, List.map_cons, List.map_nil]; rfl))) | ((with_reducible refine at_lit 52 ?_); refine wpList_lit_h rfl O 4 (.agg (M.mat 4 M.zero).toArray) infoR Try.underlying34 ([(0, arr 4 (RC.mk x0 y0 u v)), (1, arr 4 (RC.mk u y0 x1 v)), (2, arr 4 (RC.mk x0 v u y1)), (3, arr 4 (RC.mk u v x1 y1))]) (rC [RC.mk x0 y0 u v, RC.mk u y0 x1 v, RC.mk x0 v u y1, RC.mk u v x1 y1]) rfl (rC_len _) (by decide) (by decide) (by kernel_rfl) ?_; clear O; intro gl u5 O) | (go_at_call 25; refine (CP _ _ _ (Lies.low (O.arg List.mem_cons_self) (Nat.zero_le _))).mono ?_; intro e w9 hR; obtain ⟨VA, vc, rfl, hV, hb⟩ := RetR.up hR O.below; clear hR))
    go_ret
    rw [HE.out]
    exact ⟨VA, vc, rfl, hV, hb⟩
set_option maxRecDepth 100000 in
set_option maxHeartbeats 16000000 in
theorem rparts_any (r : Nat → Int) (x y : Int) (w : World) : Calls Try.prog 22 #[arr 4 r, .int .i64 x, .int .i64 y] w (RetR w (RC.parts r x y)) := by
  have O := Own.start w
  have C := fun w => rright_any r w
  cases hr : RC.right r
  · have HE := Lib.hid (RC.parts_no (x := x) (y := y) hr)
    rw [hr] at C
    clear hr
    go_enter Try.func22, Try.ntmps22
    go_wp2_with (first | ((with_reducible refine at_box 3 ?_); refine wpList_box_own O (M.mat 4 (r)) rfl ?_; clear O; intro g3 w1 O) | ((with_reducible refine at_load 7 ?_); refine wpList_whole rfl O 0 rfl rfl Try.underlying23 rfl (sR _) ?_) | (go_at_call 11; refine (C _).mono ?_; rintro e w2 ⟨rfl, hb⟩; replace O := O.call hb; clear hb))
    go_ret
    rw [HE.out]
    exact retR_nil O.below
  · obtain ⟨x0, ex0⟩ : ∃ z, r 0 = z := ⟨_, rfl⟩
    have Cx0 := cell_is (n := 4) ex0 (by decide)
    obtain ⟨y0, ey0⟩ : ∃ z, r 1 = z := ⟨_, rfl⟩
    have Cy0 := cell_is (n := 4) ey0 (by decide)
    obtain ⟨x1, ex1⟩ : ∃ z, r 2 = z := ⟨_, rfl⟩
    have Cx1 := cell_is (n := 4) ex1 (by decide)
    obtain ⟨y1, ey1⟩ : ∃ z, r 3 = z := ⟨_, rfl⟩
    have Cy1 := cell_is (n := 4) ey1 (by decide)
    obtain ⟨b1, b2, b3, b4, b5, b6⟩ := RC.right_lim hr ex0 ey0 ex1 ey1
    obtain ⟨u, hu⟩ : ∃ u, max x0 (min x x1) = u := ⟨_, rfl⟩
    obtain ⟨v, hv⟩ : ∃ v, max y0 (min y y1) = v := ⟨_, rfl⟩
    have HE := Lib.hid (RC.parts_yes hr ex0 ey0 ex1 ey1 hu hv)
    rw [hr] at C
    clear hr ex0 ey0 ex1 ey1
    have CP := fun (A : Option Addr) c w hL => ((those_any [RC.mk x0 y0 u v, RC.mk u y0 x1 v, RC.mk x0 v u y1, RC.mk u v x1 y1] (by simp) (A := A) (c := c) (lo := 0) w hL) : Calls Try.prog 26 #[.slice A 4 c] w _)
    obtain ⟨R, hR⟩ : ∃ R, RC.those [RC.mk x0 y0 u v, RC.mk u y0 x1 v, RC.mk x0 v u y1, RC.mk u v x1 y1] = R := ⟨_, rfl⟩
    rw [hR] at HE CP
    clear hR
    obtain ⟨m, hm⟩ : ∃ m, min x x1 = m := ⟨_, rfl⟩
    obtain ⟨n, hn⟩ : ∃ n, min y y1 = n := ⟨_, rfl⟩
    have HM := Lib.hid (⟨hm, (min_if x x1).trans hm⟩ : _ ∧ _)
    have HN := Lib.hid (⟨hn, (min_if y y1).trans hn⟩ : _ ∧ _)
    have hu2 : max x0 m = u := by omega
    have hv2 : max y0 n = v := by omega
    have HU := Lib.hid (⟨hu2, (max_if x0 m).trans hu2⟩ : _ ∧ _)
    have HV := Lib.hid (⟨hv2, (max_if y0 n).trans hv2⟩ : _ ∧ _)
    clear hm hn hu2 hv2
    clear hu hv b1 b2 b3 b4 b5 b6
    go_enter Try.func22, Try.ntmps22
    go_wp2_with (first | ((with_reducible refine at_box 3 ?_); refine wpList_box_own O (M.mat 4 (r)) rfl ?_; clear O; intro g3 w1 O) | ((with_reducible refine at_load 7 ?_); refine wpList_whole rfl O 0 rfl rfl Try.underlying23 rfl (sR _) ?_) | (go_at_call 11; refine (C _).mono ?_; rintro e w2 ⟨rfl, hb⟩; replace O := O.call hb; clear hb))
    have OO := O.drew
    clear O
    have O := OO
    clear OO
    have d0 := O.cell 0 rfl Cx0.out
    have d1 := O.cell 0 rfl Cy0.out
    have d2 := O.cell 0 rfl Cx1.out
    have d3 := O.cell 0 rfl Cy1.out
    obtain ⟨e1, e2⟩ := HM.out
    obtain ⟨e3, e4⟩ := HN.out
    obtain ⟨e5, e6⟩ := HU.out
    obtain ⟨e7, e8⟩ := HV.out
    go_region
    clear d0 d1 d2 d3 e1 e2 e3 e4 e5 e6 e7 e8
    have OO := O.held
    clear O
    have O := OO
    clear OO
    go_wp2_with (first | ((with_reducible refine at_load 25 ?_); refine wpList_cell_h (v := .int .i64 (x0)) rfl O 0 rfl Cx0.out rfl agg3 rfl ?_) | ((with_reducible refine at_load 27 ?_); refine wpList_cell_h (v := .int .i64 (y0)) rfl O 0 rfl Cy0.out rfl agg3 rfl ?_) | ((with_reducible refine at_load 33 ?_); refine wpList_cell_h (v := .int .i64 (y0)) rfl O 0 rfl Cy0.out rfl agg3 rfl ?_) | ((with_reducible refine at_load 35 ?_); refine wpList_cell_h (v := .int .i64 (x1)) rfl O 0 rfl Cx1.out rfl agg3 rfl ?_) | ((with_reducible refine at_load 39 ?_); refine wpList_cell_h (v := .int .i64 (x0)) rfl O 0 rfl Cx0.out rfl agg3 rfl ?_) | ((with_reducible refine at_load 43 ?_); refine wpList_cell_h (v := .int .i64 (y1)) rfl O 0 rfl Cy1.out rfl agg3 rfl ?_) | ((with_reducible refine at_load 48 ?_); refine wpList_cell_h (v := .int .i64 (x1)) rfl O 0 rfl Cx1.out rfl agg3 rfl ?_) | ((with_reducible refine at_load 50 ?_); refine wpList_cell_h (v := .int .i64 (y1)) rfl O 0 rfl Cy1.out rfl agg3 rfl ?_) | ((with_reducible refine at_build 30 ?_); refine wpList_build_g rfl ([(0, .int .i64 x0), (1, .int .i64 y0), (2, .int .i64 u), (3, .int .i64 v)]) ((M.mat 4 (RC.mk x0 y0 u v)).toArray) ?_ (builtR _ _ _ _) ?_; (focus (simp only [List.map_toArray, List.map_cons, List.map_nil]; rfl))) | ((with_reducible refine at_build 37 ?_); refine wpList_build_g rfl ([(0, .int .i64 u), (1, .int .i64 y0), (2, .int .i64 x1), (3, .int .i64 v)]) ((M.mat 4 (RC.mk u y0 x1 v)).toArray) ?_ (builtR _ _ _ _) ?_; (focus (simp only [List.map_toArray, List.map_cons, List.map_nil]; rfl))) | ((with_reducible refine at_build 44 ?_); refine wpList_build_g rfl ([(0, .int .i64 x0), (1, .int .i64 v), (2, .int .i64 u), (3, .int .i64 y1)]) ((M.mat 4 (RC.mk x0 v u y1)).toArray) ?_ (builtR _ _ _ _) ?_; (focus (simp only [List.map_toArray, List.map_cons, List.map_nil]; rfl))) | ((with_reducible refine at_build 51 ?_); refine wpList_build_g rfl ([(0, .int .i64 u), (1, .int .i64 v), (2, .int .i64 x1), (3, .int .i64 y1)]) ((M.mat 4 (RC.mk u v x1 y1)).toArray) ?_ (builtR _ _ _ _) ?_; (focus (simp only [List.map_toArray, List.map_cons, List.map_nil]; rfl))) | ((with_reducible refine at_lit 52 ?_); refine wpList_lit_h rfl O 4 (.agg (M.mat 4 M.zero).toArray) infoR Try.underlying34 ([(0, arr 4 (RC.mk x0 y0 u v)), (1, arr 4 (RC.mk u y0 x1 v)), (2, arr 4 (RC.mk x0 v u y1)), (3, arr 4 (RC.mk u v x1 y1))]) (rC [RC.mk x0 y0 u v, RC.mk u y0 x1 v, RC.mk x0 v u y1, RC.mk u v x1 y1]) rfl (rC_len _) (by decide) (by decide) (by kernel_rfl) ?_; clear O; intro gl u5 O) | (go_at_call 26; refine (CP _ _ _ (Lies.low (O.arg List.mem_cons_self) (Nat.zero_le _))).mono ?_; intro e w9 hR; obtain ⟨VA, vc, rfl, hV, hb⟩ := RetR.up hR O.below; clear hR))
    go_ret
    rw [HE.out]
    exact ⟨VA, vc, rfl, hV, hb⟩
end Go.Proofs.Ythioeohmnlppcaa
