/- Contracts: the program's Right, Cover, Line. -/
import Derived.Test.YtdkppkdoconfhaaSl
import Derived.Test.YtdkppkdoconfhaaSx
import Derived.Test.YtdkppkdoconfhaaSv
import Derived.Test.YtdkppkdoconfhaaWp
import Derived.Test.YtdkppkdoconfhaaVp
namespace Go.Proofs.Ytdkppkdoconfhaa
open Go.ChangeShapes Go.WideShapes Go.ChangeAt Go.RowKit
set_option linter.unusedVariables false
set_option linter.unusedSimpArgs false

set_option maxHeartbeats 8000000 in
theorem pright18_any (a b : Nat → Int) (n : Int) (w : World) : Calls Try.prog 10 #[arr 7 a, arr 7 b, .int .i64 n] w fun e w' => e = .returned (.bool (SM.right a b n)) ∧ Below w.heap.size w w' := by
  have O := Own.start w
  have CR := fun w => wright_any a b n (HM.t3 0 1 0) w
  unfold SM.right
  generalize WD.right a b n (HM.t3 0 1 0) = z at CR ⊢
  go_enter Try.func10, Try.ntmps10
  go_wp2_with (first | ((with_reducible refine at_box 3 ?_); refine wpList_box_own O (M.mat 7 (a)) rfl ?_; clear O; intro g3 w1 O) | ((with_reducible refine at_box 4 ?_); refine wpList_box_own O (M.mat 7 (b)) rfl ?_; clear O; intro g4 w2 O) | ((with_reducible refine at_load 7 ?_); refine wpList_whole rfl O 1 rfl rfl Try.underlying25 rfl (sW _) ?_) | ((with_reducible refine at_load 8 ?_); refine wpList_whole rfl O 0 rfl rfl Try.underlying25 rfl (sW _) ?_) | ((with_reducible refine at_build 10 ?_); refine wpList_build_g rfl ([(1, .int .i64 1)]) ((M.mat 3 (HM.t3 0 1 0)).toArray) ?_ (builtH17) ?_; (focus (simp only [List.map_toArray, List.map_cons, List.map_nil]; rfl))) | (go_at_call 21; refine (CR _).mono ?_; rintro e w3 ⟨rfl, hb⟩; replace O := O.call hb; clear hb))
  go_ret
  exact ⟨rfl, O.below⟩
set_option maxRecDepth 100000 in
set_option maxHeartbeats 16000000 in
theorem pcover_any (a b : Nat → Int) (n x y : Int) (hx : -4194304 ≤ x ∧ x ≤ 4194304) (hy : -4194304 ≤ y ∧ y ≤ 4194304) (w : World) :
    Calls Try.prog 15 #[arr 7 a, arr 7 b, .int .i64 n, .int .i64 x, .int .i64 y] w fun e w' => e = .returned (.int .i64 (SM.cvr a b n x y)) ∧ Below w.heap.size w w' := by
  have O := Own.start w
  have CR := fun w => pright18_any a b n w
  cases hr : SM.right a b n
  · rw [hr] at CR
    rw [SM.cvr_bad hr]
    clear hr hx hy
    go_enter Try.func15, Try.ntmps15
    go_wp2_with (first | ((with_reducible refine at_box 5 ?_); refine wpList_box_own O (M.mat 7 (a)) rfl ?_; clear O; intro g5 w1 O) | ((with_reducible refine at_box 6 ?_); refine wpList_box_own O (M.mat 7 (b)) rfl ?_; clear O; intro g6 w2 O) | ((with_reducible refine at_load 11 ?_); refine wpList_whole rfl O 1 rfl rfl Try.underlying25 rfl (sW _) ?_) | ((with_reducible refine at_load 12 ?_); refine wpList_whole rfl O 0 rfl rfl Try.underlying25 rfl (sW _) ?_) | (go_at_call 10; refine (CR _).mono ?_; rintro e w3 ⟨rfl, hb⟩; replace O := O.call hb; clear hb))
    go_ret
    exact ⟨rfl, O.below⟩
  · rw [hr] at CR
    obtain ⟨⟨hfa, hfb⟩, hn⟩ := SM.right_iff.1 hr
    obtain ⟨a0, a1, -⟩ := VM.fit_lim hfa
    obtain ⟨b0, b1, -⟩ := VM.fit_lim hfb
    obtain ⟨R, hR⟩ := M.root_ex (SP.lim a b n) (Int.mul_nonneg (SM.sq_nonneg' _) (SM.sq_nonneg a b))
    have hok := (SP.meas_ok hR hn ⟨a0, a1⟩ ⟨b0, b1⟩).1
    have CM := fun w => pmea18 a b n R hR hn ⟨a0, a1⟩ ⟨b0, b1⟩ w
    have CW := fun w => prow18 (SP.meas a b n R) a y hok ⟨a0, a1⟩ hy w
    have CV := fun w => prcov18 (SP.rowf (SP.meas a b n R) (a 0) (a 1) y) x (SP.rowf_lim hok a0 a1 hy) (by omega) w
    have C1 := fun w => pisp18 x w
    have C2 := fun w => pisp18 y w
    rw [show (decide (-4194304 ≤ x) && decide (x ≤ 4194304)) = true by simpa using hx] at C1
    rw [show (decide (-4194304 ≤ y) && decide (y ≤ 4194304)) = true by simpa using hy] at C2
    have hcv : SM.cvr a b n x y = SP.cvk (SP.rowf (SP.meas a b n R) (a 0) (a 1) y) x 8 := by
      rw [SP.cvk_cov hR hx a0]
      unfold SM.cvr
      rw [hr, if_pos rfl]
    rw [hcv]
    generalize SP.cvk (SP.rowf (SP.meas a b n R) (a 0) (a 1) y) x 8 = z at CV ⊢
    generalize SP.rowf (SP.meas a b n R) (a 0) (a 1) y = rw_ at CW CV
    generalize SP.meas a b n R = st at CM CW
    have tok0 : True := trivial
    clear hr hfa hfb hn a0 a1 b0 b1 hR hok hcv hx hy
    go_enter Try.func15, Try.ntmps15
    go_wp2_with (first | ((with_reducible refine at_box 5 ?_); refine wpList_box_own O (M.mat 7 (a)) rfl ?_; clear O; intro g5 w1 O) | ((with_reducible refine at_box 6 ?_); refine wpList_box_own O (M.mat 7 (b)) rfl ?_; clear O; intro g6 w2 O) | ((with_reducible refine at_load 11 ?_); refine wpList_whole rfl O 1 rfl rfl Try.underlying25 rfl (sW _) ?_) | ((with_reducible refine at_load 12 ?_); refine wpList_whole rfl O 0 rfl rfl Try.underlying25 rfl (sW _) ?_) | (go_at_call 10; refine (CR _).mono ?_; rintro e w3 ⟨rfl, hb⟩; replace O := O.call hb; clear hb) | (go_at_call 34; clear tok0; have tok1 : True := trivial; refine (C1 _).mono ?_; rintro e w' ⟨rfl, rfl⟩) | (go_at_call 34; clear tok1; have tok2 : True := trivial; refine (C2 _).mono ?_; rintro e w' ⟨rfl, rfl⟩))
    refine region_T (fun w2 => Own w w2 [(g6, 25, M.mat 7 b), (g5, 25, M.mat 7 a)]) [0, 1, 2, 3, 4, 5, 6, 7, 8] 12 [some 26, some 27, some 28, some 29, some 30, some 31, some 32, some 33, some 34] [arr 7 a, arr 7 b, .int .i64 (n), arr 5 st, arr 7 a, .int .i64 (y), arr 16 rw_, .int .i64 (x), .int .i64 (z)] 1 (by kernel_rfl) (by rfl) (by kernel_rfl) (by rfl) (by rfl) (O.drew) (fun F hF => ?_)
    simp only [fillD, Act.put, List.setIfInBounds_toArray, List.set_cons_zero, List.set_cons_succ] at hF
    subst hF
    refine ⟨⟨does_want rfl (by rfl) (fun w' O K hK => ?_), does_want rfl (by rfl) (fun w' O K hK => ?_), does_want rfl (by rfl) (fun w' O K hK => ?_), does_want rfl (by rfl) (fun w' O K hK => ?_), does_want rfl (by rfl) (fun w' O K hK => ?_), does_want rfl (by rfl) (fun w' O K hK => ?_), does_want rfl (by rfl) (fun w' O K hK => ?_), does_want rfl (by rfl) (fun w' O K hK => ?_), does_want rfl (by rfl) (fun w' O K hK => ?_), trivial⟩, fun w' O => ?_⟩
    · exact wp_whole O 1 rfl rfl Try.underlying25 rfl (sW _) (hK _ O)
    · exact wp_whole O 0 rfl rfl Try.underlying25 rfl (sW _) (hK _ O)
    · go_simp
      exact hK _ O
    · go_simp
      go_at_call 26
      refine (CM _).mono ?_
      rintro e w2 ⟨rfl, hb⟩
      exact hK _ (O.call hb)
    · exact wp_whole O 1 rfl rfl Try.underlying25 rfl (sW _) (hK _ O)
    · go_simp
      exact hK _ O
    · go_simp
      go_at_call 28
      refine (CW _).mono ?_
      rintro e w2 ⟨rfl, hb⟩
      exact hK _ (O.call hb)
    · go_simp
      exact hK _ O
    · go_simp
      go_at_call 31
      refine (CV _).mono ?_
      rintro e w2 ⟨rfl, hb⟩
      exact hK _ (O.call hb)
    refine wpAny_one (i := 9) (by kernel_rfl) rfl (fun K hK => ?_)
    go_simp
    refine hK _ _ ?_
    clear hK K
    try simp only [Act.put, List.setIfInBounds_toArray, List.set_cons_zero, List.set_cons_succ]
    refine wpAny_done (by kernel_rfl) ?_ _
    go_wp2_with fail
    go_ret
    exact ⟨rfl, O.below⟩
set_option maxRecDepth 100000 in
set_option maxHeartbeats 64000000 in
theorem pline18_any (a b : Nat → Int) (n : Int) (r : Nat → Int) (hs : RC.area r ≤ 100000) (w : World) :
    Calls Try.prog 13 #[arr 7 a, arr 7 b, .int .i64 n, arr 4 r] w (RetG w (SM.line a b n r)) := by
  have O := Own.start w
  have CR := fun w => pright18_any a b n w
  cases hr : SM.right a b n
  · rw [hr] at CR
    rw [SM.line_bad (by rw [hr]; rfl)]
    clear hr hs
    go_enter Try.func13, Try.ntmps13
    go_wp2_with (first | ((with_reducible refine at_box 4 ?_); refine wpList_box_own O (M.mat 7 (a)) rfl ?_; clear O; intro g4 w1 O) | ((with_reducible refine at_box 5 ?_); refine wpList_box_own O (M.mat 7 (b)) rfl ?_; clear O; intro g5 w2 O) | ((with_reducible refine at_box 7 ?_); refine wpList_box_own O (M.mat 4 (r)) rfl ?_; clear O; intro g7 w3 O) | ((with_reducible refine at_load 19 ?_); refine wpList_whole rfl O 2 rfl rfl Try.underlying25 rfl (sW _) ?_) | ((with_reducible refine at_load 20 ?_); refine wpList_whole rfl O 1 rfl rfl Try.underlying25 rfl (sW _) ?_) | (go_at_call 10; refine (CR _).mono ?_; rintro e w4 ⟨rfl, hb⟩; replace O := O.call hb; clear hb))
    go_ret
    exact retG_nil O.below
  rw [hr] at CR
  obtain ⟨⟨hfa, hfb⟩, hn⟩ := SM.right_iff.1 hr
  obtain ⟨a0, a1, -⟩ := VM.fit_lim hfa
  obtain ⟨b0, b1, -⟩ := VM.fit_lim hfb
  have CA := fun w => paro18 a b n ⟨a0, a1⟩ ⟨b0, b1⟩ (by omega) w
  have CB := fun w => prand18 r (SP.ard a b n) w
  have CQ := fun w => right_any (RC.both r (SP.ard a b n)) w
  cases hq : RC.right (RC.both r (SP.ard a b n))
  · rw [hq] at CQ
    rw [SP.line_none hr hq]
    generalize RC.both r (SP.ard a b n) = q at CB CQ
    generalize SP.ard a b n = ad at CA CB
    clear hr hs hq hfa hfb hn a0 a1 b0 b1
    go_enter Try.func13, Try.ntmps13
    go_wp2_with (first | ((with_reducible refine at_box 4 ?_); refine wpList_box_own O (M.mat 7 (a)) rfl ?_; clear O; intro g4 w1 O) | ((with_reducible refine at_box 5 ?_); refine wpList_box_own O (M.mat 7 (b)) rfl ?_; clear O; intro g5 w2 O) | ((with_reducible refine at_box 7 ?_); refine wpList_box_own O (M.mat 4 (r)) rfl ?_; clear O; intro g7 w3 O) | ((with_reducible refine at_load 19 ?_); refine wpList_whole rfl O 2 rfl rfl Try.underlying25 rfl (sW _) ?_) | ((with_reducible refine at_load 20 ?_); refine wpList_whole rfl O 1 rfl rfl Try.underlying25 rfl (sW _) ?_) | (go_at_call 10; refine (CR _).mono ?_; rintro e w4 ⟨rfl, hb⟩; replace O := O.call hb; clear hb))
    clear CR
    have OO := O
    clear O
    have O := OO
    clear OO
    refine region_T (fun w2 => Own w w2 [(g7, 27, M.mat 4 r), (g5, 25, M.mat 7 b), (g4, 25, M.mat 7 a)]) [0, 1, 2, 3, 4, 5] 12 [some 24, some 25, some 26, some 27, some 28, some 29] [arr 4 r, arr 7 a, arr 7 b, .int .i64 (n), arr 4 ad, arr 4 q] 1 (by kernel_rfl) (by rfl) (by kernel_rfl) (by rfl) (by rfl) (O.drew) (fun F hF => ?_)
    simp only [fillD, Act.put, List.setIfInBounds_toArray, List.set_cons_zero, List.set_cons_succ] at hF
    subst hF
    refine ⟨⟨does_want rfl (by rfl) (fun w' O K hK => ?_), does_want rfl (by rfl) (fun w' O K hK => ?_), does_want rfl (by rfl) (fun w' O K hK => ?_), does_want rfl (by rfl) (fun w' O K hK => ?_), does_want rfl (by rfl) (fun w' O K hK => ?_), does_want rfl (by rfl) (fun w' O K hK => ?_), trivial⟩, fun w' O => ?_⟩
    · exact wp_whole O 0 rfl rfl Try.underlying27 rfl (sR _) (hK _ O)
    · exact wp_whole O 2 rfl rfl Try.underlying25 rfl (sW _) (hK _ O)
    · exact wp_whole O 1 rfl rfl Try.underlying25 rfl (sW _) (hK _ O)
    · go_simp
      exact hK _ O
    · go_simp
      go_at_call 24
      refine (CA _).mono ?_
      rintro e w2 ⟨rfl, hb⟩
      exact hK _ (O.call hb)
    · go_simp
      go_at_call 23
      refine (CB _).mono ?_
      rintro e w2 ⟨rfl, hb⟩
      exact hK _ (O.call hb)
    refine wpAny_want (i := 6) (by kernel_rfl) rfl (by rfl) (fun K hK => ?_)
    refine wp_put_own O 0 (M.mat 4 (q)) rfl rfl rfl (sR _) (M.mat_len2 _ _ _) (M.mat_one _ _) fun w9 O9 => hK _ _ ?_
    clear O
    have O := O9
    clear O9
    clear hK K
    try simp only [Act.put, List.setIfInBounds_toArray, List.set_cons_zero, List.set_cons_succ]
    refine wpAny_done (by kernel_rfl) ?_ _
    clear CA CB
    go_wp2_with (first | ((with_reducible refine at_load 30 ?_); refine wpList_whole rfl O 0 rfl rfl Try.underlying27 rfl (sR _) ?_) | (go_at_call 25; refine (CQ _).mono ?_; rintro e w15 ⟨rfl, hb⟩; replace O := O.call hb; clear hb))
    go_ret
    exact retG_nil O.below
  rw [hq] at CQ
  obtain ⟨R, hR⟩ := M.root_ex (SP.lim a b n) (Int.mul_nonneg (SM.sq_nonneg' _) (SM.sq_nonneg a b))
  have hok := (SP.meas_ok hR hn ⟨a0, a1⟩ ⟨b0, b1⟩).1
  have LK := SP.look hr hR hq
  obtain ⟨hrr, -, hsub⟩ := SP.both_in hq
  obtain ⟨hrl, hrl2, hrl3⟩ := RC.right_iff.1 hrr
  obtain ⟨hql, -, -⟩ := RC.right_iff.1 hq
  rw [SM.line_ok hr hrr]
  have CM := fun w => pmea18 a b n R hR hn ⟨a0, a1⟩ ⟨b0, b1⟩ w
  have CS := fun w => prows18 (SP.meas a b n R) a (RC.both r (SP.ard a b n)) hok ⟨a0, a1⟩ hq w
  have CW := Lib.hid (fun y hy w => prow18 (SP.meas a b n R) a y hok ⟨a0, a1⟩ hy w)
  have CV := Lib.hid (fun y hy x hx w => prcov18 (SP.rowf (SP.meas a b n R) (a 0) (a 1) y) x (SP.rowf_lim hok a0 a1 hy) hx w)
  have CP := Lib.hid (fun y hy w => prpix18 (SP.rowf (SP.meas a b n R) (a 0) (a 1) y) (SP.rowf_lim hok a0 a1 hy) w)
  have CN := Lib.hid (fun y w => pand18 (SP.pixels (SP.allk (SP.rowf (SP.meas a b n R) (a 0) (a 1) y) 8)) (SP.mk (RC.both r (SP.ard a b n) 0) (RC.both r (SP.ard a b n) 2 - 1)) w)
  have CX := Lib.hid (fun x y hx hy w => pacross_any a b x y hfa hfb hx hy w)
  have HCV : Hid (∀ x y, (-4194304 ≤ x ∧ x ≤ 4194304) → SM.cvr a b n x y = SP.cvk (SP.rowf (SP.meas a b n R) (a 0) (a 1) y) x 8) := Lib.hid (fun x y hx => by
    rw [SP.cvk_cov hR hx a0]
    unfold SM.cvr
    rw [hr, if_pos rfl])
  rw [RC.area_in hrr] at hs
  have HXS : Hid (∀ y, SP.and (SP.pixels (SP.allk (SP.rowf (SP.meas a b n R) (a 0) (a 1) y) 8)) (SP.mk (RC.both r (SP.ard a b n) 0) (RC.both r (SP.ard a b n) 2 - 1)) = SP.xs (SP.meas a b n R) (RC.both r (SP.ard a b n)) (a 0) (a 1) y) := Lib.hid fun y => rfl
  simp only [HXS.out] at CN
  generalize SP.rowsf (SP.meas a b n R) (RC.both r (SP.ard a b n)) (a 0) (a 1) = Y at *
  generalize SP.xs (SP.meas a b n R) (RC.both r (SP.ard a b n)) (a 0) (a 1) = X at *
  generalize SP.rowf (SP.meas a b n R) (a 0) (a 1) = rf at *
  generalize SP.meas a b n R = sT at *
  generalize RC.both r (SP.ard a b n) = q at *
  generalize SP.ard a b n = ad at *
  clear HXS hok hR hr
  obtain ⟨q0, eq0⟩ : ∃ z, q 0 = z := ⟨_, rfl⟩
  have Cq0 := cell_is (n := 4) eq0 (by decide)
  obtain ⟨q1, eq1⟩ : ∃ z, q 1 = z := ⟨_, rfl⟩
  have Cq1 := cell_is (n := 4) eq1 (by decide)
  obtain ⟨q2, eq2⟩ : ∃ z, q 2 = z := ⟨_, rfl⟩
  have Cq2 := cell_is (n := 4) eq2 (by decide)
  obtain ⟨q3, eq3⟩ : ∃ z, q 3 = z := ⟨_, rfl⟩
  have Cq3 := cell_is (n := 4) eq3 (by decide)
  obtain ⟨Y0, eY0⟩ : ∃ z, Y 0 = z := ⟨_, rfl⟩
  have CY0 := cell_is (n := 2) eY0 (by decide)
  obtain ⟨Y1, eY1⟩ : ∃ z, Y 1 = z := ⟨_, rfl⟩
  have CY1 := cell_is (n := 2) eY1 (by decide)
  rw [eq0] at CN hsub hql
  rw [eq1] at hsub hql
  rw [eq2] at CN hsub hql
  rw [eq3] at hsub hql
  obtain ⟨q2m, hq2m⟩ : ∃ z, q2 - 1 = z := ⟨_, rfl⟩
  rw [hq2m] at CN
  have V2 : Hid (IntKind.i64.wrap (q2 - 1) = q2m) := Lib.hid ((IntWalk.i64_in _ (by omega)).trans hq2m)
  obtain ⟨r0, e0⟩ : ∃ z, r 0 = z := ⟨_, rfl⟩
  obtain ⟨r1, e1⟩ : ∃ z, r 1 = z := ⟨_, rfl⟩
  obtain ⟨r2, e2⟩ : ∃ z, r 2 = z := ⟨_, rfl⟩
  obtain ⟨r3, e3⟩ : ∃ z, r 3 = z := ⟨_, rfl⟩
  rw [e0, e1, e2, e3] at LK hrl hsub hs
  rw [e0, e2] at hrl2
  rw [e1, e3] at hrl3
  simp only [e0, e1, e2, e3]
  have ny := LK.ny
  rw [eY0, eY1] at ny
  have HNX := Lib.hid LK.nx
  have H0 := Lib.hid (LK.start (by omega))
  have HW := Lib.hid (fun y hy => LK.row (by omega) (y := y) hy)
  have HP := Lib.hid (fun x y hx => LK.step (x := x) (y := y) hx)
  have HX := Lib.hid (fun x y hy hx => LK.next (by omega) (x := x) (y := y) hy hx)
  have HE := Lib.hid (fun y hy => LK.stop (by omega) (y := y) hy)
  rw [eY0] at H0
  simp only [eY0, eY1] at HW HX HE
  have HLEN := Lib.hid (fun x y hx hy => Nat.le_trans (SM.part_len (f := SM.px a b n) (x0 := r0) (x1 := r2) (y0 := r1) (y1 := r3) (x := x) (y := y) (SM.px_len a b n) hx hy) (show _ ≤ 100000 by
    have e : (((r2 - r0).toNat * (r3 - r1).toNat : Nat) : Int) = (r2 - r0) * (r3 - r1) := by
      rw [Int.natCast_mul, Int.toNat_of_nonneg (by omega), Int.toNat_of_nonneg (by omega)]
    omega))
  have HN := Lib.hid (fun x y h => @SM.px_no a b n x y h)
  have HY := Lib.hid (fun x y h => @SM.px_yes a b n x y h)
  have HZ := Lib.hid (fun x y => @SM.cvr_lim a b n x y)
  generalize SM.part (SM.px a b n) r0 r2 r1 = PT at *
  generalize SM.rows (SM.px a b n) r0 r2 r1 r3 = TOT at *
  have HRL := Lib.hid (And.intro hrl (And.intro hrl2 (And.intro hrl3 ny)))
  clear LK hrr hq hs hfa hfb hn e0 e1 e2 e3 hrl hrl2 hrl3 hsub hql a0 a1 b0 b1 eq0 eq1 eq2 eq3 eY0 eY1 hq2m ny
  go_enter Try.func13, Try.ntmps13
  go_wp2_with (first | ((with_reducible refine at_box 4 ?_); refine wpList_box_own O (M.mat 7 (a)) rfl ?_; clear O; intro g4 w1 O) | ((with_reducible refine at_box 5 ?_); refine wpList_box_own O (M.mat 7 (b)) rfl ?_; clear O; intro g5 w2 O) | ((with_reducible refine at_box 7 ?_); refine wpList_box_own O (M.mat 4 (r)) rfl ?_; clear O; intro g7 w3 O) | ((with_reducible refine at_load 19 ?_); refine wpList_whole rfl O 2 rfl rfl Try.underlying25 rfl (sW _) ?_) | ((with_reducible refine at_load 20 ?_); refine wpList_whole rfl O 1 rfl rfl Try.underlying25 rfl (sW _) ?_) | (go_at_call 10; refine (CR _).mono ?_; rintro e w4 ⟨rfl, hb⟩; replace O := O.call hb; clear hb))
  clear CR
  have OO := O
  clear O
  have O := OO
  clear OO
  refine region_T (fun w2 => Own w w2 [(g7, 27, M.mat 4 r), (g5, 25, M.mat 7 b), (g4, 25, M.mat 7 a)]) [0, 1, 2, 3, 4, 5] 12 [some 24, some 25, some 26, some 27, some 28, some 29] [arr 4 r, arr 7 a, arr 7 b, .int .i64 (n), arr 4 ad, arr 4 q] 1 (by kernel_rfl) (by rfl) (by kernel_rfl) (by rfl) (by rfl) (O.drew) (fun F hF => ?_)
  simp only [fillD, Act.put, List.setIfInBounds_toArray, List.set_cons_zero, List.set_cons_succ] at hF
  subst hF
  refine ⟨⟨does_want rfl (by rfl) (fun w' O K hK => ?_), does_want rfl (by rfl) (fun w' O K hK => ?_), does_want rfl (by rfl) (fun w' O K hK => ?_), does_want rfl (by rfl) (fun w' O K hK => ?_), does_want rfl (by rfl) (fun w' O K hK => ?_), does_want rfl (by rfl) (fun w' O K hK => ?_), trivial⟩, fun w' O => ?_⟩
  · exact wp_whole O 0 rfl rfl Try.underlying27 rfl (sR _) (hK _ O)
  · exact wp_whole O 2 rfl rfl Try.underlying25 rfl (sW _) (hK _ O)
  · exact wp_whole O 1 rfl rfl Try.underlying25 rfl (sW _) (hK _ O)
  · go_simp
    exact hK _ O
  · go_simp
    go_at_call 24
    refine (CA _).mono ?_
    rintro e w2 ⟨rfl, hb⟩
    exact hK _ (O.call hb)
  · go_simp
    go_at_call 23
    refine (CB _).mono ?_
    rintro e w2 ⟨rfl, hb⟩
    exact hK _ (O.call hb)
  refine wpAny_want (i := 6) (by kernel_rfl) rfl (by rfl) (fun K hK => ?_)
  refine wp_put_own O 0 (M.mat 4 (q)) rfl rfl rfl (sR _) (M.mat_len2 _ _ _) (M.mat_one _ _) fun w9 O9 => hK _ _ ?_
  clear O
  have O := O9
  clear O9
  clear hK K
  try simp only [Act.put, List.setIfInBounds_toArray, List.set_cons_zero, List.set_cons_succ]
  refine wpAny_done (by kernel_rfl) ?_ _
  have O9 := Own.as O (l' := [(g7, 27, M.mat 4 q), (g5, 25, M.mat 7 b), (g4, 25, M.mat 7 a)]) rfl
  clear O CA CB
  have O := O9
  clear O9
  go_wp2_with (first | ((with_reducible refine at_load 30 ?_); refine wpList_whole rfl O 0 rfl rfl Try.underlying27 rfl (sR _) ?_) | (go_at_call 25; refine (CQ _).mono ?_; rintro e w15 ⟨rfl, hb⟩; replace O := O.call hb; clear hb) | ((with_reducible refine at_load 33 ?_); refine wpList_whole rfl O 2 rfl rfl Try.underlying25 rfl (sW _) ?_) | ((with_reducible refine at_load 34 ?_); refine wpList_whole rfl O 1 rfl rfl Try.underlying25 rfl (sW _) ?_) | (go_at_call 26; refine (CM _).mono ?_; rintro e w16 ⟨rfl, hb⟩; replace O := O.call hb; clear hb) | ((with_reducible refine at_alloc 9 ?_); refine wpList_alloc_own O (M.mat 5 M.zero) zeroY18 ?_; clear O; intro g9 w17 O) | ((with_reducible refine at_store 9 ?_); refine wpList_put_own O 0 (M.mat 5 (sT)) rfl rfl rfl (sY18 _) (M.mat_len2 _ _ _) (M.mat_one _ _) ?_; clear O; intro w18 O) | ((with_reducible refine at_load 37 ?_); refine wpList_whole rfl O 0 rfl rfl Try.underlying59 rfl (sY18 _) ?_) | ((with_reducible refine at_load 38 ?_); refine wpList_whole rfl O 3 rfl rfl Try.underlying25 rfl (sW _) ?_) | ((with_reducible refine at_load 39 ?_); refine wpList_whole rfl O 1 rfl rfl Try.underlying27 rfl (sR _) ?_) | (go_at_call 27; refine (CS _).mono ?_; rintro e w19 ⟨rfl, hb⟩; replace O := O.call hb; clear hb) | ((with_reducible refine at_alloc 11 ?_); refine wpList_alloc_own O (M.mat 2 M.zero) zeroN18 ?_; clear O; intro g11 w20 O) | ((with_reducible refine at_store 11 ?_); refine wpList_put_own O 0 (M.mat 2 (Y)) rfl rfl rfl (sN18 _) (M.mat_len2 _ _ _) (M.mat_one _ _) ?_; clear O; intro w21 O) | ((with_reducible refine at_load 42 ?_); refine wpList_cell_h (v := .int .i64 (Y0)) rfl O.held 0 rfl CY0.out rfl agg3 rfl ?_))
  have O9 := Own.as O (l' := [(g11, 62, M.mat 2 Y), (g9, 59, M.mat 5 sT), (g7, 27, M.mat 4 q), (g5, 25, M.mat 7 b), (g4, 25, M.mat 7 a)]) rfl
  clear O CQ CM CS
  have OH : Held w _ [(g11, 62, M.mat 2 Y), (g9, 59, M.mat 5 sT), (g7, 27, M.mat 4 q), (g5, 25, M.mat 7 b), (g4, 25, M.mat 7 a)] (gR none 0 []) [] := O9.held.fresh 40 8
  clear O9
  have O := OH
  clear OH
  go_loopw [10, 12] (fun u t_ wr => ∃ (y : Int) (A : Option Addr) (c : Nat), Y0 ≤ y ∧ (y ≤ Y1 + 1 ∨ y = Y0) ∧ u = .slice A (PT (min y r3) r0).length c ∧ t_ = .int .i64 y ∧ Held w wr [(g11, 62, M.mat 2 Y), (g9, 59, M.mat 5 sT), (g7, 27, M.mat 4 q), (g5, 25, M.mat 7 b), (g4, 25, M.mat 7 a)] (gR A c (PT (min y r3) r0)) []) (fun _ t_ _ => (Y1 + 1 - intOf t_).toNat)
  case atStart => exact ⟨Y0, none, 0, Int.le_refl _, .inr rfl, by rw [H0.out]; rfl, rfl, by rw [H0.out]; exact O⟩
  case round =>
    clear O
    obtain ⟨y, A0, c0, y0, y1, rfl, rfl, O⟩ := hrel
    by_cases hly : y ≤ Y1
    · have b1 := HRL.out
      have Wy : wrap64 (y + 1) = y + 1 := IntWalk.wrap64_in _ (by omega)
      have hyb : -4194304 ≤ y ∧ y ≤ 4194304 := by omega
      have hyr : r1 ≤ y ∧ y < r3 := by omega
      have CWy := CW.out y hyb
      have CPy := CP.out y hyb
      have CNy := CN.out y
      have CVy := Lib.hid (CV.out y hyb)
      have HXy := Lib.hid (HX.out · y ⟨y0, hly⟩)
      have HPy := Lib.hid (HP.out · y)
      have HWy := HW.out y ⟨y0, hly⟩
      have HNXy := HNX.out y
      have HCy := Lib.hid (HCV.out · y)
      try dsimp only at HNXy
      generalize X y = xv at CNy HXy HPy HWy HNXy
      generalize rf y = rv at CWy CPy CNy CVy HCy
      generalize SP.pixels (SP.allk rv 8) = pv at CPy CNy
      obtain ⟨x0, ex0⟩ : ∃ z, xv 0 = z := ⟨_, rfl⟩
      have Cx0 := cell_is (n := 2) ex0 (by decide)
      obtain ⟨x1, ex1⟩ : ∃ z, xv 1 = z := ⟨_, rfl⟩
      have Cx1 := cell_is (n := 2) ex1 (by decide)
      rw [ex0, ex1] at HNXy
      rw [ex0] at HWy
      simp only [ex0, ex1] at HXy HPy
      rw [← HWy] at O ⊢
      have HB2 := Lib.hid (And.intro hyb (And.intro hyr HNXy))
      clear b1 hyb hyr HWy HNXy ex0 ex1
      go_wp2_with (first | ((with_reducible refine at_load 45 ?_); refine wpList_cell_h (v := .int .i64 (Y1)) rfl O 0 rfl CY1.out rfl agg3 rfl ?_) | ((with_reducible refine at_load 49 ?_); refine wpList_rowg_h rfl O 1 rfl rfl Try.underlying59 rfl (sY18 _) ?_) | ((with_reducible refine at_load 50 ?_); refine wpList_rowg_h rfl O 4 rfl rfl Try.underlying25 rfl (sW _) ?_) | (go_at_call 28; refine (CWy _).mono ?_; rintro e w11 ⟨rfl, hb⟩; replace O := O.call hb; clear hb) | ((with_reducible refine at_alloc 13 ?_); refine wpList_alloc_h O (M.mat 16 M.zero) zeroV18 ?_; clear O; intro g13 w12 O) | ((with_reducible refine at_store 13 ?_); refine wpList_put_h O 0 (M.mat 16 (rv)) rfl rfl rfl (sV18 _) (M.mat_len2 _ _ _) (M.mat_one _ _) ?_; clear O; intro w13 O))
      have O9 : Held w w13 ((g13, 65, M.mat 16 rv) :: [(g11, 62, M.mat 2 Y), (g9, 59, M.mat 5 sT), (g7, 27, M.mat 4 q), (g5, 25, M.mat 7 b), (g4, 25, M.mat 7 a)]) _ [] := O
      clear O
      have O := O9
      clear O9
      have HD : apart [⟨9, 99, 62, M.mat 2 M.zero, M.mat 2 M.zero⟩] := (by decide : [9, 99].Nodup)
      refine region_S (fun st_ w2 => NB w13 [] [⟨9, 99, 62, M.mat 2 M.zero, M.mat 2 M.zero⟩] st_ w2) [9] 12 10 [some 53, some 54, some 55, some 56, some 57, some 58, some 59, some 60, some 61, some 14] (fun g => [arr 16 rv, arr 2 pv, .pointer (some ⟨g7, 0, none⟩), .int .i64 (q0), .pointer (some ⟨g7, 2, none⟩), .int .i64 (q2), .int .i64 (q2m), arr 2 (SP.mk (q0) (q2m)), arr 2 xv, g 9]) 1 (by kernel_rfl) (by kernel_rfl) (by rfl) (by rfl) (fun _ => rfl) (by decide) ?_ (NB.start (Own.start w13).drew) (fun F hF => ?_)
      · intro i hi
        simp only [List.mem_cons, List.not_mem_nil, or_false] at hi
        rcases hi with rfl
        · exact ⟨fun _ => rfl, [0, 1, 2, 3, 4, 5, 6, 7, 8], by kernel_rfl, fun g v => ⟨rfl, rfl, rfl, rfl, rfl, rfl, rfl, rfl, rfl, trivial⟩⟩
      simp only [fillD, Act.put, List.setIfInBounds_toArray, List.set_cons_zero, List.set_cons_succ] at hF
      have hF2 := funext hF
      clear hF
      subst hF2
      refine ⟨⟨doesN_want (by decide) rfl (fun g => rfl) (fun st w' hS hp K hK => ?_), doesN_want (by decide) rfl (fun g => rfl) (fun st w' hS hp K hK => ?_), doesN_want (by decide) rfl (fun g => rfl) (fun st w' hS hp K hK => ?_), doesN_want (by decide) rfl (fun g => rfl) (fun st w' hS hp K hK => ?_), doesN_want (by decide) rfl (fun g => rfl) (fun st w' hS hp K hK => ?_), doesN_want (by decide) rfl (fun g => rfl) (fun st w' hS hp K hK => ?_), doesN_want (by decide) rfl (fun g => rfl) (fun st w' hS hp K hK => ?_), doesN_want (by decide) rfl (fun g => rfl) (fun st w' hS hp K hK => ?_), doesN_want (by decide) rfl (fun g => rfl) (fun st w' hS hp K hK => ?_), doesC_want (by decide) rfl (fun g => rfl) (fun st w' hS hn hp K hK => ?_), trivial⟩, fun st w' hS hall => ?_⟩
      · try dsimp only
        exact wp_row_h (O.call hS.own.1) 0 rfl rfl Try.underlying65 rfl (sV18 _) (hK _ hS)
      · try dsimp only
        go_simp
        go_at_call 29
        refine (CPy _).mono ?_
        rintro e w2 ⟨rfl, hb⟩
        exact hK _ (hS.call hb)
      · try dsimp only
        go_simp
        exact hK _ hS
      · try dsimp only
        exact wp_cell_h (v := .int .i64 (q0)) (O.call hS.own.1) 3 rfl Cq0.out rfl agg3 rfl (hK _ hS)
      · try dsimp only
        go_simp
        exact hK _ hS
      · try dsimp only
        exact wp_cell_h (v := .int .i64 (q2)) (O.call hS.own.1) 3 rfl Cq2.out rfl agg3 rfl (hK _ hS)
      · try dsimp only
        go_simp
        simp only [V2.out]
        exact hK _ hS
      · try dsimp only
        refine wp_build_own ([(0, .int .i64 (q0)), (1, .int .i64 (q2m))]) ((M.mat 2 (SP.mk (q0) (q2m))).toArray) ?_ (builtN18 _ _) (hK _ hS)
        simp only [List.map_toArray, List.map_cons, List.map_nil]
        rfl
      · try dsimp only
        go_simp
        go_at_call 30
        refine (CNy _).mono ?_
        rintro e w2 ⟨rfl, hb⟩
        exact hK _ (hS.call hb)
      · try dsimp only
        exact hS.alloc HD 0 rfl hn zeroN18 hK
      try dsimp only
      obtain ⟨g14, e14⟩ := hS.ptr 0 rfl (hall 9 (by decide))
      have O3 : Own w13 w' [(g14, 62, M.mat 2 M.zero)] := by
        have h3 := hS.2.2
        rw [nows_cons, NbS.now_same e14 rfl] at h3
        exact h3
      have OH := O
      clear hS O
      have O := O3
      clear O3
      simp only [seen, e14, Option.getD_some]
      clear hall e14
      refine wpAny_want (i := 10) (by kernel_rfl) rfl (by rfl) (fun K hK => ?_)
      refine wp_put_own O 0 (M.mat 2 (xv)) rfl rfl rfl (sN18 _) (M.mat_len2 _ _ _) (M.mat_one _ _) fun w9 O9 => hK _ _ ?_
      clear O
      have O := O9
      clear O9
      clear hK K
      try simp only [Act.put, List.setIfInBounds_toArray, List.set_cons_zero, List.set_cons_succ]
      refine wpAny_done (by kernel_rfl) ?_ _
      have O9 : Held w w9 ((g14, 62, M.mat 2 xv) :: (g13, 65, M.mat 16 rv) :: [(g11, 62, M.mat 2 Y), (g9, 59, M.mat 5 sT), (g7, 27, M.mat 4 q), (g5, 25, M.mat 7 b), (g4, 25, M.mat 7 a)]) _ [] := OH.join18 O
      clear O OH HD CWy CPy CNy
      have O := O9
      clear O9
      go_wp2_with ((with_reducible refine at_load 63 ?_); refine wpList_cell_h (v := .int .i64 (x0)) rfl O 0 rfl Cx0.out rfl agg3 rfl ?_)
      go_loopw [10, 15] (fun u t_ wr => ∃ (x : Int) (A : Option Addr) (c : Nat), x0 ≤ x ∧ (x ≤ x1 + 1 ∨ x = x0) ∧ u = .slice A (PT y (min x r2)).length c ∧ t_ = .int .i64 x ∧ Held w wr ((g14, 62, M.mat 2 xv) :: (g13, 65, M.mat 16 rv) :: [(g11, 62, M.mat 2 Y), (g9, 59, M.mat 5 sT), (g7, 27, M.mat 4 q), (g5, 25, M.mat 7 b), (g4, 25, M.mat 7 a)]) (gR A c (PT y (min x r2))) []) (fun _ t_ _ => (x1 + 1 - intOf t_).toNat)
      case atStart => exact ⟨x0, A0, c0, Int.le_refl _, .inr rfl, rfl, rfl, O⟩
      case round =>
        clear O
        obtain ⟨x, A, c, hx0, hx1, rfl, rfl, O⟩ := hrel
        by_cases hlx : x ≤ x1
        · have b1 := HRL.out
          obtain ⟨b2, b3, b4⟩ := HB2.out
          have Wx : wrap64 (x + 1) = x + 1 := IntWalk.wrap64_in _ (by omega)
          have hxb : -4194304 ≤ x ∧ x ≤ 4194304 := by omega
          have C1 := CVy.out x (by omega)
          have C2 := CX.out x y hxb b2
          have hcx := HCy.out x hxb
          rw [← hcx] at C1
          have hlen := HLEN.out (min x r2) y (by omega) b3
          have HPx := HPy.out x ⟨hx0, hlx⟩
          have HNx := HN.out x y
          have HYx := HY.out x y
          have HZx := HZ.out x y
          obtain ⟨LL, hLL⟩ : ∃ LL, PT y (min x r2) = LL := ⟨_, rfl⟩
          rw [hLL] at O hlen HPx ⊢
          have HLk : Hid (LL.length + 1 ≤ 1000000000) := Lib.hid (by omega)
          have HM : Hid (x + 1 ≤ x1 + 1) := Lib.hid (by omega)
          clear b1 b2 b3 b4 hLL hlen hcx hxb
          change ∀ w, Calls _ _ _ w (RetZ w (SM.zz a b x y) (SM.cc a b x y)) at C2
          generalize SM.zz a b x y = z at C2 HYx
          generalize SM.cc a b x y = qc at C2 HYx
          generalize SM.cvr a b n x y = v at *
          by_cases hv : v = 0
          · have K1 : decide (v > 0) = false := by simp; omega
            have K2 : decide (0 < v) = false := by simp; omega
            have HR := Lib.hid (HPx.trans (by rw [HNx hv, List.append_nil]))
            clear HPx HNx HYx HZx hv C2
            go_wp2_with (first | ((with_reducible refine at_load 66 ?_); refine wpList_cell_h (v := .int .i64 (x1)) rfl O 0 rfl Cx1.out rfl agg3 rfl ?_) | ((with_reducible refine at_load 70 ?_); refine wpList_rowg_h rfl O 1 rfl rfl Try.underlying65 rfl (sV18 _) ?_) | (go_at_call 31; refine (C1 _).mono ?_; rintro e w19 ⟨rfl, hb⟩; replace O := O.call hb; clear hb))
            go_roundw
            case rel => exact ⟨x + 1, A, c, by omega, .inl HM.out, by rw [HR.out], by first | rfl | exact congrArg (Value.int IntKind.i64) Wx, by rw [HR.out]; exact O⟩
            case measure => first | (rw [Wx]; simp only [intOf]; omega) | (simp only [intOf]; omega)
          · have K1 : decide (v > 0) = true := by simp; omega
            have K2 : decide (0 < v) = true := by simp; omega
            have HR := Lib.hid (HPx.trans (by rw [HYx hv]))
            clear HPx HNx HYx HZx hv
            go_wp2_with (first | ((with_reducible refine at_load 66 ?_); refine wpList_cell_h (v := .int .i64 (x1)) rfl O 0 rfl Cx1.out rfl agg3 rfl ?_) | ((with_reducible refine at_load 70 ?_); refine wpList_rowg_h rfl O 1 rfl rfl Try.underlying65 rfl (sV18 _) ?_) | (go_at_call 31; refine (C1 _).mono ?_; rintro e w19 ⟨rfl, hb⟩; replace O := O.call hb; clear hb) | ((with_reducible refine at_load 76 ?_); refine wpList_rowg_h rfl O 6 rfl rfl Try.underlying25 rfl (sW _) ?_) | ((with_reducible refine at_load 77 ?_); refine wpList_rowg_h rfl O 5 rfl rfl Try.underlying25 rfl (sW _) ?_) | (go_at_call 32; refine (C2 _).mono ?_; rintro e w20 ⟨rfl, hb⟩; replace O := O.call hb; clear hb) | ((with_reducible refine at_alloc 18 ?_); refine wpList_alloc_h O (M.mat 4 M.zero) zeroC ?_; clear O; intro g18 w21 O) | ((with_reducible refine at_store 18 ?_); refine wpList_put_h O 0 (M.mat 4 (qc)) rfl rfl rfl (sC _) (M.mat_len2 _ _ _) (M.mat_one _ _) ?_; clear O; intro w22 O) | ((with_reducible refine at_load 87 ?_); refine wpList_rowg_h rfl O 0 rfl rfl Try.underlying23 rfl (sC _) ?_) | ((with_reducible refine at_build 89 ?_); refine wpList_build_g rfl ([(0, .int .i64 x), (1, .int .i64 y), (2, .int .i64 z), (3, arr 4 qc), (4, .int .i64 v)]) ((M.mat 8 (SM.fr x y z qc v)).toArray) ?_ (builtF _ _ _ _ _) ?_; (focus (simp only [List.map_toArray, List.map_cons, List.map_nil]; rfl))) | ((with_reducible refine at_lit 90 ?_); refine wpList_lit_h rfl O 8 (.agg (M.mat 8 M.zero).toArray) infoG Try.underlying34 [(0, arr 8 (SM.fr x y z qc v))] (gC [SM.fr x y z qc v]) rfl (gC_len _) (by decide) (by decide) (by kernel_rfl) ?_; clear O; intro g90 u5 O) | ((with_reducible refine at_app 91 ?_); refine wpList_app_huge rfl O (.agg (M.mat 8 M.zero).toArray) 64 infoGb rfl (Nat.succ_pos _) Try.underlying34 rfl (gE w.heap.size (some ⟨g90, 0, none⟩) 1 [SM.fr x y z qc v]) (O.mem List.mem_cons_self) rfl rfl (gC_one _) (HLk.out) (by decide) ?_; clear O; intro va u6 O; obtain ⟨TA, Tc, e1, O2⟩ := gR_of (l := LL) (m := [SM.fr x y z qc v]) rfl (O.pick (es' := []) (fun y hy => List.mem_cons_of_mem _ hy)); subst e1; clear O; have O := O2; clear O2))
            go_roundw
            case rel => exact ⟨x + 1, TA, Tc, by omega, .inl HM.out, by rw [HR.out]; first | done | rfl | simp, by first | rfl | exact congrArg (Value.int IntKind.i64) Wx, by rw [HR.out]; exact O.tail⟩
            case measure => first | (rw [Wx]; simp only [intOf]; omega) | (simp only [intOf]; omega)
        · have HR := Lib.hid (HXy.out x ⟨hx0, by first | exact hlx | exact Int.not_le.1 hlx⟩)
          have HM : Hid (y + 1 ≤ Y1 + 1) := Lib.hid (by omega)
          go_wp2_with ((with_reducible refine at_load 66 ?_); refine wpList_cell_h (v := .int .i64 (x1)) rfl O 0 rfl Cx1.out rfl agg3 rfl ?_)
          go_roundw
          case rel => exact ⟨y + 1, A, c, by omega, .inl HM.out, by rw [HR.out], by first | rfl | exact congrArg (Value.int IntKind.i64) Wy, by rw [← HR.out]; exact O.tail.tail⟩
          case measure => first | (rw [Wy]; simp only [intOf]; omega) | (simp only [intOf]; omega)
    · have HE2 := Lib.hid (HE.out y ⟨y0, by first | exact hly | exact Int.not_le.1 hly⟩)
      go_wp2_with ((with_reducible refine at_load 45 ?_); refine wpList_cell_h (v := .int .i64 (Y1)) rfl O 0 rfl CY1.out rfl agg3 rfl ?_)
      obtain ⟨A2, c2, hv, OD⟩ := O.done
      dsimp only [gR] at hv OD
      injection hv with e1 e2 e3
      subst e1 e3
      go_ret
      exact ⟨A0, c0, by rw [← HE2.out]; rfl, by rw [← HE2.out]; exact OD.arg List.mem_cons_self, O.below⟩
end Go.Proofs.Ytdkppkdoconfhaa
