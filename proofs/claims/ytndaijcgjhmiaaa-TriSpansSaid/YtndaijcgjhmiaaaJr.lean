/- Contracts of the program: Area, roundedUp, firstFrom, isKept, between, crossed, keeps. -/
import Derived.Test.YtndaijcgjhmiaaaJq
import Derived.Test.YtndaijcgjhmiaaaJc
namespace Go.Proofs.Ytndaijcgjhmiaaa
open Go.ChangeShapes Go.WideShapes Go.ChangeAt Go.RowKit
set_option linter.unusedVariables false
set_option linter.unusedSimpArgs false

theorem sizeD20 : (Try.prog.info? 60).map (·.size) = some 4 := by kernel_rfl
theorem sD20 (a : Nat → Int) : (Try.prog.info? 60).map (·.size) = some (M.mat 4 a).length := by rw [M.mat_len]; exact sizeD20
theorem zeroD20 : (Try.prog.info? 60).map (·.zero) = some (some (.agg (M.mat 4 M.zero).toArray)) := by kernel_rfl
theorem sizeOfD20 (w : World) : (sizeOf 60).run Try.prog w = .ok 4 w := by kernel_rfl
theorem infoD20 : (Try.prog.info? 60).map (fun i => (i.zero, i.size)) = some (some (.agg (M.mat 4 M.zero).toArray), 4) := by kernel_rfl
theorem builtD20 (x y r u : Int) : Try.prog.built 60 [(0, .int .i64 x), (1, .int .i64 y), (2, .int .i64 r), (3, .int .i64 u)] = some (M.mat 4 (RC.mk x y r u)).toArray := by kernel_rfl
namespace TR
theorem tdiv_lim {n d B : Int} (hd : 0 < d) (h : -B ≤ n ∧ n ≤ B) : -B ≤ n.tdiv d ∧ n.tdiv d ≤ B := by
  rcases Int.le_total 0 n with g | g
  · rw [Int.tdiv_eq_ediv_of_nonneg g]
    have := Int.ediv_nonneg g (Int.le_of_lt hd)
    have := Int.ediv_le_self d g
    omega
  · have e : n.tdiv d = -((-n) / d) := by rw [← Int.tdiv_eq_ediv_of_nonneg (show 0 ≤ -n by omega), Int.neg_tdiv, Int.neg_neg]
    have := Int.ediv_nonneg (show 0 ≤ -n by omega) (Int.le_of_lt hd)
    have := Int.ediv_le_self d (show 0 ≤ -n by omega)
    omega
/-- A side whose numbers are small. -/
def Sd (s : Nat → Int) : Prop := ((-268435456 ≤ s 0 ∧ s 0 ≤ 268435456) ∧ (-268435456 ≤ s 1 ∧ s 1 ≤ 268435456)) ∧ (-536870912 ≤ s 2 ∧ s 2 ≤ 536870912) ∧ (-536870912 ≤ s 3 ∧ s 3 ≤ 536870912)
theorem sd_side {p q : Nat → Int} (hp : May p) (hq : May q) : Sd (side p q) := by
  obtain ⟨⟨h1, h2⟩, h3, h4⟩ := hp
  obtain ⟨⟨h5, h6⟩, h7, h8⟩ := hq
  show ((-268435456 ≤ p 0 ∧ p 0 ≤ 268435456) ∧ (-268435456 ≤ p 1 ∧ p 1 ≤ 268435456)) ∧ (-536870912 ≤ q 0 - p 0 ∧ q 0 - p 0 ≤ 536870912) ∧ (-536870912 ≤ q 1 - p 1 ∧ q 1 - p 1 ≤ 536870912)
  omega
theorem sds_sd {a b c : Nat → Int} (ha : May a) (hb : May b) (hc : May c) : ∀ s ∈ sds a b c, Sd s := by
  intro s hs
  unfold sds at hs
  split at hs
  · simp only [List.mem_cons, List.not_mem_nil, or_false] at hs
    rcases hs with rfl | rfl | rfl
    · exact sd_side ha hc
    · exact sd_side hc hb
    · exact sd_side hb ha
  · split at hs
    · cases hs
    · simp only [List.mem_cons, List.not_mem_nil, or_false] at hs
      rcases hs with rfl | rfl | rfl
      · exact sd_side ha hb
      · exact sd_side hb hc
      · exact sd_side hc ha
end TR
set_option maxHeartbeats 4000000 in
theorem parea20 (a b c : Nat → Int) (h : TR.Near a b c) (w : World) : Calls Try.prog 15 #[arr 7 a, arr 7 b, arr 7 c] w fun e w' => e = .returned (.int .i64 (TR.ar a b c)) ∧ Below w.heap.size w w' := by
  have O := Own.start w
  obtain ⟨⟨h1, h2⟩, h3, h4⟩ := h
  have HE : TR.ar a b c = (b 0 - a 0) * (c 1 - a 1) - (b 1 - a 1) * (c 0 - a 0) := rfl
  obtain ⟨a0, ea0⟩ : ∃ z, a 0 = z := ⟨_, rfl⟩
  have Ca0 := cell_is (n := 7) ea0 (by decide)
  obtain ⟨a1, ea1⟩ : ∃ z, a 1 = z := ⟨_, rfl⟩
  have Ca1 := cell_is (n := 7) ea1 (by decide)
  obtain ⟨b0, eb0⟩ : ∃ z, b 0 = z := ⟨_, rfl⟩
  have Cb0 := cell_is (n := 7) eb0 (by decide)
  obtain ⟨b1, eb1⟩ : ∃ z, b 1 = z := ⟨_, rfl⟩
  have Cb1 := cell_is (n := 7) eb1 (by decide)
  obtain ⟨c0, ec0⟩ : ∃ z, c 0 = z := ⟨_, rfl⟩
  have Cc0 := cell_is (n := 7) ec0 (by decide)
  obtain ⟨c1, ec1⟩ : ∃ z, c 1 = z := ⟨_, rfl⟩
  have Cc1 := cell_is (n := 7) ec1 (by decide)
  rw [ea0, ea1, eb0, eb1, ec0, ec1] at HE
  rw [ea0, eb0] at h1
  rw [ea1, ec1] at h2
  rw [ea1, eb1] at h3
  rw [ea0, ec0] at h4
  obtain ⟨d0, hd0⟩ : ∃ z, b0 - a0 = z := ⟨_, rfl⟩
  obtain ⟨d1, hd1⟩ : ∃ z, c1 - a1 = z := ⟨_, rfl⟩
  obtain ⟨d2, hd2⟩ : ∃ z, b1 - a1 = z := ⟨_, rfl⟩
  obtain ⟨d3, hd3⟩ : ∃ z, c0 - a0 = z := ⟨_, rfl⟩
  rw [hd0, hd1, hd2, hd3] at HE
  rw [hd0] at h1
  rw [hd1] at h2
  rw [hd2] at h3
  rw [hd3] at h4
  have m1 := TR.mul_lim h1 h2
  have m2 := TR.mul_lim h3 h4
  obtain ⟨m, hm⟩ : ∃ z, d0 * d1 = z := ⟨_, rfl⟩
  obtain ⟨n, hn⟩ : ∃ z, d2 * d3 = z := ⟨_, rfl⟩
  obtain ⟨r, hr⟩ : ∃ z, m - n = z := ⟨_, rfl⟩
  rw [hm, hn, hr] at HE
  rw [hm] at m1
  rw [hn] at m2
  have W0 : wrap64 (b0 - a0) = d0 := (IntWalk.wrap64_in _ (by omega)).trans hd0
  have W1 : wrap64 (c1 - a1) = d1 := (IntWalk.wrap64_in _ (by omega)).trans hd1
  have W2 : wrap64 (b1 - a1) = d2 := (IntWalk.wrap64_in _ (by omega)).trans hd2
  have W3 : wrap64 (c0 - a0) = d3 := (IntWalk.wrap64_in _ (by omega)).trans hd3
  have W4 : wrap64 (d0 * d1) = m := (IntWalk.wrap64_in _ (by omega)).trans hm
  have W5 : wrap64 (d2 * d3) = n := (IntWalk.wrap64_in _ (by omega)).trans hn
  have W6 : wrap64 (m - n) = r := (IntWalk.wrap64_in _ (by omega)).trans hr
  replace HE := Lib.hid HE
  clear ea0 ea1 eb0 eb1 ec0 ec1 hd0 hd1 hd2 hd3 hm hn hr h1 h2 h3 h4 m1 m2
  go_enter Try.func15, Try.ntmps15
  go_wp2_with (first | ((with_reducible refine at_box 3 ?_); refine wpList_box_own O (M.mat 7 (a)) rfl ?_; clear O; intro g3 w1 O) | ((with_reducible refine at_box 4 ?_); refine wpList_box_own O (M.mat 7 (b)) rfl ?_; clear O; intro g4 w2 O) | ((with_reducible refine at_box 5 ?_); refine wpList_box_own O (M.mat 7 (c)) rfl ?_; clear O; intro g5 w3 O) | ((with_reducible refine at_load 8 ?_); refine wpList_cell_h (v := .int .i64 (b0)) rfl O.held 1 rfl Cb0.out rfl agg3 rfl ?_) | ((with_reducible refine at_load 10 ?_); refine wpList_cell_h (v := .int .i64 (a0)) rfl O.held 2 rfl Ca0.out rfl agg3 rfl ?_) | ((with_reducible refine at_load 13 ?_); refine wpList_cell_h (v := .int .i64 (c1)) rfl O.held 0 rfl Cc1.out rfl agg3 rfl ?_) | ((with_reducible refine at_load 15 ?_); refine wpList_cell_h (v := .int .i64 (a1)) rfl O.held 2 rfl Ca1.out rfl agg3 rfl ?_) | ((with_reducible refine at_load 19 ?_); refine wpList_cell_h (v := .int .i64 (b1)) rfl O.held 1 rfl Cb1.out rfl agg3 rfl ?_) | ((with_reducible refine at_load 21 ?_); refine wpList_cell_h (v := .int .i64 (a1)) rfl O.held 2 rfl Ca1.out rfl agg3 rfl ?_) | ((with_reducible refine at_load 24 ?_); refine wpList_cell_h (v := .int .i64 (c0)) rfl O.held 0 rfl Cc0.out rfl agg3 rfl ?_) | ((with_reducible refine at_load 26 ?_); refine wpList_cell_h (v := .int .i64 (a0)) rfl O.held 2 rfl Ca0.out rfl agg3 rfl ?_))
  go_ret
  exact ⟨by rw [HE.out]; first | rfl | exact congrArg (fun z => Ending.returned (Value.int IntKind.i64 z)) W6, O.below⟩
theorem parea20_any (a b c : Nat → Int) (ha : TR.May a) (hb : TR.May b) (hc : TR.May c) (w : World) : Calls Try.prog 15 #[arr 7 a, arr 7 b, arr 7 c] w fun e w' => e = .returned (.int .i64 (TR.ar a b c)) ∧ Below w.heap.size w w' := parea20 a b c (TR.near_may ha hb hc) w
set_option maxHeartbeats 2000000 in
theorem pup20 (n d : Int) (hd : 0 < d) (h : -4611686018427387904 ≤ n ∧ n ≤ 4611686018427387904) (w : World) : Calls Try.prog 34 #[.int .i64 n, .int .i64 d] w fun e w' => e = .returned (.int .i64 (TR.up n d)) ∧ w' = w := by
  have lq := TR.tdiv_lim hd h
  obtain ⟨q, hq⟩ : ∃ z, n.tdiv d = z := ⟨_, rfl⟩
  obtain ⟨r, hr⟩ : ∃ z, n.tmod d = z := ⟨_, rfl⟩
  rw [hq] at lq
  obtain ⟨lr1, lr2⟩ := lq
  have W1 : wrap64 q = q := IntWalk.wrap64_in _ (by omega)
  have W2 : wrap64 (q + 1) = q + 1 := IntWalk.wrap64_in _ (by omega)
  have hdn : ¬ d = 0 := by omega
  by_cases hlt : 0 < r
  · have HE := Lib.hid (TR.up_yes hd hq hr hlt)
    clear h lr1 lr2 hd
    go_enter Try.func34, Try.ntmps34
    go_wp2_with fail
    go_ret
    exact ⟨by rw [HE.out]; first | rfl | exact congrArg (fun z => Ending.returned (Value.int IntKind.i64 z)) W2, rfl⟩
  · have HE := Lib.hid (TR.up_no hd hq hr hlt)
    clear h lr1 lr2 hd
    go_enter Try.func34, Try.ntmps34
    go_wp2_with fail
    go_ret
    exact ⟨by rw [HE.out]; rfl, rfl⟩
theorem pff20 (u : Int) (h : -1073741824 ≤ u ∧ u ≤ 1073741824) (w : World) : Calls Try.prog 30 #[.int .i64 u] w fun e w' => e = .returned (.int .i64 (TR.ff u)) ∧ w' = w := by
  have HE : TR.ff u = TR.up (u - 128) 256 := rfl
  obtain ⟨v, hv⟩ : ∃ z, u - 128 = z := ⟨_, rfl⟩
  rw [hv] at HE
  have C := fun w => pup20 v 256 (by decide) (by omega) w
  rw [← HE] at C
  clear HE
  generalize TR.ff u = z at *
  have W1 : wrap64 (u - 128) = v := (IntWalk.wrap64_in _ (by omega)).trans hv
  clear hv h
  go_enter Try.func30, Try.ntmps30
  go_wp2_with (go_at_call 34; refine (C _).mono ?_; rintro e w' ⟨rfl, rfl⟩)
  go_ret
  exact ⟨rfl, rfl⟩
set_option maxHeartbeats 4000000 in
theorem pkept20 (s : Nat → Int) (w : World) : Calls Try.prog 32 #[arr 4 s] w fun e w' => e = .returned (.bool (TR.kept s)) ∧ Below w.heap.size w w' := by
  have O := Own.start w
  have HE : TR.kept s = (decide (s 3 < 0) || (decide (s 3 = 0) && decide (s 2 < 0))) := rfl
  obtain ⟨s0, es0⟩ : ∃ z, s 0 = z := ⟨_, rfl⟩
  have Cs0 := cell_is (n := 4) es0 (by decide)
  obtain ⟨s1, es1⟩ : ∃ z, s 1 = z := ⟨_, rfl⟩
  have Cs1 := cell_is (n := 4) es1 (by decide)
  obtain ⟨s2, es2⟩ : ∃ z, s 2 = z := ⟨_, rfl⟩
  have Cs2 := cell_is (n := 4) es2 (by decide)
  obtain ⟨s3, es3⟩ : ∃ z, s 3 = z := ⟨_, rfl⟩
  have Cs3 := cell_is (n := 4) es3 (by decide)
  rw [es2, es3] at HE
  clear es0 es1 es2 es3 Cs0 Cs1
  have g4 : (s3 == 0) = decide (s3 = 0) := rfl
  cases z1 : decide (s3 < 0)
  · rw [z1] at HE
    cases z2 : decide (s3 = 0)
    · rw [z2] at HE g4
      replace HE := Lib.hid HE
      go_enter Try.func32, Try.ntmps32
      go_wp2_with (first | ((with_reducible refine at_box 1 ?_); refine wpList_box_own O (M.mat 4 (s)) rfl ?_; clear O; intro g1 w1 O) | ((with_reducible refine at_load 4 ?_); refine wpList_cell_h (v := .int .i64 (s3)) rfl O.held 0 rfl Cs3.out rfl agg3 rfl ?_) | ((with_reducible refine at_load 8 ?_); refine wpList_cell_h (v := .int .i64 (s3)) rfl O.held 0 rfl Cs3.out rfl agg3 rfl ?_))
      go_ret
      exact ⟨by rw [HE.out]; rfl, O.below⟩
    · rw [z2] at HE g4
      cases z3 : decide (s2 < 0)
      all_goals
        rw [z3] at HE
        replace HE := Lib.hid HE
        go_enter Try.func32, Try.ntmps32
        go_wp2_with (first | ((with_reducible refine at_box 1 ?_); refine wpList_box_own O (M.mat 4 (s)) rfl ?_; clear O; intro g1 w1 O) | ((with_reducible refine at_load 4 ?_); refine wpList_cell_h (v := .int .i64 (s3)) rfl O.held 0 rfl Cs3.out rfl agg3 rfl ?_) | ((with_reducible refine at_load 8 ?_); refine wpList_cell_h (v := .int .i64 (s3)) rfl O.held 0 rfl Cs3.out rfl agg3 rfl ?_) | ((with_reducible refine at_load 12 ?_); refine wpList_cell_h (v := .int .i64 (s2)) rfl O.held 0 rfl Cs2.out rfl agg3 rfl ?_))
        go_ret
        exact ⟨by rw [HE.out]; rfl, O.below⟩
  · rw [z1] at HE
    replace HE := Lib.hid HE
    go_enter Try.func32, Try.ntmps32
    go_wp2_with (first | ((with_reducible refine at_box 1 ?_); refine wpList_box_own O (M.mat 4 (s)) rfl ?_; clear O; intro g1 w1 O) | ((with_reducible refine at_load 4 ?_); refine wpList_cell_h (v := .int .i64 (s3)) rfl O.held 0 rfl Cs3.out rfl agg3 rfl ?_))
    go_ret
    exact ⟨by rw [HE.out]; rfl, O.below⟩
set_option maxHeartbeats 4000000 in
theorem pbetw20 (p q : Nat → Int) (hp : TR.May p) (hq : TR.May q) (w : World) : Calls Try.prog 28 #[arr 7 p, arr 7 q] w fun e w' => e = .returned (arr 4 (TR.side p q)) ∧ Below w.heap.size w w' := by
  have O := Own.start w
  have HE : TR.side p q = RC.mk (p 0) (p 1) (q 0 - p 0) (q 1 - p 1) := rfl
  obtain ⟨⟨h1, h2⟩, h3, h4⟩ := hp
  obtain ⟨⟨h5, h6⟩, h7, h8⟩ := hq
  obtain ⟨p0, ep0⟩ : ∃ z, p 0 = z := ⟨_, rfl⟩
  have Cp0 := cell_is (n := 7) ep0 (by decide)
  obtain ⟨p1, ep1⟩ : ∃ z, p 1 = z := ⟨_, rfl⟩
  have Cp1 := cell_is (n := 7) ep1 (by decide)
  obtain ⟨q0, eq0⟩ : ∃ z, q 0 = z := ⟨_, rfl⟩
  have Cq0 := cell_is (n := 7) eq0 (by decide)
  obtain ⟨q1, eq1⟩ : ∃ z, q 1 = z := ⟨_, rfl⟩
  have Cq1 := cell_is (n := 7) eq1 (by decide)
  rw [ep0] at h1 h2 HE
  rw [ep1] at h3 h4 HE
  rw [eq0] at h5 h6 HE
  rw [eq1] at h7 h8 HE
  obtain ⟨d0, hd0⟩ : ∃ z, q0 - p0 = z := ⟨_, rfl⟩
  obtain ⟨d1, hd1⟩ : ∃ z, q1 - p1 = z := ⟨_, rfl⟩
  rw [hd0, hd1] at HE
  have W0 : wrap64 (q0 - p0) = d0 := (IntWalk.wrap64_in _ (by omega)).trans hd0
  have W1 : wrap64 (q1 - p1) = d1 := (IntWalk.wrap64_in _ (by omega)).trans hd1
  replace HE := Lib.hid HE
  clear hd0 hd1 ep0 ep1 eq0 eq1 h1 h2 h3 h4 h5 h6 h7 h8
  go_enter Try.func28, Try.ntmps28
  go_wp2_with (first | ((with_reducible refine at_box 2 ?_); refine wpList_box_own O (M.mat 7 (p)) rfl ?_; clear O; intro g2 w1 O) | ((with_reducible refine at_box 3 ?_); refine wpList_box_own O (M.mat 7 (q)) rfl ?_; clear O; intro g3 w2 O) | ((with_reducible refine at_alloc 4 ?_); refine wpList_alloc_own O (M.mat 4 M.zero) zeroD20 ?_; clear O; intro g4 w3 O) | ((with_reducible refine at_load 6 ?_); refine wpList_cell_h (v := .int .i64 (p0)) rfl O.held 2 rfl Cp0.out rfl agg3 rfl ?_) | ((with_reducible refine at_load 8 ?_); refine wpList_cell_h (v := .int .i64 (p1)) rfl O.held 2 rfl Cp1.out rfl agg3 rfl ?_) | ((with_reducible refine at_load 10 ?_); refine wpList_cell_h (v := .int .i64 (q0)) rfl O.held 1 rfl Cq0.out rfl agg3 rfl ?_) | ((with_reducible refine at_load 12 ?_); refine wpList_cell_h (v := .int .i64 (p0)) rfl O.held 2 rfl Cp0.out rfl agg3 rfl ?_) | ((with_reducible refine at_load 15 ?_); refine wpList_cell_h (v := .int .i64 (q1)) rfl O.held 1 rfl Cq1.out rfl agg3 rfl ?_) | ((with_reducible refine at_load 17 ?_); refine wpList_cell_h (v := .int .i64 (p1)) rfl O.held 2 rfl Cp1.out rfl agg3 rfl ?_) | ((with_reducible refine at_build 19 ?_); refine wpList_build_g rfl ([(0, .int .i64 p0), (1, .int .i64 p1), (2, .int .i64 d0), (3, .int .i64 d1)]) ((M.mat 4 (RC.mk p0 p1 d0 d1)).toArray) ?_ (builtD20 _ _ _ _) ?_; (focus (simp only [List.map_toArray, List.map_cons, List.map_nil]; rfl))) | ((with_reducible refine at_store 4 ?_); refine wpList_put_own O 0 (M.mat 4 (RC.mk p0 p1 d0 d1)) rfl rfl rfl (sD20 _) (M.mat_len2 _ _ _) (M.mat_one _ _) ?_; clear O; intro w4 O))
  exact bodyPost_ret (v := arr 4 (TR.side p q)) (by rw [HE.out]; exact res_h rfl O.held 0 rfl rfl Try.underlying60 rfl (sD20 _)) rfl ⟨rfl, O.below⟩
set_option maxHeartbeats 8000000 in
theorem pcross20 (s : Nat → Int) (y : Int) (h : TR.Sd s) (h3 : s 3 ≠ 0) (hy : -4194304 ≤ y ∧ y ≤ 4194304) (w : World) : Calls Try.prog 31 #[arr 4 s, .int .i64 y] w fun e w' => e = .returned (.int .i64 (TR.crossed s y)) ∧ Below w.heap.size w w' := by
  have O := Own.start w
  have HE : TR.crossed s y = if s 3 < 0 then TR.up (-(s 2 * (256 * y + 128 - s 1) + s 3 * (s 0 - 128))) (-256 * s 3) else TR.up (s 2 * (256 * y + 128 - s 1) + s 3 * (s 0 - 128)) (256 * s 3) := rfl
  obtain ⟨⟨b0, b1⟩, b2, b3⟩ := h
  obtain ⟨s0, es0⟩ : ∃ z, s 0 = z := ⟨_, rfl⟩
  have Cs0 := cell_is (n := 4) es0 (by decide)
  obtain ⟨s1, es1⟩ : ∃ z, s 1 = z := ⟨_, rfl⟩
  have Cs1 := cell_is (n := 4) es1 (by decide)
  obtain ⟨s2, es2⟩ : ∃ z, s 2 = z := ⟨_, rfl⟩
  have Cs2 := cell_is (n := 4) es2 (by decide)
  obtain ⟨s3, es3⟩ : ∃ z, s 3 = z := ⟨_, rfl⟩
  have Cs3 := cell_is (n := 4) es3 (by decide)
  rw [es0] at b0 HE
  rw [es1] at b1 HE
  rw [es2] at b2 HE
  rw [es3] at b3 HE h3
  obtain ⟨e1, he1⟩ : ∃ z, 256 * y = z := ⟨_, rfl⟩
  obtain ⟨e2, he2⟩ : ∃ z, e1 + 128 = z := ⟨_, rfl⟩
  obtain ⟨e3, he3⟩ : ∃ z, e2 - s1 = z := ⟨_, rfl⟩
  obtain ⟨f1, hf1⟩ : ∃ z, s0 - 128 = z := ⟨_, rfl⟩
  rw [he1, he2, he3, hf1] at HE
  have m1 := TR.mul_lim (x := s2) (y := e3) (A := 536870912) (B := 2000000000) b2 (by omega)
  have m2 := TR.mul_lim (x := s3) (y := f1) (A := 536870912) (B := 2000000000) b3 (by omega)
  obtain ⟨m, hm⟩ : ∃ z, s2 * e3 = z := ⟨_, rfl⟩
  obtain ⟨n, hn⟩ : ∃ z, s3 * f1 = z := ⟨_, rfl⟩
  obtain ⟨r, hr⟩ : ∃ z, m + n = z := ⟨_, rfl⟩
  obtain ⟨k, hk⟩ : ∃ z, -r = z := ⟨_, rfl⟩
  obtain ⟨d, hd⟩ : ∃ z, 256 * s3 = z := ⟨_, rfl⟩
  obtain ⟨j, hj⟩ : ∃ z, -256 * s3 = z := ⟨_, rfl⟩
  rw [hm] at m1
  rw [hn] at m2
  rw [hm, hn, hr, hk, hd, hj] at HE
  have W0 : wrap64 (256 * y) = e1 := (IntWalk.wrap64_in _ (by omega)).trans he1
  have W1 : wrap64 (e1 + 128) = e2 := (IntWalk.wrap64_in _ (by omega)).trans he2
  have W2 : wrap64 (e2 - s1) = e3 := (IntWalk.wrap64_in _ (by omega)).trans he3
  have W3 : wrap64 (s0 - 128) = f1 := (IntWalk.wrap64_in _ (by omega)).trans hf1
  have W4 : wrap64 (s2 * e3) = m := (IntWalk.wrap64_in _ (by omega)).trans hm
  have W5 : wrap64 (s3 * f1) = n := (IntWalk.wrap64_in _ (by omega)).trans hn
  have W6 : wrap64 (m + n) = r := (IntWalk.wrap64_in _ (by omega)).trans hr
  have W7 : wrap64 (-r) = k := (IntWalk.wrap64_in _ (by omega)).trans hk
  have W8 : wrap64 (256 * s3) = d := (IntWalk.wrap64_in _ (by omega)).trans hd
  have W9 : wrap64 (-256 * s3) = j := (IntWalk.wrap64_in _ (by omega)).trans hj
  have V9 : wrap64 (-(256 * s3)) = j := by rw [← W9]; congr 1; omega
  by_cases hneg : s3 < 0
  · rw [if_pos hneg] at HE
    have C := fun w => pup20 k j (by omega) (by omega) w
    rw [← HE] at C
    clear HE
    generalize TR.crossed s y = z at *
    have K1 : decide (s3 < 0) = true := decide_eq_true hneg
    clear he1 he2 he3 hf1 hm hn hr hk hd hj m1 m2 b0 b1 b2 b3 hy h3 hneg es0 es1 es2 es3
    go_enter Try.func31, Try.ntmps31
    go_wp2_with (first | ((with_reducible refine at_box 2 ?_); refine wpList_box_own O (M.mat 4 (s)) rfl ?_; clear O; intro g2 w1 O) | ((with_reducible refine at_load 7 ?_); refine wpList_cell_h (v := .int .i64 (s2)) rfl O.held 0 rfl Cs2.out rfl agg3 rfl ?_) | ((with_reducible refine at_load 12 ?_); refine wpList_cell_h (v := .int .i64 (s1)) rfl O.held 0 rfl Cs1.out rfl agg3 rfl ?_) | ((with_reducible refine at_load 16 ?_); refine wpList_cell_h (v := .int .i64 (s3)) rfl O.held 0 rfl Cs3.out rfl agg3 rfl ?_) | ((with_reducible refine at_load 18 ?_); refine wpList_cell_h (v := .int .i64 (s0)) rfl O.held 0 rfl Cs0.out rfl agg3 rfl ?_) | ((with_reducible refine at_load 23 ?_); refine wpList_cell_h (v := .int .i64 (s3)) rfl O.held 0 rfl Cs3.out rfl agg3 rfl ?_) | ((with_reducible refine at_load 28 ?_); refine wpList_cell_h (v := .int .i64 (s3)) rfl O.held 0 rfl Cs3.out rfl agg3 rfl ?_) | (go_at_call 34; refine (C _).mono ?_; rintro e w' ⟨rfl, rfl⟩))
    go_ret
    exact ⟨rfl, O.below⟩
  · rw [if_neg hneg] at HE
    have C := fun w => pup20 r d (by omega) (by omega) w
    rw [← HE] at C
    clear HE
    generalize TR.crossed s y = z at *
    have K1 : decide (s3 < 0) = false := decide_eq_false hneg
    clear he1 he2 he3 hf1 hm hn hr hk hd hj m1 m2 b0 b1 b2 b3 hy h3 hneg es0 es1 es2 es3
    go_enter Try.func31, Try.ntmps31
    go_wp2_with (first | ((with_reducible refine at_box 2 ?_); refine wpList_box_own O (M.mat 4 (s)) rfl ?_; clear O; intro g2 w1 O) | ((with_reducible refine at_load 7 ?_); refine wpList_cell_h (v := .int .i64 (s2)) rfl O.held 0 rfl Cs2.out rfl agg3 rfl ?_) | ((with_reducible refine at_load 12 ?_); refine wpList_cell_h (v := .int .i64 (s1)) rfl O.held 0 rfl Cs1.out rfl agg3 rfl ?_) | ((with_reducible refine at_load 16 ?_); refine wpList_cell_h (v := .int .i64 (s3)) rfl O.held 0 rfl Cs3.out rfl agg3 rfl ?_) | ((with_reducible refine at_load 18 ?_); refine wpList_cell_h (v := .int .i64 (s0)) rfl O.held 0 rfl Cs0.out rfl agg3 rfl ?_) | ((with_reducible refine at_load 23 ?_); refine wpList_cell_h (v := .int .i64 (s3)) rfl O.held 0 rfl Cs3.out rfl agg3 rfl ?_) | ((with_reducible refine at_load 33 ?_); refine wpList_cell_h (v := .int .i64 (s3)) rfl O.held 0 rfl Cs3.out rfl agg3 rfl ?_) | (go_at_call 34; refine (C _).mono ?_; rintro e w' ⟨rfl, rfl⟩))
    go_ret
    exact ⟨rfl, O.below⟩
set_option maxHeartbeats 8000000 in
theorem pkeeps20 (s : Nat → Int) (x y : Int) (h : TR.Sd s) (hx : -4194304 ≤ x ∧ x ≤ 4194304) (hy : -4194304 ≤ y ∧ y ≤ 4194304) (w : World) : Calls Try.prog 27 #[arr 4 s, .int .i64 x, .int .i64 y] w fun e w' => e = .returned (.bool (TR.keeps s x y)) ∧ Below w.heap.size w w' := by
  have O := Own.start w
  have CK := fun w => pkept20 s w
  have HE : TR.keeps s x y = (decide (0 < s 2 * (256 * y + 128 - s 1) - s 3 * (256 * x + 128 - s 0)) || (decide (s 2 * (256 * y + 128 - s 1) - s 3 * (256 * x + 128 - s 0) = 0) && TR.kept s)) := rfl
  obtain ⟨⟨b0, b1⟩, b2, b3⟩ := h
  obtain ⟨kp, hkp⟩ : ∃ z, TR.kept s = z := ⟨_, rfl⟩
  rw [hkp] at CK HE
  clear hkp
  obtain ⟨s0, es0⟩ : ∃ z, s 0 = z := ⟨_, rfl⟩
  have Cs0 := cell_is (n := 4) es0 (by decide)
  obtain ⟨s1, es1⟩ : ∃ z, s 1 = z := ⟨_, rfl⟩
  have Cs1 := cell_is (n := 4) es1 (by decide)
  obtain ⟨s2, es2⟩ : ∃ z, s 2 = z := ⟨_, rfl⟩
  have Cs2 := cell_is (n := 4) es2 (by decide)
  obtain ⟨s3, es3⟩ : ∃ z, s 3 = z := ⟨_, rfl⟩
  have Cs3 := cell_is (n := 4) es3 (by decide)
  rw [es0] at b0 HE
  rw [es1] at b1 HE
  rw [es2] at b2 HE
  rw [es3] at b3 HE
  obtain ⟨e1, he1⟩ : ∃ z, 256 * y = z := ⟨_, rfl⟩
  obtain ⟨e2, he2⟩ : ∃ z, e1 + 128 = z := ⟨_, rfl⟩
  obtain ⟨e3, he3⟩ : ∃ z, e2 - s1 = z := ⟨_, rfl⟩
  obtain ⟨f1, hf1⟩ : ∃ z, 256 * x = z := ⟨_, rfl⟩
  obtain ⟨f2, hf2⟩ : ∃ z, f1 + 128 = z := ⟨_, rfl⟩
  obtain ⟨f3, hf3⟩ : ∃ z, f2 - s0 = z := ⟨_, rfl⟩
  rw [he1, he2, he3, hf1, hf2, hf3] at HE
  have m1 := TR.mul_lim (x := s2) (y := e3) (A := 536870912) (B := 2000000000) b2 (by omega)
  have m2 := TR.mul_lim (x := s3) (y := f3) (A := 536870912) (B := 2000000000) b3 (by omega)
  obtain ⟨m, hm⟩ : ∃ z, s2 * e3 = z := ⟨_, rfl⟩
  obtain ⟨n, hn⟩ : ∃ z, s3 * f3 = z := ⟨_, rfl⟩
  obtain ⟨r, hr⟩ : ∃ z, m - n = z := ⟨_, rfl⟩
  rw [hm] at m1
  rw [hn] at m2
  rw [hm, hn, hr] at HE
  have W0 : wrap64 (256 * y) = e1 := (IntWalk.wrap64_in _ (by omega)).trans he1
  have W1 : wrap64 (e1 + 128) = e2 := (IntWalk.wrap64_in _ (by omega)).trans he2
  have W2 : wrap64 (e2 - s1) = e3 := (IntWalk.wrap64_in _ (by omega)).trans he3
  have U0 : wrap64 (256 * x) = f1 := (IntWalk.wrap64_in _ (by omega)).trans hf1
  have U1 : wrap64 (f1 + 128) = f2 := (IntWalk.wrap64_in _ (by omega)).trans hf2
  have U2 : wrap64 (f2 - s0) = f3 := (IntWalk.wrap64_in _ (by omega)).trans hf3
  have W4 : wrap64 (s2 * e3) = m := (IntWalk.wrap64_in _ (by omega)).trans hm
  have W5 : wrap64 (s3 * f3) = n := (IntWalk.wrap64_in _ (by omega)).trans hn
  have W6 : wrap64 (m - n) = r := (IntWalk.wrap64_in _ (by omega)).trans hr
  have g1 : decide (r > 0) = decide (0 < r) := rfl
  have g2 : (r == 0) = decide (r = 0) := rfl
  clear he1 he2 he3 hf1 hf2 hf3 hm hn hr m1 m2 b0 b1 b2 b3 hx hy es0 es1 es2 es3
  cases z1 : decide (0 < r)
  · rw [z1] at HE g1
    cases z2 : decide (r = 0)
    · rw [z2] at HE g2
      replace HE := Lib.hid HE
      go_enter Try.func27, Try.ntmps27
      go_wp2_with (first | ((with_reducible refine at_box 3 ?_); refine wpList_box_own O (M.mat 4 (s)) rfl ?_; clear O; intro g3 w1 O) | ((with_reducible refine at_load 9 ?_); refine wpList_cell_h (v := .int .i64 (s2)) rfl O.held 0 rfl Cs2.out rfl agg3 rfl ?_) | ((with_reducible refine at_load 14 ?_); refine wpList_cell_h (v := .int .i64 (s1)) rfl O.held 0 rfl Cs1.out rfl agg3 rfl ?_) | ((with_reducible refine at_load 18 ?_); refine wpList_cell_h (v := .int .i64 (s3)) rfl O.held 0 rfl Cs3.out rfl agg3 rfl ?_) | ((with_reducible refine at_load 23 ?_); refine wpList_cell_h (v := .int .i64 (s0)) rfl O.held 0 rfl Cs0.out rfl agg3 rfl ?_))
      go_ret
      exact ⟨by rw [HE.out]; rfl, O.below⟩
    · rw [z2] at HE g2
      cases kp
      all_goals
        replace HE := Lib.hid HE
        go_enter Try.func27, Try.ntmps27
        go_wp2_with (first | ((with_reducible refine at_box 3 ?_); refine wpList_box_own O (M.mat 4 (s)) rfl ?_; clear O; intro g3 w1 O) | ((with_reducible refine at_load 9 ?_); refine wpList_cell_h (v := .int .i64 (s2)) rfl O.held 0 rfl Cs2.out rfl agg3 rfl ?_) | ((with_reducible refine at_load 14 ?_); refine wpList_cell_h (v := .int .i64 (s1)) rfl O.held 0 rfl Cs1.out rfl agg3 rfl ?_) | ((with_reducible refine at_load 18 ?_); refine wpList_cell_h (v := .int .i64 (s3)) rfl O.held 0 rfl Cs3.out rfl agg3 rfl ?_) | ((with_reducible refine at_load 23 ?_); refine wpList_cell_h (v := .int .i64 (s0)) rfl O.held 0 rfl Cs0.out rfl agg3 rfl ?_) | ((with_reducible refine at_load 33 ?_); refine wpList_whole rfl O 0 rfl rfl Try.underlying60 rfl (sD20 _) ?_) | (go_at_call 32; refine (CK _).mono ?_; rintro e w9 ⟨rfl, hb⟩; replace O := O.call hb; clear hb))
        go_ret
        exact ⟨by rw [HE.out]; rfl, O.below⟩
  · rw [z1] at HE g1
    replace HE := Lib.hid HE
    go_enter Try.func27, Try.ntmps27
    go_wp2_with (first | ((with_reducible refine at_box 3 ?_); refine wpList_box_own O (M.mat 4 (s)) rfl ?_; clear O; intro g3 w1 O) | ((with_reducible refine at_load 9 ?_); refine wpList_cell_h (v := .int .i64 (s2)) rfl O.held 0 rfl Cs2.out rfl agg3 rfl ?_) | ((with_reducible refine at_load 14 ?_); refine wpList_cell_h (v := .int .i64 (s1)) rfl O.held 0 rfl Cs1.out rfl agg3 rfl ?_) | ((with_reducible refine at_load 18 ?_); refine wpList_cell_h (v := .int .i64 (s3)) rfl O.held 0 rfl Cs3.out rfl agg3 rfl ?_) | ((with_reducible refine at_load 23 ?_); refine wpList_cell_h (v := .int .i64 (s0)) rfl O.held 0 rfl Cs0.out rfl agg3 rfl ?_))
    go_ret
    exact ⟨by rw [HE.out]; rfl, O.below⟩
end Go.Proofs.Ytndaijcgjhmiaaa
