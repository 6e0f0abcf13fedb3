/- Contracts: the helpers of package smooth. -/
import Derived.Test.YtdkppkdoconfhaaSy
import Derived.Test.YtdkppkdoconfhaaTy
namespace Go.Proofs.Ytdkppkdoconfhaa
open Go.ChangeShapes Go.WideShapes Go.ChangeAt Go.RowKit
set_option linter.unusedVariables false
set_option linter.unusedSimpArgs false

namespace SP
theorem down_is {n d q r : Int} (hd : 0 < d) (hq : n.tdiv d = q) (hr : n.tmod d = r) : (r < 0 → n / d = q - 1) ∧ (¬ r < 0 → n / d = q) := by
  have e := Int.mul_tdiv_add_tmod n d
  rw [hq, hr] at e
  have h1 := Int.tmod_lt_of_pos n hd
  have h2 := Int.lt_tmod_of_pos n hd
  rw [hr] at h1 h2
  constructor
  · intro h
    exact ((Int.ediv_emod_unique hd (r := r + d) (q := q - 1)).2 ⟨by rw [Int.mul_sub, Int.mul_one]; omega, by omega, by omega⟩).1
  · intro h
    exact ((Int.ediv_emod_unique hd (r := r) (q := q)).2 ⟨by omega, by omega, by omega⟩).1
end SP
set_option maxRecDepth 100000 in
set_option maxHeartbeats 2000000 in
theorem pdown18 (n d : Int) (hd : 0 < d) (h : -4611686018427387904 ≤ n ∧ n ≤ 4611686018427387904) (w : World) : Calls Try.prog 63 #[.int .i64 n, .int .i64 d] w fun e w' => e = .returned (.int .i64 (n / d)) ∧ w' = w := by
  have lq := SP.div_lim hd (by decide) h
  obtain ⟨q, hq⟩ : ∃ z, n.tdiv d = z := ⟨_, rfl⟩
  obtain ⟨r, hr⟩ : ∃ z, n.tmod d = z := ⟨_, rfl⟩
  obtain ⟨k1, k2⟩ := SP.down_is hd hq hr
  have lr : -4611686018427387904 ≤ q ∧ q ≤ 4611686018427387905 := by
    by_cases g : r < 0
    · have := k1 g
      omega
    · have := k2 g
      omega
  obtain ⟨lr1, lr2⟩ := lr
  have W1 : wrap64 q = q := IntWalk.wrap64_in _ (by omega)
  have W2 : wrap64 (q - 1) = q - 1 := IntWalk.wrap64_in _ (by omega)
  have h1 := Int.tmod_lt_of_pos n hd
  have h2 := Int.lt_tmod_of_pos n hd
  rw [hr] at h1 h2
  have hdn : ¬ d = 0 := by omega
  by_cases hlt : r < 0
  · have HE := Lib.hid (k1 hlt)
    clear k1 k2 h lq lr1 lr2 h1 h2 hd
    go_enter Try.func63, Try.ntmps63
    go_wp2_with fail
    go_ret
    exact ⟨by rw [HE.out]; exact congrArg (fun z => Ending.returned (Value.int IntKind.i64 z)) W2, rfl⟩
  · have HE := Lib.hid (k2 hlt)
    clear k1 k2 h lq lr1 lr2 h1 h2 hd
    go_enter Try.func63, Try.ntmps63
    go_wp2_with fail
    go_ret
    exact ⟨by rw [HE.out]; rfl, rfl⟩
theorem pisp18 (n : Int) (w : World) : Calls Try.prog 34 #[.int .i64 n] w fun e w' => e = .returned (.bool (decide (-4194304 ≤ n) && decide (n ≤ 4194304))) ∧ w' = w := by
  cases h0 : decide (-4194304 ≤ n) <;> cases h1 : decide (n ≤ 4194304)
  all_goals
    go_enter Try.func34, Try.ntmps34
    go_wp2_with fail
    go_ret
    exact ⟨rfl, rfl⟩
set_option maxRecDepth 100000 in
set_option maxHeartbeats 4000000 in
theorem pand18 (s t : Nat → Int) (w : World) : Calls Try.prog 30 #[arr 2 s, arr 2 t] w fun e w' => e = .returned (arr 2 (SP.and s t)) ∧ Below w.heap.size w w' := by
  have O := Own.start w
  obtain ⟨s0, es0⟩ : ∃ z, s 0 = z := ⟨_, rfl⟩
  have Cs0 := cell_is (n := 2) es0 (by decide)
  obtain ⟨s1, es1⟩ : ∃ z, s 1 = z := ⟨_, rfl⟩
  have Cs1 := cell_is (n := 2) es1 (by decide)
  obtain ⟨t0, et0⟩ : ∃ z, t 0 = z := ⟨_, rfl⟩
  have Ct0 := cell_is (n := 2) et0 (by decide)
  obtain ⟨t1, et1⟩ : ∃ z, t 1 = z := ⟨_, rfl⟩
  have Ct1 := cell_is (n := 2) et1 (by decide)
  obtain ⟨m0, hm0⟩ : ∃ z, max s0 t0 = z := ⟨_, rfl⟩
  obtain ⟨m1, hm1⟩ : ∃ z, min s1 t1 = z := ⟨_, rfl⟩
  have HE : Hid (SP.and s t = SP.mk m0 m1) := Lib.hid (by unfold SP.and; rw [es0, es1, et0, et1, hm0, hm1])
  have G0 := (max_if s0 t0).trans hm0
  have G1 := (min_if s1 t1).trans hm1
  clear es0 es1 et0 et1
  go_enter Try.func30, Try.ntmps30
  go_wp2_with (first | ((with_reducible refine at_box 2 ?_); refine wpList_box_own O (M.mat 2 (s)) rfl ?_; clear O; intro g2 w1 O) | ((with_reducible refine at_box 3 ?_); refine wpList_box_own O (M.mat 2 (t)) rfl ?_; clear O; intro g3 w2 O) | ((with_reducible refine at_alloc 4 ?_); refine wpList_alloc_own O (M.mat 2 M.zero) zeroN18 ?_; clear O; intro g4 w3 O) | ((with_reducible refine at_load 6 ?_); refine wpList_cell_h (v := .int .i64 (s0)) rfl O.held 2 rfl Cs0.out rfl agg3 rfl ?_) | ((with_reducible refine at_load 8 ?_); refine wpList_cell_h (v := .int .i64 (t0)) rfl O.held 1 rfl Ct0.out rfl agg3 rfl ?_) | ((with_reducible refine at_load 11 ?_); refine wpList_cell_h (v := .int .i64 (s1)) rfl O.held 2 rfl Cs1.out rfl agg3 rfl ?_) | ((with_reducible refine at_load 13 ?_); refine wpList_cell_h (v := .int .i64 (t1)) rfl O.held 1 rfl Ct1.out rfl agg3 rfl ?_) | ((with_reducible refine at_build 15 ?_); refine wpList_build_g rfl ([(0, .int .i64 (m0)), (1, .int .i64 (m1))]) ((M.mat 2 (SP.mk (m0) (m1))).toArray) ?_ (builtN18 _ _) ?_; (focus (simp only [List.map_toArray, List.map_cons, List.map_nil]; rfl))) | ((with_reducible refine at_store 4 ?_); refine wpList_put_own O 0 (M.mat 2 (SP.mk m0 m1)) rfl rfl rfl (sN18 _) (M.mat_len2 _ _ _) (M.mat_one _ _) ?_; clear O; intro w9 O))
  exact bodyPost_ret (v := arr 2 (SP.and s t)) (by rw [HE.out]; exact res_h rfl O.held 0 rfl rfl Try.underlying62 rfl (sN18 _)) rfl ⟨rfl, O.below⟩
set_option maxRecDepth 100000 in
set_option maxHeartbeats 4000000 in
theorem ptimes18 (s : Nat → Int) (k : Int) (h0 : -4611686018427387904 ≤ k * s 0 ∧ k * s 0 ≤ 4611686018427387904) (h1 : -4611686018427387904 ≤ k * s 1 ∧ k * s 1 ≤ 4611686018427387904) (w : World) : Calls Try.prog 61 #[arr 2 s, .int .i64 k] w fun e w' => e = .returned (arr 2 (SP.times s k)) ∧ Below w.heap.size w w' := by
  have O := Own.start w
  obtain ⟨s0, es0⟩ : ∃ z, s 0 = z := ⟨_, rfl⟩
  have Cs0 := cell_is (n := 2) es0 (by decide)
  obtain ⟨s1, es1⟩ : ∃ z, s 1 = z := ⟨_, rfl⟩
  have Cs1 := cell_is (n := 2) es1 (by decide)
  rw [es0] at h0
  rw [es1] at h1
  obtain ⟨p0, hp0⟩ : ∃ z, k * s0 = z := ⟨_, rfl⟩
  obtain ⟨p1, hp1⟩ : ∃ z, k * s1 = z := ⟨_, rfl⟩
  obtain ⟨m0, hm0⟩ : ∃ z, min p0 p1 = z := ⟨_, rfl⟩
  obtain ⟨m1, hm1⟩ : ∃ z, max p0 p1 = z := ⟨_, rfl⟩
  have HE : Hid (SP.times s k = SP.mk m0 m1) := Lib.hid (by unfold SP.times; rw [es0, es1, hp0, hp1, hm0, hm1])
  have W0 : wrap64 (k * s0) = p0 := (IntWalk.wrap64_in _ (by omega)).trans hp0
  have W1 : wrap64 (k * s1) = p1 := (IntWalk.wrap64_in _ (by omega)).trans hp1
  have G0 := (min_if p0 p1).trans hm0
  have G1 := (max_if p0 p1).trans hm1
  clear es0 es1 hp0 hp1 h0 h1
  go_enter Try.func61, Try.ntmps61
  go_wp2_with (first | ((with_reducible refine at_box 2 ?_); refine wpList_box_own O (M.mat 2 (s)) rfl ?_; clear O; intro g2 w1 O) | ((with_reducible refine at_alloc 4 ?_); refine wpList_alloc_own O (M.mat 2 M.zero) zeroN18 ?_; clear O; intro g4 w3 O) | ((with_reducible refine at_load 7 ?_); refine wpList_cell_h (v := .int .i64 (s0)) rfl O.held 1 rfl Cs0.out rfl agg3 rfl ?_) | ((with_reducible refine at_load 11 ?_); refine wpList_cell_h (v := .int .i64 (s1)) rfl O.held 1 rfl Cs1.out rfl agg3 rfl ?_) | ((with_reducible refine at_load 16 ?_); refine wpList_cell_h (v := .int .i64 (s0)) rfl O.held 1 rfl Cs0.out rfl agg3 rfl ?_) | ((with_reducible refine at_load 20 ?_); refine wpList_cell_h (v := .int .i64 (s1)) rfl O.held 1 rfl Cs1.out rfl agg3 rfl ?_) | ((with_reducible refine at_build 23 ?_); refine wpList_build_g rfl ([(0, .int .i64 (m0)), (1, .int .i64 (m1))]) ((M.mat 2 (SP.mk (m0) (m1))).toArray) ?_ (builtN18 _ _) ?_; (focus (simp only [List.map_toArray, List.map_cons, List.map_nil]; rfl))) | ((with_reducible refine at_store 4 ?_); refine wpList_put_own O 0 (M.mat 2 (SP.mk m0 m1)) rfl rfl rfl (sN18 _) (M.mat_len2 _ _ _) (M.mat_one _ _) ?_; clear O; intro w9 O))
  exact bodyPost_ret (v := arr 2 (SP.times s k)) (by rw [HE.out]; exact res_h rfl O.held 0 rfl rfl Try.underlying62 rfl (sN18 _)) rfl ⟨rfl, O.below⟩
set_option maxRecDepth 100000 in
set_option maxHeartbeats 4000000 in
theorem ppix18 (s : Nat → Int) (h : SP.In 4611686018427387904 s) (w : World) : Calls Try.prog 48 #[arr 2 s] w fun e w' => e = .returned (arr 2 (SP.pixels s)) ∧ Below w.heap.size w w' := by
  have O := Own.start w
  have C0 := fun w => pdown18 (s 0) 8 (by decide) h.1 w
  have C1 := fun w => pdown18 (s 1) 8 (by decide) h.2 w
  obtain ⟨s0, es0⟩ : ∃ z, s 0 = z := ⟨_, rfl⟩
  have Cs0 := cell_is (n := 2) es0 (by decide)
  obtain ⟨s1, es1⟩ : ∃ z, s 1 = z := ⟨_, rfl⟩
  have Cs1 := cell_is (n := 2) es1 (by decide)
  rw [es0] at C0
  rw [es1] at C1
  obtain ⟨q0, hq0⟩ : ∃ z, s0 / 8 = z := ⟨_, rfl⟩
  obtain ⟨q1, hq1⟩ : ∃ z, s1 / 8 = z := ⟨_, rfl⟩
  have HE : Hid (SP.pixels s = SP.mk q0 q1) := Lib.hid (by unfold SP.pixels; rw [es0, es1, hq0, hq1])
  rw [hq0] at C0
  rw [hq1] at C1
  clear hq0 hq1 es0 es1 h
  go_enter Try.func48, Try.ntmps48
  go_wp2_with (first | ((with_reducible refine at_box 1 ?_); refine wpList_box_own O (M.mat 2 (s)) rfl ?_; clear O; intro g1 w1 O) | ((with_reducible refine at_alloc 2 ?_); refine wpList_alloc_own O (M.mat 2 M.zero) zeroN18 ?_; clear O; intro g2 w2 O))
  refine region_T (fun w2 => Own w w2 [(g2, 62, M.mat 2 M.zero), (g1, 62, M.mat 2 s)]) [0, 1, 2, 3, 4, 5, 6] 12 [some 3, some 4, some 5, some 6, some 7, some 8, some 9] [.pointer (some ⟨g1, 0, none⟩), .int .i64 (s0), .int .i64 (q0), .pointer (some ⟨g1, 1, none⟩), .int .i64 (s1), .int .i64 (q1), arr 2 (SP.mk (q0) (q1))] 1 (by kernel_rfl) (by rfl) (by kernel_rfl) (by rfl) (by rfl) (O.drew) (fun F hF => ?_)
  simp only [fillD, Act.put, List.setIfInBounds_toArray, List.set_cons_zero, List.set_cons_succ] at hF
  subst hF
  refine ⟨⟨does_want rfl (by rfl) (fun w' O K hK => ?_), does_want rfl (by rfl) (fun w' O K hK => ?_), does_want rfl (by rfl) (fun w' O K hK => ?_), does_want rfl (by rfl) (fun w' O K hK => ?_), does_want rfl (by rfl) (fun w' O K hK => ?_), does_want rfl (by rfl) (fun w' O K hK => ?_), does_want rfl (by rfl) (fun w' O K hK => ?_), trivial⟩, fun w' O => ?_⟩
  · go_simp
    exact hK _ O
  · exact wp_cell_h (v := .int .i64 (s0)) O.held 1 rfl Cs0.out rfl agg3 rfl (hK _ O)
  · go_simp
    go_at_call 63
    refine (C0 _).mono ?_
    rintro e w2 ⟨rfl, rfl⟩
    exact hK _ O
  · go_simp
    exact hK _ O
  · exact wp_cell_h (v := .int .i64 (s1)) O.held 1 rfl Cs1.out rfl agg3 rfl (hK _ O)
  · go_simp
    go_at_call 63
    refine (C1 _).mono ?_
    rintro e w2 ⟨rfl, rfl⟩
    exact hK _ O
  · refine wp_build_own ([(0, .int .i64 (q0)), (1, .int .i64 (q1))]) ((M.mat 2 (SP.mk (q0) (q1))).toArray) ?_ (builtN18 _ _) (hK _ O)
    simp only [List.map_toArray, List.map_cons, List.map_nil]
    rfl
  refine wpAny_want (i := 7) (by kernel_rfl) rfl (by rfl) (fun K hK => ?_)
  refine wp_put_own O 0 (M.mat 2 (SP.mk q0 q1)) rfl rfl rfl (sN18 _) (M.mat_len2 _ _ _) (M.mat_one _ _) fun w9 O9 => hK _ _ ?_
  clear O
  have O := O9
  clear O9
  clear hK K
  try simp only [Act.put, List.setIfInBounds_toArray, List.set_cons_zero, List.set_cons_succ]
  refine wpAny_done (by kernel_rfl) ?_ _
  go_wp2_with fail
  exact bodyPost_ret (v := arr 2 (SP.pixels s)) (by rw [HE.out]; exact res_h rfl O.held 0 rfl rfl Try.underlying62 rfl (sN18 _)) rfl ⟨rfl, O.below⟩
set_option maxRecDepth 100000 in
set_option maxHeartbeats 4000000 in
theorem psam18 (s : Nat → Int) (b : Int) (h : SP.In 2305843009213693952 s) (hb : -536870912 ≤ b ∧ b ≤ 536870912) (w : World) : Calls Try.prog 47 #[arr 2 s, .int .i64 b] w fun e w' => e = .returned (arr 2 (SP.samples s b)) ∧ Below w.heap.size w w' := by
  have O := Own.start w
  obtain ⟨hs0, hs1⟩ := h
  obtain ⟨s0, es0⟩ : ∃ z, s 0 = z := ⟨_, rfl⟩
  have Cs0 := cell_is (n := 2) es0 (by decide)
  obtain ⟨s1, es1⟩ : ∃ z, s 1 = z := ⟨_, rfl⟩
  have Cs1 := cell_is (n := 2) es1 (by decide)
  rw [es0] at hs0
  rw [es1] at hs1
  obtain ⟨a1, ha1⟩ : ∃ z, 16 - b = z := ⟨_, rfl⟩
  obtain ⟨a2, ha2⟩ : ∃ z, a1 - s0 = z := ⟨_, rfl⟩
  obtain ⟨b1, hb1⟩ : ∃ z, b + s1 = z := ⟨_, rfl⟩
  obtain ⟨b2, hb2⟩ : ∃ z, b1 - 16 = z := ⟨_, rfl⟩
  obtain ⟨q0, hq0⟩ : ∃ z, a2 / 32 = z := ⟨_, rfl⟩
  obtain ⟨q1, hq1⟩ : ∃ z, b2 / 32 = z := ⟨_, rfl⟩
  obtain ⟨r0, hr0⟩ : ∃ z, -q0 = z := ⟨_, rfl⟩
  have HE : Hid (SP.samples s b = SP.mk r0 q1) := Lib.hid (by unfold SP.samples; rw [es0, es1, ha1, ha2, hb1, hb2, hq0, hq1, hr0])
  have C0 := fun w => pdown18 a2 32 (by decide) (by omega) w
  have C1 := fun w => pdown18 b2 32 (by decide) (by omega) w
  have W1 : Hid (IntKind.i64.wrap (16 - b) = a1) := Lib.hid ((IntWalk.i64_in _ (by omega)).trans ha1)
  have W2 : Hid (IntKind.i64.wrap (a1 - s0) = a2) := Lib.hid ((IntWalk.i64_in _ (by omega)).trans ha2)
  have W3 : Hid (IntKind.i64.wrap (b + s1) = b1) := Lib.hid ((IntWalk.i64_in _ (by omega)).trans hb1)
  have W4 : Hid (IntKind.i64.wrap (b1 - 16) = b2) := Lib.hid ((IntWalk.i64_in _ (by omega)).trans hb2)
  have W5 : Hid (IntKind.i64.wrap (-q0) = r0) := Lib.hid ((IntWalk.i64_in _ (by omega)).trans hr0)
  rw [hq0] at C0
  rw [hq1] at C1
  clear hq0 hq1 es0 es1 hs0 hs1 hb ha1 ha2 hb1 hb2 hr0
  go_enter Try.func47, Try.ntmps47
  go_wp2_with (first | ((with_reducible refine at_box 2 ?_); refine wpList_box_own O (M.mat 2 (s)) rfl ?_; clear O; intro g2 w1 O) | ((with_reducible refine at_alloc 4 ?_); refine wpList_alloc_own O (M.mat 2 M.zero) zeroN18 ?_; clear O; intro g4 w2 O))
  refine region_T (fun w2 => Own w w2 [(g4, 62, M.mat 2 M.zero), (g2, 62, M.mat 2 s)]) [0, 1, 2, 3, 4, 5, 6, 7, 8, 9, 10, 11, 12, 13] 12 [some 5, some 6, some 7, some 8, some 9, some 10, some 11, some 12, some 13, some 14, some 15, some 16, some 17, some 18] [.int .i64 (b), .int .i64 (a1), .pointer (some ⟨g2, 0, none⟩), .int .i64 (s0), .int .i64 (a2), .int .i64 (q0), .int .i64 (r0), .int .i64 (b), .pointer (some ⟨g2, 1, none⟩), .int .i64 (s1), .int .i64 (b1), .int .i64 (b2), .int .i64 (q1), arr 2 (SP.mk (r0) (q1))] 1 (by kernel_rfl) (by rfl) (by kernel_rfl) (by rfl) (by rfl) (O.drew) (fun F hF => ?_)
  simp only [fillD, Act.put, List.setIfInBounds_toArray, List.set_cons_zero, List.set_cons_succ] at hF
  subst hF
  refine ⟨⟨does_want rfl (by rfl) (fun w' O K hK => ?_), does_want rfl (by rfl) (fun w' O K hK => ?_), does_want rfl (by rfl) (fun w' O K hK => ?_), does_want rfl (by rfl) (fun w' O K hK => ?_), does_want rfl (by rfl) (fun w' O K hK => ?_), does_want rfl (by rfl) (fun w' O K hK => ?_), does_want rfl (by rfl) (fun w' O K hK => ?_), does_want rfl (by rfl) (fun w' O K hK => ?_), does_want rfl (by rfl) (fun w' O K hK => ?_), does_want rfl (by rfl) (fun w' O K hK => ?_), does_want rfl (by rfl) (fun w' O K hK => ?_), does_want rfl (by rfl) (fun w' O K hK => ?_), does_want rfl (by rfl) (fun w' O K hK => ?_), does_want rfl (by rfl) (fun w' O K hK => ?_), trivial⟩, fun w' O => ?_⟩
  · go_simp
    exact hK _ O
  · go_simp
    simp only [W1.out]
    exact hK _ O
  · go_simp
    exact hK _ O
  · exact wp_cell_h (v := .int .i64 (s0)) O.held 1 rfl Cs0.out rfl agg3 rfl (hK _ O)
  · go_simp
    simp only [W2.out]
    exact hK _ O
  · go_simp
    go_at_call 63
    refine (C0 _).mono ?_
    rintro e w2 ⟨rfl, rfl⟩
    exact hK _ O
  · go_simp
    simp only [W5.out]
    exact hK _ O
  · go_simp
    exact hK _ O
  · go_simp
    exact hK _ O
  · exact wp_cell_h (v := .int .i64 (s1)) O.held 1 rfl Cs1.out rfl agg3 rfl (hK _ O)
  · go_simp
    simp only [W3.out]
    exact hK _ O
  · go_simp
    simp only [W4.out]
    exact hK _ O
  · go_simp
    go_at_call 63
    refine (C1 _).mono ?_
    rintro e w2 ⟨rfl, rfl⟩
    exact hK _ O
  · refine wp_build_own ([(0, .int .i64 (r0)), (1, .int .i64 (q1))]) ((M.mat 2 (SP.mk (r0) (q1))).toArray) ?_ (builtN18 _ _) (hK _ O)
    simp only [List.map_toArray, List.map_cons, List.map_nil]
    rfl
  refine wpAny_want (i := 14) (by kernel_rfl) rfl (by rfl) (fun K hK => ?_)
  refine wp_put_own O 0 (M.mat 2 (SP.mk r0 q1)) rfl rfl rfl (sN18 _) (M.mat_len2 _ _ _) (M.mat_one _ _) fun w9 O9 => hK _ _ ?_
  clear O
  have O := O9
  clear O9
  clear hK K
  try simp only [Act.put, List.setIfInBounds_toArray, List.set_cons_zero, List.set_cons_succ]
  refine wpAny_done (by kernel_rfl) ?_ _
  go_wp2_with fail
  exact bodyPost_ret (v := arr 2 (SP.samples s b)) (by rw [HE.out]; exact res_h rfl O.held 0 rfl rfl Try.underlying62 rfl (sN18 _)) rfl ⟨rfl, O.below⟩
set_option maxRecDepth 100000 in
set_option maxHeartbeats 4000000 in
theorem ptur18 (s : Nat → Int) (h3 : -4611686018427387904 ≤ s 3 ∧ s 3 ≤ 4611686018427387904) (h4 : -4611686018427387904 ≤ s 4 ∧ s 4 ≤ 4611686018427387904) (w : World) : Calls Try.prog 45 #[arr 5 s] w fun e w' => e = .returned (arr 5 (SP.turned s)) ∧ Below w.heap.size w w' := by
  have O := Own.start w
  obtain ⟨s0, es0⟩ : ∃ z, s 0 = z := ⟨_, rfl⟩
  have Cs0 := cell_is (n := 5) es0 (by decide)
  obtain ⟨s1, es1⟩ : ∃ z, s 1 = z := ⟨_, rfl⟩
  have Cs1 := cell_is (n := 5) es1 (by decide)
  obtain ⟨s2, es2⟩ : ∃ z, s 2 = z := ⟨_, rfl⟩
  have Cs2 := cell_is (n := 5) es2 (by decide)
  obtain ⟨s3, es3⟩ : ∃ z, s 3 = z := ⟨_, rfl⟩
  have Cs3 := cell_is (n := 5) es3 (by decide)
  obtain ⟨s4, es4⟩ : ∃ z, s 4 = z := ⟨_, rfl⟩
  have Cs4 := cell_is (n := 5) es4 (by decide)
  rw [es3] at h3
  rw [es4] at h4
  obtain ⟨r3, hr3⟩ : ∃ z, -s3 = z := ⟨_, rfl⟩
  obtain ⟨r4, hr4⟩ : ∃ z, -s4 = z := ⟨_, rfl⟩
  have HE : Hid (SP.turned s = SP.st5 s1 s0 s2 r4 r3) := Lib.hid (by unfold SP.turned; rw [es0, es1, es2, es3, es4, hr3, hr4])
  have W3 : wrap64 (-s3) = r3 := (IntWalk.wrap64_in _ (by omega)).trans hr3
  have W4 : wrap64 (-s4) = r4 := (IntWalk.wrap64_in _ (by omega)).trans hr4
  clear h3 h4 hr3 hr4 es0 es1 es2 es3 es4
  go_enter Try.func45, Try.ntmps45
  go_wp2_with (first | ((with_reducible refine at_box 1 ?_); refine wpList_box_own O (M.mat 5 (s)) rfl ?_; clear O; intro g1 w1 O) | ((with_reducible refine at_alloc 2 ?_); refine wpList_alloc_own O (M.mat 5 M.zero) zeroY18 ?_; clear O; intro g2 w2 O) | ((with_reducible refine at_load 4 ?_); refine wpList_cell_h (v := .int .i64 (s1)) rfl O.held 1 rfl Cs1.out rfl agg3 rfl ?_) | ((with_reducible refine at_load 6 ?_); refine wpList_cell_h (v := .int .i64 (s0)) rfl O.held 1 rfl Cs0.out rfl agg3 rfl ?_) | ((with_reducible refine at_load 8 ?_); refine wpList_cell_h (v := .int .i64 (s2)) rfl O.held 1 rfl Cs2.out rfl agg3 rfl ?_) | ((with_reducible refine at_load 10 ?_); refine wpList_cell_h (v := .int .i64 (s4)) rfl O.held 1 rfl Cs4.out rfl agg3 rfl ?_) | ((with_reducible refine at_load 13 ?_); refine wpList_cell_h (v := .int .i64 (s3)) rfl O.held 1 rfl Cs3.out rfl agg3 rfl ?_) | ((with_reducible refine at_build 15 ?_); refine wpList_build_g rfl ([(0, .int .i64 s1), (1, .int .i64 s0), (2, .int .i64 s2), (3, .int .i64 r4), (4, .int .i64 r3)]) ((M.mat 5 (SP.st5 s1 s0 s2 r4 r3)).toArray) ?_ (builtY18 _ _ _ _ _) ?_; (focus (simp only [List.map_toArray, List.map_cons, List.map_nil]; rfl))) | ((with_reducible refine at_store 2 ?_); refine wpList_put_own O 0 (M.mat 5 (SP.st5 s1 s0 s2 r4 r3)) rfl rfl rfl (sY18 _) (M.mat_len2 _ _ _) (M.mat_one _ _) ?_; clear O; intro w9 O))
  exact bodyPost_ret (v := arr 5 (SP.turned s)) (by rw [HE.out]; exact res_h rfl O.held 0 rfl rfl Try.underlying59 rfl (sY18 _)) rfl ⟨rfl, O.below⟩
set_option maxRecDepth 100000 in
set_option maxHeartbeats 8000000 in
theorem pquo18 (p : Nat → Int) (k : Int) (h : SP.In 2305843009213693952 p) (hk : -4611686018427387904 ≤ k ∧ k ≤ 4611686018427387904) (w : World) : Calls Try.prog 62 #[arr 2 p, .int .i64 k] w fun e w' => e = .returned (arr 2 (SP.quot p k)) ∧ Below w.heap.size w w' := by
  have O := Own.start w
  obtain ⟨hp0, hp1⟩ := h
  obtain ⟨p0, ep0⟩ : ∃ z, p 0 = z := ⟨_, rfl⟩
  have Cp0 := cell_is (n := 2) ep0 (by decide)
  obtain ⟨p1, ep1⟩ : ∃ z, p 1 = z := ⟨_, rfl⟩
  have Cp1 := cell_is (n := 2) ep1 (by decide)
  rw [ep0] at hp0
  rw [ep1] at hp1
  by_cases hn : k < 0
  · obtain ⟨v0, hv0⟩ : ∃ z, -p1 = z := ⟨_, rfl⟩
    obtain ⟨v1, hv1⟩ : ∃ z, -p0 = z := ⟨_, rfl⟩
    obtain ⟨m, hm⟩ : ∃ z, -k = z := ⟨_, rfl⟩
    obtain ⟨n0, hn0⟩ : ∃ z, -v0 = z := ⟨_, rfl⟩
    obtain ⟨q0, hq0⟩ : ∃ z, n0 / m = z := ⟨_, rfl⟩
    obtain ⟨r0, hr0⟩ : ∃ z, -q0 = z := ⟨_, rfl⟩
    obtain ⟨q1, hq1⟩ : ∃ z, v1 / m = z := ⟨_, rfl⟩
    have hm0 : 0 < m := by omega
    have dl := SP.div_lim (x := n0) (B := 2305843009213693952) hm0 (by decide) (by omega)
    have C0 := fun w => pdown18 n0 m hm0 (by omega) w
    have C1 := fun w => pdown18 v1 m hm0 (by omega) w
    have HE : Hid (SP.quot p k = SP.mk r0 q1) := Lib.hid (by unfold SP.quot; rw [if_pos hn, ep0, ep1, hv1, hm, hq1, show p1 = n0 by omega, hq0, hr0])
    have Cv0 : Hid ((M.mat 2 (SP.mk v0 v1))[0]? = some (.int .i64 v0)) := cell_is rfl (by decide)
    have Cv1 : Hid ((M.mat 2 (SP.mk v0 v1))[1]? = some (.int .i64 v1)) := cell_is rfl (by decide)
    have U1 : wrap64 (-p1) = v0 := (IntWalk.wrap64_in _ (by omega)).trans hv0
    have U2 : wrap64 (-p0) = v1 := (IntWalk.wrap64_in _ (by omega)).trans hv1
    have U3 : wrap64 (-k) = m := (IntWalk.wrap64_in _ (by omega)).trans hm
    have V1 : Hid (IntKind.i64.wrap (-v0) = n0) := Lib.hid ((IntWalk.i64_in _ (by omega)).trans hn0)
    rw [hq0] at C0 dl
    rw [hq1] at C1
    have V2 : Hid (IntKind.i64.wrap (-q0) = r0) := Lib.hid ((IntWalk.i64_in _ (by omega)).trans hr0)
    have kb : decide (k < 0) = true := by simpa using hn
    have kc : decide (m > 0) = true := by simpa using hm0
    have kd : decide (0 < m) = true := by simpa using hm0
    clear hq0 hq1 ep0 ep1 hp0 hp1 hk hv0 hv1 hm hn0 hr0 dl hn hm0
    go_enter Try.func62, Try.ntmps62
    go_wp2_with (first | ((with_reducible refine at_box 2 ?_); refine wpList_box_own O (M.mat 2 (p)) rfl ?_; clear O; intro g2 w1 O) | ((with_reducible refine at_alloc 4 ?_); refine wpList_alloc_own O (M.mat 2 M.zero) zeroN18 ?_; clear O; intro g4 w2 O) | ((with_reducible refine at_load 8 ?_); refine wpList_cell_h (v := .int .i64 (p1)) rfl O.held 1 rfl Cp1.out rfl agg3 rfl ?_) | ((with_reducible refine at_load 11 ?_); refine wpList_cell_h (v := .int .i64 (p0)) rfl O.held 1 rfl Cp0.out rfl agg3 rfl ?_) | ((with_reducible refine at_build 13 ?_); refine wpList_build_g rfl ([(0, .int .i64 (v0)), (1, .int .i64 (v1))]) ((M.mat 2 (SP.mk (v0) (v1))).toArray) ?_ (builtN18 _ _) ?_; (focus (simp only [List.map_toArray, List.map_cons, List.map_nil]; rfl))) | ((with_reducible refine at_store 2 ?_); refine wpList_put_own O 1 (M.mat 2 (SP.mk v0 v1)) rfl rfl rfl (sN18 _) (M.mat_len2 _ _ _) (M.mat_one _ _) ?_; clear O; intro w3 O))
    refine region_T (fun w2 => Own w w2 [(g4, 62, M.mat 2 M.zero), (g2, 62, M.mat 2 (SP.mk v0 v1))]) [0, 1, 2, 3, 4, 5, 6, 7, 8, 9, 10] 12 [some 18, some 19, some 20, some 21, some 22, some 23, some 24, some 25, some 26, some 27, some 28] [.pointer (some ⟨g2, 0, none⟩), .int .i64 (v0), .int .i64 (n0), .int .i64 (m), .int .i64 (q0), .int .i64 (r0), .pointer (some ⟨g2, 1, none⟩), .int .i64 (v1), .int .i64 (m), .int .i64 (q1), arr 2 (SP.mk (r0) (q1))] 1 (by kernel_rfl) (by rfl) (by kernel_rfl) (by rfl) (by rfl) (O.drew) (fun F hF => ?_)
    simp only [fillD, Act.put, List.setIfInBounds_toArray, List.set_cons_zero, List.set_cons_succ] at hF
    subst hF
    refine ⟨⟨does_want rfl (by rfl) (fun w' O K hK => ?_), does_want rfl (by rfl) (fun w' O K hK => ?_), does_want rfl (by rfl) (fun w' O K hK => ?_), does_want rfl (by rfl) (fun w' O K hK => ?_), does_want rfl (by rfl) (fun w' O K hK => ?_), does_want rfl (by rfl) (fun w' O K hK => ?_), does_want rfl (by rfl) (fun w' O K hK => ?_), does_want rfl (by rfl) (fun w' O K hK => ?_), does_want rfl (by rfl) (fun w' O K hK => ?_), does_want rfl (by rfl) (fun w' O K hK => ?_), does_want rfl (by rfl) (fun w' O K hK => ?_), trivial⟩, fun w' O => ?_⟩
    · go_simp
      exact hK _ O
    · exact wp_cell_h (v := .int .i64 (v0)) O.held 1 rfl Cv0.out rfl agg3 rfl (hK _ O)
    · go_simp
      simp only [V1.out]
      exact hK _ O
    · go_simp
      exact hK _ O
    · go_simp
      go_at_call 63
      refine (C0 _).mono ?_
      rintro e w2 ⟨rfl, rfl⟩
      exact hK _ O
    · go_simp
      simp only [V2.out]
      exact hK _ O
    · go_simp
      exact hK _ O
    · exact wp_cell_h (v := .int .i64 (v1)) O.held 1 rfl Cv1.out rfl agg3 rfl (hK _ O)
    · go_simp
      exact hK _ O
    · go_simp
      go_at_call 63
      refine (C1 _).mono ?_
      rintro e w2 ⟨rfl, rfl⟩
      exact hK _ O
    · refine wp_build_own ([(0, .int .i64 (r0)), (1, .int .i64 (q1))]) ((M.mat 2 (SP.mk (r0) (q1))).toArray) ?_ (builtN18 _ _) (hK _ O)
      simp only [List.map_toArray, List.map_cons, List.map_nil]
      rfl
    refine wpAny_want (i := 11) (by kernel_rfl) rfl (by rfl) (fun K hK => ?_)
    refine wp_put_own O 0 (M.mat 2 (SP.mk r0 q1)) rfl rfl rfl (sN18 _) (M.mat_len2 _ _ _) (M.mat_one _ _) fun w9 O9 => hK _ _ ?_
    clear O
    have O := O9
    clear O9
    clear hK K
    try simp only [Act.put, List.setIfInBounds_toArray, List.set_cons_zero, List.set_cons_succ]
    refine wpAny_done (by kernel_rfl) ?_ _
    go_wp2_with fail
    exact bodyPost_ret (v := arr 2 (SP.quot p k)) (by rw [HE.out]; exact res_h rfl O.held 0 rfl rfl Try.underlying62 rfl (sN18 _)) rfl ⟨rfl, O.below⟩
  have kn : decide (k < 0) = false := by simpa using hn
  by_cases hz : 0 < k
  · obtain ⟨n0, hn0⟩ : ∃ z, -p0 = z := ⟨_, rfl⟩
    obtain ⟨q0, hq0⟩ : ∃ z, n0 / k = z := ⟨_, rfl⟩
    obtain ⟨r0, hr0⟩ : ∃ z, -q0 = z := ⟨_, rfl⟩
    obtain ⟨q1, hq1⟩ : ∃ z, p1 / k = z := ⟨_, rfl⟩
    have dl := SP.div_lim (x := n0) (B := 2305843009213693952) hz (by decide) (by omega)
    have C0 := fun w => pdown18 n0 k hz (by omega) w
    have C1 := fun w => pdown18 p1 k hz (by omega) w
    have HE : Hid (SP.quot p k = SP.mk r0 q1) := Lib.hid (by unfold SP.quot; rw [if_neg hn, if_pos hz, ep0, ep1, hn0, hq1, hq0, hr0])
    have V1 : Hid (IntKind.i64.wrap (-p0) = n0) := Lib.hid ((IntWalk.i64_in _ (by omega)).trans hn0)
    rw [hq0] at C0 dl
    rw [hq1] at C1
    have V2 : Hid (IntKind.i64.wrap (-q0) = r0) := Lib.hid ((IntWalk.i64_in _ (by omega)).trans hr0)
    have kc : decide (k > 0) = true := by simpa using hz
    have kd : decide (0 < k) = true := by simpa using hz
    clear hq0 hq1 ep0 ep1 hp0 hp1 hk hn0 hr0 dl hn hz
    go_enter Try.func62, Try.ntmps62
    go_wp2_with (first | ((with_reducible refine at_box 2 ?_); refine wpList_box_own O (M.mat 2 (p)) rfl ?_; clear O; intro g2 w1 O) | ((with_reducible refine at_alloc 4 ?_); refine wpList_alloc_own O (M.mat 2 M.zero) zeroN18 ?_; clear O; intro g4 w2 O))
    refine region_T (fun w2 => Own w w2 [(g4, 62, M.mat 2 M.zero), (g2, 62, M.mat 2 (p))]) [0, 1, 2, 3, 4, 5, 6, 7, 8, 9, 10] 12 [some 18, some 19, some 20, some 21, some 22, some 23, some 24, some 25, some 26, some 27, some 28] [.pointer (some ⟨g2, 0, none⟩), .int .i64 (p0), .int .i64 (n0), .int .i64 (k), .int .i64 (q0), .int .i64 (r0), .pointer (some ⟨g2, 1, none⟩), .int .i64 (p1), .int .i64 (k), .int .i64 (q1), arr 2 (SP.mk (r0) (q1))] 1 (by kernel_rfl) (by rfl) (by kernel_rfl) (by rfl) (by rfl) (O.drew) (fun F hF => ?_)
    simp only [fillD, Act.put, List.setIfInBounds_toArray, List.set_cons_zero, List.set_cons_succ] at hF
    subst hF
    refine ⟨⟨does_want rfl (by rfl) (fun w' O K hK => ?_), does_want rfl (by rfl) (fun w' O K hK => ?_), does_want rfl (by rfl) (fun w' O K hK => ?_), does_want rfl (by rfl) (fun w' O K hK => ?_), does_want rfl (by rfl) (fun w' O K hK => ?_), does_want rfl (by rfl) (fun w' O K hK => ?_), does_want rfl (by rfl) (fun w' O K hK => ?_), does_want rfl (by rfl) (fun w' O K hK => ?_), does_want rfl (by rfl) (fun w' O K hK => ?_), does_want rfl (by rfl) (fun w' O K hK => ?_), does_want rfl (by rfl) (fun w' O K hK => ?_), trivial⟩, fun w' O => ?_⟩
    · go_simp
      exact hK _ O
    · exact wp_cell_h (v := .int .i64 (p0)) O.held 1 rfl Cp0.out rfl agg3 rfl (hK _ O)
    · go_simp
      simp only [V1.out]
      exact hK _ O
    · go_simp
      exact hK _ O
    · go_simp
      go_at_call 63
      refine (C0 _).mono ?_
      rintro e w2 ⟨rfl, rfl⟩
      exact hK _ O
    · go_simp
      simp only [V2.out]
      exact hK _ O
    · go_simp
      exact hK _ O
    · exact wp_cell_h (v := .int .i64 (p1)) O.held 1 rfl Cp1.out rfl agg3 rfl (hK _ O)
    · go_simp
      exact hK _ O
    · go_simp
      go_at_call 63
      refine (C1 _).mono ?_
      rintro e w2 ⟨rfl, rfl⟩
      exact hK _ O
    · refine wp_build_own ([(0, .int .i64 (r0)), (1, .int .i64 (q1))]) ((M.mat 2 (SP.mk (r0) (q1))).toArray) ?_ (builtN18 _ _) (hK _ O)
      simp only [List.map_toArray, List.map_cons, List.map_nil]
      rfl
    refine wpAny_want (i := 11) (by kernel_rfl) rfl (by rfl) (fun K hK => ?_)
    refine wp_put_own O 0 (M.mat 2 (SP.mk r0 q1)) rfl rfl rfl (sN18 _) (M.mat_len2 _ _ _) (M.mat_one _ _) fun w9 O9 => hK _ _ ?_
    clear O
    have O := O9
    clear O9
    clear hK K
    try simp only [Act.put, List.setIfInBounds_toArray, List.set_cons_zero, List.set_cons_succ]
    refine wpAny_done (by kernel_rfl) ?_ _
    go_wp2_with fail
    exact bodyPost_ret (v := arr 2 (SP.quot p k)) (by rw [HE.out]; exact res_h rfl O.held 0 rfl rfl Try.underlying62 rfl (sN18 _)) rfl ⟨rfl, O.below⟩
  have kc : decide (k > 0) = false := by simpa using hz
  have kd : decide (0 < k) = false := by simpa using hz
  by_cases h0 : p0 ≤ 0
  · have k0 : decide (p0 ≤ 0) = true := by simpa using h0
    by_cases h1 : 0 ≤ p1
    · have k1 : decide (0 ≤ p1) = true := by simpa using h1
      have HE : Hid (SP.quot p k = SP.mk (-4294967296) (4294967296)) := Lib.hid (by unfold SP.quot; rw [if_neg hn, if_neg hz, ep0, ep1]; exact if_pos ⟨h0, h1⟩)
      clear ep0 ep1 hp0 hp1 hk hn hz h0 h1
      go_enter Try.func62, Try.ntmps62
      go_wp2_with (first | ((with_reducible refine at_box 2 ?_); refine wpList_box_own O (M.mat 2 (p)) rfl ?_; clear O; intro g2 w1 O) | ((with_reducible refine at_alloc 4 ?_); refine wpList_alloc_own O (M.mat 2 M.zero) zeroN18 ?_; clear O; intro g4 w2 O) | ((with_reducible refine at_load 30 ?_); refine wpList_cell_h (v := .int .i64 (p0)) rfl O.held 1 rfl Cp0.out rfl agg3 rfl ?_) | ((with_reducible refine at_load 34 ?_); refine wpList_cell_h (v := .int .i64 (p1)) rfl O.held 1 rfl Cp1.out rfl agg3 rfl ?_) | ((with_reducible refine at_build 37 ?_); refine wpList_build_g rfl ([(0, .int .i64 (-4294967296)), (1, .int .i64 (4294967296))]) ((M.mat 2 (SP.mk (-4294967296) (4294967296))).toArray) ?_ (builtN18 _ _) ?_; (focus (simp only [List.map_toArray, List.map_cons, List.map_nil]; rfl))) | ((with_reducible refine at_store 4 ?_); refine wpList_put_own O 0 (M.mat 2 (SP.mk (-4294967296) (4294967296))) rfl rfl rfl (sN18 _) (M.mat_len2 _ _ _) (M.mat_one _ _) ?_; clear O; intro w9 O))
      exact bodyPost_ret (v := arr 2 (SP.quot p k)) (by rw [HE.out]; exact res_h rfl O.held 0 rfl rfl Try.underlying62 rfl (sN18 _)) rfl ⟨rfl, O.below⟩
    · have k1 : decide (0 ≤ p1) = false := by simpa using h1
      have HE : Hid (SP.quot p k = SP.mk (0) (-1)) := Lib.hid (by unfold SP.quot; rw [if_neg hn, if_neg hz, ep0, ep1]; exact if_neg (fun h => h1 h.2))
      clear ep0 ep1 hp0 hp1 hk hn hz h0 h1
      go_enter Try.func62, Try.ntmps62
      go_wp2_with (first | ((with_reducible refine at_box 2 ?_); refine wpList_box_own O (M.mat 2 (p)) rfl ?_; clear O; intro g2 w1 O) | ((with_reducible refine at_alloc 4 ?_); refine wpList_alloc_own O (M.mat 2 M.zero) zeroN18 ?_; clear O; intro g4 w2 O) | ((with_reducible refine at_load 30 ?_); refine wpList_cell_h (v := .int .i64 (p0)) rfl O.held 1 rfl Cp0.out rfl agg3 rfl ?_) | ((with_reducible refine at_load 34 ?_); refine wpList_cell_h (v := .int .i64 (p1)) rfl O.held 1 rfl Cp1.out rfl agg3 rfl ?_) | ((with_reducible refine at_build 38 ?_); refine wpList_build_g rfl ([(0, .int .i64 (0)), (1, .int .i64 (-1))]) ((M.mat 2 (SP.mk (0) (-1))).toArray) ?_ (builtN18 _ _) ?_; (focus (simp only [List.map_toArray, List.map_cons, List.map_nil]; rfl))) | ((with_reducible refine at_store 4 ?_); refine wpList_put_own O 0 (M.mat 2 (SP.mk (0) (-1))) rfl rfl rfl (sN18 _) (M.mat_len2 _ _ _) (M.mat_one _ _) ?_; clear O; intro w9 O))
      exact bodyPost_ret (v := arr 2 (SP.quot p k)) (by rw [HE.out]; exact res_h rfl O.held 0 rfl rfl Try.underlying62 rfl (sN18 _)) rfl ⟨rfl, O.below⟩
  · have k0 : decide (p0 ≤ 0) = false := by simpa using h0
    have HE : Hid (SP.quot p k = SP.mk (0) (-1)) := Lib.hid (by unfold SP.quot; rw [if_neg hn, if_neg hz, ep0, ep1]; exact if_neg (fun h => h0 h.1))
    clear ep0 ep1 hp0 hp1 hk hn hz h0
    go_enter Try.func62, Try.ntmps62
    go_wp2_with (first | ((with_reducible refine at_box 2 ?_); refine wpList_box_own O (M.mat 2 (p)) rfl ?_; clear O; intro g2 w1 O) | ((with_reducible refine at_alloc 4 ?_); refine wpList_alloc_own O (M.mat 2 M.zero) zeroN18 ?_; clear O; intro g4 w2 O) | ((with_reducible refine at_load 30 ?_); refine wpList_cell_h (v := .int .i64 (p0)) rfl O.held 1 rfl Cp0.out rfl agg3 rfl ?_) | ((with_reducible refine at_build 38 ?_); refine wpList_build_g rfl ([(0, .int .i64 (0)), (1, .int .i64 (-1))]) ((M.mat 2 (SP.mk (0) (-1))).toArray) ?_ (builtN18 _ _) ?_; (focus (simp only [List.map_toArray, List.map_cons, List.map_nil]; rfl))) | ((with_reducible refine at_store 4 ?_); refine wpList_put_own O 0 (M.mat 2 (SP.mk (0) (-1))) rfl rfl rfl (sN18 _) (M.mat_len2 _ _ _) (M.mat_one _ _) ?_; clear O; intro w9 O))
    exact bodyPost_ret (v := arr 2 (SP.quot p k)) (by rw [HE.out]; exact res_h rfl O.held 0 rfl rfl Try.underlying62 rfl (sN18 _)) rfl ⟨rfl, O.below⟩
end Go.Proofs.Ytdkppkdoconfhaa
