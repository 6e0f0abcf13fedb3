/- Contracts of the program: cut, box. -/
import Derived.Test.YtndaijcgjhmiaaaJr
namespace Go.Proofs.Ytndaijcgjhmiaaa
open Go.ChangeShapes Go.WideShapes Go.ChangeAt Go.RowKit
set_option linter.unusedVariables false
set_option linter.unusedSimpArgs false

set_option maxRecDepth 100000 in
set_option maxHeartbeats 8000000 in
theorem pcut20 (s : Nat → Int) (y p q : Int) (h : TR.Sd s) (hy : -4194304 ≤ y ∧ y ≤ 4194304) (w : World) : Calls Try.prog 25 #[arr 4 s, arr 3 (TR.sp y p q)] w fun e w' => e = .returned (arr 3 (TR.cutS s (TR.sp y p q))) ∧ Below w.heap.size w w' := by
  have O := Own.start w
  have HE : TR.cutS s (TR.sp y p q) = TR.sp y (if s 3 < 0 then max p (TR.crossed s y) else p) (if 0 < s 3 then min q (TR.crossed s y) else q) := rfl
  have CZ := fun h3 w => pcross20 s y h h3 hy w
  generalize TR.crossed s y = z at *
  have Cy := cell_is (n := 3) (a := TR.sp y p q) (i := 0) (z := y) rfl (by decide)
  have Cp := cell_is (n := 3) (a := TR.sp y p q) (i := 1) (z := p) rfl (by decide)
  have Cq := cell_is (n := 3) (a := TR.sp y p q) (i := 2) (z := q) rfl (by decide)
  clear h hy
  obtain ⟨s0, es0⟩ : ∃ z, s 0 = z := ⟨_, rfl⟩
  have Cs0 := cell_is (n := 4) es0 (by decide)
  obtain ⟨s1, es1⟩ : ∃ z, s 1 = z := ⟨_, rfl⟩
  have Cs1 := cell_is (n := 4) es1 (by decide)
  obtain ⟨s2, es2⟩ : ∃ z, s 2 = z := ⟨_, rfl⟩
  have Cs2 := cell_is (n := 4) es2 (by decide)
  obtain ⟨s3, es3⟩ : ∃ z, s 3 = z := ⟨_, rfl⟩
  have Cs3 := cell_is (n := 4) es3 (by decide)
  rw [es3] at HE CZ
  clear es0 es1 es2 es3 Cs0 Cs1 Cs2
  rcases Int.lt_trichotomy s3 0 with hs | hs | hs
  · rw [if_pos hs, if_neg (show ¬ 0 < s3 by omega)] at HE
    replace CZ := CZ (by omega)
    obtain ⟨m, hm⟩ : ∃ m, max p z = m := ⟨_, rfl⟩
    have G0 := Lib.hid ((max_if p z).trans hm)
    have F0 := Lib.hid hm
    rw [hm] at HE
    replace HE := Lib.hid HE
    have K1 : decide (s3 < 0) = true := decide_eq_true hs
    have K2 : decide (s3 > 0) = false := by simp; omega
    have K3 : decide (0 < s3) = false := by simp; omega
    clear hs hm
    go_enter Try.func25, Try.ntmps25
    go_wp2_with (first | ((with_reducible refine at_box 2 ?_); refine wpList_box_own O (M.mat 4 (s)) rfl ?_; clear O; intro g2 w1 O) | ((with_reducible refine at_box 3 ?_); refine wpList_box_own O (M.mat 3 (TR.sp y p q)) rfl ?_; clear O; intro g3 w2 O) | ((with_reducible refine at_alloc 4 ?_); refine wpList_alloc_own O (M.mat 3 M.zero) zeroS20 ?_; clear O; intro g4 w3 O) | ((with_reducible refine at_load 7 ?_); refine wpList_cell_h (v := .int .i64 (s3)) rfl O.held 2 rfl Cs3.out rfl agg3 rfl ?_))
    refine region_T (fun w2 => Own w w2 [(g4, 52, M.mat 3 M.zero), (g3, 52, M.mat 3 (TR.sp y p q)), (g2, 60, M.mat 4 s)]) [0, 1, 2, 3, 4, 5, 6, 7] 12 [some 9, some 10, some 11, some 12, some 13, some 14, some 15, some 16] [.pointer (some ⟨g3, 1, none⟩), .int .i64 (p), arr 4 s, .pointer (some ⟨g3, 0, none⟩), .int .i64 (y), .int .i64 (z), .int .i64 (m), .pointer (some ⟨g3, 1, none⟩)] 1 (by kernel_rfl) (by rfl) (by kernel_rfl) (by rfl) (by rfl) (O.drew) (fun F hF => ?_)
    simp only [fillD, Act.put, List.setIfInBounds_toArray, List.set_cons_zero, List.set_cons_succ] at hF
    subst hF
    refine ⟨⟨does_want rfl (by rfl) (fun w' O K hK => ?_), does_want rfl (by rfl) (fun w' O K hK => ?_), does_want rfl (by rfl) (fun w' O K hK => ?_), does_want rfl (by rfl) (fun w' O K hK => ?_), does_want rfl (by rfl) (fun w' O K hK => ?_), does_want rfl (by rfl) (fun w' O K hK => ?_), does_want rfl (by rfl) (fun w' O K hK => ?_), does_want rfl (by rfl) (fun w' O K hK => ?_), trivial⟩, fun w' O => ?_⟩
    · go_simp
      exact hK _ O
    · exact wp_cell_h (v := .int .i64 (p)) O.held 1 rfl Cp.out rfl agg3 rfl (hK _ O)
    · exact wp_whole O 2 rfl rfl Try.underlying60 rfl (sD20 _) (hK _ O)
    · go_simp
      exact hK _ O
    · exact wp_cell_h (v := .int .i64 (y)) O.held 1 rfl Cy.out rfl agg3 rfl (hK _ O)
    · go_simp
      go_at_call 31
      refine (CZ _).mono ?_
      rintro e w2 ⟨rfl, hb⟩
      exact hK _ (O.call hb)
    · go_simp
      first
        | exact hK _ O
        | (simp only [G0.out]; exact hK _ O)
        | (simp only [F0.out]; exact hK _ O)
    · go_simp
      exact hK _ O
    refine wpAny_want (i := 8) (by kernel_rfl) rfl (by rfl) (fun K hK => ?_)
    refine wp_set_own O 1 (.int .i64 (m)) rfl (by rw [M.mat_len]; omega) rfl rfl size3 rfl rfl fun w9 O9 => hK _ _ ?_
    clear O
    have O := O9
    clear O9
    clear hK K
    try simp only [Act.put, List.setIfInBounds_toArray, List.set_cons_zero, List.set_cons_succ]
    refine wpAny_done (by kernel_rfl) ?_ _
    have O9 := Own.as O (l' := [(g4, 52, M.mat 3 M.zero), (g3, 52, M.mat 3 (TR.sp y m q)), (g2, 60, M.mat 4 s)]) (by rw [← TR.sp_set1 y p q m]; rfl)
    clear O
    have O := O9
    clear O9
    go_wp2_with (first | ((with_reducible refine at_load 19 ?_); refine wpList_cell_h (v := .int .i64 (s3)) rfl O.held 2 rfl Cs3.out rfl agg3 rfl ?_) | ((with_reducible refine at_load 29 ?_); refine wpList_whole rfl O 1 rfl rfl Try.underlying52 rfl (sS20 _) ?_) | ((with_reducible refine at_store 4 ?_); refine wpList_put_own O 0 (M.mat 3 (TR.sp y m q)) rfl rfl rfl (sS20 _) (M.mat_len2 _ _ _) (M.mat_one _ _) ?_; clear O; intro w9 O))
    exact bodyPost_ret (v := arr 3 (TR.cutS s (TR.sp y p q))) (by rw [HE.out]; exact res_h rfl O.held 0 rfl rfl Try.underlying52 rfl (sS20 _)) rfl ⟨rfl, O.below⟩
  · rw [if_neg (show ¬ s3 < 0 by omega), if_neg (show ¬ 0 < s3 by omega)] at HE
    clear CZ
    replace HE := Lib.hid HE
    have K1 : decide (s3 < 0) = false := by simp; omega
    have K2 : decide (s3 > 0) = false := by simp; omega
    have K3 : decide (0 < s3) = false := by simp; omega
    clear hs
    go_enter Try.func25, Try.ntmps25
    go_wp2_with (first | ((with_reducible refine at_box 2 ?_); refine wpList_box_own O (M.mat 4 (s)) rfl ?_; clear O; intro g2 w1 O) | ((with_reducible refine at_box 3 ?_); refine wpList_box_own O (M.mat 3 (TR.sp y p q)) rfl ?_; clear O; intro g3 w2 O) | ((with_reducible refine at_alloc 4 ?_); refine wpList_alloc_own O (M.mat 3 M.zero) zeroS20 ?_; clear O; intro g4 w3 O) | ((with_reducible refine at_load 7 ?_); refine wpList_cell_h (v := .int .i64 (s3)) rfl O.held 2 rfl Cs3.out rfl agg3 rfl ?_) | ((with_reducible refine at_load 19 ?_); refine wpList_cell_h (v := .int .i64 (s3)) rfl O.held 2 rfl Cs3.out rfl agg3 rfl ?_) | ((with_reducible refine at_load 29 ?_); refine wpList_whole rfl O 1 rfl rfl Try.underlying52 rfl (sS20 _) ?_) | ((with_reducible refine at_store 4 ?_); refine wpList_put_own O 0 (M.mat 3 (TR.sp y p q)) rfl rfl rfl (sS20 _) (M.mat_len2 _ _ _) (M.mat_one _ _) ?_; clear O; intro w9 O))
    exact bodyPost_ret (v := arr 3 (TR.cutS s (TR.sp y p q))) (by rw [HE.out]; exact res_h rfl O.held 0 rfl rfl Try.underlying52 rfl (sS20 _)) rfl ⟨rfl, O.below⟩
  · rw [if_neg (show ¬ s3 < 0 by omega), if_pos hs] at HE
    replace CZ := CZ (by omega)
    obtain ⟨m, hm⟩ : ∃ m, min q z = m := ⟨_, rfl⟩
    have G0 := Lib.hid ((min_if q z).trans hm)
    have F0 := Lib.hid hm
    rw [hm] at HE
    replace HE := Lib.hid HE
    have K1 : decide (s3 < 0) = false := by simp; omega
    have K2 : decide (s3 > 0) = true := by simp; omega
    have K3 : decide (0 < s3) = true := by simp; omega
    clear hs hm
    go_enter Try.func25, Try.ntmps25
    go_wp2_with (first | ((with_reducible refine at_box 2 ?_); refine wpList_box_own O (M.mat 4 (s)) rfl ?_; clear O; intro g2 w1 O) | ((with_reducible refine at_box 3 ?_); refine wpList_box_own O (M.mat 3 (TR.sp y p q)) rfl ?_; clear O; intro g3 w2 O) | ((with_reducible refine at_alloc 4 ?_); refine wpList_alloc_own O (M.mat 3 M.zero) zeroS20 ?_; clear O; intro g4 w3 O) | ((with_reducible refine at_load 7 ?_); refine wpList_cell_h (v := .int .i64 (s3)) rfl O.held 2 rfl Cs3.out rfl agg3 rfl ?_) | ((with_reducible refine at_load 19 ?_); refine wpList_cell_h (v := .int .i64 (s3)) rfl O.held 2 rfl Cs3.out rfl agg3 rfl ?_))
    refine region_T (fun w2 => Own w w2 [(g4, 52, M.mat 3 M.zero), (g3, 52, M.mat 3 (TR.sp y p q)), (g2, 60, M.mat 4 s)]) [0, 1, 2, 3, 4, 5, 6, 7] 12 [some 21, some 22, some 23, some 24, some 25, some 26, some 27, some 28] [.pointer (some ⟨g3, 2, none⟩), .int .i64 (q), arr 4 s, .pointer (some ⟨g3, 0, none⟩), .int .i64 (y), .int .i64 (z), .int .i64 (m), .pointer (some ⟨g3, 2, none⟩)] 1 (by kernel_rfl) (by rfl) (by kernel_rfl) (by rfl) (by rfl) (O.drew) (fun F hF => ?_)
    simp only [fillD, Act.put, List.setIfInBounds_toArray, List.set_cons_zero, List.set_cons_succ] at hF
    subst hF
    refine ⟨⟨does_want rfl (by rfl) (fun w' O K hK => ?_), does_want rfl (by rfl) (fun w' O K hK => ?_), does_want rfl (by rfl) (fun w' O K hK => ?_), does_want rfl (by rfl) (fun w' O K hK => ?_), does_want rfl (by rfl) (fun w' O K hK => ?_), does_want rfl (by rfl) (fun w' O K hK => ?_), does_want rfl (by rfl) (fun w' O K hK => ?_), does_want rfl (by rfl) (fun w' O K hK => ?_), trivial⟩, fun w' O => ?_⟩
    · go_simp
      exact hK _ O
    · exact wp_cell_h (v := .int .i64 (q)) O.held 1 rfl Cq.out rfl agg3 rfl (hK _ O)
    · exact wp_whole O 2 rfl rfl Try.underlying60 rfl (sD20 _) (hK _ O)
    · go_simp
      exact hK _ O
    · exact wp_cell_h (v := .int .i64 (y)) O.held 1 rfl Cy.out rfl agg3 rfl (hK _ O)
    · go_simp
      go_at_call 31
      refine (CZ _).mono ?_
      rintro e w2 ⟨rfl, hb⟩
      exact hK _ (O.call hb)
    · go_simp
      first
        | exact hK _ O
        | (simp only [G0.out]; exact hK _ O)
        | (simp only [F0.out]; exact hK _ O)
    · go_simp
      exact hK _ O
    refine wpAny_want (i := 8) (by kernel_rfl) rfl (by rfl) (fun K hK => ?_)
    refine wp_set_own O 1 (.int .i64 (m)) rfl (by rw [M.mat_len]; omega) rfl rfl size3 rfl rfl fun w9 O9 => hK _ _ ?_
    clear O
    have O := O9
    clear O9
    clear hK K
    try simp only [Act.put, List.setIfInBounds_toArray, List.set_cons_zero, List.set_cons_succ]
    refine wpAny_done (by kernel_rfl) ?_ _
    have O9 := Own.as O (l' := [(g4, 52, M.mat 3 M.zero), (g3, 52, M.mat 3 (TR.sp y p m)), (g2, 60, M.mat 4 s)]) (by rw [← TR.sp_set2 y p q m]; rfl)
    clear O
    have O := O9
    clear O9
    go_wp2_with (first | ((with_reducible refine at_load 29 ?_); refine wpList_whole rfl O 1 rfl rfl Try.underlying52 rfl (sS20 _) ?_) | ((with_reducible refine at_store 4 ?_); refine wpList_put_own O 0 (M.mat 3 (TR.sp y p m)) rfl rfl rfl (sS20 _) (M.mat_len2 _ _ _) (M.mat_one _ _) ?_; clear O; intro w9 O))
    exact bodyPost_ret (v := arr 3 (TR.cutS s (TR.sp y p q))) (by rw [HE.out]; exact res_h rfl O.held 0 rfl rfl Try.underlying52 rfl (sS20 _)) rfl ⟨rfl, O.below⟩
theorem run_min_three {P : Program} (w : World) (ts : Array TypeId) (t : TypeId) (k k' k2 : IntKind) (x y z : Int) :
    (Builtin.min_ ts t #[.int k x, .int k' y, .int k2 z]).run P w = .ok (.int k (TR.mn x y z)) w := by
  have e1 : (if y < x then y else x) = min x y := by omega
  have e2 : (if z < min x y then z else min x y) = min (min x y) z := by omega
  simp [Builtin.min_, Builtin.min2, e1, e2, TR.mn]
theorem run_max_three {P : Program} (w : World) (ts : Array TypeId) (t : TypeId) (k k' k2 : IntKind) (x y z : Int) :
    (Builtin.max_ ts t #[.int k x, .int k' y, .int k2 z]).run P w = .ok (.int k (TR.mx x y z)) w := by
  have e1 : (if y > x then y else x) = max x y := by omega
  have e2 : (if z > max x y then z else max x y) = max (max x y) z := by omega
  simp [Builtin.max_, Builtin.max2, e1, e2, TR.mx]
section
attribute [local go_sem ↓] run_min_three run_max_three
set_option maxRecDepth 100000 in
set_option maxHeartbeats 16000000 in
theorem pbox20 (a b c : Nat → Int) (ha : TR.May a) (hb : TR.May b) (hc : TR.May c) (w : World) : Calls Try.prog 24 #[arr 7 a, arr 7 b, arr 7 c] w fun e w' => e = .returned (arr 4 (TR.bx a b c)) ∧ Below w.heap.size w w' := by
  have O := Own.start w
  have HE : TR.bx a b c = RC.mk (TR.ff (TR.mn (a 0) (b 0) (c 0))) (TR.ff (TR.mn (a 1) (b 1) (c 1) + 1)) (TR.ff (TR.mx (a 0) (b 0) (c 0))) (TR.ff (TR.mx (a 1) (b 1) (c 1) + 1)) := rfl
  obtain ⟨ha0, ha1⟩ := ha
  obtain ⟨hb0, hb1⟩ := hb
  obtain ⟨hc0, hc1⟩ := hc
  obtain ⟨a0, ea0⟩ : ∃ z, a 0 = z := ⟨_, rfl⟩
  have Ca0 := cell_is (n := 7) ea0 (by decide)
  obtain ⟨a1, ea1⟩ : ∃ z, a 1 = z := ⟨_, rfl⟩
  have Ca1 := cell_is (n := 7) ea1 (by decide)
  obtain ⟨b0, eb0⟩ : ∃ z, b 0 = z := ⟨_, rfl⟩
  have Cb0 := cell_is (n := 7) eb0 (by decide)
  obtain ⟨b1, eb1⟩ : ∃ z, b 1 = z := ⟨_, rfl⟩
  have Cb1 := cell_is (n := 7) eb1 (by decide)
  obtain ⟨c0, ec0⟩ : ∃ z, c 0 = z := ⟨_, rfl⟩
  have Cc0 := cell_is (n := 7) ec0 (by decide)
  obtain ⟨c1, ec1⟩ : ∃ z, c 1 = z := ⟨_, rfl⟩
  have Cc1 := cell_is (n := 7) ec1 (by decide)
  rw [ea0, ea1, eb0, eb1, ec0, ec1] at HE
  rw [ea0] at ha0
  rw [ea1] at ha1
  rw [eb0] at hb0
  rw [eb1] at hb1
  rw [ec0] at hc0
  rw [ec1] at hc1
  obtain ⟨m0, hm0⟩ : ∃ z, TR.mn a0 b0 c0 = z := ⟨_, rfl⟩
  obtain ⟨m1, hm1⟩ : ∃ z, TR.mn a1 b1 c1 = z := ⟨_, rfl⟩
  obtain ⟨m2, hm2⟩ : ∃ z, TR.mx a0 b0 c0 = z := ⟨_, rfl⟩
  obtain ⟨m3, hm3⟩ : ∃ z, TR.mx a1 b1 c1 = z := ⟨_, rfl⟩
  have l0 := (show -268435456 ≤ m0 ∧ m0 ≤ 268435456 by unfold TR.mn at hm0; omega)
  have l1 := (show -268435456 ≤ m1 ∧ m1 ≤ 268435456 by unfold TR.mn at hm1; omega)
  have l2 := (show -268435456 ≤ m2 ∧ m2 ≤ 268435456 by unfold TR.mx at hm2; omega)
  have l3 := (show -268435456 ≤ m3 ∧ m3 ≤ 268435456 by unfold TR.mx at hm3; omega)
  obtain ⟨n1, hn1⟩ : ∃ z, m1 + 1 = z := ⟨_, rfl⟩
  obtain ⟨n3, hn3⟩ : ∃ z, m3 + 1 = z := ⟨_, rfl⟩
  rw [hm0, hm1, hm2, hm3, hn1, hn3] at HE
  have C0 := fun w => pff20 m0 (by omega) w
  have C1 := fun w => pff20 n1 (by omega) w
  have C2 := fun w => pff20 m2 (by omega) w
  have C3 := fun w => pff20 n3 (by omega) w
  have M0 : Hid (TR.mn a0 b0 c0 = m0) := Lib.hid hm0
  have M1 : Hid (TR.mn a1 b1 c1 = m1) := Lib.hid hm1
  have M2 : Hid (TR.mx a0 b0 c0 = m2) := Lib.hid hm2
  have M3 : Hid (TR.mx a1 b1 c1 = m3) := Lib.hid hm3
  have N1 : Hid (IntKind.i64.wrap (m1 + 1) = n1) := Lib.hid ((IntWalk.i64_in _ (by omega)).trans hn1)
  have N3 : Hid (IntKind.i64.wrap (m3 + 1) = n3) := Lib.hid ((IntWalk.i64_in _ (by omega)).trans hn3)
  obtain ⟨q0, hq0⟩ : ∃ z, TR.ff m0 = z := ⟨_, rfl⟩
  rw [hq0] at C0 HE
  obtain ⟨q1, hq1⟩ : ∃ z, TR.ff n1 = z := ⟨_, rfl⟩
  rw [hq1] at C1 HE
  obtain ⟨q2, hq2⟩ : ∃ z, TR.ff m2 = z := ⟨_, rfl⟩
  rw [hq2] at C2 HE
  obtain ⟨q3, hq3⟩ : ∃ z, TR.ff n3 = z := ⟨_, rfl⟩
  rw [hq3] at C3 HE
  replace HE := Lib.hid HE
  clear hm0 hm1 hm2 hm3 hn1 hn3 hq0 hq1 hq2 hq3 l0 l1 l2 l3 ha0 ha1 hb0 hb1 hc0 hc1 ea0 ea1 eb0 eb1 ec0 ec1
  go_enter Try.func24, Try.ntmps24
  go_wp2_with (first | ((with_reducible refine at_box 3 ?_); refine wpList_box_own O (M.mat 7 (a)) rfl ?_; clear O; intro g3 w1 O) | ((with_reducible refine at_box 4 ?_); refine wpList_box_own O (M.mat 7 (b)) rfl ?_; clear O; intro g4 w2 O) | ((with_reducible refine at_box 5 ?_); refine wpList_box_own O (M.mat 7 (c)) rfl ?_; clear O; intro g5 w3 O) | ((with_reducible refine at_alloc 6 ?_); refine wpList_alloc_own O (M.mat 4 M.zero) zeroR ?_; clear O; intro g6 w4 O))
  refine region_T (fun w2 => Own w w2 [(g6, 27, M.mat 4 M.zero), (g5, 34, M.mat 7 c), (g4, 34, M.mat 7 b), (g3, 34, M.mat 7 a)]) [0, 1, 2, 3, 4, 5, 6, 7, 8, 9, 10, 11, 12, 13, 14, 15, 16, 17, 18, 19, 20, 21, 22, 23, 24, 25, 26, 27, 28, 29, 30, 31, 32, 33, 34] 12 [some 7, some 8, some 9, some 10, some 11, some 12, some 13, some 14, some 15, some 16, some 17, some 18, some 19, some 20, some 21, some 22, some 23, some 24, some 25, some 26, some 27, some 28, some 29, some 30, some 31, some 32, some 33, some 34, some 35, some 36, some 37, some 38, some 39, some 40, some 41] [.pointer (some ⟨g3, 0, none⟩), .int .i64 (a0), .pointer (some ⟨g4, 0, none⟩), .int .i64 (b0), .pointer (some ⟨g5, 0, none⟩), .int .i64 (c0), .int .i64 (m0), .int .i64 (q0), .pointer (some ⟨g3, 1, none⟩), .int .i64 (a1), .pointer (some ⟨g4, 1, none⟩), .int .i64 (b1), .pointer (some ⟨g5, 1, none⟩), .int .i64 (c1), .int .i64 (m1), .int .i64 (n1), .int .i64 (q1), .pointer (some ⟨g3, 0, none⟩), .int .i64 (a0), .pointer (some ⟨g4, 0, none⟩), .int .i64 (b0), .pointer (some ⟨g5, 0, none⟩), .int .i64 (c0), .int .i64 (m2), .int .i64 (q2), .pointer (some ⟨g3, 1, none⟩), .int .i64 (a1), .pointer (some ⟨g4, 1, none⟩), .int .i64 (b1), .pointer (some ⟨g5, 1, none⟩), .int .i64 (c1), .int .i64 (m3), .int .i64 (n3), .int .i64 (q3), arr 4 (RC.mk q0 q1 q2 q3)] 1 (by kernel_rfl) (by rfl) (by kernel_rfl) (by rfl) (by rfl) (O.drew) (fun F hF => ?_)
  simp only [fillD, Act.put, List.setIfInBounds_toArray, List.set_cons_zero, List.set_cons_succ] at hF
  subst hF
  refine ⟨⟨does_want rfl (by rfl) (fun w' O K hK => ?_), does_want rfl (by rfl) (fun w' O K hK => ?_), does_want rfl (by rfl) (fun w' O K hK => ?_), does_want rfl (by rfl) (fun w' O K hK => ?_), does_want rfl (by rfl) (fun w' O K hK => ?_), does_want rfl (by rfl) (fun w' O K hK => ?_), does_want rfl (by rfl) (fun w' O K hK => ?_), does_want rfl (by rfl) (fun w' O K hK => ?_), does_want rfl (by rfl) (fun w' O K hK => ?_), does_want rfl (by rfl) (fun w' O K hK => ?_), does_want rfl (by rfl) (fun w' O K hK => ?_), does_want rfl (by rfl) (fun w' O K hK => ?_), does_want rfl (by rfl) (fun w' O K hK => ?_), does_want rfl (by rfl) (fun w' O K hK => ?_), does_want rfl (by rfl) (fun w' O K hK => ?_), does_want rfl (by rfl) (fun w' O K hK => ?_), does_want rfl (by rfl) (fun w' O K hK => ?_), does_want rfl (by rfl) (fun w' O K hK => ?_), does_want rfl (by rfl) (fun w' O K hK => ?_), does_want rfl (by rfl) (fun w' O K hK => ?_), does_want rfl (by rfl) (fun w' O K hK => ?_), does_want rfl (by rfl) (fun w' O K hK => ?_), does_want rfl (by rfl) (fun w' O K hK => ?_), does_want rfl (by rfl) (fun w' O K hK => ?_), does_want rfl (by rfl) (fun w' O K hK => ?_), does_want rfl (by rfl) (fun w' O K hK => ?_), does_want rfl (by rfl) (fun w' O K hK => ?_), does_want rfl (by rfl) (fun w' O K hK => ?_), does_want rfl (by rfl) (fun w' O K hK => ?_), does_want rfl (by rfl) (fun w' O K hK => ?_), does_want rfl (by rfl) (fun w' O K hK => ?_), does_want rfl (by rfl) (fun w' O K hK => ?_), does_want rfl (by rfl) (fun w' O K hK => ?_), does_want rfl (by rfl) (fun w' O K hK => ?_), does_want rfl (by rfl) (fun w' O K hK => ?_), trivial⟩, fun w' O => ?_⟩
  · go_simp
    exact hK _ O
  · exact wp_cell_h (v := .int .i64 (a0)) O.held 3 rfl Ca0.out rfl agg3 rfl (hK _ O)
  · go_simp
    exact hK _ O
  · exact wp_cell_h (v := .int .i64 (b0)) O.held 2 rfl Cb0.out rfl agg3 rfl (hK _ O)
  · go_simp
    exact hK _ O
  · exact wp_cell_h (v := .int .i64 (c0)) O.held 1 rfl Cc0.out rfl agg3 rfl (hK _ O)
  · go_simp
    first
      | exact hK _ O
      | (simp only [M0.out]; exact hK _ O)
  · go_simp
    go_at_call 30
    refine (C0 _).mono ?_
    rintro e w2 ⟨rfl, rfl⟩
    exact hK _ O
  · go_simp
    exact hK _ O
  · exact wp_cell_h (v := .int .i64 (a1)) O.held 3 rfl Ca1.out rfl agg3 rfl (hK _ O)
  · go_simp
    exact hK _ O
  · exact wp_cell_h (v := .int .i64 (b1)) O.held 2 rfl Cb1.out rfl agg3 rfl (hK _ O)
  · go_simp
    exact hK _ O
  · exact wp_cell_h (v := .int .i64 (c1)) O.held 1 rfl Cc1.out rfl agg3 rfl (hK _ O)
  · go_simp
    first
      | exact hK _ O
      | (simp only [M1.out]; exact hK _ O)
  · go_simp
    simp only [N1.out]
    exact hK _ O
  · go_simp
    go_at_call 30
    refine (C1 _).mono ?_
    rintro e w2 ⟨rfl, rfl⟩
    exact hK _ O
  · go_simp
    exact hK _ O
  · exact wp_cell_h (v := .int .i64 (a0)) O.held 3 rfl Ca0.out rfl agg3 rfl (hK _ O)
  · go_simp
    exact hK _ O
  · exact wp_cell_h (v := .int .i64 (b0)) O.held 2 rfl Cb0.out rfl agg3 rfl (hK _ O)
  · go_simp
    exact hK _ O
  · exact wp_cell_h (v := .int .i64 (c0)) O.held 1 rfl Cc0.out rfl agg3 rfl (hK _ O)
  · go_simp
    first
      | exact hK _ O
      | (simp only [M2.out]; exact hK _ O)
  · go_simp
    go_at_call 30
    refine (C2 _).mono ?_
    rintro e w2 ⟨rfl, rfl⟩
    exact hK _ O
  · go_simp
    exact hK _ O
  · exact wp_cell_h (v := .int .i64 (a1)) O.held 3 rfl Ca1.out rfl agg3 rfl (hK _ O)
  · go_simp
    exact hK _ O
  · exact wp_cell_h (v := .int .i64 (b1)) O.held 2 rfl Cb1.out rfl agg3 rfl (hK _ O)
  · go_simp
    exact hK _ O
  · exact wp_cell_h (v := .int .i64 (c1)) O.held 1 rfl Cc1.out rfl agg3 rfl (hK _ O)
  · go_simp
    first
      | exact hK _ O
      | (simp only [M3.out]; exact hK _ O)
  · go_simp
    simp only [N3.out]
    exact hK _ O
  · go_simp
    go_at_call 30
    refine (C3 _).mono ?_
    rintro e w2 ⟨rfl, rfl⟩
    exact hK _ O
  · exact wp_build_own [(0, .int .i64 q0), (1, .int .i64 q1), (2, .int .i64 q2), (3, .int .i64 q3)] (M.mat 4 (RC.mk q0 q1 q2 q3)).toArray (by simp only [List.map_toArray, List.map_cons, List.map_nil]; rfl) (builtR17 _ _ _ _) (hK _ O)
  refine wpAny_want (i := 35) (by kernel_rfl) rfl (by rfl) (fun K hK => ?_)
  refine wp_put_own O 0 (M.mat 4 (RC.mk q0 q1 q2 q3)) rfl rfl rfl (sR _) (M.mat_len2 _ _ _) (M.mat_one _ _) fun w9 O9 => hK _ _ ?_
  clear O
  have O := O9
  clear O9
  clear hK K
  try simp only [Act.put, List.setIfInBounds_toArray, List.set_cons_zero, List.set_cons_succ]
  refine wpAny_done (by kernel_rfl) ?_ _
  go_wp2_with fail
  exact bodyPost_ret (v := arr 4 (TR.bx a b c)) (by rw [HE.out]; exact res_h rfl O.held 0 rfl rfl Try.underlying27 rfl (sR _)) rfl ⟨rfl, O.below⟩
end
end Go.Proofs.Ytndaijcgjhmiaaa
