/-
  SmoothCovers: the cover of any pixel by any line is that of the document's own answer, which counts the pixel's 64 samples; the pixel has a fragment, with that cover, just if it isn't 0.
-/
import Derived.Test.YtdkppkdoconfhaaSq
import Derived.Deep.DeepCutAuto
namespace Go.Proofs.Ytdkppkdoconfhaa.smoothCovers
open Go.ChangeShapes Go.WideShapes Go.ChangeAt Go.RowKit
set_option linter.unusedVariables false
set_option linter.unusedSimpArgs false

theorem own : ownKnob Try.prog.godebug = none := by kernel_rfl

set_option maxRecDepth 100000 in
set_option maxHeartbeats 16000000 in
theorem walk (w : World) (a b : Nat → Int) (n : Int) (r : Nat → Int) (x y : Int) :
    Calls Try.prog 4 #[.agg (sl a b n r).toArray, .agg (two .i64 x y).toArray] w fun e w' => e = .returned (.bool true) ∧ Below w.heap.size w w' := by
  have O := Held.start w [] (by simp)
  rcases (by omega : x < -4194304 ∨ (¬ x < -4194304 ∧ 4194304 ≤ x) ∨ ((-4194304 ≤ x ∧ x < 4194304) ∧ y < -4194304) ∨ ((-4194304 ≤ x ∧ x < 4194304) ∧ ¬ y < -4194304 ∧ 4194304 ≤ y) ∨ ((-4194304 ≤ x ∧ x < 4194304) ∧ -4194304 ≤ y ∧ y < 4194304)) with h | h | h | h | h
  · have K0 : decide (x < -4194304) = true := decide_eq_true (by omega)
    clear h
    go_enter Try.func4, Try.ntmps4
    go_wp2_with (first | ((with_reducible refine at_box 2 ?_); refine wpList_box_h O (sl a b n r) rfl ?_; clear O; intro g2 w1 O) | ((with_reducible refine at_box 3 ?_); refine wpList_box_h O (two .i64 x y) rfl ?_; clear O; intro g3 w2 O))
    have OO := O
    clear O
    have O := OO
    clear OO
    refine region_T ((fun w2 => Held w w2 [(g3, 37, two .i64 x y), (g2, 29, sl a b n r)] nilRow [])) [0, 1, 2, 3, 4] 12 [some 9, some 10, some 11, some 12, some 5] [.pointer (some ⟨g3, 0, none⟩), .int .i64 (x), .pointer (some ⟨g3, 1, none⟩), .int .i64 (y), .int .i64 (x)] 1 (by kernel_rfl) (by rfl) (by kernel_rfl) (by rfl) (by rfl) (O.drew) (fun F hF => ?_)
    simp only [fillD, Act.put, List.setIfInBounds_toArray, List.set_cons_zero, List.set_cons_succ] at hF
    subst hF
    refine ⟨⟨does_want rfl (by rfl) (fun w' O K hK => ?_), does_want rfl (by rfl) (fun w' O K hK => ?_), does_want rfl (by rfl) (fun w' O K hK => ?_), does_want rfl (by rfl) (fun w' O K hK => ?_), does_want rfl (by rfl) (fun w' O K hK => ?_), trivial⟩, fun w' O => ?_⟩
    · exact wp_ino Try.underlying37 sizeOfi64 (by decide) (0) rfl rfl (by rfl) (by omega) (hK _ O)
    · exact wp_cell_h (v := .int .i64 x) O 0 (i := 0) rfl rfl rfl agg3 rfl (hK _ O)
    · exact wp_ino Try.underlying37 sizeOfi64 (by decide) (1) rfl rfl (by rfl) (by omega) (hK _ O)
    · exact wp_cell_h (v := .int .i64 y) O 0 (i := 1) rfl rfl rfl agg3 rfl (hK _ O)
    · go_simp
      exact hK _ O
    refine wpAny_one (i := 5) (by kernel_rfl) rfl (fun K hK => ?_)
    go_simp
    refine hK _ _ ?_
    clear hK K
    try simp only [Act.put, List.setIfInBounds_toArray, List.set_cons_zero, List.set_cons_succ]
    refine wpAny_done (by kernel_rfl) ?_ _
    go_wp2_with (go_at_call 9; refine (awake_any _).mono ?_; rintro e w9 ⟨rfl, hb⟩; replace O := O.call hb; clear hb)
    go_ret
    exact ⟨rfl, O.below⟩
  · have K0 : decide (x < -4194304) = false := decide_eq_false (by omega)
    have K1 : decide (4194304 ≤ x) = true := decide_eq_true (by omega)
    clear h
    go_enter Try.func4, Try.ntmps4
    go_wp2_with (first | ((with_reducible refine at_box 2 ?_); refine wpList_box_h O (sl a b n r) rfl ?_; clear O; intro g2 w1 O) | ((with_reducible refine at_box 3 ?_); refine wpList_box_h O (two .i64 x y) rfl ?_; clear O; intro g3 w2 O))
    have OO := O
    clear O
    have O := OO
    clear OO
    refine region_T ((fun w2 => Held w w2 [(g3, 37, two .i64 x y), (g2, 29, sl a b n r)] nilRow [])) [0, 1, 2, 3, 4] 12 [some 9, some 10, some 11, some 12, some 5] [.pointer (some ⟨g3, 0, none⟩), .int .i64 (x), .pointer (some ⟨g3, 1, none⟩), .int .i64 (y), .int .i64 (x)] 1 (by kernel_rfl) (by rfl) (by kernel_rfl) (by rfl) (by rfl) (O.drew) (fun F hF => ?_)
    simp only [fillD, Act.put, List.setIfInBounds_toArray, List.set_cons_zero, List.set_cons_succ] at hF
    subst hF
    refine ⟨⟨does_want rfl (by rfl) (fun w' O K hK => ?_), does_want rfl (by rfl) (fun w' O K hK => ?_), does_want rfl (by rfl) (fun w' O K hK => ?_), does_want rfl (by rfl) (fun w' O K hK => ?_), does_want rfl (by rfl) (fun w' O K hK => ?_), trivial⟩, fun w' O => ?_⟩
    · exact wp_ino Try.underlying37 sizeOfi64 (by decide) (0) rfl rfl (by rfl) (by omega) (hK _ O)
    · exact wp_cell_h (v := .int .i64 x) O 0 (i := 0) rfl rfl rfl agg3 rfl (hK _ O)
    · exact wp_ino Try.underlying37 sizeOfi64 (by decide) (1) rfl rfl (by rfl) (by omega) (hK _ O)
    · exact wp_cell_h (v := .int .i64 y) O 0 (i := 1) rfl rfl rfl agg3 rfl (hK _ O)
    · go_simp
      exact hK _ O
    refine wpAny_one (i := 5) (by kernel_rfl) rfl (fun K hK => ?_)
    go_simp
    refine hK _ _ ?_
    clear hK K
    try simp only [Act.put, List.setIfInBounds_toArray, List.set_cons_zero, List.set_cons_succ]
    refine wpAny_done (by kernel_rfl) ?_ _
    go_wp2_with (go_at_call 9; refine (awake_any _).mono ?_; rintro e w9 ⟨rfl, hb⟩; replace O := O.call hb; clear hb)
    go_ret
    exact ⟨rfl, O.below⟩
  · have K0 : decide (x < -4194304) = false := decide_eq_false (by omega)
    have K1 : decide (4194304 ≤ x) = false := decide_eq_false (by omega)
    have K2 : decide (y < -4194304) = true := decide_eq_true (by omega)
    clear h
    go_enter Try.func4, Try.ntmps4
    go_wp2_with (first | ((with_reducible refine at_box 2 ?_); refine wpList_box_h O (sl a b n r) rfl ?_; clear O; intro g2 w1 O) | ((with_reducible refine at_box 3 ?_); refine wpList_box_h O (two .i64 x y) rfl ?_; clear O; intro g3 w2 O))
    have OO := O
    clear O
    have O := OO
    clear OO
    refine region_T ((fun w2 => Held w w2 [(g3, 37, two .i64 x y), (g2, 29, sl a b n r)] nilRow [])) [0, 1, 2, 3, 4] 12 [some 9, some 10, some 11, some 12, some 5] [.pointer (some ⟨g3, 0, none⟩), .int .i64 (x), .pointer (some ⟨g3, 1, none⟩), .int .i64 (y), .int .i64 (x)] 1 (by kernel_rfl) (by rfl) (by kernel_rfl) (by rfl) (by rfl) (O.drew) (fun F hF => ?_)
    simp only [fillD, Act.put, List.setIfInBounds_toArray, List.set_cons_zero, List.set_cons_succ] at hF
    subst hF
    refine ⟨⟨does_want rfl (by rfl) (fun w' O K hK => ?_), does_want rfl (by rfl) (fun w' O K hK => ?_), does_want rfl (by rfl) (fun w' O K hK => ?_), does_want rfl (by rfl) (fun w' O K hK => ?_), does_want rfl (by rfl) (fun w' O K hK => ?_), trivial⟩, fun w' O => ?_⟩
    · exact wp_ino Try.underlying37 sizeOfi64 (by decide) (0) rfl rfl (by rfl) (by omega) (hK _ O)
    · exact wp_cell_h (v := .int .i64 x) O 0 (i := 0) rfl rfl rfl agg3 rfl (hK _ O)
    · exact wp_ino Try.underlying37 sizeOfi64 (by decide) (1) rfl rfl (by rfl) (by omega) (hK _ O)
    · exact wp_cell_h (v := .int .i64 y) O 0 (i := 1) rfl rfl rfl agg3 rfl (hK _ O)
    · go_simp
      exact hK _ O
    refine wpAny_one (i := 5) (by kernel_rfl) rfl (fun K hK => ?_)
    go_simp
    refine hK _ _ ?_
    clear hK K
    try simp only [Act.put, List.setIfInBounds_toArray, List.set_cons_zero, List.set_cons_succ]
    refine wpAny_done (by kernel_rfl) ?_ _
    go_wp2_with (go_at_call 9; refine (awake_any _).mono ?_; rintro e w9 ⟨rfl, hb⟩; replace O := O.call hb; clear hb)
    go_ret
    exact ⟨rfl, O.below⟩
  · have K0 : decide (x < -4194304) = false := decide_eq_false (by omega)
    have K1 : decide (4194304 ≤ x) = false := decide_eq_false (by omega)
    have K2 : decide (y < -4194304) = false := decide_eq_false (by omega)
    have K3 : decide (4194304 ≤ y) = true := decide_eq_true (by omega)
    clear h
    go_enter Try.func4, Try.ntmps4
    go_wp2_with (first | ((with_reducible refine at_box 2 ?_); refine wpList_box_h O (sl a b n r) rfl ?_; clear O; intro g2 w1 O) | ((with_reducible refine at_box 3 ?_); refine wpList_box_h O (two .i64 x y) rfl ?_; clear O; intro g3 w2 O))
    have OO := O
    clear O
    have O := OO
    clear OO
    refine region_T ((fun w2 => Held w w2 [(g3, 37, two .i64 x y), (g2, 29, sl a b n r)] nilRow [])) [0, 1, 2, 3, 4] 12 [some 9, some 10, some 11, some 12, some 5] [.pointer (some ⟨g3, 0, none⟩), .int .i64 (x), .pointer (some ⟨g3, 1, none⟩), .int .i64 (y), .int .i64 (x)] 1 (by kernel_rfl) (by rfl) (by kernel_rfl) (by rfl) (by rfl) (O.drew) (fun F hF => ?_)
    simp only [fillD, Act.put, List.setIfInBounds_toArray, List.set_cons_zero, List.set_cons_succ] at hF
    subst hF
    refine ⟨⟨does_want rfl (by rfl) (fun w' O K hK => ?_), does_want rfl (by rfl) (fun w' O K hK => ?_), does_want rfl (by rfl) (fun w' O K hK => ?_), does_want rfl (by rfl) (fun w' O K hK => ?_), does_want rfl (by rfl) (fun w' O K hK => ?_), trivial⟩, fun w' O => ?_⟩
    · exact wp_ino Try.underlying37 sizeOfi64 (by decide) (0) rfl rfl (by rfl) (by omega) (hK _ O)
    · exact wp_cell_h (v := .int .i64 x) O 0 (i := 0) rfl rfl rfl agg3 rfl (hK _ O)
    · exact wp_ino Try.underlying37 sizeOfi64 (by decide) (1) rfl rfl (by rfl) (by omega) (hK _ O)
    · exact wp_cell_h (v := .int .i64 y) O 0 (i := 1) rfl rfl rfl agg3 rfl (hK _ O)
    · go_simp
      exact hK _ O
    refine wpAny_one (i := 5) (by kernel_rfl) rfl (fun K hK => ?_)
    go_simp
    refine hK _ _ ?_
    clear hK K
    try simp only [Act.put, List.setIfInBounds_toArray, List.set_cons_zero, List.set_cons_succ]
    refine wpAny_done (by kernel_rfl) ?_ _
    go_wp2_with (go_at_call 9; refine (awake_any _).mono ?_; rintro e w9 ⟨rfl, hb⟩; replace O := O.call hb; clear hb)
    go_ret
    exact ⟨rfl, O.below⟩
  · have K0 : decide (x < -4194304) = false := decide_eq_false (by omega)
    have K1 : decide (4194304 ≤ x) = false := decide_eq_false (by omega)
    have K2 : decide (y < -4194304) = false := decide_eq_false (by omega)
    have K3 : decide (4194304 ≤ y) = false := decide_eq_false (by omega)
    obtain ⟨hx, hy⟩ := h
    have CC := fun w => pcover_any a b n x y (by omega) (by omega) w
    have CD := fun w => rcover_any a b n x y (by omega) (by omega) w
    have CL := fun w => pline18_any a b n (RC.mk x y (x + 1) (y + 1)) (SM.area_one hx hy) w
    rw [SM.line_one hx hy] at CL
    have BR := builtR17 x y (x + 1) (y + 1)
    obtain ⟨x', hx'⟩ : ∃ z, x + 1 = z := ⟨_, rfl⟩
    obtain ⟨y', hy'⟩ : ∃ z, y + 1 = z := ⟨_, rfl⟩
    have W1 : wrap64 (x + 1) = x' := (IntWalk.wrap64_in _ (by omega)).trans hx'
    have W2 : wrap64 (y + 1) = y' := (IntWalk.wrap64_in _ (by omega)).trans hy'
    rw [hx', hy'] at CL BR
    have HV := @SM.cvr_lim a b n x y
    have HN := @SM.px_no a b n x y
    have HY := @SM.px_yes a b n x y
    generalize SM.cvr a b n x y = v at *
    generalize SM.px a b n x y = PX at *
    generalize SM.zz a b x y = z at *
    generalize SM.cc a b x y = q at *
    have J0 : (v != v) = false := by simp
    have J1 : decide (v < 0) = false := decide_eq_false (by omega)
    have J2 : decide (64 < v) = false := decide_eq_false (by omega)
    clear hx hy hx' hy' HV
    have T0 : True := trivial
    by_cases hv : v = 0
    · have J3 : (v == 0) = true := by simpa using hv
      have hp := HN hv
      subst hp
      clear HN HY hv
      go_enter Try.func4, Try.ntmps4
      go_wp2_with (first | ((with_reducible refine at_box 2 ?_); refine wpList_box_h O (sl a b n r) rfl ?_; clear O; intro g2 w1 O) | ((with_reducible refine at_box 3 ?_); refine wpList_box_h O (two .i64 x y) rfl ?_; clear O; intro g3 w2 O))
      have OO := O
      clear O
      have O := OO
      clear OO
      refine region_T ((fun w2 => Held w w2 [(g3, 37, two .i64 x y), (g2, 29, sl a b n r)] nilRow [])) [0, 1, 2, 3, 4] 12 [some 9, some 10, some 11, some 12, some 5] [.pointer (some ⟨g3, 0, none⟩), .int .i64 (x), .pointer (some ⟨g3, 1, none⟩), .int .i64 (y), .int .i64 (x)] 1 (by kernel_rfl) (by rfl) (by kernel_rfl) (by rfl) (by rfl) (O.drew) (fun F hF => ?_)
      simp only [fillD, Act.put, List.setIfInBounds_toArray, List.set_cons_zero, List.set_cons_succ] at hF
      subst hF
      refine ⟨⟨does_want rfl (by rfl) (fun w' O K hK => ?_), does_want rfl (by rfl) (fun w' O K hK => ?_), does_want rfl (by rfl) (fun w' O K hK => ?_), does_want rfl (by rfl) (fun w' O K hK => ?_), does_want rfl (by rfl) (fun w' O K hK => ?_), trivial⟩, fun w' O => ?_⟩
      · exact wp_ino Try.underlying37 sizeOfi64 (by decide) (0) rfl rfl (by rfl) (by omega) (hK _ O)
      · exact wp_cell_h (v := .int .i64 x) O 0 (i := 0) rfl rfl rfl agg3 rfl (hK _ O)
      · exact wp_ino Try.underlying37 sizeOfi64 (by decide) (1) rfl rfl (by rfl) (by omega) (hK _ O)
      · exact wp_cell_h (v := .int .i64 y) O 0 (i := 1) rfl rfl rfl agg3 rfl (hK _ O)
      · go_simp
        exact hK _ O
      refine wpAny_one (i := 5) (by kernel_rfl) rfl (fun K hK => ?_)
      go_simp
      refine hK _ _ ?_
      clear hK K
      try simp only [Act.put, List.setIfInBounds_toArray, List.set_cons_zero, List.set_cons_succ]
      refine wpAny_done (by kernel_rfl) ?_ _
      go_wp2_with (first | ((with_reducible refine at_load 29 ?_); refine wpList_mid_h rfl O 1 rfl (M.mat 7 a) (sl_a a b n r) rfl Try.underlying25 rfl (sW _) ?_) | ((with_reducible refine at_load 31 ?_); refine wpList_mid_h rfl O 1 rfl (M.mat 7 b) (sl_b a b n r) rfl Try.underlying25 rfl (sW _) ?_) | ((with_reducible refine at_load 33 ?_); refine wpList_cell_h (v := .int .i64 n) rfl O 1 rfl (sl_n a b n r) rfl agg3 rfl ?_) | (go_at_call 15; refine (CC _).mono ?_; rintro e w3 ⟨rfl, hb⟩; replace O := O.call hb; clear hb) | ((with_reducible refine at_load 38 ?_); refine wpList_mid_h rfl O 1 rfl (M.mat 7 a) (sl_a a b n r) rfl Try.underlying25 rfl (sW _) ?_) | ((with_reducible refine at_load 40 ?_); refine wpList_mid_h rfl O 1 rfl (M.mat 7 b) (sl_b a b n r) rfl Try.underlying25 rfl (sW _) ?_) | ((with_reducible refine at_load 42 ?_); refine wpList_cell_h (v := .int .i64 n) rfl O 1 rfl (sl_n a b n r) rfl agg3 rfl ?_) | ((with_reducible refine at_build 49 ?_); refine wpList_build_g rfl ([(0, .int .i64 x), (1, .int .i64 y), (2, .int .i64 x'), (3, .int .i64 y')]) ((M.mat 4 (RC.mk x y x' y')).toArray) ?_ (BR) ?_; (focus (simp only [List.map_toArray, List.map_cons, List.map_nil]; rfl))) | (go_at_call 13; refine (CL _).mono ?_; rintro e w4 ⟨XA, xc, rfl, hV, hb⟩; have O2 := O.gain hb hV; clear O hb hV; have O := O2; clear O2) | ((with_reducible refine at_load 53 ?_); refine wpList_mid_h rfl O 1 rfl (M.mat 7 a) (sl_a a b n r) rfl Try.underlying25 rfl (sW _) ?_) | ((with_reducible refine at_load 55 ?_); refine wpList_mid_h rfl O 1 rfl (M.mat 7 b) (sl_b a b n r) rfl Try.underlying25 rfl (sW _) ?_) | ((with_reducible refine at_load 57 ?_); refine wpList_cell_h (v := .int .i64 n) rfl O 1 rfl (sl_n a b n r) rfl agg3 rfl ?_) | (go_at_call 16; refine (CD _).mono ?_; rintro e w5 ⟨rfl, hb⟩; replace O := O.call hb; clear hb) | (go_at_call 9; refine (awake_any _).mono ?_; rintro e w6 ⟨rfl, hb⟩; replace O := O.call hb; clear hb))
      go_ret
      exact ⟨rfl, O.below⟩
    · have J3 : (v == 0) = false := by simpa using hv
      have hp := HY hv
      subst hp
      clear HN HY hv
      have J4 : (v == v) = true := by simp
      have J5 : (x == x) = true := by simp
      have J6 : (y == y) = true := by simp
      go_enter Try.func4, Try.ntmps4
      go_wp2_with (first | ((with_reducible refine at_box 2 ?_); refine wpList_box_h O (sl a b n r) rfl ?_; clear O; intro g2 w1 O) | ((with_reducible refine at_box 3 ?_); refine wpList_box_h O (two .i64 x y) rfl ?_; clear O; intro g3 w2 O))
      have OO := O
      clear O
      have O := OO
      clear OO
      refine region_T ((fun w2 => Held w w2 [(g3, 37, two .i64 x y), (g2, 29, sl a b n r)] nilRow [])) [0, 1, 2, 3, 4] 12 [some 9, some 10, some 11, some 12, some 5] [.pointer (some ⟨g3, 0, none⟩), .int .i64 (x), .pointer (some ⟨g3, 1, none⟩), .int .i64 (y), .int .i64 (x)] 1 (by kernel_rfl) (by rfl) (by kernel_rfl) (by rfl) (by rfl) (O.drew) (fun F hF => ?_)
      simp only [fillD, Act.put, List.setIfInBounds_toArray, List.set_cons_zero, List.set_cons_succ] at hF
      subst hF
      refine ⟨⟨does_want rfl (by rfl) (fun w' O K hK => ?_), does_want rfl (by rfl) (fun w' O K hK => ?_), does_want rfl (by rfl) (fun w' O K hK => ?_), does_want rfl (by rfl) (fun w' O K hK => ?_), does_want rfl (by rfl) (fun w' O K hK => ?_), trivial⟩, fun w' O => ?_⟩
      · exact wp_ino Try.underlying37 sizeOfi64 (by decide) (0) rfl rfl (by rfl) (by omega) (hK _ O)
      · exact wp_cell_h (v := .int .i64 x) O 0 (i := 0) rfl rfl rfl agg3 rfl (hK _ O)
      · exact wp_ino Try.underlying37 sizeOfi64 (by decide) (1) rfl rfl (by rfl) (by omega) (hK _ O)
      · exact wp_cell_h (v := .int .i64 y) O 0 (i := 1) rfl rfl rfl agg3 rfl (hK _ O)
      · go_simp
        exact hK _ O
      refine wpAny_one (i := 5) (by kernel_rfl) rfl (fun K hK => ?_)
      go_simp
      refine hK _ _ ?_
      clear hK K
      try simp only [Act.put, List.setIfInBounds_toArray, List.set_cons_zero, List.set_cons_succ]
      refine wpAny_done (by kernel_rfl) ?_ _
      go_wp2_with (first | ((with_reducible refine at_load 29 ?_); refine wpList_mid_h rfl O 1 rfl (M.mat 7 a) (sl_a a b n r) rfl Try.underlying25 rfl (sW _) ?_) | ((with_reducible refine at_load 31 ?_); refine wpList_mid_h rfl O 1 rfl (M.mat 7 b) (sl_b a b n r) rfl Try.underlying25 rfl (sW _) ?_) | ((with_reducible refine at_load 33 ?_); refine wpList_cell_h (v := .int .i64 n) rfl O 1 rfl (sl_n a b n r) rfl agg3 rfl ?_) | (go_at_call 15; refine (CC _).mono ?_; rintro e w3 ⟨rfl, hb⟩; replace O := O.call hb; clear hb) | ((with_reducible refine at_load 38 ?_); refine wpList_mid_h rfl O 1 rfl (M.mat 7 a) (sl_a a b n r) rfl Try.underlying25 rfl (sW _) ?_) | ((with_reducible refine at_load 40 ?_); refine wpList_mid_h rfl O 1 rfl (M.mat 7 b) (sl_b a b n r) rfl Try.underlying25 rfl (sW _) ?_) | ((with_reducible refine at_load 42 ?_); refine wpList_cell_h (v := .int .i64 n) rfl O 1 rfl (sl_n a b n r) rfl agg3 rfl ?_) | ((with_reducible refine at_build 49 ?_); refine wpList_build_g rfl ([(0, .int .i64 x), (1, .int .i64 y), (2, .int .i64 x'), (3, .int .i64 y')]) ((M.mat 4 (RC.mk x y x' y')).toArray) ?_ (BR) ?_; (focus (simp only [List.map_toArray, List.map_cons, List.map_nil]; rfl))) | (go_at_call 13; refine (CL _).mono ?_; rintro e w4 ⟨XA, xc, rfl, hV, hb⟩; have O2 := O.gain hb hV; clear O hb hV; have O := O2; clear O2) | ((with_reducible refine at_load 53 ?_); refine wpList_mid_h rfl O 1 rfl (M.mat 7 a) (sl_a a b n r) rfl Try.underlying25 rfl (sW _) ?_) | ((with_reducible refine at_load 55 ?_); refine wpList_mid_h rfl O 1 rfl (M.mat 7 b) (sl_b a b n r) rfl Try.underlying25 rfl (sW _) ?_) | ((with_reducible refine at_load 57 ?_); refine wpList_cell_h (v := .int .i64 n) rfl O 1 rfl (sl_n a b n r) rfl agg3 rfl ?_) | (go_at_call 16; refine (CD _).mono ?_; rintro e w5 ⟨rfl, hb⟩; replace O := O.call hb; clear hb) | (go_at_call 9; refine (awake_any _).mono ?_; rintro e w6 ⟨rfl, hb⟩; replace O := O.call hb; clear hb) | ((with_reducible refine at_index_ 86 ?_); refine wpList_at_h rfl Try.underlying34 sizeOfG (gE w.heap.size XA xc [SM.fr x y z q v]) (O.mem List.mem_cons_self) rfl 0 rfl (by first | rfl | omega) (by decide) (rfl) ?_) | ((with_reducible refine at_load 88 ?_); refine wpList_ecell_h rfl (gE w.heap.size XA xc [SM.fr x y z q v]) (O.mem List.mem_cons_self) (0 * 8 + 7) (v := .int .i64 v) rfl (by first | rfl | exact congrArg (fun z => Value.pointer (some z)) (add_fld0 _ 7 (by decide)) | exact congrArg (fun z => Value.pointer (some z)) (add_fld _ (0 * 8) 7 (by decide))) agg3 rfl ?_) | ((with_reducible refine at_index_ 94 ?_); refine wpList_at_h rfl Try.underlying34 sizeOfG (gE w.heap.size XA xc [SM.fr x y z q v]) (O.mem List.mem_cons_self) rfl 0 rfl (by first | rfl | omega) (by decide) (rfl) ?_) | ((with_reducible refine at_load 96 ?_); refine wpList_ecell_h rfl (gE w.heap.size XA xc [SM.fr x y z q v]) (O.mem List.mem_cons_self) (0 * 8) (v := .int .i64 x) rfl rfl agg3 rfl ?_) | ((with_reducible refine at_index_ 102 ?_); refine wpList_at_h rfl Try.underlying34 sizeOfG (gE w.heap.size XA xc [SM.fr x y z q v]) (O.mem List.mem_cons_self) rfl 0 rfl (by first | rfl | omega) (by decide) (rfl) ?_) | ((with_reducible refine at_load 104 ?_); refine wpList_ecell_h rfl (gE w.heap.size XA xc [SM.fr x y z q v]) (O.mem List.mem_cons_self) (0 * 8 + 1) (v := .int .i64 y) rfl (by first | rfl | exact congrArg (fun z => Value.pointer (some z)) (add_fld0 _ 1 (by decide)) | exact congrArg (fun z => Value.pointer (some z)) (add_fld _ (0 * 8) 1 (by decide))) agg3 rfl ?_))
      go_ret
      exact ⟨rfl, O.below⟩

theorem readable : ∀ t ∈ Try.f4.params.toList, Try.prog.readableRec t = true ∧ t < Try.prog.types.size := by
  intro t ht
  rw [Try.params4] at ht
  simp only [List.mem_cons, List.not_mem_nil, or_false] at ht
  repeat (first | (rcases ht with rfl | ht; exact ⟨by kernel_rfl, of_decide_eq_true (by kernel_rfl)⟩) | (subst ht; exact ⟨by kernel_rfl, of_decide_eq_true (by kernel_rfl)⟩))
set_option maxRecDepth 100000 in
theorem lifted (os : Os) (started : os.Started) (H : Type) (enc : TypeId × Value → H) :
    ReturnsInHanded {} Try.checked os 4 .any (Rows.smoothCoversSpec.pre6 enc Try.prog Try.f4 Rows.smoothCoversRow.domain false) (Rows.smoothCoversSpec.post enc Try.prog Try.f4 false true false false) := by
  refine returnsInHanded_of_change (C := Try.checked) own started (by kernel_rfl) Try.func4
    (ChangeSpec.witness6 (enc := enc) (C := Try.checked) false ⟨#[], #[.agg #[.int .i64 0, .int .i64 0, .int .i64 0, .int .i64 0, .int .i64 0, .int .i64 0, .int .i64 0, .int .i64 0, .int .i64 0, .int .i64 0, .int .i64 0, .int .i64 0, .int .i64 0, .int .i64 0, .int .i64 0, .int .i64 0, .int .i64 0, .int .i64 0, .int .i64 0], .agg #[.int .i64 0, .int .i64 0]], []⟩ 8 (by kernel_rfl) (by kernel_rfl) (by kernel_rfl) (by kernel_rfl)) ?_
  intro W base args ds gs before hval0 hW hcnd _
  have hval : ∀ (j : Nat) t v, Try.f4.params[j]? = some t → args[j]? = some v → Value.okWide Try.prog W .any base t v := hval0
  have hW' := hW
  obtain ⟨p, q, hA0, hV, rfl, hfz, hnd⟩ := hW
  have hA : DataW.TrodAll enc Try.prog W 0 (fun _ => true) true Try.f4.params.toList args.toList ds p := hA0
  rw [Try.params4] at hA hval
  have hlt : ∀ x ∈ p ++ q, x.block < W.heap.size := fun x hx => hW'.lt x hx
  obtain ⟨v0, vs0, d0, ds0, p0, q0, hargs, rfl, rfl, h0, rr0⟩ := trodAll_cons hA
  obtain ⟨v1, vs1, d1, ds1, p1, q1, rfl, rfl, rfl, h1, rr1⟩ := trodAll_cons rr0
  obtain ⟨rfl, rfl, rfl⟩ := trodAll_nil rr1
  obtain rfl : args = #[v0, v1] := by cases args; simp_all
  obtain ⟨rfl, rfl⟩ := trodVars_none hV
  obtain ⟨a0, b0, n0, r0, rfl⟩ := openSLine (hval 0 29 v0 rfl rfl) h0
  obtain ⟨x1, y1, rfl⟩ := openTwo64 (hval 1 37 v1 rfl rfl) h1
  clear hA0 hval0
  refine (walk W a0 b0 n0 r0 x1 y1).mono fun e W' ⟨he, hg⟩ => ?_
  subst he
  exact ⟨_, rfl, post_true (tb := 4) laid readable (by kernel_rfl) Try.underlying4 rfl (fun l hl => by
    match l, hl with
    | [_, _], _ => exact ⟨rfl, rfl, rfl⟩) hW' hg⟩

theorem over : Rows.smoothCoversRow.holds Try.pinned (OpenSpec.ofChange Rows.smoothCoversSpec) :=
  OpenClaim.holds_of_wide 4 Try.f4 rfl rfl rfl rfl rfl rfl rfl ⟨rfl, rfl, rfl, rfl, rfl⟩ rfl rfl rfl rfl rfl (by kernel_rfl) Try.func4 (by kernel_rfl)
    (of_decide_eq_true (by kernel_rfl)) (by unfold Func.isWrapper; first | (rw [if_pos (by decide +kernel)]; kernel_rfl) | (rw [if_neg (by decide +kernel)]; exact ⟨rfl, rfl⟩))
    (fun os started H enc _ => lifted os started H enc)

theorem proved : Rows.SmoothCoversSaid :=
  over
#print axioms proved
end Go.Proofs.Ytdkppkdoconfhaa.smoothCovers
