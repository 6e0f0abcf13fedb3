/- Contracts: the document's Right, first, Box, Cover, part. -/
import Derived.Test.YtlmgilcigbnbaaaDa
import Derived.Test.YtlmgilcigbnbaaaTy
namespace Go.Proofs.Ytlmgilcigbnbaaa
open Go.ChangeShapes Go.WideShapes Go.ChangeAt Go.RowKit
set_option linter.unusedVariables false
set_option linter.unusedSimpArgs false

namespace DT
theorem div_lim {x c B : Int} (hc : 0 < c) (hB : 0 ≤ B) (h : -B ≤ x ∧ x ≤ B) : -B ≤ x / c ∧ x / c ≤ B := by
  have h1 := Int.mul_le_mul_of_nonneg_left (show 1 ≤ c by omega) hB
  rw [Int.mul_one] at h1
  constructor
  · rw [Int.le_ediv_iff_mul_le hc, Int.neg_mul]
    omega
  · exact Int.ediv_le_of_le_mul hc (by omega)
theorem down_is {n d q r : Int} (hd : 0 < d) (hq : n.tdiv d = q) (hr : n.tmod d = r) : (r < 0 → n / d = q - 1) ∧ (¬ r < 0 → n / d = q) := by
  have e := Int.mul_tdiv_add_tmod n d
  rw [hq, hr] at e
  have h1 := Int.tmod_lt_of_pos n hd
  have h2 := Int.lt_tmod_of_pos n hd
  rw [hr] at h1 h2
  constructor
  · intro h
    exact ((Int.ediv_emod_unique hd (r := r + d) (q := q - 1)).2 ⟨by rw [Int.mul_sub, Int.mul_one]; omega, by omega, by omega⟩).1
  · intro h
    exact ((Int.ediv_emod_unique hd (r := r) (q := q)).2 ⟨by omega, by omega, by omega⟩).1
end DT
set_option maxHeartbeats 4000000 in
theorem rright19_any (v : Nat → Int) (s k : Int) (w : World) : Calls Try.prog 10 #[arr 7 v, .int .i64 s, .int .i64 k] w fun e w' => e = .returned (.bool (DT.right v s k)) ∧ Below w.heap.size w w' := by
  have O := Own.start w
  have CM := fun w => rmay_any v w
  have HE : Hid (DT.right v s k = (VM.fit v && (decide (1 ≤ s) && (decide (s ≤ 64) && (decide (0 ≤ k) && decide (k ≤ 2)))))) := Lib.hid rfl
  generalize VM.fit v = z at CM HE
  have g1 : decide (s ≥ 1) = decide (1 ≤ s) := rfl
  have g2 : decide (k ≥ 0) = decide (0 ≤ k) := rfl
  cases z
  · go_enter Try.func10, Try.ntmps10
    go_wp2_with (first | ((with_reducible refine at_box 3 ?_); refine wpList_box_own O (M.mat 7 (v)) rfl ?_; clear O; intro g3 w1 O) | ((with_reducible refine at_load 7 ?_); refine wpList_whole rfl O 0 rfl rfl Try.underlying25 rfl (sW _) ?_) | (go_at_call 22; refine (CM _).mono ?_; rintro e w2 ⟨rfl, hb⟩; replace O := O.call hb; clear hb))
    go_ret
    exact ⟨by rw [HE.out]; first | rfl | simp, O.below⟩
  cases h0 : decide (1 ≤ s)
  · rw [h0] at g1 HE
    go_enter Try.func10, Try.ntmps10
    go_wp2_with (first | ((with_reducible refine at_box 3 ?_); refine wpList_box_own O (M.mat 7 (v)) rfl ?_; clear O; intro g3 w1 O) | ((with_reducible refine at_load 7 ?_); refine wpList_whole rfl O 0 rfl rfl Try.underlying25 rfl (sW _) ?_) | (go_at_call 22; refine (CM _).mono ?_; rintro e w2 ⟨rfl, hb⟩; replace O := O.call hb; clear hb))
    go_ret
    exact ⟨by rw [HE.out]; first | rfl | simp, O.below⟩
  cases h1 : decide (s ≤ 64)
  · rw [h0] at g1 HE
    rw [h1] at HE
    go_enter Try.func10, Try.ntmps10
    go_wp2_with (first | ((with_reducible refine at_box 3 ?_); refine wpList_box_own O (M.mat 7 (v)) rfl ?_; clear O; intro g3 w1 O) | ((with_reducible refine at_load 7 ?_); refine wpList_whole rfl O 0 rfl rfl Try.underlying25 rfl (sW _) ?_) | (go_at_call 22; refine (CM _).mono ?_; rintro e w2 ⟨rfl, hb⟩; replace O := O.call hb; clear hb))
    go_ret
    exact ⟨by rw [HE.out]; first | rfl | simp, O.below⟩
  cases h2 : decide (0 ≤ k)
  · rw [h0] at g1 HE
    rw [h1, h2] at HE
    rw [h2] at g2
    go_enter Try.func10, Try.ntmps10
    go_wp2_with (first | ((with_reducible refine at_box 3 ?_); refine wpList_box_own O (M.mat 7 (v)) rfl ?_; clear O; intro g3 w1 O) | ((with_reducible refine at_load 7 ?_); refine wpList_whole rfl O 0 rfl rfl Try.underlying25 rfl (sW _) ?_) | (go_at_call 22; refine (CM _).mono ?_; rintro e w2 ⟨rfl, hb⟩; replace O := O.call hb; clear hb))
    go_ret
    exact ⟨by rw [HE.out]; first | rfl | simp, O.below⟩
  rw [h0] at g1 HE
  rw [h1, h2] at HE
  rw [h2] at g2
  cases h3 : decide (k ≤ 2)
  all_goals
    rw [h3] at HE
    go_enter Try.func10, Try.ntmps10
    go_wp2_with (first | ((with_reducible refine at_box 3 ?_); refine wpList_box_own O (M.mat 7 (v)) rfl ?_; clear O; intro g3 w1 O) | ((with_reducible refine at_load 7 ?_); refine wpList_whole rfl O 0 rfl rfl Try.underlying25 rfl (sW _) ?_) | (go_at_call 22; refine (CM _).mono ?_; rintro e w2 ⟨rfl, hb⟩; replace O := O.call hb; clear hb))
    go_ret
    exact ⟨by rw [HE.out]; first | rfl | simp, O.below⟩
set_option maxHeartbeats 2000000 in
theorem rdown19 (n d : Int) (hd : 0 < d) (h : -4611686018427387904 ≤ n ∧ n ≤ 4611686018427387904) (w : World) : Calls Try.prog 33 #[.int .i64 n, .int .i64 d] w fun e w' => e = .returned (.int .i64 (n / d)) ∧ w' = w := by
  have lq := DT.div_lim hd (by decide) h
  obtain ⟨q, hq⟩ : ∃ z, n.tdiv d = z := ⟨_, rfl⟩
  obtain ⟨r, hr⟩ : ∃ z, n.tmod d = z := ⟨_, rfl⟩
  obtain ⟨k1, k2⟩ := DT.down_is hd hq hr
  have lr : -4611686018427387904 ≤ q ∧ q ≤ 4611686018427387905 := by
    by_cases g : r < 0
    · have := k1 g
      omega
    · have := k2 g
      omega
  obtain ⟨lr1, lr2⟩ := lr
  have W1 : wrap64 q = q := IntWalk.wrap64_in _ (by omega)
  have W2 : wrap64 (q - 1) = q - 1 := IntWalk.wrap64_in _ (by omega)
  have hdn : ¬ d = 0 := by omega
  by_cases hlt : r < 0
  · have HE := Lib.hid (k1 hlt)
    clear k1 k2 h lq lr1 lr2 hd
    go_enter Try.func33, Try.ntmps33
    go_wp2_with fail
    go_ret
    exact ⟨by rw [HE.out]; exact congrArg (fun z => Ending.returned (Value.int IntKind.i64 z)) W2, rfl⟩
  · have HE := Lib.hid (k2 hlt)
    clear k1 k2 h lq lr1 lr2 hd
    go_enter Try.func33, Try.ntmps33
    go_wp2_with fail
    go_ret
    exact ⟨by rw [HE.out]; rfl, rfl⟩
set_option maxHeartbeats 4000000 in
theorem rfirst19 (u s : Int) (hu : -268435456 ≤ u ∧ u ≤ 268435456) (hs : 1 ≤ s ∧ s ≤ 64) (w : World) : Calls Try.prog 24 #[.int .i64 u, .int .i64 s] w fun e w' => e = .returned (.int .i64 (DT.first u s)) ∧ w' = w := by
  have em : s.tmod 2 = s % 2 := Int.tmod_eq_emod_of_nonneg (by omega)
  by_cases h : s % 2 = 1
  · rw [h] at em
    obtain ⟨s1, hs1⟩ : ∃ z, s - 1 = z := ⟨_, rfl⟩
    have e1 : s1.tdiv 2 = s1 / 2 := Int.tdiv_eq_ediv_of_nonneg (by omega)
    obtain ⟨m, hm⟩ : ∃ z, s1 / 2 = z := ⟨_, rfl⟩
    obtain ⟨q, hq⟩ : ∃ z, u / 256 = z := ⟨_, rfl⟩
    obtain ⟨r, hr⟩ : ∃ z, q - m = z := ⟨_, rfl⟩
    rw [hm] at e1
    have HE : Hid (DT.first u s = r) := Lib.hid (by unfold DT.first; rw [if_pos h, hq, hs1, hm, hr])
    have C := fun w => rdown19 u 256 (by decide) (by omega) w
    rw [hq] at C
    have W1 : wrap64 (s - 1) = s1 := (IntWalk.wrap64_in _ (by omega)).trans hs1
    have W2 : wrap64 m = m := IntWalk.wrap64_in _ (by omega)
    have W3 : wrap64 (q - m) = r := (IntWalk.wrap64_in _ (by omega)).trans hr
    clear h hs1 hm hq hr hu hs
    go_enter Try.func24, Try.ntmps24
    go_wp2_with (go_at_call 33; refine (C _).mono ?_; rintro e w' ⟨rfl, rfl⟩)
    go_ret
    exact ⟨by rw [HE.out]; first | rfl | exact congrArg (fun z => Ending.returned (Value.int IntKind.i64 z)) W3, rfl⟩
  · have em2 : s.tmod 2 = 0 := by omega
    clear em
    obtain ⟨u1, hu1⟩ : ∃ z, u + 128 = z := ⟨_, rfl⟩
    have e1 : s.tdiv 2 = s / 2 := Int.tdiv_eq_ediv_of_nonneg (by omega)
    obtain ⟨m, hm⟩ : ∃ z, s / 2 = z := ⟨_, rfl⟩
    obtain ⟨q, hq⟩ : ∃ z, u1 / 256 = z := ⟨_, rfl⟩
    obtain ⟨r, hr⟩ : ∃ z, q - m = z := ⟨_, rfl⟩
    rw [hm] at e1
    have HE : Hid (DT.first u s = r) := Lib.hid (by unfold DT.first; rw [if_neg h, hu1, hq, hm, hr])
    have C := fun w => rdown19 u1 256 (by decide) (by omega) w
    rw [hq] at C
    have W1 : wrap64 (u + 128) = u1 := (IntWalk.wrap64_in _ (by omega)).trans hu1
    have W2 : wrap64 m = m := IntWalk.wrap64_in _ (by omega)
    have W3 : wrap64 (q - m) = r := (IntWalk.wrap64_in _ (by omega)).trans hr
    clear h hu1 hm hq hr hu hs
    go_enter Try.func24, Try.ntmps24
    go_wp2_with (go_at_call 33; refine (C _).mono ?_; rintro e w' ⟨rfl, rfl⟩)
    go_ret
    exact ⟨by rw [HE.out]; first | rfl | exact congrArg (fun z => Ending.returned (Value.int IntKind.i64 z)) W3, rfl⟩
set_option maxRecDepth 100000 in
set_option maxHeartbeats 4000000 in
theorem rbox19 (v : Nat → Int) (s : Int) (w : World) : Calls Try.prog 12 #[arr 7 v, .int .i64 s] w fun e w' => e = .returned (arr 4 (DT.box v s)) ∧ Below w.heap.size w w' := by
  have O := Own.start w
  have CR := fun w => rright19_any v s 0 w
  cases hr : DT.right v s 0
  · have HE := Lib.hid (DT.box_bad hr)
    rw [hr] at CR
    clear hr
    go_enter Try.func12, Try.ntmps12
    go_wp2_with (first | ((with_reducible refine at_box 2 ?_); refine wpList_box_own O (M.mat 7 (v)) rfl ?_; clear O; intro g2 w1 O) | ((with_reducible refine at_alloc 4 ?_); refine wpList_alloc_own O (M.mat 4 M.zero) zeroR ?_; clear O; intro g4 w2 O) | ((with_reducible refine at_load 7 ?_); refine wpList_whole rfl O 1 rfl rfl Try.underlying25 rfl (sW _) ?_) | (go_at_call 10; refine (CR _).mono ?_; rintro e w3 ⟨rfl, hb⟩; replace O := O.call hb; clear hb) | ((with_reducible refine at_build 11 ?_); refine wpList_build_g rfl ([]) ((M.mat 4 M.zero).toArray) ?_ (builtRz) ?_; (focus (simp only [List.map_toArray, List.map_cons, List.map_nil]; rfl))) | ((with_reducible refine at_store 4 ?_); refine wpList_put_own O 0 (M.mat 4 (M.zero)) rfl rfl rfl (sR _) (M.mat_len2 _ _ _) (M.mat_one _ _) ?_; clear O; intro w4 O))
    exact bodyPost_ret (v := arr 4 (DT.box v s)) (by rw [HE.out]; exact res_h rfl O.held 0 rfl rfl Try.underlying27 rfl (sR _)) rfl ⟨rfl, O.below⟩
  · obtain ⟨hf, hs, _⟩ := DT.right_iff.1 hr
    obtain ⟨l0, l1, -⟩ := VM.fit_lim hf
    have f0 := DT.first_lim l0 hs
    have f1 := DT.first_lim l1 hs
    have C0 := fun w => rfirst19 (v 0) s l0 hs w
    have C1 := fun w => rfirst19 (v 1) s l1 hs w
    have HE := DT.box_ok hr
    rw [hr] at CR
    clear hr hf l0 l1
    obtain ⟨v0, ev0⟩ : ∃ z, v 0 = z := ⟨_, rfl⟩
    have Cv0 := cell_is (n := 7) ev0 (by decide)
    obtain ⟨v1, ev1⟩ : ∃ z, v 1 = z := ⟨_, rfl⟩
    have Cv1 := cell_is (n := 7) ev1 (by decide)
    rw [ev0] at C0 HE f0
    rw [ev1] at C1 HE f1
    obtain ⟨q0, hq0⟩ : ∃ z, DT.first v0 s = z := ⟨_, rfl⟩
    obtain ⟨q1, hq1⟩ : ∃ z, DT.first v1 s = z := ⟨_, rfl⟩
    obtain ⟨p0, hp0⟩ : ∃ z, q0 + s = z := ⟨_, rfl⟩
    obtain ⟨p1, hp1⟩ : ∃ z, q1 + s = z := ⟨_, rfl⟩
    rw [hq0] at C0 HE f0
    rw [hq1] at C1 HE f1
    rw [hp0, hp1] at HE
    have W0 : wrap64 (q0 + s) = p0 := (IntWalk.wrap64_in _ (by omega)).trans hp0
    have W1 : wrap64 (q1 + s) = p1 := (IntWalk.wrap64_in _ (by omega)).trans hp1
    replace HE := Lib.hid HE
    clear ev0 ev1 f0 f1 hq0 hq1 hp0 hp1 hs
    go_enter Try.func12, Try.ntmps12
    go_wp2_with (first | ((with_reducible refine at_box 2 ?_); refine wpList_box_own O (M.mat 7 (v)) rfl ?_; clear O; intro g2 w1 O) | ((with_reducible refine at_alloc 4 ?_); refine wpList_alloc_own O (M.mat 4 M.zero) zeroR ?_; clear O; intro g4 w2 O) | ((with_reducible refine at_load 7 ?_); refine wpList_whole rfl O 1 rfl rfl Try.underlying25 rfl (sW _) ?_) | (go_at_call 10; refine (CR _).mono ?_; rintro e w3 ⟨rfl, hb⟩; replace O := O.call hb; clear hb))
    clear CR
    refine region_T (fun w2 => Own w w2 [(g4, 27, M.mat 4 M.zero), (g2, 25, M.mat 7 v)]) [0, 1, 2, 3, 4, 5, 6, 7, 8] 12 [some 12, some 13, some 14, some 15, some 16, some 17, some 18, some 19, some 5] [.pointer (some ⟨g2, 0, none⟩), .int .i64 (v0), .int .i64 (s), .int .i64 (q0), .pointer (some ⟨g2, 1, none⟩), .int .i64 (v1), .int .i64 (s), .int .i64 (q1), .int .i64 (q0)] 1 (by kernel_rfl) (by rfl) (by kernel_rfl) (by rfl) (by rfl) (O.drew) (fun F hF => ?_)
    simp only [fillD, Act.put, List.setIfInBounds_toArray, List.set_cons_zero, List.set_cons_succ] at hF
    subst hF
    refine ⟨⟨does_want rfl (by rfl) (fun w' O K hK => ?_), does_want rfl (by rfl) (fun w' O K hK => ?_), does_want rfl (by rfl) (fun w' O K hK => ?_), does_want rfl (by rfl) (fun w' O K hK => ?_), does_want rfl (by rfl) (fun w' O K hK => ?_), does_want rfl (by rfl) (fun w' O K hK => ?_), does_want rfl (by rfl) (fun w' O K hK => ?_), does_want rfl (by rfl) (fun w' O K hK => ?_), does_want rfl (by rfl) (fun w' O K hK => ?_), trivial⟩, fun w' O => ?_⟩
    · go_simp
      exact hK _ O
    · exact wp_cell_h (v := .int .i64 (v0)) O.held 1 rfl Cv0.out rfl agg3 rfl (hK _ O)
    · go_simp
      exact hK _ O
    · go_simp
      go_at_call 24
      refine (C0 _).mono ?_
      rintro e w2 ⟨rfl, rfl⟩
      exact hK _ O
    · go_simp
      exact hK _ O
    · exact wp_cell_h (v := .int .i64 (v1)) O.held 1 rfl Cv1.out rfl agg3 rfl (hK _ O)
    · go_simp
      exact hK _ O
    · go_simp
      go_at_call 24
      refine (C1 _).mono ?_
      rintro e w2 ⟨rfl, rfl⟩
      exact hK _ O
    · go_simp
      exact hK _ O
    refine wpAny_one (i := 9) (by kernel_rfl) rfl (fun K hK => ?_)
    go_simp
    refine hK _ _ ?_
    clear hK K
    try simp only [Act.put, List.setIfInBounds_toArray, List.set_cons_zero, List.set_cons_succ]
    refine wpAny_done (by kernel_rfl) ?_ _
    go_wp2_with (first | ((with_reducible refine at_build 28 ?_); refine wpList_build_g rfl ([(0, .int .i64 q0), (1, .int .i64 q1), (2, .int .i64 p0), (3, .int .i64 p1)]) ((M.mat 4 (RC.mk q0 q1 p0 p1)).toArray) ?_ (builtR17 _ _ _ _) ?_; (focus (simp only [List.map_toArray, List.map_cons, List.map_nil]; rfl))) | ((with_reducible refine at_store 4 ?_); refine wpList_put_own O 0 (M.mat 4 (RC.mk q0 q1 p0 p1)) rfl rfl rfl (sR _) (M.mat_len2 _ _ _) (M.mat_one _ _) ?_; clear O; intro w9 O))
    exact bodyPost_ret (v := arr 4 (DT.box v s)) (by rw [HE.out]; exact res_h rfl O.held 0 rfl rfl Try.underlying27 rfl (sR _)) rfl ⟨rfl, O.below⟩
set_option maxHeartbeats 4000000 in
theorem rpart19 (mid u s : Int) (hm_ : -2147483648 ≤ mid ∧ mid ≤ 2147483648) (hu : -268435456 ≤ u ∧ u ≤ 268435456) (hs : 1 ≤ s ∧ s ≤ 64) (w : World) : Calls Try.prog 28 #[.int .i64 mid, .int .i64 u, .int .i64 s] w fun e w' => e = .returned (.int .i64 (DT.part mid u s)) ∧ w' = w := by
  obtain ⟨s1, hs1⟩ : ∃ z, 128 * s = z := ⟨_, rfl⟩
  obtain ⟨a, ha⟩ : ∃ z, u - s1 = z := ⟨_, rfl⟩
  obtain ⟨b, hb⟩ : ∃ z, mid - a = z := ⟨_, rfl⟩
  obtain ⟨q, hq⟩ : ∃ z, b / s = z := ⟨_, rfl⟩
  obtain ⟨m, hm⟩ : ∃ z, min q 255 = z := ⟨_, rfl⟩
  obtain ⟨r, hr⟩ : ∃ z, max 0 m = z := ⟨_, rfl⟩
  have HE : Hid (DT.part mid u s = r) := Lib.hid (by unfold DT.part; rw [hs1, ha, hb, hq, hm, hr])
  have C := fun w => rdown19 b s (by omega) (by omega) w
  rw [hq] at C
  have W1 : wrap64 (128 * s) = s1 := (IntWalk.wrap64_in _ (by omega)).trans hs1
  have W2 : wrap64 (u - s1) = a := (IntWalk.wrap64_in _ (by omega)).trans ha
  have W3 : wrap64 (mid - a) = b := (IntWalk.wrap64_in _ (by omega)).trans hb
  have G0 := (min_if q 255).trans hm
  have G1 := (max_if 0 m).trans hr
  clear hs1 ha hb hq hu hs hm_
  go_enter Try.func28, Try.ntmps28
  go_wp2_with (go_at_call 33; refine (C _).mono ?_; rintro e w' ⟨rfl, rfl⟩)
  go_ret
  exact ⟨by rw [HE.out]; rfl, rfl⟩
theorem DT.inc_wrap {k : Nat} {I : Int} (h : k < 1000) (e : (k : Int) = I) : wrap64 (I + 1) = I + 1 := IntWalk.wrap64_in _ (by omega)
theorem DT.meas8 {I : Int} (W : wrap64 (I + 1) = I + 1) (h : I < 8) : (8 - intOf (Value.int IntKind.i64 (wrap64 (I + 1)))).toNat < (8 - intOf (Value.int IntKind.i64 I)).toNat := by
  rw [W]
  simp only [intOf]
  omega
theorem DT.meas8' {I : Int} (h : I < 8) : (8 - intOf (Value.int IntKind.i64 (I + 1))).toNat < (8 - intOf (Value.int IntKind.i64 I)).toNat := by
  simp only [intOf]
  omega
/-- A sample's place, seen from a point. -/
theorem DT.samp {x c I : Int} {i : Nat} (hx : -4194304 ≤ x ∧ x ≤ 4194304) (hc : -268435456 ≤ c ∧ c ≤ 268435456) (hi : i < 8) (e : (i : Int) = I) : ∃ X m1 m2 sx p, Hid (IntKind.i64.wrap (256 * x) = X) ∧ Hid (IntKind.i64.wrap (32 * I) = m1) ∧ Hid (IntKind.i64.wrap (X + m1) = m2) ∧ Hid (IntKind.i64.wrap (m2 + 16) = sx) ∧ Hid (IntKind.i64.wrap (sx - c) = p) ∧ 256 * x + 32 * (i : Int) + 16 = sx ∧ sx - c = p ∧ (-2147483648 ≤ p ∧ p ≤ 2147483648) :=
  ⟨256 * x, 32 * I, 256 * x + 32 * I, 256 * x + 32 * I + 16, 256 * x + 32 * I + 16 - c, Lib.hid (IntWalk.i64_in _ (by omega)), Lib.hid (IntWalk.i64_in _ (by omega)), Lib.hid (IntWalk.i64_in _ (by omega)), Lib.hid (IntWalk.i64_in _ (by omega)), Lib.hid (IntWalk.i64_in _ (by omega)), by omega, rfl, by omega⟩
theorem DT.sqs {p q : Int} (hp : -2147483648 ≤ p ∧ p ≤ 2147483648) (hq : -1600000000 ≤ q ∧ q ≤ 1600000000) : ∃ a b e, wrap64 (p * p) = a ∧ wrap64 (q * q) = b ∧ wrap64 (a + b) = e ∧ p * p + q * q = e := by
  have h1 := SP.mul_lim hp hp
  have h2 := SP.mul_lim hq hq
  exact ⟨p * p, q * q, p * p + q * q, IntWalk.wrap64_in _ (by omega), IntWalk.wrap64_in _ (by omega), IntWalk.wrap64_in _ (by omega), rfl⟩
set_option maxRecDepth 100000 in
set_option maxHeartbeats 16000000 in
theorem rcover19 (v : Nat → Int) (s x y : Int) (hv : DT.right v s 1 = true) (hx : -4194304 ≤ x ∧ x ≤ 4194304) (hy : -4194304 ≤ y ∧ y ≤ 4194304) (w : World) : Calls Try.prog 27 #[arr 7 v, .int .i64 s, .int .i64 x, .int .i64 y] w fun e w' => e = .returned (.int .i64 (DT.cov v s x y : Nat)) ∧ Below w.heap.size w w' := by
  have O := Own.start w
  obtain ⟨hf, hs, _⟩ := DT.right_iff.1 hv
  obtain ⟨l0, l1, -⟩ := VM.fit_lim hf
  rw [← DT.covk_end]
  have HS := Lib.hid (fun i k => DT.covk_step v s x y i k)
  have HC := Lib.hid (fun i => DT.covk_col v s x y i)
  have HL := Lib.hid (fun i k hi hk => @DT.covk_le v s x y i k hi hk)
  have H0 : DT.covk v s x y 0 0 = 0 := DT.covk_start v s x y
  generalize DT.covk v s x y = cv at *
  have HN : Hid (∀ X Y, DT.near v s X Y = decide ((X - v 0) * (X - v 0) + (Y - v 1) * (Y - v 1) < 128 * s * 128 * s)) := Lib.hid (fun X Y => by unfold DT.near DT.nearP; rfl)
  generalize DT.near v s = nr at *
  obtain ⟨v0, ev0⟩ : ∃ z, v 0 = z := ⟨_, rfl⟩
  have Cv0 := cell_is (n := 7) ev0 (by decide)
  obtain ⟨v1, ev1⟩ : ∃ z, v 1 = z := ⟨_, rfl⟩
  have Cv1 := cell_is (n := 7) ev1 (by decide)
  rw [ev0] at l0
  rw [ev1] at l1
  simp only [ev0, ev1] at HN
  obtain ⟨s1, hs1⟩ : ∃ z, 128 * s = z := ⟨_, rfl⟩
  obtain ⟨s2, hs2⟩ : ∃ z, s1 * 128 = z := ⟨_, rfl⟩
  have bs := SP.mul_lim (x := s2) (y := s) (A := 1048576) (B := 64) (by omega) (by omega)
  obtain ⟨s3, hs3⟩ : ∃ z, s2 * s = z := ⟨_, rfl⟩
  rw [hs1, hs2, hs3] at HN
  rw [hs3] at bs
  have T1 : wrap64 (128 * s) = s1 := (IntWalk.wrap64_in _ (by omega)).trans hs1
  have T2 : wrap64 (s1 * 128) = s2 := (IntWalk.wrap64_in _ (by omega)).trans hs2
  have T3 : wrap64 (s2 * s) = s3 := (IntWalk.wrap64_in _ (by omega)).trans hs3
  have HXY := Lib.hid (And.intro (And.intro hx hy) (And.intro l0 l1))
  clear hv hf hs l0 l1 hx hy hs1 hs2 hs3 bs ev0 ev1
  go_enter Try.func27, Try.ntmps27
  go_wp2_with ((with_reducible refine at_box 4 ?_); refine wpList_box_own O (M.mat 7 (v)) rfl ?_; clear O; intro g4 w1 O)
  go_loopw [9, 10] (fun u t_ wr => ∃ (i : Nat) (I C : Int), i ≤ 8 ∧ (i : Int) = I ∧ ((cv i 0 : Nat) : Int) = C ∧ u = .int .i64 C ∧ t_ = .int .i64 I ∧ Own w wr [(g4, 25, M.mat 7 v)]) (fun _ t_ _ => (8 - intOf t_).toNat)
  case atStart => exact ⟨0, 0, 0, by decide, rfl, by rw [H0]; rfl, rfl, rfl, O⟩
  case round =>
    clear O
    obtain ⟨i, I, C, hi, hI, hC, rfl, rfl, O⟩ := hrel
    by_cases hli : i < 8
    · have q1 : I < 8 := by omega
      have Wi : wrap64 (I + 1) = I + 1 := DT.inc_wrap (Nat.lt_of_lt_of_le hli (by decide)) hI
      obtain ⟨X, m1, m2, sx, p, V1, V2, V3, V4, V5, hsx, hp, bp⟩ := DT.samp HXY.out.1.1 HXY.out.2.1 hli hI
      have HSi := HS.out i
      simp only [hsx] at HSi
      have HN1 := fun Y => HN.out sx Y
      simp only [hp] at HN1
      have HS2 := Lib.hid HSi
      have HN2 := Lib.hid HN1
      have HC2 := Lib.hid (HC.out i)
      have HI := Lib.hid (And.intro hli (And.intro hI hC))
      have Hp := Lib.hid bp
      clear hsx hp bp HSi HN1 hli hI hC hi
      go_wp2_with fail
      go_loopw [9, 11] (fun u t_ wr => ∃ (k : Nat) (J D : Int), k ≤ 8 ∧ (k : Int) = J ∧ ((cv i k : Nat) : Int) = D ∧ u = .int .i64 D ∧ t_ = .int .i64 J ∧ Own w wr [(g4, 25, M.mat 7 v)]) (fun _ t_ _ => (8 - intOf t_).toNat)
      case atStart => exact ⟨0, 0, C, by decide, rfl, HI.out.2.2, rfl, rfl, O⟩
      case round =>
        clear O
        obtain ⟨k, J, D, hk, hJ, hD, rfl, rfl, O⟩ := hrel
        by_cases hlk : k < 8
        · have q3 : J < 8 := by omega
          have Wk : wrap64 (J + 1) = J + 1 := DT.inc_wrap (Nat.lt_of_lt_of_le hlk (by decide)) hJ
          obtain ⟨Y, n1, n2, sy, q, V6, V7, V8, V9, V10, hsy, hq, bq⟩ := DT.samp HXY.out.1.2 HXY.out.2.2 hlk hJ
          have HK := HS2.out k
          rw [hsy, HN2.out sy, hq] at HK
          obtain ⟨pp, qq, e, Z1, Z2, Z3, hpq⟩ := DT.sqs Hp.out (show -1600000000 ≤ q ∧ q ≤ 1600000000 by have := HXY.out.1.2; have := HXY.out.2.2; omega)
          rw [hpq] at HK
          have hle := HL.out i k (Nat.le_of_lt HI.out.1) hk
          have Wc : wrap64 (D + 1) = D + 1 := DT.inc_wrap (Nat.lt_of_le_of_lt hle (by decide)) hD
          clear hsy hq bq hpq hle
          by_cases hz : e < s3
          · have Kz : decide (e < s3) = true := by simpa using hz
            have HQ := Lib.hid (show k + 1 ≤ 8 ∧ ((k + 1 : Nat) : Int) = J + 1 ∧ ((cv i (k + 1) : Nat) : Int) = D + 1 from ⟨hlk, by omega, by rw [HK, Kz]; show ((cv i k + 1 : Nat) : Int) = D + 1; omega⟩)
            clear HK hk hJ hD hlk hz
            go_wp2_with fail
            have OO := O
            clear O
            have O := OO
            clear OO
            refine region_T (fun w2 => Own w w2 [(g4, 25, M.mat 7 v)]) [0, 1, 2, 3, 4, 5, 6, 7, 8, 9, 10, 11, 12, 13, 14, 15, 16, 17, 18] 12 [some 22, some 23, some 24, some 25, some 26, some 27, some 28, some 29, some 30, some 31, some 32, some 33, some 34, some 35, some 36, some 37, some 38, some 39, some 12] [.int .i64 (x), .int .i64 (X), .int .i64 (I), .int .i64 (m1), .int .i64 (m2), .int .i64 (sx), .pointer (some ⟨g4, 0, none⟩), .int .i64 (v0), .int .i64 (p), .int .i64 (y), .int .i64 (Y), .int .i64 (J), .int .i64 (n1), .int .i64 (n2), .int .i64 (sy), .pointer (some ⟨g4, 1, none⟩), .int .i64 (v1), .int .i64 (q), .int .i64 (p)] 1 (by kernel_rfl) (by rfl) (by kernel_rfl) (by rfl) (by rfl) (O.drew) (fun F hF => ?_)
            simp only [fillD, Act.put, List.setIfInBounds_toArray, List.set_cons_zero, List.set_cons_succ] at hF
            subst hF
            refine ⟨⟨does_want rfl (by rfl) (fun w' O K hK => ?_), does_want rfl (by rfl) (fun w' O K hK => ?_), does_want rfl (by rfl) (fun w' O K hK => ?_), does_want rfl (by rfl) (fun w' O K hK => ?_), does_want rfl (by rfl) (fun w' O K hK => ?_), does_want rfl (by rfl) (fun w' O K hK => ?_), does_want rfl (by rfl) (fun w' O K hK => ?_), does_want rfl (by rfl) (fun w' O K hK => ?_), does_want rfl (by rfl) (fun w' O K hK => ?_), does_want rfl (by rfl) (fun w' O K hK => ?_), does_want rfl (by rfl) (fun w' O K hK => ?_), does_want rfl (by rfl) (fun w' O K hK => ?_), does_want rfl (by rfl) (fun w' O K hK => ?_), does_want rfl (by rfl) (fun w' O K hK => ?_), does_want rfl (by rfl) (fun w' O K hK => ?_), does_want rfl (by rfl) (fun w' O K hK => ?_), does_want rfl (by rfl) (fun w' O K hK => ?_), does_want rfl (by rfl) (fun w' O K hK => ?_), does_want rfl (by rfl) (fun w' O K hK => ?_), trivial⟩, fun w' O => ?_⟩
            · go_simp
              exact hK _ O
            · go_simp
              simp only [V1.out]
              exact hK _ O
            · go_simp
              exact hK _ O
            · go_simp
              simp only [V2.out]
              exact hK _ O
            · go_simp
              simp only [V3.out]
              exact hK _ O
            · go_simp
              simp only [V4.out]
              exact hK _ O
            · go_simp
              exact hK _ O
            · exact wp_cell_h (v := .int .i64 (v0)) O.held 0 rfl Cv0.out rfl agg3 rfl (hK _ O)
            · go_simp
              simp only [V5.out]
              exact hK _ O
            · go_simp
              exact hK _ O
            · go_simp
              simp only [V6.out]
              exact hK _ O
            · go_simp
              exact hK _ O
            · go_simp
              simp only [V7.out]
              exact hK _ O
            · go_simp
              simp only [V8.out]
              exact hK _ O
            · go_simp
              simp only [V9.out]
              exact hK _ O
            · go_simp
              exact hK _ O
            · exact wp_cell_h (v := .int .i64 (v1)) O.held 0 rfl Cv1.out rfl agg3 rfl (hK _ O)
            · go_simp
              simp only [V10.out]
              exact hK _ O
            · go_simp
              exact hK _ O
            refine wpAny_one (i := 19) (by kernel_rfl) rfl (fun K hK => ?_)
            go_simp
            refine hK _ _ ?_
            clear hK K
            try simp only [Act.put, List.setIfInBounds_toArray, List.set_cons_zero, List.set_cons_succ]
            refine wpAny_done (by kernel_rfl) ?_ _
            go_wp2_with fail
            go_roundw
            case rel => exact ⟨k + 1, J + 1, D + 1, HQ.out.1, HQ.out.2.1, HQ.out.2.2, by first | rfl | exact congrArg (Value.int IntKind.i64) Wc, by first | rfl | exact congrArg (Value.int IntKind.i64) Wk, O⟩
            case measure => first | exact DT.meas8 Wk q3 | exact DT.meas8' q3
          · have Kz : decide (e < s3) = false := by simpa using hz
            have HQ := Lib.hid (show k + 1 ≤ 8 ∧ ((k + 1 : Nat) : Int) = J + 1 ∧ ((cv i (k + 1) : Nat) : Int) = D from ⟨hlk, by omega, by rw [HK, Kz]; exact hD⟩)
            clear HK hk hJ hD hlk hz
            go_wp2_with fail
            have OO := O
            clear O
            have O := OO
            clear OO
            refine region_T (fun w2 => Own w w2 [(g4, 25, M.mat 7 v)]) [0, 1, 2, 3, 4, 5, 6, 7, 8, 9, 10, 11, 12, 13, 14, 15, 16, 17, 18] 12 [some 22, some 23, some 24, some 25, some 26, some 27, some 28, some 29, some 30, some 31, some 32, some 33, some 34, some 35, some 36, some 37, some 38, some 39, some 12] [.int .i64 (x), .int .i64 (X), .int .i64 (I), .int .i64 (m1), .int .i64 (m2), .int .i64 (sx), .pointer (some ⟨g4, 0, none⟩), .int .i64 (v0), .int .i64 (p), .int .i64 (y), .int .i64 (Y), .int .i64 (J), .int .i64 (n1), .int .i64 (n2), .int .i64 (sy), .pointer (some ⟨g4, 1, none⟩), .int .i64 (v1), .int .i64 (q), .int .i64 (p)] 1 (by kernel_rfl) (by rfl) (by kernel_rfl) (by rfl) (by rfl) (O.drew) (fun F hF => ?_)
            simp only [fillD, Act.put, List.setIfInBounds_toArray, List.set_cons_zero, List.set_cons_succ] at hF
            subst hF
            refine ⟨⟨does_want rfl (by rfl) (fun w' O K hK => ?_), does_want rfl (by rfl) (fun w' O K hK => ?_), does_want rfl (by rfl) (fun w' O K hK => ?_), does_want rfl (by rfl) (fun w' O K hK => ?_), does_want rfl (by rfl) (fun w' O K hK => ?_), does_want rfl (by rfl) (fun w' O K hK => ?_), does_want rfl (by rfl) (fun w' O K hK => ?_), does_want rfl (by rfl) (fun w' O K hK => ?_), does_want rfl (by rfl) (fun w' O K hK => ?_), does_want rfl (by rfl) (fun w' O K hK => ?_), does_want rfl (by rfl) (fun w' O K hK => ?_), does_want rfl (by rfl) (fun w' O K hK => ?_), does_want rfl (by rfl) (fun w' O K hK => ?_), does_want rfl (by rfl) (fun w' O K hK => ?_), does_want rfl (by rfl) (fun w' O K hK => ?_), does_want rfl (by rfl) (fun w' O K hK => ?_), does_want rfl (by rfl) (fun w' O K hK => ?_), does_want rfl (by rfl) (fun w' O K hK => ?_), does_want rfl (by rfl) (fun w' O K hK => ?_), trivial⟩, fun w' O => ?_⟩
            · go_simp
              exact hK _ O
            · go_simp
              simp only [V1.out]
              exact hK _ O
            · go_simp
              exact hK _ O
            · go_simp
              simp only [V2.out]
              exact hK _ O
            · go_simp
              simp only [V3.out]
              exact hK _ O
            · go_simp
              simp only [V4.out]
              exact hK _ O
            · go_simp
              exact hK _ O
            · exact wp_cell_h (v := .int .i64 (v0)) O.held 0 rfl Cv0.out rfl agg3 rfl (hK _ O)
            · go_simp
              simp only [V5.out]
              exact hK _ O
            · go_simp
              exact hK _ O
            · go_simp
              simp only [V6.out]
              exact hK _ O
            · go_simp
              exact hK _ O
            · go_simp
              simp only [V7.out]
              exact hK _ O
            · go_simp
              simp only [V8.out]
              exact hK _ O
            · go_simp
              simp only [V9.out]
              exact hK _ O
            · go_simp
              exact hK _ O
            · exact wp_cell_h (v := .int .i64 (v1)) O.held 0 rfl Cv1.out rfl agg3 rfl (hK _ O)
            · go_simp
              simp only [V10.out]
              exact hK _ O
            · go_simp
              exact hK _ O
            refine wpAny_one (i := 19) (by kernel_rfl) rfl (fun K hK => ?_)
            go_simp
            refine hK _ _ ?_
            clear hK K
            try simp only [Act.put, List.setIfInBounds_toArray, List.set_cons_zero, List.set_cons_succ]
            refine wpAny_done (by kernel_rfl) ?_ _
            go_wp2_with fail
            go_roundw
            case rel => exact ⟨k + 1, J + 1, D, HQ.out.1, HQ.out.2.1, HQ.out.2.2, by first | rfl | exact congrArg (Value.int IntKind.i64) Wc, by first | rfl | exact congrArg (Value.int IntKind.i64) Wk, O⟩
            case measure => first | exact DT.meas8 Wk q3 | exact DT.meas8' q3
        · obtain rfl : k = 8 := by omega
          obtain rfl : J = 8 := by omega
          have q3 : ¬ (8 : Int) < 8 := by decide
          have HQ := Lib.hid (show i + 1 ≤ 8 ∧ ((i + 1 : Nat) : Int) = I + 1 ∧ ((cv (i + 1) 0 : Nat) : Int) = D from ⟨HI.out.1, by have := HI.out.2.1; omega, by rw [← HC2.out]; exact hD⟩)
          clear hk hJ hD hlk
          go_wp2_with fail
          go_roundw
          case rel => exact ⟨i + 1, I + 1, D, HQ.out.1, HQ.out.2.1, HQ.out.2.2, rfl, by first | rfl | exact congrArg (Value.int IntKind.i64) Wi, O⟩
          case measure => first | exact DT.meas8 Wi q1 | exact DT.meas8' q1
    · obtain rfl : i = 8 := by omega
      obtain rfl : I = 8 := by omega
      have q1 : ¬ (8 : Int) < 8 := by decide
      subst hC
      clear hI hi hli
      go_wp2_with fail
      go_ret
      exact ⟨rfl, O.below⟩
end Go.Proofs.Ytlmgilcigbnbaaa
