/- Contracts: the rows of a strip in a rectangle; around. -/
import Derived.Test.YtdkppkdoconfhaaSj
import Derived.Test.YtdkppkdoconfhaaXr
namespace Go.Proofs.Ytdkppkdoconfhaa
open Go.ChangeShapes Go.WideShapes Go.ChangeAt Go.RowKit
set_option linter.unusedVariables false
set_option linter.unusedSimpArgs false

theorem SP.In.up {A B : Int} {s : Nat → Int} (h : SP.In A s) (hab : A ≤ B) : SP.In B s := by
  obtain ⟨h0, h1⟩ := h
  exact ⟨by omega, by omega⟩
set_option maxRecDepth 100000 in
set_option maxHeartbeats 16000000 in
theorem prows18 (s a r : Nat → Int) (h : SP.Ok s) (ha : (-268435456 ≤ a 0 ∧ a 0 ≤ 268435456) ∧ (-268435456 ≤ a 1 ∧ a 1 ≤ 268435456)) (hr : RC.right r = true) (w : World) : Calls Try.prog 27 #[arr 5 s, arr 7 a, arr 4 r] w fun e w' => e = .returned (arr 2 (SP.rowsf s r (a 0) (a 1))) ∧ Below w.heap.size w w' := by
  have O := Own.start w
  obtain ⟨hr1, _, _⟩ := RC.right_iff.1 hr
  have hc : SP.In 2147483648 (SP.colf r (a 0)) := by
    unfold SP.colf
    exact ⟨⟨by show _ ≤ 256 * r 0 + 16 - a 0; omega, by show 256 * r 0 + 16 - a 0 ≤ _; omega⟩, by show _ ≤ 256 * r 2 - 16 - a 0; omega, by show 256 * r 2 - 16 - a 0 ≤ _; omega⟩
  have hw := SP.within_lim (SP.ok_turned h) hc
  have hsm := SP.samples_lim (b := a 1) hw (by have := ha.2; omega)
  have CT := fun w => ptur18 s (by have := h.2.2.2.1; omega) (by have := h.2.2.2.2; omega) w
  have CW := fun w => pwit18 (SP.turned s) (SP.colf r (a 0)) (SP.ok_turned h) hc w
  have CS := fun w => psam18 (SP.within (SP.turned s) (SP.colf r (a 0))) (a 1) hw (by omega) w
  have CP := fun w => ppix18 (SP.samples (SP.within (SP.turned s) (SP.colf r (a 0))) (a 1)) (hsm.up (by decide)) w
  have CA := fun w => pand18 (SP.pixels (SP.samples (SP.within (SP.turned s) (SP.colf r (a 0))) (a 1))) (SP.mk (r 1) (r 3 - 1)) w
  change ∀ w, Calls _ _ _ w fun e w' => e = .returned (arr 2 (SP.rowsf s r (a 0) (a 1))) ∧ _ at CA
  generalize SP.rowsf s r (a 0) (a 1) = res at CA ⊢
  generalize SP.pixels (SP.samples (SP.within (SP.turned s) (SP.colf r (a 0))) (a 1)) = pv at CP CA
  generalize SP.samples (SP.within (SP.turned s) (SP.colf r (a 0))) (a 1) = sv at CS CP
  generalize SP.within (SP.turned s) (SP.colf r (a 0)) = wv at CW CS
  generalize SP.turned s = tv at CT CW
  unfold SP.colf at CW
  clear hc hw hsm
  obtain ⟨ha0, ha1⟩ := ha
  obtain ⟨ax, eax⟩ : ∃ z, a 0 = z := ⟨_, rfl⟩
  have Cax := cell_is (n := 7) eax (by decide)
  obtain ⟨ay, eay⟩ : ∃ z, a 1 = z := ⟨_, rfl⟩
  have Cay := cell_is (n := 7) eay (by decide)
  obtain ⟨r0, er0⟩ : ∃ z, r 0 = z := ⟨_, rfl⟩
  have Cr0 := cell_is (n := 4) er0 (by decide)
  obtain ⟨r1, er1⟩ : ∃ z, r 1 = z := ⟨_, rfl⟩
  have Cr1 := cell_is (n := 4) er1 (by decide)
  obtain ⟨r2, er2⟩ : ∃ z, r 2 = z := ⟨_, rfl⟩
  have Cr2 := cell_is (n := 4) er2 (by decide)
  obtain ⟨r3, er3⟩ : ∃ z, r 3 = z := ⟨_, rfl⟩
  have Cr3 := cell_is (n := 4) er3 (by decide)
  rw [eax, er0, er2] at CW
  rw [eay] at CS
  rw [er1, er3] at CA
  rw [eax] at ha0
  rw [er0, er1, er2, er3] at hr1
  obtain ⟨x1, hx1⟩ : ∃ z, 256 * r0 = z := ⟨_, rfl⟩
  obtain ⟨x2, hx2⟩ : ∃ z, x1 + 16 = z := ⟨_, rfl⟩
  obtain ⟨x3, hx3⟩ : ∃ z, x2 - ax = z := ⟨_, rfl⟩
  obtain ⟨z1, hz1⟩ : ∃ z, 256 * r2 = z := ⟨_, rfl⟩
  obtain ⟨z2, hz2⟩ : ∃ z, z1 - 16 = z := ⟨_, rfl⟩
  obtain ⟨z3, hz3⟩ : ∃ z, z2 - ax = z := ⟨_, rfl⟩
  obtain ⟨y3, hy3⟩ : ∃ z, r3 - 1 = z := ⟨_, rfl⟩
  rw [hx1, hx2, hx3, hz1, hz2, hz3] at CW
  rw [hy3] at CA
  have U1 : wrap64 (256 * r0) = x1 := (IntWalk.wrap64_in _ (by omega)).trans hx1
  have U2 : wrap64 (x1 + 16) = x2 := (IntWalk.wrap64_in _ (by omega)).trans hx2
  have U3 : wrap64 (x2 - ax) = x3 := (IntWalk.wrap64_in _ (by omega)).trans hx3
  have U4 : wrap64 (256 * r2) = z1 := (IntWalk.wrap64_in _ (by omega)).trans hz1
  have U5 : wrap64 (z1 - 16) = z2 := (IntWalk.wrap64_in _ (by omega)).trans hz2
  have U6 : wrap64 (z2 - ax) = z3 := (IntWalk.wrap64_in _ (by omega)).trans hz3
  have V1 : Hid (IntKind.i64.wrap (r3 - 1) = y3) := Lib.hid ((IntWalk.i64_in _ (by omega)).trans hy3)
  clear hx1 hx2 hx3 hz1 hz2 hz3 hy3 ha0 ha1 hr hr1 h eax eay er0 er1 er2 er3
  go_enter Try.func27, Try.ntmps27
  go_wp2_with (first | ((with_reducible refine at_box 3 ?_); refine wpList_box_own O (M.mat 5 (s)) rfl ?_; clear O; intro g3 w1 O) | ((with_reducible refine at_box 4 ?_); refine wpList_box_own O (M.mat 7 (a)) rfl ?_; clear O; intro g4 w2 O) | ((with_reducible refine at_box 5 ?_); refine wpList_box_own O (M.mat 4 (r)) rfl ?_; clear O; intro g5 w3 O) | ((with_reducible refine at_alloc 6 ?_); refine wpList_alloc_own O (M.mat 2 M.zero) zeroN18 ?_; clear O; intro g6 w4 O) | ((with_reducible refine at_load 9 ?_); refine wpList_cell_h (v := .int .i64 (r0)) rfl O.held 1 rfl Cr0.out rfl agg3 rfl ?_) | ((with_reducible refine at_load 13 ?_); refine wpList_cell_h (v := .int .i64 (ax)) rfl O.held 2 rfl Cax.out rfl agg3 rfl ?_) | ((with_reducible refine at_load 16 ?_); refine wpList_cell_h (v := .int .i64 (r2)) rfl O.held 1 rfl Cr2.out rfl agg3 rfl ?_) | ((with_reducible refine at_load 20 ?_); refine wpList_cell_h (v := .int .i64 (ax)) rfl O.held 2 rfl Cax.out rfl agg3 rfl ?_) | ((with_reducible refine at_build 22 ?_); refine wpList_build_g rfl ([(0, .int .i64 (x3)), (1, .int .i64 (z3))]) ((M.mat 2 (SP.mk (x3) (z3))).toArray) ?_ (builtN18 _ _) ?_; (focus (simp only [List.map_toArray, List.map_cons, List.map_nil]; rfl))) | ((with_reducible refine at_alloc 7 ?_); refine wpList_alloc_own O (M.mat 2 M.zero) zeroN18 ?_; clear O; intro g7 w5 O) | ((with_reducible refine at_store 7 ?_); refine wpList_put_own O 0 (M.mat 2 (SP.mk x3 z3)) rfl rfl rfl (sN18 _) (M.mat_len2 _ _ _) (M.mat_one _ _) ?_; clear O; intro w6 O))
  simp only [U6]
  refine region_T (fun w2 => Own w w2 [(g7, 62, M.mat 2 (SP.mk x3 z3)), (g6, 62, M.mat 2 M.zero), (g5, 27, M.mat 4 r), (g4, 25, M.mat 7 a), (g3, 59, M.mat 5 s)]) [0, 1, 2, 3, 4, 5, 6, 7, 8, 9, 10, 11, 12, 13, 14] 12 [some 23, some 24, some 25, some 26, some 27, some 28, some 29, some 30, some 31, some 32, some 33, some 34, some 35, some 36, some 37] [arr 5 s, arr 5 tv, arr 2 (SP.mk (x3) (z3)), arr 2 wv, .pointer (some ⟨g4, 1, none⟩), .int .i64 (ay), arr 2 sv, arr 2 pv, .pointer (some ⟨g5, 1, none⟩), .int .i64 (r1), .pointer (some ⟨g5, 3, none⟩), .int .i64 (r3), .int .i64 (y3), arr 2 (SP.mk (r1) (y3)), arr 2 res] 1 (by kernel_rfl) (by rfl) (by kernel_rfl) (by rfl) (by rfl) (O.drew) (fun F hF => ?_)
  simp only [fillD, Act.put, List.setIfInBounds_toArray, List.set_cons_zero, List.set_cons_succ] at hF
  subst hF
  refine ⟨⟨does_want rfl (by rfl) (fun w' O K hK => ?_), does_want rfl (by rfl) (fun w' O K hK => ?_), does_want rfl (by rfl) (fun w' O K hK => ?_), does_want rfl (by rfl) (fun w' O K hK => ?_), does_want rfl (by rfl) (fun w' O K hK => ?_), does_want rfl (by rfl) (fun w' O K hK => ?_), does_want rfl (by rfl) (fun w' O K hK => ?_), does_want rfl (by rfl) (fun w' O K hK => ?_), does_want rfl (by rfl) (fun w' O K hK => ?_), does_want rfl (by rfl) (fun w' O K hK => ?_), does_want rfl (by rfl) (fun w' O K hK => ?_), does_want rfl (by rfl) (fun w' O K hK => ?_), does_want rfl (by rfl) (fun w' O K hK => ?_), does_want rfl (by rfl) (fun w' O K hK => ?_), does_want rfl (by rfl) (fun w' O K hK => ?_), trivial⟩, fun w' O => ?_⟩
  · exact wp_whole O 4 rfl rfl Try.underlying59 rfl (sY18 _) (hK _ O)
  · go_simp
    go_at_call 45
    refine (CT _).mono ?_
    rintro e w2 ⟨rfl, hb⟩
    exact hK _ (O.call hb)
  · exact wp_whole O 0 rfl rfl Try.underlying62 rfl (sN18 _) (hK _ O)
  · go_simp
    go_at_call 46
    refine (CW _).mono ?_
    rintro e w2 ⟨rfl, hb⟩
    exact hK _ (O.call hb)
  · go_simp
    exact hK _ O
  · exact wp_cell_h (v := .int .i64 (ay)) O.held 3 rfl Cay.out rfl agg3 rfl (hK _ O)
  · go_simp
    go_at_call 47
    refine (CS _).mono ?_
    rintro e w2 ⟨rfl, hb⟩
    exact hK _ (O.call hb)
  · go_simp
    go_at_call 48
    refine (CP _).mono ?_
    rintro e w2 ⟨rfl, hb⟩
    exact hK _ (O.call hb)
  · go_simp
    exact hK _ O
  · exact wp_cell_h (v := .int .i64 (r1)) O.held 2 rfl Cr1.out rfl agg3 rfl (hK _ O)
  · go_simp
    exact hK _ O
  · exact wp_cell_h (v := .int .i64 (r3)) O.held 2 rfl Cr3.out rfl agg3 rfl (hK _ O)
  · go_simp
    simp only [V1.out]
    exact hK _ O
  · refine wp_build_own ([(0, .int .i64 (r1)), (1, .int .i64 (y3))]) ((M.mat 2 (SP.mk (r1) (y3))).toArray) ?_ (builtN18 _ _) (hK _ O)
    simp only [List.map_toArray, List.map_cons, List.map_nil]
    rfl
  · go_simp
    go_at_call 30
    refine (CA _).mono ?_
    rintro e w2 ⟨rfl, hb⟩
    exact hK _ (O.call hb)
  refine wpAny_want (i := 15) (by kernel_rfl) rfl (by rfl) (fun K hK => ?_)
  refine wp_put_own O 1 (M.mat 2 (res)) rfl rfl rfl (sN18 _) (M.mat_len2 _ _ _) (M.mat_one _ _) fun w9 O9 => hK _ _ ?_
  clear O
  have O := O9
  clear O9
  clear hK K
  try simp only [Act.put, List.setIfInBounds_toArray, List.set_cons_zero, List.set_cons_succ]
  refine wpAny_done (by kernel_rfl) ?_ _
  go_wp2_with fail
  exact bodyPost_ret (v := arr 2 res) (res_h rfl O.held 1 rfl rfl Try.underlying62 rfl (sN18 _)) rfl ⟨rfl, O.below⟩
set_option maxRecDepth 100000 in
set_option maxHeartbeats 16000000 in
theorem paro18 (a b : Nat → Int) (n : Int) (ha : (-268435456 ≤ a 0 ∧ a 0 ≤ 268435456) ∧ (-268435456 ≤ a 1 ∧ a 1 ≤ 268435456)) (hb : (-268435456 ≤ b 0 ∧ b 0 ≤ 268435456) ∧ (-268435456 ≤ b 1 ∧ b 1 ≤ 268435456)) (hn : 0 ≤ n ∧ n ≤ 64) (w : World) : Calls Try.prog 24 #[arr 7 a, arr 7 b, .int .i64 n] w fun e w' => e = .returned (arr 4 (SP.ard a b n)) ∧ Below w.heap.size w w' := by
  have O := Own.start w
  obtain ⟨ha0, ha1⟩ := ha
  obtain ⟨hb0, hb1⟩ := hb
  obtain ⟨ax, eax⟩ : ∃ z, a 0 = z := ⟨_, rfl⟩
  have Cax := cell_is (n := 7) eax (by decide)
  obtain ⟨ay, eay⟩ : ∃ z, a 1 = z := ⟨_, rfl⟩
  have Cay := cell_is (n := 7) eay (by decide)
  obtain ⟨bx, ebx⟩ : ∃ z, b 0 = z := ⟨_, rfl⟩
  have Cbx := cell_is (n := 7) ebx (by decide)
  obtain ⟨bz, ebz⟩ : ∃ z, b 1 = z := ⟨_, rfl⟩
  have Cbz := cell_is (n := 7) ebz (by decide)
  rw [eax] at ha0
  rw [eay] at ha1
  rw [ebx] at hb0
  rw [ebz] at hb1
  obtain ⟨m0, hm0⟩ : ∃ z, min ax bx = z := ⟨_, rfl⟩
  obtain ⟨q0, hq0⟩ : ∃ z, m0.tdiv 256 = z := ⟨_, rfl⟩
  obtain ⟨u0, hu0⟩ : ∃ z, q0 - n = z := ⟨_, rfl⟩
  obtain ⟨v0, hv0⟩ : ∃ z, u0 - 1 = z := ⟨_, rfl⟩
  have k0 := SP.tdiv_near m0
  rw [hq0] at k0
  have F0 : Hid (min ax bx = m0) := Lib.hid hm0
  have G0 : Hid ((if bx < ax then bx else ax) = m0) := Lib.hid ((min_if ax bx).trans hm0)
  have lm0 : -268435456 ≤ m0 ∧ m0 ≤ 268435456 := by omega
  have D0 : Hid (IntKind.i64.wrap (m0.tdiv 256) = q0) := Lib.hid ((by rw [hq0]; exact IntWalk.i64_in _ (by omega)) : IntKind.i64.wrap (m0.tdiv 256) = q0)
  have A0 : Hid (IntKind.i64.wrap (q0 - n) = u0) := Lib.hid ((IntWalk.i64_in _ (by omega)).trans hu0)
  have B0 : wrap64 (u0 - 1) = v0 := (IntWalk.wrap64_in _ (by omega)).trans hv0
  obtain ⟨m1, hm1⟩ : ∃ z, max ax bx = z := ⟨_, rfl⟩
  obtain ⟨q1, hq1⟩ : ∃ z, m1.tdiv 256 = z := ⟨_, rfl⟩
  obtain ⟨u1, hu1⟩ : ∃ z, q1 + n = z := ⟨_, rfl⟩
  obtain ⟨v1, hv1⟩ : ∃ z, u1 + 1 = z := ⟨_, rfl⟩
  have k1 := SP.tdiv_near m1
  rw [hq1] at k1
  have F1 : Hid (max ax bx = m1) := Lib.hid hm1
  have G1 : Hid ((if ax < bx then bx else ax) = m1) := Lib.hid ((max_if ax bx).trans hm1)
  have lm1 : -268435456 ≤ m1 ∧ m1 ≤ 268435456 := by omega
  have D1 : Hid (IntKind.i64.wrap (m1.tdiv 256) = q1) := Lib.hid ((by rw [hq1]; exact IntWalk.i64_in _ (by omega)) : IntKind.i64.wrap (m1.tdiv 256) = q1)
  have A1 : Hid (IntKind.i64.wrap (q1 + n) = u1) := Lib.hid ((IntWalk.i64_in _ (by omega)).trans hu1)
  have B1 : wrap64 (u1 + 1) = v1 := (IntWalk.wrap64_in _ (by omega)).trans hv1
  obtain ⟨m2, hm2⟩ : ∃ z, min ay bz = z := ⟨_, rfl⟩
  obtain ⟨q2, hq2⟩ : ∃ z, m2.tdiv 256 = z := ⟨_, rfl⟩
  obtain ⟨u2, hu2⟩ : ∃ z, q2 - n = z := ⟨_, rfl⟩
  obtain ⟨v2, hv2⟩ : ∃ z, u2 - 1 = z := ⟨_, rfl⟩
  have k2 := SP.tdiv_near m2
  rw [hq2] at k2
  have F2 : Hid (min ay bz = m2) := Lib.hid hm2
  have G2 : Hid ((if bz < ay then bz else ay) = m2) := Lib.hid ((min_if ay bz).trans hm2)
  have lm2 : -268435456 ≤ m2 ∧ m2 ≤ 268435456 := by omega
  have D2 : Hid (IntKind.i64.wrap (m2.tdiv 256) = q2) := Lib.hid ((by rw [hq2]; exact IntWalk.i64_in _ (by omega)) : IntKind.i64.wrap (m2.tdiv 256) = q2)
  have A2 : Hid (IntKind.i64.wrap (q2 - n) = u2) := Lib.hid ((IntWalk.i64_in _ (by omega)).trans hu2)
  have B2 : wrap64 (u2 - 1) = v2 := (IntWalk.wrap64_in _ (by omega)).trans hv2
  obtain ⟨m3, hm3⟩ : ∃ z, max ay bz = z := ⟨_, rfl⟩
  obtain ⟨q3, hq3⟩ : ∃ z, m3.tdiv 256 = z := ⟨_, rfl⟩
  obtain ⟨u3, hu3⟩ : ∃ z, q3 + n = z := ⟨_, rfl⟩
  obtain ⟨v3, hv3⟩ : ∃ z, u3 + 1 = z := ⟨_, rfl⟩
  have k3 := SP.tdiv_near m3
  rw [hq3] at k3
  have F3 : Hid (max ay bz = m3) := Lib.hid hm3
  have G3 : Hid ((if ay < bz then bz else ay) = m3) := Lib.hid ((max_if ay bz).trans hm3)
  have lm3 : -268435456 ≤ m3 ∧ m3 ≤ 268435456 := by omega
  have D3 : Hid (IntKind.i64.wrap (m3.tdiv 256) = q3) := Lib.hid ((by rw [hq3]; exact IntWalk.i64_in _ (by omega)) : IntKind.i64.wrap (m3.tdiv 256) = q3)
  have A3 : Hid (IntKind.i64.wrap (q3 + n) = u3) := Lib.hid ((IntWalk.i64_in _ (by omega)).trans hu3)
  have B3 : wrap64 (u3 + 1) = v3 := (IntWalk.wrap64_in _ (by omega)).trans hv3
  have HE : Hid (SP.ard a b n = RC.mk v0 v2 v1 v3) := Lib.hid (by unfold SP.ard; rw [eax, eay, ebx, ebz, hm0, hm1, hm2, hm3, hq0, hq1, hq2, hq3, hu0, hu1, hu2, hu3, hv0, hv1, hv2, hv3])
  clear hm0 hm1 hm2 hm3 hq0 hq1 hq2 hq3 hu0 hu1 hu2 hu3 hv0 hv1 hv2 hv3 k0 k1 k2 k3 lm0 lm1 lm2 lm3 ha0 ha1 hb0 hb1 eax eay ebx ebz hn
  go_enter Try.func24, Try.ntmps24
  go_wp2_with (first | ((with_reducible refine at_box 3 ?_); refine wpList_box_own O (M.mat 7 (a)) rfl ?_; clear O; intro g3 w1 O) | ((with_reducible refine at_box 4 ?_); refine wpList_box_own O (M.mat 7 (b)) rfl ?_; clear O; intro g4 w2 O) | ((with_reducible refine at_alloc 6 ?_); refine wpList_alloc_own O (M.mat 4 M.zero) zeroR ?_; clear O; intro g6 w3 O))
  refine region_T (fun w2 => Own w w2 [(g6, 27, M.mat 4 M.zero), (g4, 25, M.mat 7 b), (g3, 25, M.mat 7 a)]) [0, 1, 2, 3, 4, 5, 6, 7, 8, 9, 10, 11, 12, 13, 14, 15, 16] 12 [some 11, some 12, some 13, some 14, some 15, some 16, some 17, some 18, some 19, some 20, some 21, some 22, some 23, some 24, some 25, some 26, some 7] [.pointer (some ⟨g3, 0, none⟩), .int .i64 (ax), .pointer (some ⟨g4, 0, none⟩), .int .i64 (bx), .int .i64 (m0), .int .i64 (q0), .int .i64 (n), .int .i64 (u0), .pointer (some ⟨g3, 0, none⟩), .int .i64 (ax), .pointer (some ⟨g4, 0, none⟩), .int .i64 (bx), .int .i64 (m1), .int .i64 (q1), .int .i64 (n), .int .i64 (u1), .int .i64 (u0)] 1 (by kernel_rfl) (by rfl) (by kernel_rfl) (by rfl) (by rfl) (O.drew) (fun F hF => ?_)
  simp only [fillD, Act.put, List.setIfInBounds_toArray, List.set_cons_zero, List.set_cons_succ] at hF
  subst hF
  refine ⟨⟨does_want rfl (by rfl) (fun w' O K hK => ?_), does_want rfl (by rfl) (fun w' O K hK => ?_), does_want rfl (by rfl) (fun w' O K hK => ?_), does_want rfl (by rfl) (fun w' O K hK => ?_), does_want rfl (by rfl) (fun w' O K hK => ?_), does_want rfl (by rfl) (fun w' O K hK => ?_), does_want rfl (by rfl) (fun w' O K hK => ?_), does_want rfl (by rfl) (fun w' O K hK => ?_), does_want rfl (by rfl) (fun w' O K hK => ?_), does_want rfl (by rfl) (fun w' O K hK => ?_), does_want rfl (by rfl) (fun w' O K hK => ?_), does_want rfl (by rfl) (fun w' O K hK => ?_), does_want rfl (by rfl) (fun w' O K hK => ?_), does_want rfl (by rfl) (fun w' O K hK => ?_), does_want rfl (by rfl) (fun w' O K hK => ?_), does_want rfl (by rfl) (fun w' O K hK => ?_), does_want rfl (by rfl) (fun w' O K hK => ?_), trivial⟩, fun w' O => ?_⟩
  · go_simp
    exact hK _ O
  · exact wp_cell_h (v := .int .i64 (ax)) O.held 2 rfl Cax.out rfl agg3 rfl (hK _ O)
  · go_simp
    exact hK _ O
  · exact wp_cell_h (v := .int .i64 (bx)) O.held 1 rfl Cbx.out rfl agg3 rfl (hK _ O)
  · go_simp
    first
      | exact hK _ O
      | (simp only [G0.out]; exact hK _ O)
      | (simp only [F0.out]; exact hK _ O)
  · go_simp
    simp only [D0.out]
    exact hK _ O
  · go_simp
    exact hK _ O
  · go_simp
    simp only [A0.out]
    exact hK _ O
  · go_simp
    exact hK _ O
  · exact wp_cell_h (v := .int .i64 (ax)) O.held 2 rfl Cax.out rfl agg3 rfl (hK _ O)
  · go_simp
    exact hK _ O
  · exact wp_cell_h (v := .int .i64 (bx)) O.held 1 rfl Cbx.out rfl agg3 rfl (hK _ O)
  · go_simp
    first
      | exact hK _ O
      | (simp only [G1.out]; exact hK _ O)
      | (simp only [F1.out]; exact hK _ O)
  · go_simp
    simp only [D1.out]
    exact hK _ O
  · go_simp
    exact hK _ O
  · go_simp
    simp only [A1.out]
    exact hK _ O
  · go_simp
    exact hK _ O
  refine wpAny_one (i := 17) (by kernel_rfl) rfl (fun K hK => ?_)
  go_simp
  refine hK _ _ ?_
  clear hK K
  try simp only [Act.put, List.setIfInBounds_toArray, List.set_cons_zero, List.set_cons_succ]
  refine wpAny_done (by kernel_rfl) ?_ _
  go_wp2_with fail
  refine region_T (fun w2 => Own w w2 [(g6, 27, M.mat 4 M.zero), (g4, 25, M.mat 7 b), (g3, 25, M.mat 7 a)]) [0, 1, 2, 3, 4, 5, 6, 7, 8, 9, 10, 11, 12, 13, 14, 15, 16] 12 [some 27, some 28, some 29, some 30, some 31, some 32, some 33, some 34, some 35, some 36, some 37, some 38, some 39, some 40, some 41, some 42, some 9] [.pointer (some ⟨g3, 1, none⟩), .int .i64 (ay), .pointer (some ⟨g4, 1, none⟩), .int .i64 (bz), .int .i64 (m2), .int .i64 (q2), .int .i64 (n), .int .i64 (u2), .pointer (some ⟨g3, 1, none⟩), .int .i64 (ay), .pointer (some ⟨g4, 1, none⟩), .int .i64 (bz), .int .i64 (m3), .int .i64 (q3), .int .i64 (n), .int .i64 (u3), .int .i64 (u2)] 1 (by kernel_rfl) (by rfl) (by kernel_rfl) (by rfl) (by rfl) (O.drew) (fun F hF => ?_)
  simp only [fillD, Act.put, List.setIfInBounds_toArray, List.set_cons_zero, List.set_cons_succ] at hF
  subst hF
  refine ⟨⟨does_want rfl (by rfl) (fun w' O K hK => ?_), does_want rfl (by rfl) (fun w' O K hK => ?_), does_want rfl (by rfl) (fun w' O K hK => ?_), does_want rfl (by rfl) (fun w' O K hK => ?_), does_want rfl (by rfl) (fun w' O K hK => ?_), does_want rfl (by rfl) (fun w' O K hK => ?_), does_want rfl (by rfl) (fun w' O K hK => ?_), does_want rfl (by rfl) (fun w' O K hK => ?_), does_want rfl (by rfl) (fun w' O K hK => ?_), does_want rfl (by rfl) (fun w' O K hK => ?_), does_want rfl (by rfl) (fun w' O K hK => ?_), does_want rfl (by rfl) (fun w' O K hK => ?_), does_want rfl (by rfl) (fun w' O K hK => ?_), does_want rfl (by rfl) (fun w' O K hK => ?_), does_want rfl (by rfl) (fun w' O K hK => ?_), does_want rfl (by rfl) (fun w' O K hK => ?_), does_want rfl (by rfl) (fun w' O K hK => ?_), trivial⟩, fun w' O => ?_⟩
  · go_simp
    exact hK _ O
  · exact wp_cell_h (v := .int .i64 (ay)) O.held 2 rfl Cay.out rfl agg3 rfl (hK _ O)
  · go_simp
    exact hK _ O
  · exact wp_cell_h (v := .int .i64 (bz)) O.held 1 rfl Cbz.out rfl agg3 rfl (hK _ O)
  · go_simp
    first
      | exact hK _ O
      | (simp only [G2.out]; exact hK _ O)
      | (simp only [F2.out]; exact hK _ O)
  · go_simp
    simp only [D2.out]
    exact hK _ O
  · go_simp
    exact hK _ O
  · go_simp
    simp only [A2.out]
    exact hK _ O
  · go_simp
    exact hK _ O
  · exact wp_cell_h (v := .int .i64 (ay)) O.held 2 rfl Cay.out rfl agg3 rfl (hK _ O)
  · go_simp
    exact hK _ O
  · exact wp_cell_h (v := .int .i64 (bz)) O.held 1 rfl Cbz.out rfl agg3 rfl (hK _ O)
  · go_simp
    first
      | exact hK _ O
      | (simp only [G3.out]; exact hK _ O)
      | (simp only [F3.out]; exact hK _ O)
  · go_simp
    simp only [D3.out]
    exact hK _ O
  · go_simp
    exact hK _ O
  · go_simp
    simp only [A3.out]
    exact hK _ O
  · go_simp
    exact hK _ O
  refine wpAny_one (i := 17) (by kernel_rfl) rfl (fun K hK => ?_)
  go_simp
  refine hK _ _ ?_
  clear hK K
  try simp only [Act.put, List.setIfInBounds_toArray, List.set_cons_zero, List.set_cons_succ]
  refine wpAny_done (by kernel_rfl) ?_ _
  go_wp2_with (first | ((with_reducible refine at_build 51 ?_); refine wpList_build_g rfl ([(0, .int .i64 v0), (1, .int .i64 v2), (2, .int .i64 v1), (3, .int .i64 v3)]) ((M.mat 4 (RC.mk v0 v2 v1 v3)).toArray) ?_ (builtR18 _ _ _ _) ?_; (focus (simp only [List.map_toArray, List.map_cons, List.map_nil]; rfl))) | ((with_reducible refine at_store 6 ?_); refine wpList_put_own O 0 (M.mat 4 (RC.mk v0 v2 v1 v3)) rfl rfl rfl (sR _) (M.mat_len2 _ _ _) (M.mat_one _ _) ?_; clear O; intro w9 O))
  exact bodyPost_ret (v := arr 4 (SP.ard a b n)) (by rw [HE.out]; exact res_h rfl O.held 0 rfl rfl Try.underlying27 rfl (sR _)) rfl ⟨rfl, O.below⟩
end Go.Proofs.Ytdkppkdoconfhaa
