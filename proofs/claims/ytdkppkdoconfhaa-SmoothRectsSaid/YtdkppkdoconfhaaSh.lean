/- Contracts: within. -/
import Derived.Test.YtdkppkdoconfhaaSg
import Derived.Test.YtdkppkdoconfhaaNb
namespace Go.Proofs.Ytdkppkdoconfhaa
open Go.ChangeShapes Go.WideShapes Go.ChangeAt Go.RowKit
set_option linter.unusedVariables false
set_option linter.unusedSimpArgs false

theorem NB.call {w0 w w2 : World} {bs : List (Nat × TypeId × List Value)} {ss : List NbS} {st : Nat → Option Value} (h : NB w0 bs ss st w) (hb : Below w.heap.size w w2) : NB w0 bs ss st w2 := ⟨h.1, h.2.1, h.2.2.call hb⟩
set_option maxRecDepth 100000 in
set_option maxHeartbeats 16000000 in
theorem pwit18 (s c : Nat → Int) (h : SP.Ok s) (hc : SP.In 2147483648 c) (w : World) : Calls Try.prog 46 #[arr 5 s, arr 2 c] w fun e w' => e = .returned (arr 2 (SP.within s c)) ∧ Below w.heap.size w w' := by
  have O := Own.start w
  obtain ⟨⟨t0, t1⟩, hL, hS⟩ := SP.lens_lim h hc
  have q0 := SP.mul_lim h.1 hc.1
  have q1 := SP.mul_lim h.1 hc.2
  have q2 := SP.mul_lim h.2.1 hc.1
  have q3 := SP.mul_lim h.2.1 hc.2
  have CA := fun w => ptimes18 c (s 1) (by omega) (by omega) w
  have CB := fun w => ptimes18 c (s 0) (by omega) (by omega) w
  have CL := fun w => pquo18 (SP.lenw s c) (s 0) hL (by have := h.1; omega) w
  have CS := fun w => pquo18 (SP.sidw s c) (s 1) hS (by have := h.2.1; omega) w
  have CN := fun w => pand18 (SP.quot (SP.lenw s c) (s 0)) (SP.quot (SP.sidw s c) (s 1)) w
  change ∀ w, Calls _ _ _ w fun e w' => e = .returned (arr 2 (SP.within s c)) ∧ _ at CN
  generalize SP.within s c = res at CN ⊢
  generalize SP.quot (SP.lenw s c) (s 0) = qL at CL CN
  generalize SP.quot (SP.sidw s c) (s 1) = qS at CS CN
  unfold SP.lenw at CL
  unfold SP.sidw at CS
  generalize SP.times c (s 1) = tA at CA CL t1
  generalize SP.times c (s 0) = tB at CB CS t0
  obtain ⟨⟨b0, b1⟩, b2, b3⟩ := And.intro t0 t1
  obtain ⟨h0, h1, h2, h3, h4⟩ := h
  obtain ⟨s0, es0⟩ : ∃ z, s 0 = z := ⟨_, rfl⟩
  have Cs0 := cell_is (n := 5) es0 (by decide)
  obtain ⟨s1, es1⟩ : ∃ z, s 1 = z := ⟨_, rfl⟩
  have Cs1 := cell_is (n := 5) es1 (by decide)
  obtain ⟨s2, es2⟩ : ∃ z, s 2 = z := ⟨_, rfl⟩
  have Cs2 := cell_is (n := 5) es2 (by decide)
  obtain ⟨s3, es3⟩ : ∃ z, s 3 = z := ⟨_, rfl⟩
  have Cs3 := cell_is (n := 5) es3 (by decide)
  obtain ⟨s4, es4⟩ : ∃ z, s 4 = z := ⟨_, rfl⟩
  have Cs4 := cell_is (n := 5) es4 (by decide)
  obtain ⟨a0, ea0⟩ : ∃ z, tA 0 = z := ⟨_, rfl⟩
  have Ca0 := cell_is (n := 2) ea0 (by decide)
  obtain ⟨a1, ea1⟩ : ∃ z, tA 1 = z := ⟨_, rfl⟩
  have Ca1 := cell_is (n := 2) ea1 (by decide)
  obtain ⟨d0, ed0⟩ : ∃ z, tB 0 = z := ⟨_, rfl⟩
  have Cd0 := cell_is (n := 2) ed0 (by decide)
  obtain ⟨d1, ed1⟩ : ∃ z, tB 1 = z := ⟨_, rfl⟩
  have Cd1 := cell_is (n := 2) ed1 (by decide)
  rw [es0] at CB CL h0
  rw [es1] at CA CS h1
  rw [es2] at CL h2
  rw [es3] at CS h3
  rw [es4] at CS h4
  rw [ea0, ea1] at CL
  rw [ed0, ed1] at CS
  rw [ea0] at b2
  rw [ea1] at b3
  rw [ed0] at b0
  rw [ed1] at b1
  obtain ⟨l0, hl0⟩ : ∃ z, -a1 = z := ⟨_, rfl⟩
  obtain ⟨n1, hn1⟩ : ∃ z, s2 - 1 = z := ⟨_, rfl⟩
  obtain ⟨l1, hl1⟩ : ∃ z, n1 - a0 = z := ⟨_, rfl⟩
  obtain ⟨k0, hk0⟩ : ∃ z, d0 - s4 = z := ⟨_, rfl⟩
  obtain ⟨k1, hk1⟩ : ∃ z, d1 - s3 = z := ⟨_, rfl⟩
  rw [hl0, hn1, hl1] at CL
  rw [hk0, hk1] at CS
  have U0 : wrap64 (-a1) = l0 := (IntWalk.wrap64_in _ (by omega)).trans hl0
  have U1 : wrap64 (s2 - 1) = n1 := (IntWalk.wrap64_in _ (by omega)).trans hn1
  have U2 : wrap64 (n1 - a0) = l1 := (IntWalk.wrap64_in _ (by omega)).trans hl1
  have U3 : wrap64 (d0 - s4) = k0 := (IntWalk.wrap64_in _ (by omega)).trans hk0
  have U4 : wrap64 (d1 - s3) = k1 := (IntWalk.wrap64_in _ (by omega)).trans hk1
  clear hl0 hn1 hl1 hk0 hk1 b0 b1 b2 b3 h0 h1 h2 h3 h4 es0 es1 es2 es3 es4 ea0 ea1 ed0 ed1 hL hS hc q0 q1 q2 q3
  have tok0 : True := trivial
  have HD : apart [⟨8, 10, 62, M.mat 2 M.zero, M.mat 2 tA⟩, ⟨9, 99, 62, M.mat 2 M.zero, M.mat 2 M.zero⟩] := (by decide : [8, 10, 9, 99].Nodup)
  go_enter Try.func46, Try.ntmps46
  go_wp2_with (first | ((with_reducible refine at_box 2 ?_); refine wpList_box_own O (M.mat 5 (s)) rfl ?_; clear O; intro g2 w1 O) | ((with_reducible refine at_box 3 ?_); refine wpList_box_own O (M.mat 2 (c)) rfl ?_; clear O; intro g3 w2 O) | ((with_reducible refine at_alloc 4 ?_); refine wpList_alloc_own O (M.mat 2 M.zero) zeroN18 ?_; clear O; intro g4 w3 O))
  refine region_S (fun st w2 => NB w [(g4, 62, M.mat 2 M.zero), (g3, 62, M.mat 2 c), (g2, 59, M.mat 5 s)] [⟨8, 10, 62, M.mat 2 M.zero, M.mat 2 tA⟩, ⟨9, 99, 62, M.mat 2 M.zero, M.mat 2 M.zero⟩] st w2) [8, 9, 10] 12 11 [some 9, some 10, some 11, some 12, some 13, some 14, some 15, some 16, some 5, some 6, none] (fun g => [arr 2 c, .pointer (some ⟨g2, 1, none⟩), .int .i64 (s1), arr 2 tA, arr 2 c, .pointer (some ⟨g2, 0, none⟩), .int .i64 (s0), arr 2 tB, g 8, g 9, g 10]) 1 (by kernel_rfl) (by kernel_rfl) (by rfl) (by rfl) (fun _ => rfl) (by decide) ?_ (NB.start O.drew) (fun F hF => ?_)
  · intro i hi
    simp only [List.mem_cons, List.not_mem_nil, or_false] at hi
    rcases hi with rfl | rfl | rfl
    · exact ⟨fun _ => rfl, [0, 1, 2, 3, 4, 5, 6, 7, 9, 10], by kernel_rfl, fun g v => ⟨rfl, rfl, rfl, rfl, rfl, rfl, rfl, rfl, rfl, rfl, trivial⟩⟩
    · exact ⟨fun _ => rfl, [0, 1, 2, 3, 4, 5, 6, 7, 8, 10], by kernel_rfl, fun g v => ⟨rfl, rfl, rfl, rfl, rfl, rfl, rfl, rfl, rfl, rfl, trivial⟩⟩
    · exact ⟨fun _ => rfl, [0, 1, 2, 3, 4, 5, 6, 7, 8, 9], by kernel_rfl, fun g v => ⟨rfl, rfl, rfl, rfl, rfl, rfl, rfl, rfl, rfl, rfl, trivial⟩⟩
  simp only [fillD, Act.put, List.setIfInBounds_toArray, List.set_cons_zero, List.set_cons_succ] at hF
  have hF2 := funext hF
  clear hF
  subst hF2
  refine ⟨⟨doesN_want (by decide) rfl (fun g => rfl) (fun st w' hS hp K hK => ?_), doesN_want (by decide) rfl (fun g => rfl) (fun st w' hS hp K hK => ?_), doesN_want (by decide) rfl (fun g => rfl) (fun st w' hS hp K hK => ?_), doesN_want (by decide) rfl (fun g => rfl) (fun st w' hS hp K hK => ?_), doesN_want (by decide) rfl (fun g => rfl) (fun st w' hS hp K hK => ?_), doesN_want (by decide) rfl (fun g => rfl) (fun st w' hS hp K hK => ?_), doesN_want (by decide) rfl (fun g => rfl) (fun st w' hS hp K hK => ?_), doesN_want (by decide) rfl (fun g => rfl) (fun st w' hS hp K hK => ?_), doesC_want (by decide) rfl (fun g => rfl) (fun st w' hS hn hp K hK => ?_), doesC_want (by decide) rfl (fun g => rfl) (fun st w' hS hn hp K hK => ?_), doesC_want (by decide) rfl (fun g => rfl) (fun st w' hS hn hp K hK => ?_), trivial⟩, fun st w' hS hall => ?_⟩
  · try dsimp only
    exact wp_whole hS.own 1 rfl rfl Try.underlying62 rfl (sN18 _) (hK _ hS)
  · try dsimp only
    go_simp
    exact hK _ hS
  · try dsimp only
    exact wp_cell_h (v := .int .i64 (s1)) hS.own.held 2 rfl Cs1.out rfl agg3 rfl (hK _ hS)
  · try dsimp only
    go_simp
    go_at_call 61
    refine (CA _).mono ?_
    rintro e w2 ⟨rfl, hb⟩
    exact hK _ (hS.call hb)
  · try dsimp only
    exact wp_whole hS.own 1 rfl rfl Try.underlying62 rfl (sN18 _) (hK _ hS)
  · try dsimp only
    go_simp
    exact hK _ hS
  · try dsimp only
    exact wp_cell_h (v := .int .i64 (s0)) hS.own.held 2 rfl Cs0.out rfl agg3 rfl (hK _ hS)
  · try dsimp only
    go_simp
    go_at_call 61
    refine (CB _).mono ?_
    rintro e w2 ⟨rfl, hb⟩
    exact hK _ (hS.call hb)
  · try dsimp only
    exact hS.alloc HD 0 rfl hn zeroN18 hK
  · try dsimp only
    exact hS.alloc HD 1 rfl hn zeroN18 hK
  · try dsimp only
    exact hS.put HD 0 rfl (hp 8 (by decide) (by kernel_rfl)) hn rfl rfl (sN18 _) (M.mat_len2 _ _ _) (M.mat_one _ _) hK
  try dsimp only
  obtain ⟨g5, e5⟩ := hS.ptr 0 rfl (hall 8 (by decide))
  obtain ⟨g6, e6⟩ := hS.ptr 1 rfl (hall 9 (by decide))
  have O3 : Own w w' [(g5, 62, M.mat 2 tA), (g6, 62, M.mat 2 M.zero), (g4, 62, M.mat 2 M.zero), (g3, 62, M.mat 2 c), (g2, 59, M.mat 5 s)] := by
    have h3 := hS.2.2
    rw [nows_cons, nows_cons, NbS.now_is e5 true (hall 10 (by decide)), NbS.now_same e6 rfl] at h3
    exact h3
  clear hS O
  have O := O3
  clear O3
  simp only [seen, e5, e6, Option.getD_some]
  try generalize (st 10).getD undef = x10'
  clear hall e5 e6
  refine wpAny_want (i := 11) (by kernel_rfl) rfl (by rfl) (fun K hK => ?_)
  refine wp_put_own O 1 (M.mat 2 (tB)) rfl rfl rfl (sN18 _) (M.mat_len2 _ _ _) (M.mat_one _ _) fun w9 O9 => hK _ _ ?_
  clear O
  have O := O9
  clear O9
  clear hK K
  try simp only [Act.put, List.setIfInBounds_toArray, List.set_cons_zero, List.set_cons_succ]
  refine wpAny_done (by kernel_rfl) ?_ _
  have O9 := Own.as O (l' := [(g5, 62, M.mat 2 tA), (g6, 62, M.mat 2 tB), (g4, 62, M.mat 2 M.zero), (g3, 62, M.mat 2 c), (g2, 59, M.mat 5 s)]) rfl
  clear O HD CA CB
  have O := O9
  clear O9
  go_wp2_with (first | ((with_reducible refine at_load 18 ?_); refine wpList_cell_h (v := .int .i64 (a1)) rfl O.held 0 rfl Ca1.out rfl agg3 rfl ?_) | ((with_reducible refine at_load 21 ?_); refine wpList_cell_h (v := .int .i64 (s2)) rfl O.held 4 rfl Cs2.out rfl agg3 rfl ?_) | ((with_reducible refine at_load 24 ?_); refine wpList_cell_h (v := .int .i64 (a0)) rfl O.held 0 rfl Ca0.out rfl agg3 rfl ?_) | ((with_reducible refine at_build 26 ?_); refine wpList_build_g rfl ([(0, .int .i64 (l0)), (1, .int .i64 (l1))]) ((M.mat 2 (SP.mk (l0) (l1))).toArray) ?_ (builtN18 _ _) ?_; (focus (simp only [List.map_toArray, List.map_cons, List.map_nil]; rfl))) | ((with_reducible refine at_load 28 ?_); refine wpList_cell_h (v := .int .i64 (s0)) rfl O.held 4 rfl Cs0.out rfl agg3 rfl ?_) | (go_at_call 62; clear tok0; have tok1 : True := trivial; refine (CL _).mono ?_; rintro e w11 ⟨rfl, hb⟩; replace O := O.call hb; clear hb) | ((with_reducible refine at_alloc 7 ?_); refine wpList_alloc_own O (M.mat 2 M.zero) zeroN18 ?_; clear O; intro g7 w12 O) | ((with_reducible refine at_store 7 ?_); refine wpList_put_own O 0 (M.mat 2 (qL)) rfl rfl rfl (sN18 _) (M.mat_len2 _ _ _) (M.mat_one _ _) ?_; clear O; intro w13 O) | ((with_reducible refine at_load 31 ?_); refine wpList_cell_h (v := .int .i64 (d0)) rfl O.held 2 rfl Cd0.out rfl agg3 rfl ?_) | ((with_reducible refine at_load 33 ?_); refine wpList_cell_h (v := .int .i64 (s4)) rfl O.held 5 rfl Cs4.out rfl agg3 rfl ?_) | ((with_reducible refine at_load 36 ?_); refine wpList_cell_h (v := .int .i64 (d1)) rfl O.held 2 rfl Cd1.out rfl agg3 rfl ?_) | ((with_reducible refine at_load 38 ?_); refine wpList_cell_h (v := .int .i64 (s3)) rfl O.held 5 rfl Cs3.out rfl agg3 rfl ?_) | ((with_reducible refine at_build 40 ?_); refine wpList_build_g rfl ([(0, .int .i64 (k0)), (1, .int .i64 (k1))]) ((M.mat 2 (SP.mk (k0) (k1))).toArray) ?_ (builtN18 _ _) ?_; (focus (simp only [List.map_toArray, List.map_cons, List.map_nil]; rfl))) | ((with_reducible refine at_load 42 ?_); refine wpList_cell_h (v := .int .i64 (s1)) rfl O.held 5 rfl Cs1.out rfl agg3 rfl ?_) | (go_at_call 62; clear tok1; have tok2 : True := trivial; refine (CS _).mono ?_; rintro e w14 ⟨rfl, hb⟩; replace O := O.call hb; clear hb) | ((with_reducible refine at_alloc 8 ?_); refine wpList_alloc_own O (M.mat 2 M.zero) zeroN18 ?_; clear O; intro g8 w15 O) | ((with_reducible refine at_store 8 ?_); refine wpList_put_own O 0 (M.mat 2 (qS)) rfl rfl rfl (sN18 _) (M.mat_len2 _ _ _) (M.mat_one _ _) ?_; clear O; intro w16 O) | ((with_reducible refine at_load 44 ?_); refine wpList_whole rfl O 1 rfl rfl Try.underlying62 rfl (sN18 _) ?_) | ((with_reducible refine at_load 45 ?_); refine wpList_whole rfl O 0 rfl rfl Try.underlying62 rfl (sN18 _) ?_) | (go_at_call 30; refine (CN _).mono ?_; rintro e w17 ⟨rfl, hb⟩; replace O := O.call hb; clear hb) | ((with_reducible refine at_store 4 ?_); refine wpList_put_own O 4 (M.mat 2 (res)) rfl rfl rfl (sN18 _) (M.mat_len2 _ _ _) (M.mat_one _ _) ?_; clear O; intro w18 O))
  exact bodyPost_ret (v := arr 2 res) (res_h rfl O.held 4 rfl rfl Try.underlying62 rfl (sN18 _)) rfl ⟨rfl, O.below⟩
end Go.Proofs.Ytdkppkdoconfhaa
