/-
  TriApart: two triangles that have a side in common, and lie on both sides of it, have no pixel in common; and one of no area has none.
-/
import Derived.Test.YtndaijcgjhmiaaaJh
import Derived.Deep.DeepCutAuto
namespace Go.Proofs.Ytndaijcgjhmiaaa.triApart
open Go.ChangeShapes Go.WideShapes Go.ChangeAt Go.RowKit
set_option linter.unusedVariables false
set_option linter.unusedSimpArgs false

theorem own : ownKnob Try.prog.godebug = none := by kernel_rfl

set_option maxRecDepth 100000 in
set_option maxHeartbeats 16000000 in
theorem walk (w : World) (t d p : Nat → Int) :
    Calls Try.prog 5 #[arr 6 t, arr 2 d, arr 2 p] w fun e w' => e = .returned (.bool true) ∧ Below w.heap.size w w' := by
  have O := Own.start w
  have CF := fun w => lfits20 t w
  have CM := fun w => lmay20 d w
  have CN := fun w => lnear20 p w
  cases hf : TR.fitB t
  · rw [hf] at CF
    clear hf CN CM
    go_enter Try.func5, Try.ntmps5
    go_wp2_with (first | ((with_reducible refine at_box 3 ?_); refine wpList_box_own O (M.mat 6 (t)) rfl ?_; clear O; intro gt w1 O) | ((with_reducible refine at_box 4 ?_); refine wpList_box_own O (M.mat 2 (d)) rfl ?_; clear O; intro gd w2 O) | ((with_reducible refine at_box 5 ?_); refine wpList_box_own O (M.mat 2 (p)) rfl ?_; clear O; intro ga w3 O) | ((with_reducible refine at_load 15 ?_); refine wpList_whole rfl O 2 rfl rfl Try.underlying25 rfl (sT20 _) ?_) | (go_at_call 8; refine (CF _).mono ?_; rintro e w4 ⟨rfl, hb⟩; replace O := O.call hb; clear hb) | (go_at_call 10; refine (lawake20 _).mono ?_; rintro e w7 ⟨rfl, hb⟩; replace O := O.call hb; clear hb))
    go_ret
    exact ⟨rfl, O.below⟩
  rw [hf] at CF
  cases hm : TR.mayB d
  · rw [hm] at CM
    clear hf hm CN
    go_enter Try.func5, Try.ntmps5
    go_wp2_with (first | ((with_reducible refine at_box 3 ?_); refine wpList_box_own O (M.mat 6 (t)) rfl ?_; clear O; intro gt w1 O) | ((with_reducible refine at_box 4 ?_); refine wpList_box_own O (M.mat 2 (d)) rfl ?_; clear O; intro gd w2 O) | ((with_reducible refine at_box 5 ?_); refine wpList_box_own O (M.mat 2 (p)) rfl ?_; clear O; intro ga w3 O) | ((with_reducible refine at_load 15 ?_); refine wpList_whole rfl O 2 rfl rfl Try.underlying25 rfl (sT20 _) ?_) | (go_at_call 8; refine (CF _).mono ?_; rintro e w4 ⟨rfl, hb⟩; replace O := O.call hb; clear hb) | ((with_reducible refine at_load 19 ?_); refine wpList_whole rfl O 1 rfl rfl Try.underlying23 rfl (sN20 _) ?_) | (go_at_call 20; refine (CM _).mono ?_; rintro e w5 ⟨rfl, hb⟩; replace O := O.call hb; clear hb) | (go_at_call 10; refine (lawake20 _).mono ?_; rintro e w7 ⟨rfl, hb⟩; replace O := O.call hb; clear hb))
    go_ret
    exact ⟨rfl, O.below⟩
  rw [hm] at CM
  cases hn : TR.nearB p
  · rw [hn] at CN
    clear hf hn hm
    go_enter Try.func5, Try.ntmps5
    go_wp2_with (first | ((with_reducible refine at_box 3 ?_); refine wpList_box_own O (M.mat 6 (t)) rfl ?_; clear O; intro gt w1 O) | ((with_reducible refine at_box 4 ?_); refine wpList_box_own O (M.mat 2 (d)) rfl ?_; clear O; intro gd w2 O) | ((with_reducible refine at_box 5 ?_); refine wpList_box_own O (M.mat 2 (p)) rfl ?_; clear O; intro ga w3 O) | ((with_reducible refine at_load 15 ?_); refine wpList_whole rfl O 2 rfl rfl Try.underlying25 rfl (sT20 _) ?_) | (go_at_call 8; refine (CF _).mono ?_; rintro e w4 ⟨rfl, hb⟩; replace O := O.call hb; clear hb) | ((with_reducible refine at_load 19 ?_); refine wpList_whole rfl O 1 rfl rfl Try.underlying23 rfl (sN20 _) ?_) | (go_at_call 20; refine (CM _).mono ?_; rintro e w5 ⟨rfl, hb⟩; replace O := O.call hb; clear hb) | ((with_reducible refine at_load 24 ?_); refine wpList_whole rfl O 0 rfl rfl Try.underlying41 rfl (sA20 _) ?_) | (go_at_call 17; refine (CN _).mono ?_; rintro e w6 ⟨rfl, hb⟩; replace O := O.call hb; clear hb) | (go_at_call 10; refine (lawake20 _).mono ?_; rintro e w7 ⟨rfl, hb⟩; replace O := O.call hb; clear hb))
    go_ret
    exact ⟨rfl, O.below⟩
  rw [hn] at CN
  obtain ⟨ma, mb, mc⟩ := TR.fitB_iff.1 hf
  have md := TR.may_cP.1 hm
  obtain ⟨px, py⟩ := TR.nearB_iff.1 hn
  have Wca : ∀ w, Calls Try.prog 11 #[arr 2 (D.sub 0 t)] w fun e w' => e = .returned (arr 7 (TR.cA t)) ∧ Below w.heap.size w w' := fun w => lwin20 (D.sub 0 t) w
  have Wcb : ∀ w, Calls Try.prog 11 #[arr 2 (D.sub 2 t)] w fun e w' => e = .returned (arr 7 (TR.cB t)) ∧ Below w.heap.size w w' := fun w => lwin20 (D.sub 2 t) w
  have Wcc : ∀ w, Calls Try.prog 11 #[arr 2 (D.sub 4 t)] w fun e w' => e = .returned (arr 7 (TR.cC t)) ∧ Below w.heap.size w w' := fun w => lwin20 (D.sub 4 t) w
  have Wcd := fun w => lwin20 d w
  have CX := fun w => phas20_any (TR.cA t) (TR.cB t) (TR.cC t) ma mb mc (p 0) (p 1) px py w
  have CY := fun w => phas20_any (TR.cA t) (TR.cB t) (TR.cP d) ma mb md (p 0) (p 1) px py w
  have CP := fun w => parea20_any (TR.cA t) (TR.cB t) (TR.cC t) ma mb mc w
  have CQ := fun w => parea20_any (TR.cA t) (TR.cB t) (TR.cP d) ma mb md w
  have H1 := fun h => @TR.apart (TR.cA t) (TR.cB t) (TR.cC t) (TR.cP d) ma mb h (p 0) (p 1)
  have H2 := fun h => @TR.has_flat (TR.cA t) (TR.cB t) (TR.cC t) h (p 0) (p 1)
  have H3 := fun h => @TR.has_flat (TR.cA t) (TR.cB t) (TR.cP d) h (p 0) (p 1)
  generalize TR.has (TR.cA t) (TR.cB t) (TR.cC t) (p 0) (p 1) = X at *
  generalize TR.has (TR.cA t) (TR.cB t) (TR.cP d) (p 0) (p 1) = Y at *
  generalize TR.ar (TR.cA t) (TR.cB t) (TR.cC t) = P at *
  generalize TR.ar (TR.cA t) (TR.cB t) (TR.cP d) = Q at *
  replace H1 := Lib.hid H1
  replace H2 := Lib.hid H2
  replace H3 := Lib.hid H3
  generalize TR.cA t = ca at *
  generalize TR.cB t = cb at *
  generalize TR.cC t = cc at *
  generalize TR.cP d = cd at *
  obtain ⟨p0, ep0⟩ : ∃ z, p 0 = z := ⟨_, rfl⟩
  have Cp0 := cell_is (n := 2) ep0 (by decide)
  obtain ⟨p1, ep1⟩ : ∃ z, p 1 = z := ⟨_, rfl⟩
  have Cp1 := cell_is (n := 2) ep1 (by decide)
  rw [ep0, ep1] at CX CY
  clear hf hm hn ma mb mc md px py ep0 ep1
  go_enter Try.func5, Try.ntmps5
  go_wp2_with (first | ((with_reducible refine at_box 3 ?_); refine wpList_box_own O (M.mat 6 (t)) rfl ?_; clear O; intro gt w1 O) | ((with_reducible refine at_box 4 ?_); refine wpList_box_own O (M.mat 2 (d)) rfl ?_; clear O; intro gd w2 O) | ((with_reducible refine at_box 5 ?_); refine wpList_box_own O (M.mat 2 (p)) rfl ?_; clear O; intro ga w3 O) | ((with_reducible refine at_load 15 ?_); refine wpList_whole rfl O 2 rfl rfl Try.underlying25 rfl (sT20 _) ?_) | (go_at_call 8; refine (CF _).mono ?_; rintro e w4 ⟨rfl, hb⟩; replace O := O.call hb; clear hb) | ((with_reducible refine at_load 19 ?_); refine wpList_whole rfl O 1 rfl rfl Try.underlying23 rfl (sN20 _) ?_) | (go_at_call 20; refine (CM _).mono ?_; rintro e w5 ⟨rfl, hb⟩; replace O := O.call hb; clear hb) | ((with_reducible refine at_load 24 ?_); refine wpList_whole rfl O 0 rfl rfl Try.underlying41 rfl (sA20 _) ?_) | (go_at_call 17; refine (CN _).mono ?_; rintro e w6 ⟨rfl, hb⟩; replace O := O.call hb; clear hb))
  have HD : apart [⟨11, 15, 34, M.mat 7 M.zero, M.mat 7 ca⟩, ⟨12, 16, 34, M.mat 7 M.zero, M.mat 7 cb⟩, ⟨13, 17, 34, M.mat 7 M.zero, M.mat 7 cc⟩, ⟨14, 99, 34, M.mat 7 M.zero, M.mat 7 M.zero⟩] := (by decide : [11, 15, 12, 16, 13, 17, 14, 99].Nodup)
  refine region_S (fun st w2 => NB w [(ga, 41, M.mat 2 p), (gd, 23, M.mat 2 d), (gt, 25, M.mat 6 t)] [⟨11, 15, 34, M.mat 7 M.zero, M.mat 7 ca⟩, ⟨12, 16, 34, M.mat 7 M.zero, M.mat 7 cb⟩, ⟨13, 17, 34, M.mat 7 M.zero, M.mat 7 cc⟩, ⟨14, 99, 34, M.mat 7 M.zero, M.mat 7 M.zero⟩] st w2) [11, 12, 13, 14, 15, 16, 17] 12 18 [some 29, some 30, some 31, some 32, some 33, some 34, some 35, some 36, some 37, some 38, some 39, some 7, some 8, some 9, some 10, none, none, none] (fun g => [.pointer (some ⟨gt, 0, none⟩), arr 2 (D.sub 0 t), arr 7 ca, .pointer (some ⟨gt, 2, none⟩), arr 2 (D.sub 2 t), arr 7 cb, .pointer (some ⟨gt, 4, none⟩), arr 2 (D.sub 4 t), arr 7 cc, arr 2 d, arr 7 cd, g 11, g 12, g 13, g 14, g 15, g 16, g 17]) 1 (by kernel_rfl) (by kernel_rfl) (by rfl) (by rfl) (fun _ => rfl) (by decide) ?_ (NB.start O.drew) (fun F hF => ?_)
  · intro i hi
    simp only [List.mem_cons, List.not_mem_nil, or_false] at hi
    rcases hi with rfl | rfl | rfl | rfl | rfl | rfl | rfl
    · exact ⟨fun _ => rfl, [0, 1, 2, 3, 4, 5, 6, 7, 8, 9, 10, 12, 13, 14, 15, 16, 17], by kernel_rfl, fun g v => ⟨rfl, rfl, rfl, rfl, rfl, rfl, rfl, rfl, rfl, rfl, rfl, rfl, rfl, rfl, rfl, rfl, rfl, trivial⟩⟩
    · exact ⟨fun _ => rfl, [0, 1, 2, 3, 4, 5, 6, 7, 8, 9, 10, 11, 13, 14, 15, 16, 17], by kernel_rfl, fun g v => ⟨rfl, rfl, rfl, rfl, rfl, rfl, rfl, rfl, rfl, rfl, rfl, rfl, rfl, rfl, rfl, rfl, rfl, trivial⟩⟩
    · exact ⟨fun _ => rfl, [0, 1, 2, 3, 4, 5, 6, 7, 8, 9, 10, 11, 12, 14, 15, 16, 17], by kernel_rfl, fun g v => ⟨rfl, rfl, rfl, rfl, rfl, rfl, rfl, rfl, rfl, rfl, rfl, rfl, rfl, rfl, rfl, rfl, rfl, trivial⟩⟩
    · exact ⟨fun _ => rfl, [0, 1, 2, 3, 4, 5, 6, 7, 8, 9, 10, 11, 12, 13, 15, 16, 17], by kernel_rfl, fun g v => ⟨rfl, rfl, rfl, rfl, rfl, rfl, rfl, rfl, rfl, rfl, rfl, rfl, rfl, rfl, rfl, rfl, rfl, trivial⟩⟩
    · exact ⟨fun _ => rfl, [0, 1, 2, 3, 4, 5, 6, 7, 8, 9, 10, 11, 12, 13, 14, 16, 17], by kernel_rfl, fun g v => ⟨rfl, rfl, rfl, rfl, rfl, rfl, rfl, rfl, rfl, rfl, rfl, rfl, rfl, rfl, rfl, rfl, rfl, trivial⟩⟩
    · exact ⟨fun _ => rfl, [0, 1, 2, 3, 4, 5, 6, 7, 8, 9, 10, 11, 12, 13, 14, 15, 17], by kernel_rfl, fun g v => ⟨rfl, rfl, rfl, rfl, rfl, rfl, rfl, rfl, rfl, rfl, rfl, rfl, rfl, rfl, rfl, rfl, rfl, trivial⟩⟩
    · exact ⟨fun _ => rfl, [0, 1, 2, 3, 4, 5, 6, 7, 8, 9, 10, 11, 12, 13, 14, 15, 16], by kernel_rfl, fun g v => ⟨rfl, rfl, rfl, rfl, rfl, rfl, rfl, rfl, rfl, rfl, rfl, rfl, rfl, rfl, rfl, rfl, rfl, trivial⟩⟩
  simp only [fillD, Act.put, List.setIfInBounds_toArray, List.set_cons_zero, List.set_cons_succ] at hF
  have hF2 := funext hF
  clear hF
  subst hF2
  refine ⟨⟨doesN_want (by decide) rfl (fun g => rfl) (fun st w' hS hp K hK => ?_), doesN_want (by decide) rfl (fun g => rfl) (fun st w' hS hp K hK => ?_), doesN_want (by decide) rfl (fun g => rfl) (fun st w' hS hp K hK => ?_), doesN_want (by decide) rfl (fun g => rfl) (fun st w' hS hp K hK => ?_), doesN_want (by decide) rfl (fun g => rfl) (fun st w' hS hp K hK => ?_), doesN_want (by decide) rfl (fun g => rfl) (fun st w' hS hp K hK => ?_), doesN_want (by decide) rfl (fun g => rfl) (fun st w' hS hp K hK => ?_), doesN_want (by decide) rfl (fun g => rfl) (fun st w' hS hp K hK => ?_), doesN_want (by decide) rfl (fun g => rfl) (fun st w' hS hp K hK => ?_), doesN_want (by decide) rfl (fun g => rfl) (fun st w' hS hp K hK => ?_), doesN_want (by decide) rfl (fun g => rfl) (fun st w' hS hp K hK => ?_), doesC_want (by decide) rfl (fun g => rfl) (fun st w' hS hn hp K hK => ?_), doesC_want (by decide) rfl (fun g => rfl) (fun st w' hS hn hp K hK => ?_), doesC_want (by decide) rfl (fun g => rfl) (fun st w' hS hn hp K hK => ?_), doesC_want (by decide) rfl (fun g => rfl) (fun st w' hS hn hp K hK => ?_), doesC_want (by decide) rfl (fun g => rfl) (fun st w' hS hn hp K hK => ?_), doesC_want (by decide) rfl (fun g => rfl) (fun st w' hS hn hp K hK => ?_), doesC_want (by decide) rfl (fun g => rfl) (fun st w' hS hn hp K hK => ?_), trivial⟩, fun st w' hS hall => ?_⟩
  · try dsimp only
    go_simp
    exact hK _ hS
  · try dsimp only
    exact wp_mid_h hS.own.held 2 rfl (M.mat 2 (D.sub 0 t)) (mat_sub t (by decide)) rfl Try.underlying23 rfl (sN20 _) (hK _ hS)
  · try dsimp only
    go_simp
    go_at_call 11
    refine (Wca _).mono ?_
    rintro e w2 ⟨rfl, hb⟩
    exact hK _ (hS.call hb)
  · try dsimp only
    go_simp
    exact hK _ hS
  · try dsimp only
    exact wp_mid_h hS.own.held 2 rfl (M.mat 2 (D.sub 2 t)) (mat_sub t (by decide)) rfl Try.underlying23 rfl (sN20 _) (hK _ hS)
  · try dsimp only
    go_simp
    go_at_call 11
    refine (Wcb _).mono ?_
    rintro e w2 ⟨rfl, hb⟩
    exact hK _ (hS.call hb)
  · try dsimp only
    go_simp
    exact hK _ hS
  · try dsimp only
    exact wp_mid_h hS.own.held 2 rfl (M.mat 2 (D.sub 4 t)) (mat_sub t (by decide)) rfl Try.underlying23 rfl (sN20 _) (hK _ hS)
  · try dsimp only
    go_simp
    go_at_call 11
    refine (Wcc _).mono ?_
    rintro e w2 ⟨rfl, hb⟩
    exact hK _ (hS.call hb)
  · try dsimp only
    exact wp_whole hS.own 1 rfl rfl Try.underlying23 rfl (sN20 _) (hK _ hS)
  · try dsimp only
    go_simp
    go_at_call 11
    refine (Wcd _).mono ?_
    rintro e w2 ⟨rfl, hb⟩
    exact hK _ (hS.call hb)
  · try dsimp only
    exact hS.alloc HD 0 rfl hn zeroW hK
  · try dsimp only
    exact hS.alloc HD 1 rfl hn zeroW hK
  · try dsimp only
    exact hS.alloc HD 2 rfl hn zeroW hK
  · try dsimp only
    exact hS.alloc HD 3 rfl hn zeroW hK
  · try dsimp only
    exact hS.put HD 0 rfl (hp 11 (by decide) (by kernel_rfl)) hn rfl rfl (sW _) (M.mat_len2 _ _ _) (M.mat_one _ _) hK
  · try dsimp only
    exact hS.put HD 1 rfl (hp 12 (by decide) (by kernel_rfl)) hn rfl rfl (sW _) (M.mat_len2 _ _ _) (M.mat_one _ _) hK
  · try dsimp only
    exact hS.put HD 2 rfl (hp 13 (by decide) (by kernel_rfl)) hn rfl rfl (sW _) (M.mat_len2 _ _ _) (M.mat_one _ _) hK
  try dsimp only
  obtain ⟨g7, e0⟩ := hS.ptr 0 rfl (hall 11 (by decide))
  obtain ⟨g8, e1⟩ := hS.ptr 1 rfl (hall 12 (by decide))
  obtain ⟨g9, e2⟩ := hS.ptr 2 rfl (hall 13 (by decide))
  obtain ⟨g10, e3⟩ := hS.ptr 3 rfl (hall 14 (by decide))
  have O3 : Own w w' [(g7, 34, M.mat 7 ca), (g8, 34, M.mat 7 cb), (g9, 34, M.mat 7 cc), (g10, 34, M.mat 7 M.zero), (ga, 41, M.mat 2 p), (gd, 23, M.mat 2 d), (gt, 25, M.mat 6 t)] := by
    have h3 := hS.2.2
    rw [nows_cons, nows_cons, nows_cons, nows_cons, NbS.now_is e0 true (hall 15 (by decide)), NbS.now_is e1 true (hall 16 (by decide)), NbS.now_is e2 true (hall 17 (by decide)), NbS.now_same e3 rfl] at h3
    exact h3
  clear hS O
  have O := O3
  clear O3
  simp only [seen, e0, e1, e2, e3, Option.getD_some]
  try generalize (st 15).getD undef = x15'
  try generalize (st 16).getD undef = x16'
  try generalize (st 17).getD undef = x17'
  clear hall e0 e1 e2 e3
  refine wpAny_want (i := 18) (by kernel_rfl) rfl (by rfl) (fun K hK => ?_)
  refine wp_put_own O 3 (M.mat 7 (cd)) rfl rfl rfl (sW _) (M.mat_len2 _ _ _) (M.mat_one _ _) fun w9 O9 => hK _ _ ?_
  clear O
  have O := O9
  clear O9
  clear hK K
  try simp only [Act.put, List.setIfInBounds_toArray, List.set_cons_zero, List.set_cons_succ]
  refine wpAny_done (by kernel_rfl) ?_ _
  have O9 := Own.as O (l' := [(g7, 34, M.mat 7 ca), (g8, 34, M.mat 7 cb), (g9, 34, M.mat 7 cc), (g10, 34, M.mat 7 cd), (ga, 41, M.mat 2 p), (gd, 23, M.mat 2 d), (gt, 25, M.mat 6 t)]) rfl
  clear O HD
  have O := O9
  clear O9
  go_wp2_with fail
  refine region_T (fun w2 => Own w w2 [(g7, 34, M.mat 7 ca), (g8, 34, M.mat 7 cb), (g9, 34, M.mat 7 cc), (g10, 34, M.mat 7 cd), (ga, 41, M.mat 2 p), (gd, 23, M.mat 2 d), (gt, 25, M.mat 6 t)]) [0, 1, 2, 3, 4, 5, 6, 7, 8, 9, 10, 11, 12, 13, 14, 15, 16] 12 [some 40, some 41, some 42, some 43, some 44, some 45, some 46, some 47, some 48, some 49, some 50, some 51, some 52, some 53, some 54, some 55, some 11] [arr 7 ca, arr 7 cb, arr 7 cc, .pointer (some ⟨ga, 0, none⟩), .int .i64 (p0), .pointer (some ⟨ga, 1, none⟩), .int .i64 (p1), .bool X, arr 7 ca, arr 7 cb, arr 7 cd, .pointer (some ⟨ga, 0, none⟩), .int .i64 (p0), .pointer (some ⟨ga, 1, none⟩), .int .i64 (p1), .bool Y, .bool X] 1 (by kernel_rfl) (by rfl) (by kernel_rfl) (by rfl) (by rfl) (O.drew) (fun F hF => ?_)
  simp only [fillD, Act.put, List.setIfInBounds_toArray, List.set_cons_zero, List.set_cons_succ] at hF
  subst hF
  refine ⟨⟨does_want rfl (by rfl) (fun w' O K hK => ?_), does_want rfl (by rfl) (fun w' O K hK => ?_), does_want rfl (by rfl) (fun w' O K hK => ?_), does_want rfl (by rfl) (fun w' O K hK => ?_), does_want rfl (by rfl) (fun w' O K hK => ?_), does_want rfl (by rfl) (fun w' O K hK => ?_), does_want rfl (by rfl) (fun w' O K hK => ?_), does_want rfl (by rfl) (fun w' O K hK => ?_), does_want rfl (by rfl) (fun w' O K hK => ?_), does_want rfl (by rfl) (fun w' O K hK => ?_), does_want rfl (by rfl) (fun w' O K hK => ?_), does_want rfl (by rfl) (fun w' O K hK => ?_), does_want rfl (by rfl) (fun w' O K hK => ?_), does_want rfl (by rfl) (fun w' O K hK => ?_), does_want rfl (by rfl) (fun w' O K hK => ?_), does_want rfl (by rfl) (fun w' O K hK => ?_), does_want rfl (by rfl) (fun w' O K hK => ?_), trivial⟩, fun w' O => ?_⟩
  · exact wp_whole O 0 rfl rfl Try.underlying34 rfl (sW _) (hK _ O)
  · exact wp_whole O 1 rfl rfl Try.underlying34 rfl (sW _) (hK _ O)
  · exact wp_whole O 2 rfl rfl Try.underlying34 rfl (sW _) (hK _ O)
  · exact wp_ino Try.underlying41 sizeOf3 (by decide) 0 rfl rfl (by rfl) (by decide) (hK _ O)
  · exact wp_cell_h (v := .int .i64 (p0)) O.held 4 rfl Cp0.out rfl agg3 rfl (hK _ O)
  · exact wp_ino Try.underlying41 sizeOf3 (by decide) 1 rfl rfl (by rfl) (by decide) (hK _ O)
  · exact wp_cell_h (v := .int .i64 (p1)) O.held 4 rfl Cp1.out rfl agg3 rfl (hK _ O)
  · go_simp
    go_at_call 19
    refine (CX _).mono ?_
    rintro e w2 ⟨rfl, hb⟩
    exact hK _ (O.call hb)
  · exact wp_whole O 0 rfl rfl Try.underlying34 rfl (sW _) (hK _ O)
  · exact wp_whole O 1 rfl rfl Try.underlying34 rfl (sW _) (hK _ O)
  · exact wp_whole O 3 rfl rfl Try.underlying34 rfl (sW _) (hK _ O)
  · exact wp_ino Try.underlying41 sizeOf3 (by decide) 0 rfl rfl (by rfl) (by decide) (hK _ O)
  · exact wp_cell_h (v := .int .i64 (p0)) O.held 4 rfl Cp0.out rfl agg3 rfl (hK _ O)
  · exact wp_ino Try.underlying41 sizeOf3 (by decide) 1 rfl rfl (by rfl) (by decide) (hK _ O)
  · exact wp_cell_h (v := .int .i64 (p1)) O.held 4 rfl Cp1.out rfl agg3 rfl (hK _ O)
  · go_simp
    go_at_call 19
    refine (CY _).mono ?_
    rintro e w2 ⟨rfl, hb⟩
    exact hK _ (O.call hb)
  · go_simp
    exact hK _ O
  refine wpAny_one (i := 17) (by kernel_rfl) rfl (fun K hK => ?_)
  go_simp
  refine hK _ _ ?_
  clear hK K
  try simp only [Act.put, List.setIfInBounds_toArray, List.set_cons_zero, List.set_cons_succ]
  refine wpAny_done (by kernel_rfl) ?_ _
  go_wp2_with fail
  have OO := O
  clear O
  have O := OO
  clear OO
  refine region_T (fun w2 => Own w w2 [(g7, 34, M.mat 7 ca), (g8, 34, M.mat 7 cb), (g9, 34, M.mat 7 cc), (g10, 34, M.mat 7 cd), (ga, 41, M.mat 2 p), (gd, 23, M.mat 2 d), (gt, 25, M.mat 6 t)]) [0, 1, 2, 3, 4, 5, 6, 7, 8] 12 [some 56, some 57, some 58, some 59, some 60, some 61, some 62, some 63, some 13] [arr 7 ca, arr 7 cb, arr 7 cc, .int .i64 (P), arr 7 ca, arr 7 cb, arr 7 cd, .int .i64 (Q), .int .i64 (P)] 1 (by kernel_rfl) (by rfl) (by kernel_rfl) (by rfl) (by rfl) (O.drew) (fun F hF => ?_)
  simp only [fillD, Act.put, List.setIfInBounds_toArray, List.set_cons_zero, List.set_cons_succ] at hF
  subst hF
  refine ⟨⟨does_want rfl (by rfl) (fun w' O K hK => ?_), does_want rfl (by rfl) (fun w' O K hK => ?_), does_want rfl (by rfl) (fun w' O K hK => ?_), does_want rfl (by rfl) (fun w' O K hK => ?_), does_want rfl (by rfl) (fun w' O K hK => ?_), does_want rfl (by rfl) (fun w' O K hK => ?_), does_want rfl (by rfl) (fun w' O K hK => ?_), does_want rfl (by rfl) (fun w' O K hK => ?_), does_want rfl (by rfl) (fun w' O K hK => ?_), trivial⟩, fun w' O => ?_⟩
  · exact wp_whole O 0 rfl rfl Try.underlying34 rfl (sW _) (hK _ O)
  · exact wp_whole O 1 rfl rfl Try.underlying34 rfl (sW _) (hK _ O)
  · exact wp_whole O 2 rfl rfl Try.underlying34 rfl (sW _) (hK _ O)
  · go_simp
    go_at_call 15
    refine (CP _).mono ?_
    rintro e w2 ⟨rfl, hb⟩
    exact hK _ (O.call hb)
  · exact wp_whole O 0 rfl rfl Try.underlying34 rfl (sW _) (hK _ O)
  · exact wp_whole O 1 rfl rfl Try.underlying34 rfl (sW _) (hK _ O)
  · exact wp_whole O 3 rfl rfl Try.underlying34 rfl (sW _) (hK _ O)
  · go_simp
    go_at_call 15
    refine (CQ _).mono ?_
    rintro e w2 ⟨rfl, hb⟩
    exact hK _ (O.call hb)
  · go_simp
    exact hK _ O
  refine wpAny_one (i := 9) (by kernel_rfl) rfl (fun K hK => ?_)
  go_simp
  refine hK _ _ ?_
  clear hK K
  try simp only [Act.put, List.setIfInBounds_toArray, List.set_cons_zero, List.set_cons_succ]
  refine wpAny_done (by kernel_rfl) ?_ _
  have OO := O
  clear O
  have O := OO
  clear OO
  have OO2 := O
  clear O
  have O := OO2
  clear OO2
  clear CX CY CP CQ CF CM CN
  rcases (by omega : 0 < P ∨ P = 0 ∨ P < 0) with hP | hP | hP
  · have P1 : decide (P > 0) = true := by simp; omega
    have P2 : decide (0 < P) = true := by simp; omega
    have P3 : decide (P < 0) = false := by simp; omega
    have P4 : (P != 0) = true := by simp; omega
    rcases (by omega : 0 < Q ∨ Q = 0 ∨ Q < 0) with hQ | hQ | hQ
    · have Q1 : decide (Q > 0) = true := by simp; omega
      have Q2 : decide (0 < Q) = true := by simp; omega
      have Q3 : decide (Q < 0) = false := by simp; omega
      have Q4 : (Q != 0) = true := by simp; omega
      clear hP hQ
      go_wp2_with (go_at_call 10; refine (lawake20 _).mono ?_; rintro e w9 ⟨rfl, hb⟩; replace O := O.call hb; clear hb)
      go_ret
      exact ⟨rfl, O.below⟩
    · have Q1 : decide (Q > 0) = false := by simp; omega
      have Q2 : decide (0 < Q) = false := by simp; omega
      have Q3 : decide (Q < 0) = false := by simp; omega
      have Q4 : (Q != 0) = false := by simp; omega
      have hY := H3.out hQ
      subst hY
      clear hP hQ
      go_wp2_with (go_at_call 10; refine (lawake20 _).mono ?_; rintro e w9 ⟨rfl, hb⟩; replace O := O.call hb; clear hb)
      go_ret
      exact ⟨rfl, O.below⟩
    · have Q1 : decide (Q > 0) = false := by simp; omega
      have Q2 : decide (0 < Q) = false := by simp; omega
      have Q3 : decide (Q < 0) = true := by simp; omega
      have Q4 : (Q != 0) = true := by simp; omega
      have hXY := H1.out (.inl ⟨hP, hQ⟩)
      clear hP hQ
      cases X
      · clear hXY
        go_wp2_with (go_at_call 10; refine (lawake20 _).mono ?_; rintro e w9 ⟨rfl, hb⟩; replace O := O.call hb; clear hb)
        go_ret
        exact ⟨rfl, O.below⟩
      · have hY : Y = false := by simpa using hXY
        subst hY
        clear hXY
        go_wp2_with (go_at_call 10; refine (lawake20 _).mono ?_; rintro e w9 ⟨rfl, hb⟩; replace O := O.call hb; clear hb)
        go_ret
        exact ⟨rfl, O.below⟩
  · have P1 : decide (P > 0) = false := by simp; omega
    have P2 : decide (0 < P) = false := by simp; omega
    have P3 : decide (P < 0) = false := by simp; omega
    have P4 : (P != 0) = false := by simp; omega
    rcases (by omega : 0 < Q ∨ Q = 0 ∨ Q < 0) with hQ | hQ | hQ
    · have Q1 : decide (Q > 0) = true := by simp; omega
      have Q2 : decide (0 < Q) = true := by simp; omega
      have Q3 : decide (Q < 0) = false := by simp; omega
      have Q4 : (Q != 0) = true := by simp; omega
      have hX := H2.out hP
      subst hX
      clear hP hQ
      go_wp2_with (go_at_call 10; refine (lawake20 _).mono ?_; rintro e w9 ⟨rfl, hb⟩; replace O := O.call hb; clear hb)
      go_ret
      exact ⟨rfl, O.below⟩
    · have Q1 : decide (Q > 0) = false := by simp; omega
      have Q2 : decide (0 < Q) = false := by simp; omega
      have Q3 : decide (Q < 0) = false := by simp; omega
      have Q4 : (Q != 0) = false := by simp; omega
      have hX := H2.out hP
      subst hX
      have hY := H3.out hQ
      subst hY
      clear hP hQ
      go_wp2_with (go_at_call 10; refine (lawake20 _).mono ?_; rintro e w9 ⟨rfl, hb⟩; replace O := O.call hb; clear hb)
      go_ret
      exact ⟨rfl, O.below⟩
    · have Q1 : decide (Q > 0) = false := by simp; omega
      have Q2 : decide (0 < Q) = false := by simp; omega
      have Q3 : decide (Q < 0) = true := by simp; omega
      have Q4 : (Q != 0) = true := by simp; omega
      have hX := H2.out hP
      subst hX
      clear hP hQ
      go_wp2_with (go_at_call 10; refine (lawake20 _).mono ?_; rintro e w9 ⟨rfl, hb⟩; replace O := O.call hb; clear hb)
      go_ret
      exact ⟨rfl, O.below⟩
  · have P1 : decide (P > 0) = false := by simp; omega
    have P2 : decide (0 < P) = false := by simp; omega
    have P3 : decide (P < 0) = true := by simp; omega
    have P4 : (P != 0) = true := by simp; omega
    rcases (by omega : 0 < Q ∨ Q = 0 ∨ Q < 0) with hQ | hQ | hQ
    · have Q1 : decide (Q > 0) = true := by simp; omega
      have Q2 : decide (0 < Q) = true := by simp; omega
      have Q3 : decide (Q < 0) = false := by simp; omega
      have Q4 : (Q != 0) = true := by simp; omega
      have hXY := H1.out (.inr ⟨hP, hQ⟩)
      clear hP hQ
      cases X
      · clear hXY
        go_wp2_with (go_at_call 10; refine (lawake20 _).mono ?_; rintro e w9 ⟨rfl, hb⟩; replace O := O.call hb; clear hb)
        go_ret
        exact ⟨rfl, O.below⟩
      · have hY : Y = false := by simpa using hXY
        subst hY
        clear hXY
        go_wp2_with (go_at_call 10; refine (lawake20 _).mono ?_; rintro e w9 ⟨rfl, hb⟩; replace O := O.call hb; clear hb)
        go_ret
        exact ⟨rfl, O.below⟩
    · have Q1 : decide (Q > 0) = false := by simp; omega
      have Q2 : decide (0 < Q) = false := by simp; omega
      have Q3 : decide (Q < 0) = false := by simp; omega
      have Q4 : (Q != 0) = false := by simp; omega
      have hY := H3.out hQ
      subst hY
      clear hP hQ
      go_wp2_with (go_at_call 10; refine (lawake20 _).mono ?_; rintro e w9 ⟨rfl, hb⟩; replace O := O.call hb; clear hb)
      go_ret
      exact ⟨rfl, O.below⟩
    · have Q1 : decide (Q > 0) = false := by simp; omega
      have Q2 : decide (0 < Q) = false := by simp; omega
      have Q3 : decide (Q < 0) = true := by simp; omega
      have Q4 : (Q != 0) = true := by simp; omega
      clear hP hQ
      go_wp2_with (go_at_call 10; refine (lawake20 _).mono ?_; rintro e w9 ⟨rfl, hb⟩; replace O := O.call hb; clear hb)
      go_ret
      exact ⟨rfl, O.below⟩

theorem readable : ∀ t ∈ Try.f5.params.toList, Try.prog.readableRec t = true ∧ t < Try.prog.types.size := by
  intro t ht
  rw [Try.params5] at ht
  simp only [List.mem_cons, List.not_mem_nil, or_false] at ht
  repeat (first | (rcases ht with rfl | ht; exact ⟨by kernel_rfl, of_decide_eq_true (by kernel_rfl)⟩) | (subst ht; exact ⟨by kernel_rfl, of_decide_eq_true (by kernel_rfl)⟩))
set_option maxRecDepth 100000 in
theorem lifted (os : Os) (started : os.Started) (H : Type) (enc : TypeId × Value → H) :
    ReturnsInHanded {} Try.checked os 5 .any (Rows.triApartSpec.pre6 enc Try.prog Try.f5 Rows.triApartRow.domain false) (Rows.triApartSpec.post enc Try.prog Try.f5 false true false false) := by
  refine returnsInHanded_of_change (C := Try.checked) own started (by kernel_rfl) Try.func5
    (ChangeSpec.witness6 (enc := enc) (C := Try.checked) false ⟨#[], #[.agg #[.int .i64 0, .int .i64 0, .int .i64 0, .int .i64 0, .int .i64 0, .int .i64 0], .agg #[.int .i64 0, .int .i64 0], .agg #[.int .i64 0, .int .i64 0]], []⟩ 8 (by kernel_rfl) (by kernel_rfl) (by kernel_rfl) (by kernel_rfl)) ?_
  intro W base args ds gs before hval0 hW hcnd _
  have hval : ∀ (j : Nat) t v, Try.f5.params[j]? = some t → args[j]? = some v → Value.okWide Try.prog W .any base t v := hval0
  have hW' := hW
  obtain ⟨p, q, hA0, hV, rfl, hfz, hnd⟩ := hW
  have hA : DataW.TrodAll enc Try.prog W 0 (fun _ => true) true Try.f5.params.toList args.toList ds p := hA0
  rw [Try.params5] at hA hval
  have hlt : ∀ x ∈ p ++ q, x.block < W.heap.size := fun x hx => hW'.lt x hx
  obtain ⟨v0, vs0, d0, ds0, p0, q0, hargs, rfl, rfl, h0, rr0⟩ := trodAll_cons hA
  obtain ⟨v1, vs1, d1, ds1, p1, q1, rfl, rfl, rfl, h1, rr1⟩ := trodAll_cons rr0
  obtain ⟨v2, vs2, d2, ds2, p2, q2, rfl, rfl, rfl, h2, rr2⟩ := trodAll_cons rr1
  obtain ⟨rfl, rfl, rfl⟩ := trodAll_nil rr2
  obtain rfl : args = #[v0, v1, v2] := by cases args; simp_all
  obtain ⟨rfl, rfl⟩ := trodVars_none hV
  obtain ⟨a0, rfl⟩ := openTri (hval 0 25 v0 rfl rfl) h0
  obtain ⟨a1, rfl⟩ := openPt (hval 1 23 v1 rfl rfl) h1
  obtain ⟨a2, rfl⟩ := openAt (hval 2 41 v2 rfl rfl) h2
  clear hA0 hval0
  refine (walk W a0 a1 a2).mono fun e W' ⟨he, hg⟩ => ?_
  subst he
  exact ⟨_, rfl, post_true (tb := 4) laid readable (by kernel_rfl) Try.underlying4 rfl (fun l hl => by
    match l, hl with
    | [_, _, _], _ => exact ⟨rfl, rfl, rfl⟩) hW' hg⟩

theorem over : Rows.triApartRow.holds Try.pinned (OpenSpec.ofChange Rows.triApartSpec) :=
  OpenClaim.holds_of_wide 5 Try.f5 rfl rfl rfl rfl rfl rfl rfl ⟨rfl, rfl, rfl, rfl, rfl⟩ rfl rfl rfl rfl rfl (by kernel_rfl) Try.func5 (by kernel_rfl)
    (of_decide_eq_true (by kernel_rfl)) (by unfold Func.isWrapper; first | (rw [if_pos (by decide +kernel)]; kernel_rfl) | (rw [if_neg (by decide +kernel)]; exact ⟨rfl, rfl⟩))
    (fun os started H enc _ => lifted os started H enc)

theorem proved : Rows.TriApartSaid :=
  over
#print axioms proved
end Go.Proofs.Ytndaijcgjhmiaaa.triApart
