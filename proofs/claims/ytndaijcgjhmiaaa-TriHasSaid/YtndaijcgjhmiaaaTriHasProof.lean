/-
  TriHas: whether any triangle has any pixel is told as by the document's own answer, whichever corner comes first, and whichever way it goes.
-/
import Derived.Test.YtndaijcgjhmiaaaJh
import Derived.Deep.DeepCutAuto
namespace Go.Proofs.Ytndaijcgjhmiaaa.triHas
open Go.ChangeShapes Go.WideShapes Go.ChangeAt Go.RowKit
set_option linter.unusedVariables false
set_option linter.unusedSimpArgs false

theorem own : ownKnob Try.prog.godebug = none := by kernel_rfl

set_option maxRecDepth 100000 in
set_option maxHeartbeats 16000000 in
theorem walk (w : World) (t p : Nat → Int) :
    Calls Try.prog 4 #[arr 6 t, arr 2 p] w fun e w' => e = .returned (.bool true) ∧ Below w.heap.size w w' := by
  have O := Own.start w
  have CF := fun w => lfits20 t w
  have CN := fun w => lnear20 p w
  cases hf : TR.fitB t
  · rw [hf] at CF
    clear hf CN
    go_enter Try.func4, Try.ntmps4
    go_wp2_with (first | ((with_reducible refine at_box 2 ?_); refine wpList_box_own O (M.mat 6 (t)) rfl ?_; clear O; intro gt w1 O) | ((with_reducible refine at_box 3 ?_); refine wpList_box_own O (M.mat 2 (p)) rfl ?_; clear O; intro ga w2 O) | ((with_reducible refine at_load 11 ?_); refine wpList_whole rfl O 1 rfl rfl Try.underlying25 rfl (sT20 _) ?_) | (go_at_call 8; refine (CF _).mono ?_; rintro e w3 ⟨rfl, hb⟩; replace O := O.call hb; clear hb) | (go_at_call 10; refine (lawake20 _).mono ?_; rintro e w5 ⟨rfl, hb⟩; replace O := O.call hb; clear hb))
    go_ret
    exact ⟨rfl, O.below⟩
  rw [hf] at CF
  cases hn : TR.nearB p
  · rw [hn] at CN
    clear hf hn
    go_enter Try.func4, Try.ntmps4
    go_wp2_with (first | ((with_reducible refine at_box 2 ?_); refine wpList_box_own O (M.mat 6 (t)) rfl ?_; clear O; intro gt w1 O) | ((with_reducible refine at_box 3 ?_); refine wpList_box_own O (M.mat 2 (p)) rfl ?_; clear O; intro ga w2 O) | ((with_reducible refine at_load 11 ?_); refine wpList_whole rfl O 1 rfl rfl Try.underlying25 rfl (sT20 _) ?_) | (go_at_call 8; refine (CF _).mono ?_; rintro e w3 ⟨rfl, hb⟩; replace O := O.call hb; clear hb) | ((with_reducible refine at_load 15 ?_); refine wpList_whole rfl O 0 rfl rfl Try.underlying41 rfl (sA20 _) ?_) | (go_at_call 17; refine (CN _).mono ?_; rintro e w4 ⟨rfl, hb⟩; replace O := O.call hb; clear hb) | (go_at_call 10; refine (lawake20 _).mono ?_; rintro e w5 ⟨rfl, hb⟩; replace O := O.call hb; clear hb))
    go_ret
    exact ⟨rfl, O.below⟩
  rw [hn] at CN
  obtain ⟨ma, mb, mc⟩ := TR.fitB_iff.1 hf
  obtain ⟨px, py⟩ := TR.nearB_iff.1 hn
  have Wca : ∀ w, Calls Try.prog 11 #[arr 2 (D.sub 0 t)] w fun e w' => e = .returned (arr 7 (TR.cA t)) ∧ Below w.heap.size w w' := fun w => lwin20 (D.sub 0 t) w
  have Wcb : ∀ w, Calls Try.prog 11 #[arr 2 (D.sub 2 t)] w fun e w' => e = .returned (arr 7 (TR.cB t)) ∧ Below w.heap.size w w' := fun w => lwin20 (D.sub 2 t) w
  have Wcc : ∀ w, Calls Try.prog 11 #[arr 2 (D.sub 4 t)] w fun e w' => e = .returned (arr 7 (TR.cC t)) ∧ Below w.heap.size w w' := fun w => lwin20 (D.sub 4 t) w
  have CD := fun w => rhas20 (TR.cA t) (TR.cB t) (TR.cC t) ma mb mc (p 0) (p 1) px py w
  have CH : Hid (∀ k, k < 6 → ∀ w, Calls Try.prog 19 #[arr 7 (TR.pk (TR.cA t) (TR.cB t) (TR.cC t) k 0), arr 7 (TR.pk (TR.cA t) (TR.cB t) (TR.cC t) k 1), arr 7 (TR.pk (TR.cA t) (TR.cB t) (TR.cC t) k 2), .int .i64 (p 0), .int .i64 (p 1)] w fun e w' => e = .returned (.bool (TR.has (TR.cA t) (TR.cB t) (TR.cC t) (p 0) (p 1))) ∧ Below w.heap.size w w') := Lib.hid (fun k hk w => by
    rw [← TR.pk_has _ _ _ hk]
    exact phas20_any _ _ _ (TR.pk_may ma mb mc k 0) (TR.pk_may ma mb mc k 1) (TR.pk_may ma mb mc k 2) (p 0) (p 1) px py w)
  generalize TR.has (TR.cA t) (TR.cB t) (TR.cC t) (p 0) (p 1) = z at *
  generalize TR.cA t = ca at *
  generalize TR.cB t = cb at *
  generalize TR.cC t = cc at *
  obtain ⟨p0, ep0⟩ : ∃ z, p 0 = z := ⟨_, rfl⟩
  have Cp0 := cell_is (n := 2) ep0 (by decide)
  obtain ⟨p1, ep1⟩ : ∃ z, p 1 = z := ⟨_, rfl⟩
  have Cp1 := cell_is (n := 2) ep1 (by decide)
  rw [ep0, ep1] at CD
  simp only [ep0, ep1] at CH
  clear hf hn ma mb mc px py ep0 ep1
  obtain ⟨X0, X1, X2, X3, X4, X5, Y6, hX⟩ := TR.six_ex ca cb cc
  have HX := Lib.hid hX
  clear hX
  go_enter Try.func4, Try.ntmps4
  go_wp2_with (first | ((with_reducible refine at_box 2 ?_); refine wpList_box_own O (M.mat 6 (t)) rfl ?_; clear O; intro gt w1 O) | ((with_reducible refine at_box 3 ?_); refine wpList_box_own O (M.mat 2 (p)) rfl ?_; clear O; intro ga w2 O) | ((with_reducible refine at_load 11 ?_); refine wpList_whole rfl O 1 rfl rfl Try.underlying25 rfl (sT20 _) ?_) | (go_at_call 8; refine (CF _).mono ?_; rintro e w3 ⟨rfl, hb⟩; replace O := O.call hb; clear hb) | ((with_reducible refine at_load 15 ?_); refine wpList_whole rfl O 0 rfl rfl Try.underlying41 rfl (sA20 _) ?_) | (go_at_call 17; refine (CN _).mono ?_; rintro e w4 ⟨rfl, hb⟩; replace O := O.call hb; clear hb))
  have HD : apart [⟨9, 12, 34, M.mat 7 M.zero, M.mat 7 ca⟩, ⟨10, 13, 34, M.mat 7 M.zero, M.mat 7 cb⟩, ⟨11, 99, 34, M.mat 7 M.zero, M.mat 7 M.zero⟩] := (by decide : [9, 12, 10, 13, 11, 99].Nodup)
  refine region_S (fun st w2 => NB w [(ga, 41, M.mat 2 p), (gt, 25, M.mat 6 t)] [⟨9, 12, 34, M.mat 7 M.zero, M.mat 7 ca⟩, ⟨10, 13, 34, M.mat 7 M.zero, M.mat 7 cb⟩, ⟨11, 99, 34, M.mat 7 M.zero, M.mat 7 M.zero⟩] st w2) [9, 10, 11, 12, 13] 12 14 [some 20, some 21, some 22, some 23, some 24, some 25, some 26, some 27, some 28, some 5, some 6, some 7, none, none] (fun g => [.pointer (some ⟨gt, 0, none⟩), arr 2 (D.sub 0 t), arr 7 ca, .pointer (some ⟨gt, 2, none⟩), arr 2 (D.sub 2 t), arr 7 cb, .pointer (some ⟨gt, 4, none⟩), arr 2 (D.sub 4 t), arr 7 cc, g 9, g 10, g 11, g 12, g 13]) 1 (by kernel_rfl) (by kernel_rfl) (by rfl) (by rfl) (fun _ => rfl) (by decide) ?_ (NB.start O.drew) (fun F hF => ?_)
  · intro i hi
    simp only [List.mem_cons, List.not_mem_nil, or_false] at hi
    rcases hi with rfl | rfl | rfl | rfl | rfl
    · exact ⟨fun _ => rfl, [0, 1, 2, 3, 4, 5, 6, 7, 8, 10, 11, 12, 13], by kernel_rfl, fun g v => ⟨rfl, rfl, rfl, rfl, rfl, rfl, rfl, rfl, rfl, rfl, rfl, rfl, rfl, trivial⟩⟩
    · exact ⟨fun _ => rfl, [0, 1, 2, 3, 4, 5, 6, 7, 8, 9, 11, 12, 13], by kernel_rfl, fun g v => ⟨rfl, rfl, rfl, rfl, rfl, rfl, rfl, rfl, rfl, rfl, rfl, rfl, rfl, trivial⟩⟩
    · exact ⟨fun _ => rfl, [0, 1, 2, 3, 4, 5, 6, 7, 8, 9, 10, 12, 13], by kernel_rfl, fun g v => ⟨rfl, rfl, rfl, rfl, rfl, rfl, rfl, rfl, rfl, rfl, rfl, rfl, rfl, trivial⟩⟩
    · exact ⟨fun _ => rfl, [0, 1, 2, 3, 4, 5, 6, 7, 8, 9, 10, 11, 13], by kernel_rfl, fun g v => ⟨rfl, rfl, rfl, rfl, rfl, rfl, rfl, rfl, rfl, rfl, rfl, rfl, rfl, trivial⟩⟩
    · exact ⟨fun _ => rfl, [0, 1, 2, 3, 4, 5, 6, 7, 8, 9, 10, 11, 12], by kernel_rfl, fun g v => ⟨rfl, rfl, rfl, rfl, rfl, rfl, rfl, rfl, rfl, rfl, rfl, rfl, rfl, trivial⟩⟩
  simp only [fillD, Act.put, List.setIfInBounds_toArray, List.set_cons_zero, List.set_cons_succ] at hF
  have hF2 := funext hF
  clear hF
  subst hF2
  refine ⟨⟨doesN_want (by decide) rfl (fun g => rfl) (fun st w' hS hp K hK => ?_), doesN_want (by decide) rfl (fun g => rfl) (fun st w' hS hp K hK => ?_), doesN_want (by decide) rfl (fun g => rfl) (fun st w' hS hp K hK => ?_), doesN_want (by decide) rfl (fun g => rfl) (fun st w' hS hp K hK => ?_), doesN_want (by decide) rfl (fun g => rfl) (fun st w' hS hp K hK => ?_), doesN_want (by decide) rfl (fun g => rfl) (fun st w' hS hp K hK => ?_), doesN_want (by decide) rfl (fun g => rfl) (fun st w' hS hp K hK => ?_), doesN_want (by decide) rfl (fun g => rfl) (fun st w' hS hp K hK => ?_), doesN_want (by decide) rfl (fun g => rfl) (fun st w' hS hp K hK => ?_), doesC_want (by decide) rfl (fun g => rfl) (fun st w' hS hn hp K hK => ?_), doesC_want (by decide) rfl (fun g => rfl) (fun st w' hS hn hp K hK => ?_), doesC_want (by decide) rfl (fun g => rfl) (fun st w' hS hn hp K hK => ?_), doesC_want (by decide) rfl (fun g => rfl) (fun st w' hS hn hp K hK => ?_), doesC_want (by decide) rfl (fun g => rfl) (fun st w' hS hn hp K hK => ?_), trivial⟩, fun st w' hS hall => ?_⟩
  · try dsimp only
    go_simp
    exact hK _ hS
  · try dsimp only
    exact wp_mid_h hS.own.held 1 rfl (M.mat 2 (D.sub 0 t)) (mat_sub t (by decide)) rfl Try.underlying23 rfl (sN20 _) (hK _ hS)
  · try dsimp only
    go_simp
    go_at_call 11
    refine (Wca _).mono ?_
    rintro e w2 ⟨rfl, hb⟩
    exact hK _ (hS.call hb)
  · try dsimp only
    go_simp
    exact hK _ hS
  · try dsimp only
    exact wp_mid_h hS.own.held 1 rfl (M.mat 2 (D.sub 2 t)) (mat_sub t (by decide)) rfl Try.underlying23 rfl (sN20 _) (hK _ hS)
  · try dsimp only
    go_simp
    go_at_call 11
    refine (Wcb _).mono ?_
    rintro e w2 ⟨rfl, hb⟩
    exact hK _ (hS.call hb)
  · try dsimp only
    go_simp
    exact hK _ hS
  · try dsimp only
    exact wp_mid_h hS.own.held 1 rfl (M.mat 2 (D.sub 4 t)) (mat_sub t (by decide)) rfl Try.underlying23 rfl (sN20 _) (hK _ hS)
  · try dsimp only
    go_simp
    go_at_call 11
    refine (Wcc _).mono ?_
    rintro e w2 ⟨rfl, hb⟩
    exact hK _ (hS.call hb)
  · try dsimp only
    exact hS.alloc HD 0 rfl hn zeroW hK
  · try dsimp only
    exact hS.alloc HD 1 rfl hn zeroW hK
  · try dsimp only
    exact hS.alloc HD 2 rfl hn zeroW hK
  · try dsimp only
    exact hS.put HD 0 rfl (hp 9 (by decide) (by kernel_rfl)) hn rfl rfl (sW _) (M.mat_len2 _ _ _) (M.mat_one _ _) hK
  · try dsimp only
    exact hS.put HD 1 rfl (hp 10 (by decide) (by kernel_rfl)) hn rfl rfl (sW _) (M.mat_len2 _ _ _) (M.mat_one _ _) hK
  try dsimp only
  obtain ⟨g5, e0⟩ := hS.ptr 0 rfl (hall 9 (by decide))
  obtain ⟨g6, e1⟩ := hS.ptr 1 rfl (hall 10 (by decide))
  obtain ⟨g7, e2⟩ := hS.ptr 2 rfl (hall 11 (by decide))
  have O3 : Own w w' [(g5, 34, M.mat 7 ca), (g6, 34, M.mat 7 cb), (g7, 34, M.mat 7 M.zero), (ga, 41, M.mat 2 p), (gt, 25, M.mat 6 t)] := by
    have h3 := hS.2.2
    rw [nows_cons, nows_cons, nows_cons, NbS.now_is e0 true (hall 12 (by decide)), NbS.now_is e1 true (hall 13 (by decide)), NbS.now_same e2 rfl] at h3
    exact h3
  clear hS O
  have O := O3
  clear O3
  simp only [seen, e0, e1, e2, Option.getD_some]
  try generalize (st 12).getD undef = x12'
  try generalize (st 13).getD undef = x13'
  clear hall e0 e1 e2
  refine wpAny_want (i := 14) (by kernel_rfl) rfl (by rfl) (fun K hK => ?_)
  refine wp_put_own O 2 (M.mat 7 (cc)) rfl rfl rfl (sW _) (M.mat_len2 _ _ _) (M.mat_one _ _) fun w9 O9 => hK _ _ ?_
  clear O
  have O := O9
  clear O9
  clear hK K
  try simp only [Act.put, List.setIfInBounds_toArray, List.set_cons_zero, List.set_cons_succ]
  refine wpAny_done (by kernel_rfl) ?_ _
  have O9 := Own.as O (l' := [(g5, 34, M.mat 7 ca), (g6, 34, M.mat 7 cb), (g7, 34, M.mat 7 cc), (ga, 41, M.mat 2 p), (gt, 25, M.mat 6 t)]) rfl
  clear O HD
  have O := O9
  clear O9
  go_wp2_with (first | ((with_reducible refine at_load 29 ?_); refine wpList_whole rfl O 0 rfl rfl Try.underlying34 rfl (sW _) ?_) | ((with_reducible refine at_load 30 ?_); refine wpList_whole rfl O 1 rfl rfl Try.underlying34 rfl (sW _) ?_) | ((with_reducible refine at_load 31 ?_); refine wpList_whole rfl O 2 rfl rfl Try.underlying34 rfl (sW _) ?_) | ((with_reducible refine at_index_ 32 ?_); refine wpList_ino rfl Try.underlying41 sizeOf3 (by decide) (0) rfl rfl (rfl) (by decide) ?_) | ((with_reducible refine at_load 33 ?_); refine wpList_cell_h (v := .int .i64 (p0)) rfl O.held 3 rfl Cp0.out rfl agg3 rfl ?_) | ((with_reducible refine at_index_ 34 ?_); refine wpList_ino rfl Try.underlying41 sizeOf3 (by decide) (1) rfl rfl (rfl) (by decide) ?_) | ((with_reducible refine at_load 35 ?_); refine wpList_cell_h (v := .int .i64 (p1)) rfl O.held 3 rfl Cp1.out rfl agg3 rfl ?_) | (go_at_call 18; refine (CD _).mono ?_; rintro e w6 ⟨rfl, hb⟩; replace O := O.call hb; clear hb) | ((with_reducible refine at_load 37 ?_); refine wpList_whole rfl O 0 rfl rfl Try.underlying34 rfl (sW _) ?_) | ((with_reducible refine at_load 38 ?_); refine wpList_whole rfl O 1 rfl rfl Try.underlying34 rfl (sW _) ?_) | ((with_reducible refine at_load 39 ?_); refine wpList_whole rfl O 2 rfl rfl Try.underlying34 rfl (sW _) ?_) | ((with_reducible refine at_build 40 ?_); refine wpList_build_g rfl ([(0, arr 7 ca), (1, arr 7 cb), (2, arr 7 cc)]) (X0) ?_ (HX.out.1) ?_; (focus (simp only [List.map_toArray, List.map_cons, List.map_nil]; rfl)); (try simp only [Act.put, List.setIfInBounds_toArray, List.set_cons_zero, List.set_cons_succ])) | ((with_reducible refine at_load 41 ?_); refine wpList_whole rfl O 1 rfl rfl Try.underlying34 rfl (sW _) ?_) | ((with_reducible refine at_load 42 ?_); refine wpList_whole rfl O 2 rfl rfl Try.underlying34 rfl (sW _) ?_) | ((with_reducible refine at_load 43 ?_); refine wpList_whole rfl O 0 rfl rfl Try.underlying34 rfl (sW _) ?_) | ((with_reducible refine at_build 44 ?_); refine wpList_build_g rfl ([(0, arr 7 cb), (1, arr 7 cc), (2, arr 7 ca)]) (X1) ?_ (HX.out.2.1) ?_; (focus (simp only [List.map_toArray, List.map_cons, List.map_nil]; rfl)); (try simp only [Act.put, List.setIfInBounds_toArray, List.set_cons_zero, List.set_cons_succ])) | ((with_reducible refine at_load 45 ?_); refine wpList_whole rfl O 2 rfl rfl Try.underlying34 rfl (sW _) ?_) | ((with_reducible refine at_load 46 ?_); refine wpList_whole rfl O 0 rfl rfl Try.underlying34 rfl (sW _) ?_) | ((with_reducible refine at_load 47 ?_); refine wpList_whole rfl O 1 rfl rfl Try.underlying34 rfl (sW _) ?_) | ((with_reducible refine at_build 48 ?_); refine wpList_build_g rfl ([(0, arr 7 cc), (1, arr 7 ca), (2, arr 7 cb)]) (X2) ?_ (HX.out.2.2.1) ?_; (focus (simp only [List.map_toArray, List.map_cons, List.map_nil]; rfl)); (try simp only [Act.put, List.setIfInBounds_toArray, List.set_cons_zero, List.set_cons_succ])) | ((with_reducible refine at_load 49 ?_); refine wpList_whole rfl O 0 rfl rfl Try.underlying34 rfl (sW _) ?_) | ((with_reducible refine at_load 50 ?_); refine wpList_whole rfl O 2 rfl rfl Try.underlying34 rfl (sW _) ?_) | ((with_reducible refine at_load 51 ?_); refine wpList_whole rfl O 1 rfl rfl Try.underlying34 rfl (sW _) ?_) | ((with_reducible refine at_build 52 ?_); refine wpList_build_g rfl ([(0, arr 7 ca), (1, arr 7 cc), (2, arr 7 cb)]) (X3) ?_ (HX.out.2.2.2.1) ?_; (focus (simp only [List.map_toArray, List.map_cons, List.map_nil]; rfl)); (try simp only [Act.put, List.setIfInBounds_toArray, List.set_cons_zero, List.set_cons_succ])) | ((with_reducible refine at_load 53 ?_); refine wpList_whole rfl O 2 rfl rfl Try.underlying34 rfl (sW _) ?_) | ((with_reducible refine at_load 54 ?_); refine wpList_whole rfl O 1 rfl rfl Try.underlying34 rfl (sW _) ?_) | ((with_reducible refine at_load 55 ?_); refine wpList_whole rfl O 0 rfl rfl Try.underlying34 rfl (sW _) ?_) | ((with_reducible refine at_build 56 ?_); refine wpList_build_g rfl ([(0, arr 7 cc), (1, arr 7 cb), (2, arr 7 ca)]) (X4) ?_ (HX.out.2.2.2.2.1) ?_; (focus (simp only [List.map_toArray, List.map_cons, List.map_nil]; rfl)); (try simp only [Act.put, List.setIfInBounds_toArray, List.set_cons_zero, List.set_cons_succ])) | ((with_reducible refine at_load 57 ?_); refine wpList_whole rfl O 1 rfl rfl Try.underlying34 rfl (sW _) ?_) | ((with_reducible refine at_load 58 ?_); refine wpList_whole rfl O 0 rfl rfl Try.underlying34 rfl (sW _) ?_) | ((with_reducible refine at_load 59 ?_); refine wpList_whole rfl O 2 rfl rfl Try.underlying34 rfl (sW _) ?_) | ((with_reducible refine at_build 60 ?_); refine wpList_build_g rfl ([(0, arr 7 cb), (1, arr 7 ca), (2, arr 7 cc)]) (X5) ?_ (HX.out.2.2.2.2.2.1) ?_; (focus (simp only [List.map_toArray, List.map_cons, List.map_nil]; rfl)); (try simp only [Act.put, List.setIfInBounds_toArray, List.set_cons_zero, List.set_cons_succ])) | ((with_reducible refine at_build 61 ?_); refine wpList_build_g rfl ([(0, .agg X0), (1, .agg X1), (2, .agg X2), (3, .agg X3), (4, .agg X4), (5, .agg X5)]) (Y6) ?_ (HX.out.2.2.2.2.2.2.1) ?_; (focus (simp only [List.map_toArray, List.map_cons, List.map_nil]; rfl))) | ((with_reducible refine at_alloc 9 ?_); refine wpList_alloc_own O (M.mat 126 M.zero) zero126 ?_; clear O; intro g9 w7 O) | ((with_reducible refine at_store 9 ?_); refine wpList_put_own O 0 (M.mat 126 (TR.six ca cb cc)) rfl rfl HX.out.2.2.2.2.2.2.2 (s126 _) (M.mat_len2 _ _ _) (M.mat_one _ _) ?_; clear O; intro w8 O))
  clear CD
  go_loopw [10] (fun u wr => ∃ k : Nat, k ≤ 6 ∧ u = .int .i64 k ∧ Own w wr [(g9, 45, M.mat 126 (TR.six ca cb cc)), (g5, 34, M.mat 7 ca), (g6, 34, M.mat 7 cb), (g7, 34, M.mat 7 cc), (ga, 41, M.mat 2 p), (gt, 25, M.mat 6 t)]) (fun u _ => (6 - intOf u).toNat)
  case atStart => exact ⟨0, by decide, rfl, O⟩
  case round =>
    clear O
    obtain ⟨k, hk, rfl, O⟩ := hrel
    have q0 : (0 : Int) ≤ k := by omega
    by_cases hlt : k < 6
    · have q1 : (k : Int) < 6 := by omega
      have W1 : wrap64 ((k : Int) + 1) = (k : Int) + 1 := IntWalk.wrap64_in _ (by omega)
      have CHk := CH.out k hlt
      go_wp2_with fail
      refine region_T (fun w2 => Own w w2 [(g9, 45, M.mat 126 (TR.six ca cb cc)), (g5, 34, M.mat 7 ca), (g6, 34, M.mat 7 cb), (g7, 34, M.mat 7 cc), (ga, 41, M.mat 2 p), (gt, 25, M.mat 6 t)]) [0, 1, 2, 3, 4, 5, 6, 7, 8, 9, 10, 11, 12, 13, 14, 15, 16, 17, 18] 12 [some 66, some 67, some 68, some 69, some 70, some 71, some 72, some 73, some 74, some 75, some 76, some 77, some 78, some 79, some 80, some 81, some 82, some 83, some 84] [.int .i64 (k), .pointer (some ⟨g9, k * 21, none⟩), .pointer (some ⟨g9, k * 21, none⟩), arr 7 (TR.pk ca cb cc k 0), .int .i64 (k), .pointer (some ⟨g9, k * 21, none⟩), .pointer (some ⟨g9, k * 21 + 7, none⟩), arr 7 (TR.pk ca cb cc k 1), .int .i64 (k), .pointer (some ⟨g9, k * 21, none⟩), .pointer (some ⟨g9, k * 21 + 14, none⟩), arr 7 (TR.pk ca cb cc k 2), .pointer (some ⟨ga, 0, none⟩), .int .i64 (p0), .pointer (some ⟨ga, 1, none⟩), .int .i64 (p1), .bool z, .bool z, .bool false] 0 (by kernel_rfl) (by rfl) (by kernel_rfl) (by rfl) (by rfl) (O.drew) (fun F hF => ?_)
      simp only [fillD, Act.put, List.setIfInBounds_toArray, List.set_cons_zero, List.set_cons_succ] at hF
      subst hF
      refine ⟨⟨does_want rfl (by rfl) (fun w' O K hK => ?_), does_want rfl (by rfl) (fun w' O K hK => ?_), does_want rfl (by rfl) (fun w' O K hK => ?_), does_want rfl (by rfl) (fun w' O K hK => ?_), does_want rfl (by rfl) (fun w' O K hK => ?_), does_want rfl (by rfl) (fun w' O K hK => ?_), does_want rfl (by rfl) (fun w' O K hK => ?_), does_want rfl (by rfl) (fun w' O K hK => ?_), does_want rfl (by rfl) (fun w' O K hK => ?_), does_want rfl (by rfl) (fun w' O K hK => ?_), does_want rfl (by rfl) (fun w' O K hK => ?_), does_want rfl (by rfl) (fun w' O K hK => ?_), does_want rfl (by rfl) (fun w' O K hK => ?_), does_want rfl (by rfl) (fun w' O K hK => ?_), does_want rfl (by rfl) (fun w' O K hK => ?_), does_want rfl (by rfl) (fun w' O K hK => ?_), does_want rfl (by rfl) (fun w' O K hK => ?_), does_want rfl (by rfl) (fun w' O K hK => ?_), does_want rfl (by rfl) (fun w' O K hK => ?_), trivial⟩, fun w' O => ?_⟩
      · go_simp
        exact hK _ O
      · refine wp_inoS Try.underlying45 sizeOfT3 (by decide) k rfl rfl rfl hlt ?_
        rw [Nat.zero_add]
        exact hK _ O
      · exact wp_inoS Try.underlying44 sizeOfW7 (by decide) 0 rfl rfl (by rfl) (by decide) (hK _ O)
      · exact wp_mid_h O.held 0 rfl (M.mat 7 (TR.pk ca cb cc k 0)) (TR.six_at ca cb cc hlt (by decide) (by omega)) rfl Try.underlying34 rfl (sW _) (hK _ O)
      · go_simp
        exact hK _ O
      · refine wp_inoS Try.underlying45 sizeOfT3 (by decide) k rfl rfl rfl hlt ?_
        rw [Nat.zero_add]
        exact hK _ O
      · exact wp_inoS Try.underlying44 sizeOfW7 (by decide) 1 rfl rfl (by rfl) (by decide) (hK _ O)
      · exact wp_mid_h O.held 0 rfl (M.mat 7 (TR.pk ca cb cc k 1)) (TR.six_at ca cb cc hlt (by decide) (by omega)) rfl Try.underlying34 rfl (sW _) (hK _ O)
      · go_simp
        exact hK _ O
      · refine wp_inoS Try.underlying45 sizeOfT3 (by decide) k rfl rfl rfl hlt ?_
        rw [Nat.zero_add]
        exact hK _ O
      · exact wp_inoS Try.underlying44 sizeOfW7 (by decide) 2 rfl rfl (by rfl) (by decide) (hK _ O)
      · exact wp_mid_h O.held 0 rfl (M.mat 7 (TR.pk ca cb cc k 2)) (TR.six_at ca cb cc hlt (by decide) (by omega)) rfl Try.underlying34 rfl (sW _) (hK _ O)
      · exact wp_ino Try.underlying41 sizeOf3 (by decide) 0 rfl rfl (by rfl) (by decide) (hK _ O)
      · exact wp_cell_h (v := .int .i64 (p0)) O.held 4 rfl Cp0.out rfl agg3 rfl (hK _ O)
      · exact wp_ino Try.underlying41 sizeOf3 (by decide) 1 rfl rfl (by rfl) (by decide) (hK _ O)
      · exact wp_cell_h (v := .int .i64 (p1)) O.held 4 rfl Cp1.out rfl agg3 rfl (hK _ O)
      · go_simp
        go_at_call 19
        refine (CHk _).mono ?_
        rintro e w2 ⟨rfl, hb⟩
        exact hK _ (O.call hb)
      · go_simp
        exact hK _ O
      · go_simp
        first | exact hK _ O | (simp only [bne_self_eq_false]; exact hK _ O) | (simp; exact hK _ O)
      refine wpAny_done (by kernel_rfl) ?_ _
      go_wp2_with fail
      go_roundw
      case rel => exact ⟨k + 1, by omega, by first | rfl | exact congrArg (Value.int IntKind.i64) W1, O⟩
      case measure => first | (rw [W1]; simp only [intOf]; omega) | (simp only [intOf]; omega)
    · have q1 : ¬ (k : Int) < 6 := by omega
      go_wp2_with (go_at_call 10; refine (lawake20 _).mono ?_; rintro e w9 ⟨rfl, hb⟩; replace O := O.call hb; clear hb)
      go_ret
      exact ⟨rfl, O.below⟩

theorem readable : ∀ t ∈ Try.f4.params.toList, Try.prog.readableRec t = true ∧ t < Try.prog.types.size := by
  intro t ht
  rw [Try.params4] at ht
  simp only [List.mem_cons, List.not_mem_nil, or_false] at ht
  repeat (first | (rcases ht with rfl | ht; exact ⟨by kernel_rfl, of_decide_eq_true (by kernel_rfl)⟩) | (subst ht; exact ⟨by kernel_rfl, of_decide_eq_true (by kernel_rfl)⟩))
set_option maxRecDepth 100000 in
theorem lifted (os : Os) (started : os.Started) (H : Type) (enc : TypeId × Value → H) :
    ReturnsInHanded {} Try.checked os 4 .any (Rows.triHasSpec.pre6 enc Try.prog Try.f4 Rows.triHasRow.domain false) (Rows.triHasSpec.post enc Try.prog Try.f4 false true false false) := by
  refine returnsInHanded_of_change (C := Try.checked) own started (by kernel_rfl) Try.func4
    (ChangeSpec.witness6 (enc := enc) (C := Try.checked) false ⟨#[], #[.agg #[.int .i64 0, .int .i64 0, .int .i64 0, .int .i64 0, .int .i64 0, .int .i64 0], .agg #[.int .i64 0, .int .i64 0]], []⟩ 8 (by kernel_rfl) (by kernel_rfl) (by kernel_rfl) (by kernel_rfl)) ?_
  intro W base args ds gs before hval0 hW hcnd _
  have hval : ∀ (j : Nat) t v, Try.f4.params[j]? = some t → args[j]? = some v → Value.okWide Try.prog W .any base t v := hval0
  have hW' := hW
  obtain ⟨p, q, hA0, hV, rfl, hfz, hnd⟩ := hW
  have hA : DataW.TrodAll enc Try.prog W 0 (fun _ => true) true Try.f4.params.toList args.toList ds p := hA0
  rw [Try.params4] at hA hval
  have hlt : ∀ x ∈ p ++ q, x.block < W.heap.size := fun x hx => hW'.lt x hx
  obtain ⟨v0, vs0, d0, ds0, p0, q0, hargs, rfl, rfl, h0, rr0⟩ := trodAll_cons hA
  obtain ⟨v1, vs1, d1, ds1, p1, q1, rfl, rfl, rfl, h1, rr1⟩ := trodAll_cons rr0
  obtain ⟨rfl, rfl, rfl⟩ := trodAll_nil rr1
  obtain rfl : args = #[v0, v1] := by cases args; simp_all
  obtain ⟨rfl, rfl⟩ := trodVars_none hV
  obtain ⟨a0, rfl⟩ := openTri (hval 0 25 v0 rfl rfl) h0
  obtain ⟨a1, rfl⟩ := openAt (hval 1 41 v1 rfl rfl) h1
  clear hA0 hval0
  refine (walk W a0 a1).mono fun e W' ⟨he, hg⟩ => ?_
  subst he
  exact ⟨_, rfl, post_true (tb := 4) laid readable (by kernel_rfl) Try.underlying4 rfl (fun l hl => by
    match l, hl with
    | [_, _], _ => exact ⟨rfl, rfl, rfl⟩) hW' hg⟩

theorem over : Rows.triHasRow.holds Try.pinned (OpenSpec.ofChange Rows.triHasSpec) :=
  OpenClaim.holds_of_wide 4 Try.f4 rfl rfl rfl rfl rfl rfl rfl ⟨rfl, rfl, rfl, rfl, rfl⟩ rfl rfl rfl rfl rfl (by kernel_rfl) Try.func4 (by kernel_rfl)
    (of_decide_eq_true (by kernel_rfl)) (by unfold Func.isWrapper; first | (rw [if_pos (by decide +kernel)]; kernel_rfl) | (rw [if_neg (by decide +kernel)]; exact ⟨rfl, rfl⟩))
    (fun os started H enc _ => lifted os started H enc)

theorem proved : Rows.TriHasSaid :=
  over
#print axioms proved
end Go.Proofs.Ytndaijcgjhmiaaa.triHas
