/-
  TriSpans: the spans of any triangle in any rectangle (of 900 pixels at most), and its area, are those of the document's own answer, which asks each pixel alone.
-/
import Derived.Test.YtndaijcgjhmiaaaJh
import Derived.Test.YtndaijcgjhmiaaaJd
import Derived.Deep.DeepCutAuto
namespace Go.Proofs.Ytndaijcgjhmiaaa.triSpans
open Go.ChangeShapes Go.WideShapes Go.ChangeAt Go.RowKit
set_option linter.unusedVariables false
set_option linter.unusedSimpArgs false

theorem own : ownKnob Try.prog.godebug = none := by kernel_rfl

set_option maxRecDepth 100000 in
set_option maxHeartbeats 16000000 in
theorem walk (w : World) (t r : Nat → Int) :
    Calls Try.prog 3 #[arr 6 t, arr 4 r] w fun e w' => e = .returned (.bool true) ∧ Below w.heap.size w w' := by
  have O := Own.start w
  have CF := fun w => lfits20 t w
  cases hf : TR.fitB t
  · rw [hf] at CF
    clear hf
    go_enter Try.func3, Try.ntmps3
    go_wp2_with (first | ((with_reducible refine at_box 2 ?_); refine wpList_box_own O (M.mat 6 (t)) rfl ?_; clear O; intro gt w1 O) | ((with_reducible refine at_box 3 ?_); refine wpList_box_own O (M.mat 4 (r)) rfl ?_; clear O; intro gr w2 O) | ((with_reducible refine at_load 8 ?_); refine wpList_whole rfl O 1 rfl rfl Try.underlying25 rfl (sT20 _) ?_) | (go_at_call 8; refine (CF _).mono ?_; rintro e w3 ⟨rfl, hb⟩; replace O := O.call hb; clear hb) | (go_at_call 10; refine (lawake20 _).mono ?_; rintro e w5 ⟨rfl, hb⟩; replace O := O.call hb; clear hb))
    go_ret
    exact ⟨rfl, O.below⟩
  rw [hf] at CF
  obtain ⟨ma, mb, mc⟩ := TR.fitB_iff.1 hf
  have CR := fun w => rarea_any r w
  by_cases hA : 900 < RC.area r
  · have K1 : decide (RC.area r > 900) = true := decide_eq_true hA
    have K2 : decide (900 < RC.area r) = true := decide_eq_true hA
    generalize RC.area r = A at *
    clear hf hA ma mb mc
    go_enter Try.func3, Try.ntmps3
    go_wp2_with (first | ((with_reducible refine at_box 2 ?_); refine wpList_box_own O (M.mat 6 (t)) rfl ?_; clear O; intro gt w1 O) | ((with_reducible refine at_box 3 ?_); refine wpList_box_own O (M.mat 4 (r)) rfl ?_; clear O; intro gr w2 O) | ((with_reducible refine at_load 8 ?_); refine wpList_whole rfl O 1 rfl rfl Try.underlying25 rfl (sT20 _) ?_) | (go_at_call 8; refine (CF _).mono ?_; rintro e w3 ⟨rfl, hb⟩; replace O := O.call hb; clear hb) | ((with_reducible refine at_load 12 ?_); refine wpList_whole rfl O 0 rfl rfl Try.underlying27 rfl (sR _) ?_) | (go_at_call 9; refine (CR _).mono ?_; rintro e w4 ⟨rfl, hb⟩; replace O := O.call hb; clear hb) | (go_at_call 10; refine (lawake20 _).mono ?_; rintro e w5 ⟨rfl, hb⟩; replace O := O.call hb; clear hb))
    go_ret
    exact ⟨rfl, O.below⟩
  have K1 : decide (RC.area r > 900) = false := decide_eq_false hA
  have K2 : decide (900 < RC.area r) = false := decide_eq_false hA
  have hA2 : RC.area r ≤ 100000 := by omega
  have Wca : ∀ w, Calls Try.prog 11 #[arr 2 (D.sub 0 t)] w fun e w' => e = .returned (arr 7 (TR.cA t)) ∧ Below w.heap.size w w' := fun w => lwin20 (D.sub 0 t) w
  have Wcb : ∀ w, Calls Try.prog 11 #[arr 2 (D.sub 2 t)] w fun e w' => e = .returned (arr 7 (TR.cB t)) ∧ Below w.heap.size w w' := fun w => lwin20 (D.sub 2 t) w
  have Wcc : ∀ w, Calls Try.prog 11 #[arr 2 (D.sub 4 t)] w fun e w' => e = .returned (arr 7 (TR.cC t)) ∧ Below w.heap.size w w' := fun w => lwin20 (D.sub 4 t) w
  have CL := fun w => pspans20_any (TR.cA t) (TR.cB t) (TR.cC t) r ma mb mc hA2 w
  have CM := fun w => rspans20 (TR.cA t) (TR.cB t) (TR.cC t) r ma mb mc w
  have CP := fun w => parea20_any (TR.cA t) (TR.cB t) (TR.cC t) ma mb mc w
  have CQ := fun w => rarea20 (TR.cA t) (TR.cB t) (TR.cC t) (TR.near_may ma mb mc) w
  have HLEN := Lib.hid (show (TR.spans (TR.cA t) (TR.cB t) (TR.cC t) r).length ≤ 1000000000 from Nat.le_trans (TR.spans_len (n := 100000) hA2) (by decide))
  generalize TR.spans (TR.cA t) (TR.cB t) (TR.cC t) r = LX at CL CM HLEN
  generalize TR.ar (TR.cA t) (TR.cB t) (TR.cC t) = n at CP CQ
  generalize TR.cA t = ca at *
  generalize TR.cB t = cb at *
  generalize TR.cC t = cc at *
  generalize RC.area r = A at *
  clear hf hA hA2 ma mb mc
  go_enter Try.func3, Try.ntmps3
  go_wp2_with (first | ((with_reducible refine at_box 2 ?_); refine wpList_box_own O (M.mat 6 (t)) rfl ?_; clear O; intro gt w1 O) | ((with_reducible refine at_box 3 ?_); refine wpList_box_own O (M.mat 4 (r)) rfl ?_; clear O; intro gr w2 O) | ((with_reducible refine at_load 8 ?_); refine wpList_whole rfl O 1 rfl rfl Try.underlying25 rfl (sT20 _) ?_) | (go_at_call 8; refine (CF _).mono ?_; rintro e w3 ⟨rfl, hb⟩; replace O := O.call hb; clear hb) | ((with_reducible refine at_load 12 ?_); refine wpList_whole rfl O 0 rfl rfl Try.underlying27 rfl (sR _) ?_) | (go_at_call 9; refine (CR _).mono ?_; rintro e w4 ⟨rfl, hb⟩; replace O := O.call hb; clear hb))
  have HD : apart [⟨9, 12, 34, M.mat 7 M.zero, M.mat 7 ca⟩, ⟨10, 13, 34, M.mat 7 M.zero, M.mat 7 cb⟩, ⟨11, 99, 34, M.mat 7 M.zero, M.mat 7 M.zero⟩] := (by decide : [9, 12, 10, 13, 11, 99].Nodup)
  refine region_S (fun st w2 => NB w [(gr, 27, M.mat 4 r), (gt, 25, M.mat 6 t)] [⟨9, 12, 34, M.mat 7 M.zero, M.mat 7 ca⟩, ⟨10, 13, 34, M.mat 7 M.zero, M.mat 7 cb⟩, ⟨11, 99, 34, M.mat 7 M.zero, M.mat 7 M.zero⟩] st w2) [9, 10, 11, 12, 13] 12 14 [some 17, some 18, some 19, some 20, some 21, some 22, some 23, some 24, some 25, some 5, some 6, some 7, none, none] (fun g => [.pointer (some ⟨gt, 0, none⟩), arr 2 (D.sub 0 t), arr 7 ca, .pointer (some ⟨gt, 2, none⟩), arr 2 (D.sub 2 t), arr 7 cb, .pointer (some ⟨gt, 4, none⟩), arr 2 (D.sub 4 t), arr 7 cc, g 9, g 10, g 11, g 12, g 13]) 1 (by kernel_rfl) (by kernel_rfl) (by rfl) (by rfl) (fun _ => rfl) (by decide) ?_ (NB.start O.drew) (fun F hF => ?_)
  · intro i hi
    simp only [List.mem_cons, List.not_mem_nil, or_false] at hi
    rcases hi with rfl | rfl | rfl | rfl | rfl
    · exact ⟨fun _ => rfl, [0, 1, 2, 3, 4, 5, 6, 7, 8, 10, 11, 12, 13], by kernel_rfl, fun g v => ⟨rfl, rfl, rfl, rfl, rfl, rfl, rfl, rfl, rfl, rfl, rfl, rfl, rfl, trivial⟩⟩
    · exact ⟨fun _ => rfl, [0, 1, 2, 3, 4, 5, 6, 7, 8, 9, 11, 12, 13], by kernel_rfl, fun g v => ⟨rfl, rfl, rfl, rfl, rfl, rfl, rfl, rfl, rfl, rfl, rfl, rfl, rfl, trivial⟩⟩
    · exact ⟨fun _ => rfl, [0, 1, 2, 3, 4, 5, 6, 7, 8, 9, 10, 12, 13], by kernel_rfl, fun g v => ⟨rfl, rfl, rfl, rfl, rfl, rfl, rfl, rfl, rfl, rfl, rfl, rfl, rfl, trivial⟩⟩
    · exact ⟨fun _ => rfl, [0, 1, 2, 3, 4, 5, 6, 7, 8, 9, 10, 11, 13], by kernel_rfl, fun g v => ⟨rfl, rfl, rfl, rfl, rfl, rfl, rfl, rfl, rfl, rfl, rfl, rfl, rfl, trivial⟩⟩
    · exact ⟨fun _ => rfl, [0, 1, 2, 3, 4, 5, 6, 7, 8, 9, 10, 11, 12], by kernel_rfl, fun g v => ⟨rfl, rfl, rfl, rfl, rfl, rfl, rfl, rfl, rfl, rfl, rfl, rfl, rfl, trivial⟩⟩
  simp only [fillD, Act.put, List.setIfInBounds_toArray, List.set_cons_zero, List.set_cons_succ] at hF
  have hF2 := funext hF
  clear hF
  subst hF2
  refine ⟨⟨doesN_want (by decide) rfl (fun g => rfl) (fun st w' hS hp K hK => ?_), doesN_want (by decide) rfl (fun g => rfl) (fun st w' hS hp K hK => ?_), doesN_want (by decide) rfl (fun g => rfl) (fun st w' hS hp K hK => ?_), doesN_want (by decide) rfl (fun g => rfl) (fun st w' hS hp K hK => ?_), doesN_want (by decide) rfl (fun g => rfl) (fun st w' hS hp K hK => ?_), doesN_want (by decide) rfl (fun g => rfl) (fun st w' hS hp K hK => ?_), doesN_want (by decide) rfl (fun g => rfl) (fun st w' hS hp K hK => ?_), doesN_want (by decide) rfl (fun g => rfl) (fun st w' hS hp K hK => ?_), doesN_want (by decide) rfl (fun g => rfl) (fun st w' hS hp K hK => ?_), doesC_want (by decide) rfl (fun g => rfl) (fun st w' hS hn hp K hK => ?_), doesC_want (by decide) rfl (fun g => rfl) (fun st w' hS hn hp K hK => ?_), doesC_want (by decide) rfl (fun g => rfl) (fun st w' hS hn hp K hK => ?_), doesC_want (by decide) rfl (fun g => rfl) (fun st w' hS hn hp K hK => ?_), doesC_want (by decide) rfl (fun g => rfl) (fun st w' hS hn hp K hK => ?_), trivial⟩, fun st w' hS hall => ?_⟩
  · try dsimp only
    go_simp
    exact hK _ hS
  · try dsimp only
    exact wp_mid_h hS.own.held 1 rfl (M.mat 2 (D.sub 0 t)) (mat_sub t (by decide)) rfl Try.underlying23 rfl (sN20 _) (hK _ hS)
  · try dsimp only
    go_simp
    go_at_call 11
    refine (Wca _).mono ?_
    rintro e w2 ⟨rfl, hb⟩
    exact hK _ (hS.call hb)
  · try dsimp only
    go_simp
    exact hK _ hS
  · try dsimp only
    exact wp_mid_h hS.own.held 1 rfl (M.mat 2 (D.sub 2 t)) (mat_sub t (by decide)) rfl Try.underlying23 rfl (sN20 _) (hK _ hS)
  · try dsimp only
    go_simp
    go_at_call 11
    refine (Wcb _).mono ?_
    rintro e w2 ⟨rfl, hb⟩
    exact hK _ (hS.call hb)
  · try dsimp only
    go_simp
    exact hK _ hS
  · try dsimp only
    exact wp_mid_h hS.own.held 1 rfl (M.mat 2 (D.sub 4 t)) (mat_sub t (by decide)) rfl Try.underlying23 rfl (sN20 _) (hK _ hS)
  · try dsimp only
    go_simp
    go_at_call 11
    refine (Wcc _).mono ?_
    rintro e w2 ⟨rfl, hb⟩
    exact hK _ (hS.call hb)
  · try dsimp only
    exact hS.alloc HD 0 rfl hn zeroW hK
  · try dsimp only
    exact hS.alloc HD 1 rfl hn zeroW hK
  · try dsimp only
    exact hS.alloc HD 2 rfl hn zeroW hK
  · try dsimp only
    exact hS.put HD 0 rfl (hp 9 (by decide) (by kernel_rfl)) hn rfl rfl (sW _) (M.mat_len2 _ _ _) (M.mat_one _ _) hK
  · try dsimp only
    exact hS.put HD 1 rfl (hp 10 (by decide) (by kernel_rfl)) hn rfl rfl (sW _) (M.mat_len2 _ _ _) (M.mat_one _ _) hK
  try dsimp only
  obtain ⟨g5, e0⟩ := hS.ptr 0 rfl (hall 9 (by decide))
  obtain ⟨g6, e1⟩ := hS.ptr 1 rfl (hall 10 (by decide))
  obtain ⟨g7, e2⟩ := hS.ptr 2 rfl (hall 11 (by decide))
  have O3 : Own w w' [(g5, 34, M.mat 7 ca), (g6, 34, M.mat 7 cb), (g7, 34, M.mat 7 M.zero), (gr, 27, M.mat 4 r), (gt, 25, M.mat 6 t)] := by
    have h3 := hS.2.2
    rw [nows_cons, nows_cons, nows_cons, NbS.now_is e0 true (hall 12 (by decide)), NbS.now_is e1 true (hall 13 (by decide)), NbS.now_same e2 rfl] at h3
    exact h3
  clear hS O
  have O := O3
  clear O3
  simp only [seen, e0, e1, e2, Option.getD_some]
  try generalize (st 12).getD undef = x12'
  try generalize (st 13).getD undef = x13'
  clear hall e0 e1 e2
  refine wpAny_want (i := 14) (by kernel_rfl) rfl (by rfl) (fun K hK => ?_)
  refine wp_put_own O 2 (M.mat 7 (cc)) rfl rfl rfl (sW _) (M.mat_len2 _ _ _) (M.mat_one _ _) fun w9 O9 => hK _ _ ?_
  clear O
  have O := O9
  clear O9
  clear hK K
  try simp only [Act.put, List.setIfInBounds_toArray, List.set_cons_zero, List.set_cons_succ]
  refine wpAny_done (by kernel_rfl) ?_ _
  have O9 := Own.as O (l' := [(g5, 34, M.mat 7 ca), (g6, 34, M.mat 7 cb), (g7, 34, M.mat 7 cc), (gr, 27, M.mat 4 r), (gt, 25, M.mat 6 t)]) rfl
  clear O HD
  have O := O9
  clear O9
  go_wp2_with fail
  refine region_S (fun st w2 => HS2 w [(g5, 34, M.mat 7 ca), (g6, 34, M.mat 7 cb), (g7, 34, M.mat 7 cc), (gr, 27, M.mat 4 r), (gt, 25, M.mat 6 t)] 6 11 LX LX st w2) [6, 11] 12 25 [some 26, some 27, some 28, some 29, some 30, some 31, some 32, some 33, some 34, some 35, some 36, some 37, some 38, some 39, some 40, some 41, some 42, some 43, some 44, some 45, some 46, some 47, some 48, some 49, some 50] (fun g => [.bool true, .bool true, arr 7 ca, arr 7 cb, arr 7 cc, arr 4 r, g 6, arr 7 ca, arr 7 cb, arr 7 cc, arr 4 r, g 11, .bool true, .bool true, .bool true, arr 7 ca, arr 7 cb, arr 7 cc, .int .i64 (n), arr 7 ca, arr 7 cb, arr 7 cc, .int .i64 (n), .bool true, .bool true]) 1 (by kernel_rfl) (by kernel_rfl) (by rfl) (by rfl) (fun _ => rfl) (by decide) ?_ (HS2.start O.drew) (fun F hF => ?_)
  · intro i hi
    simp only [List.mem_cons, List.not_mem_nil, or_false] at hi
    rcases hi with rfl | rfl
    · exact ⟨fun _ => rfl, [0, 1, 2, 3, 4, 5, 7, 8, 9, 10, 11, 12, 13, 14, 15, 16, 17, 18, 19, 20, 21, 22, 23, 24], by kernel_rfl, fun g v => ⟨rfl, rfl, rfl, rfl, rfl, rfl, rfl, rfl, rfl, rfl, rfl, rfl, rfl, rfl, rfl, rfl, rfl, rfl, rfl, rfl, rfl, rfl, rfl, rfl, trivial⟩⟩
    · exact ⟨fun _ => rfl, [0, 1, 2, 3, 4, 5, 6, 7, 8, 9, 10, 12, 13, 14, 15, 16, 17, 18, 19, 20, 21, 22, 23, 24], by kernel_rfl, fun g v => ⟨rfl, rfl, rfl, rfl, rfl, rfl, rfl, rfl, rfl, rfl, rfl, rfl, rfl, rfl, rfl, rfl, rfl, rfl, rfl, rfl, rfl, rfl, rfl, rfl, trivial⟩⟩
  simp only [fillD, Act.put, List.setIfInBounds_toArray, List.set_cons_zero, List.set_cons_succ] at hF
  have hF2 := funext hF
  clear hF
  subst hF2
  refine ⟨⟨doesN_want (by decide) rfl (fun g => rfl) (fun st w' hS hp K hK => ?_), doesN_want (by decide) rfl (fun g => rfl) (fun st w' hS hp K hK => ?_), doesN_want (by decide) rfl (fun g => rfl) (fun st w' hS hp K hK => ?_), doesN_want (by decide) rfl (fun g => rfl) (fun st w' hS hp K hK => ?_), doesN_want (by decide) rfl (fun g => rfl) (fun st w' hS hp K hK => ?_), doesN_want (by decide) rfl (fun g => rfl) (fun st w' hS hp K hK => ?_), doesC_want (by decide) rfl (fun g => rfl) (fun st w' hS hn hp K hK => ?_), doesN_want (by decide) rfl (fun g => rfl) (fun st w' hS hp K hK => ?_), doesN_want (by decide) rfl (fun g => rfl) (fun st w' hS hp K hK => ?_), doesN_want (by decide) rfl (fun g => rfl) (fun st w' hS hp K hK => ?_), doesN_want (by decide) rfl (fun g => rfl) (fun st w' hS hp K hK => ?_), doesC_want (by decide) rfl (fun g => rfl) (fun st w' hS hn hp K hK => ?_), doesN_want (by decide) rfl (fun g => rfl) (fun st w' hS hp K hK => ?_), doesN_want (by decide) rfl (fun g => rfl) (fun st w' hS hp K hK => ?_), doesN_want (by decide) rfl (fun g => rfl) (fun st w' hS hp K hK => ?_), doesN_want (by decide) rfl (fun g => rfl) (fun st w' hS hp K hK => ?_), doesN_want (by decide) rfl (fun g => rfl) (fun st w' hS hp K hK => ?_), doesN_want (by decide) rfl (fun g => rfl) (fun st w' hS hp K hK => ?_), doesN_want (by decide) rfl (fun g => rfl) (fun st w' hS hp K hK => ?_), doesN_want (by decide) rfl (fun g => rfl) (fun st w' hS hp K hK => ?_), doesN_want (by decide) rfl (fun g => rfl) (fun st w' hS hp K hK => ?_), doesN_want (by decide) rfl (fun g => rfl) (fun st w' hS hp K hK => ?_), doesN_want (by decide) rfl (fun g => rfl) (fun st w' hS hp K hK => ?_), doesN_want (by decide) rfl (fun g => rfl) (fun st w' hS hp K hK => ?_), doesN_want (by decide) rfl (fun g => rfl) (fun st w' hS hp K hK => ?_), trivial⟩, fun st w' hS hall => ?_⟩
  · try dsimp only
    go_simp
    go_at_call 10
    refine (lawake20 _).mono ?_
    rintro e w2 ⟨rfl, hb⟩
    exact hK _ (hS.call hb)
  · try dsimp only
    go_simp
    exact hK _ hS
  · try dsimp only
    exact wp_whole hS.1 0 rfl rfl Try.underlying34 rfl (sW _) (hK _ hS)
  · try dsimp only
    exact wp_whole hS.1 1 rfl rfl Try.underlying34 rfl (sW _) (hK _ hS)
  · try dsimp only
    exact wp_whole hS.1 2 rfl rfl Try.underlying34 rfl (sW _) (hK _ hS)
  · try dsimp only
    exact wp_whole hS.1 3 rfl rfl Try.underlying27 rfl (sR _) (hK _ hS)
  · try dsimp only
    go_simp
    go_at_call 13
    refine (CL _).mono ?_
    rintro e w2 ⟨VA, vc, rfl, hL, hb⟩
    exact hK _ _ (hS.gain1 (by decide) hL hb)
  · try dsimp only
    exact wp_whole hS.1 0 rfl rfl Try.underlying34 rfl (sW _) (hK _ hS)
  · try dsimp only
    exact wp_whole hS.1 1 rfl rfl Try.underlying34 rfl (sW _) (hK _ hS)
  · try dsimp only
    exact wp_whole hS.1 2 rfl rfl Try.underlying34 rfl (sW _) (hK _ hS)
  · try dsimp only
    exact wp_whole hS.1 3 rfl rfl Try.underlying27 rfl (sR _) (hK _ hS)
  · try dsimp only
    go_simp
    go_at_call 14
    refine (CM _).mono ?_
    rintro e w2 ⟨VA, vc, rfl, hL, hb⟩
    exact hK _ _ (hS.gain2 (by decide) hL hb)
  · try dsimp only
    obtain ⟨A1, k1, e1, h1⟩ := hS.get1 (hp 6 (by decide) (by kernel_rfl))
    obtain ⟨A2, k2, e2, h2⟩ := hS.get2 (hp 11 (by decide) (by kernel_rfl))
    simp only [seen, e1, e2, Option.getD_some] at hK ⊢
    go_simp
    go_at_call 12
    refine (rsameS20 LX HLEN.out _ (h1.arg List.mem_cons_self) (h2.arg List.mem_cons_self)).mono ?_
    rintro e w2 ⟨rfl, hb⟩
    exact hK _ (hS.call hb)
  · try dsimp only
    go_simp
    exact hK _ hS
  · try dsimp only
    go_simp
    exact hK _ hS
  · try dsimp only
    exact wp_whole hS.1 0 rfl rfl Try.underlying34 rfl (sW _) (hK _ hS)
  · try dsimp only
    exact wp_whole hS.1 1 rfl rfl Try.underlying34 rfl (sW _) (hK _ hS)
  · try dsimp only
    exact wp_whole hS.1 2 rfl rfl Try.underlying34 rfl (sW _) (hK _ hS)
  · try dsimp only
    go_simp
    go_at_call 15
    refine (CP _).mono ?_
    rintro e w2 ⟨rfl, hb⟩
    exact hK _ (hS.call hb)
  · try dsimp only
    exact wp_whole hS.1 0 rfl rfl Try.underlying34 rfl (sW _) (hK _ hS)
  · try dsimp only
    exact wp_whole hS.1 1 rfl rfl Try.underlying34 rfl (sW _) (hK _ hS)
  · try dsimp only
    exact wp_whole hS.1 2 rfl rfl Try.underlying34 rfl (sW _) (hK _ hS)
  · try dsimp only
    go_simp
    go_at_call 16
    refine (CQ _).mono ?_
    rintro e w2 ⟨rfl, hb⟩
    exact hK _ (hS.call hb)
  · try dsimp only
    go_simp
    first | exact hK _ hS | (simp only [beq_self_eq_true]; exact hK _ hS) | (simp; exact hK _ hS)
  · try dsimp only
    go_simp
    exact hK _ hS
  try dsimp only
  clear O
  obtain ⟨A1, k1, e1, h1⟩ := hS.get1 (hall 6 (by decide))
  obtain ⟨A2, k2, e2, h2⟩ := hS.get2 (hall 11 (by decide))
  have O := hS.1
  clear h1 h2 hS
  simp only [seen, e1, e2, Option.getD_some]
  clear hall e1 e2
  refine wpAny_one (i := 25) (by kernel_rfl) rfl (fun K hK => ?_)
  go_simp
  refine hK _ _ ?_
  clear hK K
  try simp only [Act.put, List.setIfInBounds_toArray, List.set_cons_zero, List.set_cons_succ]
  refine wpAny_done (by kernel_rfl) ?_ _
  go_wp2_with fail
  go_ret
  exact ⟨rfl, O.below⟩

theorem readable : ∀ t ∈ Try.f3.params.toList, Try.prog.readableRec t = true ∧ t < Try.prog.types.size := by
  intro t ht
  rw [Try.params3] at ht
  simp only [List.mem_cons, List.not_mem_nil, or_false] at ht
  repeat (first | (rcases ht with rfl | ht; exact ⟨by kernel_rfl, of_decide_eq_true (by kernel_rfl)⟩) | (subst ht; exact ⟨by kernel_rfl, of_decide_eq_true (by kernel_rfl)⟩))
set_option maxRecDepth 100000 in
theorem lifted (os : Os) (started : os.Started) (H : Type) (enc : TypeId × Value → H) :
    ReturnsInHanded {} Try.checked os 3 .any (Rows.triSpansSpec.pre6 enc Try.prog Try.f3 Rows.triSpansRow.domain false) (Rows.triSpansSpec.post enc Try.prog Try.f3 false true false false) := by
  refine returnsInHanded_of_change (C := Try.checked) own started (by kernel_rfl) Try.func3
    (ChangeSpec.witness6 (enc := enc) (C := Try.checked) false ⟨#[], #[.agg #[.int .i64 0, .int .i64 0, .int .i64 0, .int .i64 0, .int .i64 0, .int .i64 0], .agg #[.int .i64 0, .int .i64 0, .int .i64 0, .int .i64 0]], []⟩ 8 (by kernel_rfl) (by kernel_rfl) (by kernel_rfl) (by kernel_rfl)) ?_
  intro W base args ds gs before hval0 hW hcnd _
  have hval : ∀ (j : Nat) t v, Try.f3.params[j]? = some t → args[j]? = some v → Value.okWide Try.prog W .any base t v := hval0
  have hW' := hW
  obtain ⟨p, q, hA0, hV, rfl, hfz, hnd⟩ := hW
  have hA : DataW.TrodAll enc Try.prog W 0 (fun _ => true) true Try.f3.params.toList args.toList ds p := hA0
  rw [Try.params3] at hA hval
  have hlt : ∀ x ∈ p ++ q, x.block < W.heap.size := fun x hx => hW'.lt x hx
  obtain ⟨v0, vs0, d0, ds0, p0, q0, hargs, rfl, rfl, h0, rr0⟩ := trodAll_cons hA
  obtain ⟨v1, vs1, d1, ds1, p1, q1, rfl, rfl, rfl, h1, rr1⟩ := trodAll_cons rr0
  obtain ⟨rfl, rfl, rfl⟩ := trodAll_nil rr1
  obtain rfl : args = #[v0, v1] := by cases args; simp_all
  obtain ⟨rfl, rfl⟩ := trodVars_none hV
  obtain ⟨a0, rfl⟩ := openTri (hval 0 25 v0 rfl rfl) h0
  obtain ⟨a1, rfl⟩ := openSRect (hval 1 27 v1 rfl rfl) h1
  clear hA0 hval0
  refine (walk W a0 a1).mono fun e W' ⟨he, hg⟩ => ?_
  subst he
  exact ⟨_, rfl, post_true (tb := 4) laid readable (by kernel_rfl) Try.underlying4 rfl (fun l hl => by
    match l, hl with
    | [_, _], _ => exact ⟨rfl, rfl, rfl⟩) hW' hg⟩

theorem over : Rows.triSpansRow.holds Try.pinned (OpenSpec.ofChange Rows.triSpansSpec) :=
  OpenClaim.holds_of_wide 3 Try.f3 rfl rfl rfl rfl rfl rfl rfl ⟨rfl, rfl, rfl, rfl, rfl⟩ rfl rfl rfl rfl rfl (by kernel_rfl) Try.func3 (by kernel_rfl)
    (of_decide_eq_true (by kernel_rfl)) (by unfold Func.isWrapper; first | (rw [if_pos (by decide +kernel)]; kernel_rfl) | (rw [if_neg (by decide +kernel)]; exact ⟨rfl, rfl⟩))
    (fun os started H enc _ => lifted os started H enc)

theorem proved : Rows.TriSpansSaid :=
  over
#print axioms proved
end Go.Proofs.Ytndaijcgjhmiaaa.triSpans
