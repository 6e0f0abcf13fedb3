/-
  TriCut: cut into three at any point that is in it, each pixel of a triangle is in just one of the three, and no other one in any.
-/
import Derived.Test.YtndaijcgjhmiaaaJh
import Derived.Deep.DeepCutAuto
namespace Go.Proofs.Ytndaijcgjhmiaaa.triCut
open Go.ChangeShapes Go.WideShapes Go.ChangeAt Go.RowKit
set_option linter.unusedVariables false
set_option linter.unusedSimpArgs false

theorem own : ownKnob Try.prog.godebug = none := by kernel_rfl
theorem TR.four : ∀ z1 z2 z3 z0 : Bool, TR.bit z1 + TR.bit z2 + TR.bit z3 = TR.bit z0 → (z1 = false ∧ z2 = false ∧ z3 = false ∧ z0 = false) ∨ (z1 = true ∧ z2 = false ∧ z3 = false ∧ z0 = true) ∨ (z1 = false ∧ z2 = true ∧ z3 = false ∧ z0 = true) ∨ (z1 = false ∧ z2 = false ∧ z3 = true ∧ z0 = true) := by
  intro z1 z2 z3 z0
  cases z1 <;> cases z2 <;> cases z3 <;> cases z0 <;> simp [TR.bit]

set_option maxRecDepth 100000 in
set_option maxHeartbeats 16000000 in
theorem walk (w : World) (t d p : Nat → Int) :
    Calls Try.prog 6 #[arr 6 t, arr 2 d, arr 2 p] w fun e w' => e = .returned (.bool true) ∧ Below w.heap.size w w' := by
  have O := Own.start w
  have CF := fun w => lfits20 t w
  have CM := fun w => lmay20 d w
  have CN := fun w => lnear20 p w
  cases hf : TR.fitB t
  · rw [hf] at CF
    clear hf CN CM
    go_enter Try.func6, Try.ntmps6
    go_wp2_with (first | ((with_reducible refine at_box 3 ?_); refine wpList_box_own O (M.mat 6 (t)) rfl ?_; clear O; intro gt w1 O) | ((with_reducible refine at_box 4 ?_); refine wpList_box_own O (M.mat 2 (d)) rfl ?_; clear O; intro gd w2 O) | ((with_reducible refine at_box 5 ?_); refine wpList_box_own O (M.mat 2 (p)) rfl ?_; clear O; intro ga w3 O) | ((with_reducible refine at_load 12 ?_); refine wpList_whole rfl O 2 rfl rfl Try.underlying25 rfl (sT20 _) ?_) | (go_at_call 8; refine (CF _).mono ?_; rintro e w4 ⟨rfl, hb⟩; replace O := O.call hb; clear hb) | (go_at_call 10; refine (lawake20 _).mono ?_; rintro e w7 ⟨rfl, hb⟩; replace O := O.call hb; clear hb))
    go_ret
    exact ⟨rfl, O.below⟩
  rw [hf] at CF
  cases hm : TR.mayB d
  · rw [hm] at CM
    clear hf hm CN
    go_enter Try.func6, Try.ntmps6
    go_wp2_with (first | ((with_reducible refine at_box 3 ?_); refine wpList_box_own O (M.mat 6 (t)) rfl ?_; clear O; intro gt w1 O) | ((with_reducible refine at_box 4 ?_); refine wpList_box_own O (M.mat 2 (d)) rfl ?_; clear O; intro gd w2 O) | ((with_reducible refine at_box 5 ?_); refine wpList_box_own O (M.mat 2 (p)) rfl ?_; clear O; intro ga w3 O) | ((with_reducible refine at_load 12 ?_); refine wpList_whole rfl O 2 rfl rfl Try.underlying25 rfl (sT20 _) ?_) | (go_at_call 8; refine (CF _).mono ?_; rintro e w4 ⟨rfl, hb⟩; replace O := O.call hb; clear hb) | ((with_reducible refine at_load 16 ?_); refine wpList_whole rfl O 1 rfl rfl Try.underlying23 rfl (sN20 _) ?_) | (go_at_call 20; refine (CM _).mono ?_; rintro e w5 ⟨rfl, hb⟩; replace O := O.call hb; clear hb) | (go_at_call 10; refine (lawake20 _).mono ?_; rintro e w7 ⟨rfl, hb⟩; replace O := O.call hb; clear hb))
    go_ret
    exact ⟨rfl, O.below⟩
  rw [hm] at CM
  cases hn : TR.nearB p
  · rw [hn] at CN
    clear hf hn hm
    go_enter Try.func6, Try.ntmps6
    go_wp2_with (first | ((with_reducible refine at_box 3 ?_); refine wpList_box_own O (M.mat 6 (t)) rfl ?_; clear O; intro gt w1 O) | ((with_reducible refine at_box 4 ?_); refine wpList_box_own O (M.mat 2 (d)) rfl ?_; clear O; intro gd w2 O) | ((with_reducible refine at_box 5 ?_); refine wpList_box_own O (M.mat 2 (p)) rfl ?_; clear O; intro ga w3 O) | ((with_reducible refine at_load 12 ?_); refine wpList_whole rfl O 2 rfl rfl Try.underlying25 rfl (sT20 _) ?_) | (go_at_call 8; refine (CF _).mono ?_; rintro e w4 ⟨rfl, hb⟩; replace O := O.call hb; clear hb) | ((with_reducible refine at_load 16 ?_); refine wpList_whole rfl O 1 rfl rfl Try.underlying23 rfl (sN20 _) ?_) | (go_at_call 20; refine (CM _).mono ?_; rintro e w5 ⟨rfl, hb⟩; replace O := O.call hb; clear hb) | ((with_reducible refine at_load 21 ?_); refine wpList_whole rfl O 0 rfl rfl Try.underlying41 rfl (sA20 _) ?_) | (go_at_call 17; refine (CN _).mono ?_; rintro e w6 ⟨rfl, hb⟩; replace O := O.call hb; clear hb) | (go_at_call 10; refine (lawake20 _).mono ?_; rintro e w7 ⟨rfl, hb⟩; replace O := O.call hb; clear hb))
    go_ret
    exact ⟨rfl, O.below⟩
  rw [hn] at CN
  obtain ⟨ma, mb, mc⟩ := TR.fitB_iff.1 hf
  have md := TR.may_cP.1 hm
  obtain ⟨px, py⟩ := TR.nearB_iff.1 hn
  have Wca : ∀ w, Calls Try.prog 11 #[arr 2 (D.sub 0 t)] w fun e w' => e = .returned (arr 7 (TR.cA t)) ∧ Below w.heap.size w w' := fun w => lwin20 (D.sub 0 t) w
  have Wcb : ∀ w, Calls Try.prog 11 #[arr 2 (D.sub 2 t)] w fun e w' => e = .returned (arr 7 (TR.cB t)) ∧ Below w.heap.size w w' := fun w => lwin20 (D.sub 2 t) w
  have Wcc : ∀ w, Calls Try.prog 11 #[arr 2 (D.sub 4 t)] w fun e w' => e = .returned (arr 7 (TR.cC t)) ∧ Below w.heap.size w w' := fun w => lwin20 (D.sub 4 t) w
  have Wcd := fun w => lwin20 d w
  generalize TR.cA t = ca at *
  generalize TR.cB t = cb at *
  generalize TR.cC t = cc at *
  generalize TR.cP d = cd at *
  obtain ⟨p0, ep0⟩ : ∃ z, p 0 = z := ⟨_, rfl⟩
  have Cp0 := cell_is (n := 2) ep0 (by decide)
  obtain ⟨p1, ep1⟩ : ∃ z, p 1 = z := ⟨_, rfl⟩
  have Cp1 := cell_is (n := 2) ep1 (by decide)
  rw [ep0] at px
  rw [ep1] at py
  have MA := Lib.hid ma
  have MB := Lib.hid mb
  have MC := Lib.hid mc
  have MD := Lib.hid md
  have PX := Lib.hid px
  have PY := Lib.hid py
  clear hf hm hn ma mb mc md px py ep0 ep1
  go_enter Try.func6, Try.ntmps6
  go_wp2_with (first | ((with_reducible refine at_box 3 ?_); refine wpList_box_own O (M.mat 6 (t)) rfl ?_; clear O; intro gt w1 O) | ((with_reducible refine at_box 4 ?_); refine wpList_box_own O (M.mat 2 (d)) rfl ?_; clear O; intro gd w2 O) | ((with_reducible refine at_box 5 ?_); refine wpList_box_own O (M.mat 2 (p)) rfl ?_; clear O; intro ga w3 O) | ((with_reducible refine at_load 12 ?_); refine wpList_whole rfl O 2 rfl rfl Try.underlying25 rfl (sT20 _) ?_) | (go_at_call 8; refine (CF _).mono ?_; rintro e w4 ⟨rfl, hb⟩; replace O := O.call hb; clear hb) | ((with_reducible refine at_load 16 ?_); refine wpList_whole rfl O 1 rfl rfl Try.underlying23 rfl (sN20 _) ?_) | (go_at_call 20; refine (CM _).mono ?_; rintro e w5 ⟨rfl, hb⟩; replace O := O.call hb; clear hb) | ((with_reducible refine at_load 21 ?_); refine wpList_whole rfl O 0 rfl rfl Try.underlying41 rfl (sA20 _) ?_) | (go_at_call 17; refine (CN _).mono ?_; rintro e w6 ⟨rfl, hb⟩; replace O := O.call hb; clear hb))
  have HD : apart [⟨11, 15, 34, M.mat 7 M.zero, M.mat 7 ca⟩, ⟨12, 16, 34, M.mat 7 M.zero, M.mat 7 cb⟩, ⟨13, 17, 34, M.mat 7 M.zero, M.mat 7 cc⟩, ⟨14, 99, 34, M.mat 7 M.zero, M.mat 7 M.zero⟩] := (by decide : [11, 15, 12, 16, 13, 17, 14, 99].Nodup)
  refine region_S (fun st w2 => NB w [(ga, 41, M.mat 2 p), (gd, 23, M.mat 2 d), (gt, 25, M.mat 6 t)] [⟨11, 15, 34, M.mat 7 M.zero, M.mat 7 ca⟩, ⟨12, 16, 34, M.mat 7 M.zero, M.mat 7 cb⟩, ⟨13, 17, 34, M.mat 7 M.zero, M.mat 7 cc⟩, ⟨14, 99, 34, M.mat 7 M.zero, M.mat 7 M.zero⟩] st w2) [11, 12, 13, 14, 15, 16, 17] 12 18 [some 26, some 27, some 28, some 29, some 30, some 31, some 32, some 33, some 34, some 35, some 36, some 7, some 8, some 9, some 10, none, none, none] (fun g => [.pointer (some ⟨gt, 0, none⟩), arr 2 (D.sub 0 t), arr 7 ca, .pointer (some ⟨gt, 2, none⟩), arr 2 (D.sub 2 t), arr 7 cb, .pointer (some ⟨gt, 4, none⟩), arr 2 (D.sub 4 t), arr 7 cc, arr 2 d, arr 7 cd, g 11, g 12, g 13, g 14, g 15, g 16, g 17]) 1 (by kernel_rfl) (by kernel_rfl) (by rfl) (by rfl) (fun _ => rfl) (by decide) ?_ (NB.start O.drew) (fun F hF => ?_)
  · intro i hi
    simp only [List.mem_cons, List.not_mem_nil, or_false] at hi
    rcases hi with rfl | rfl | rfl | rfl | rfl | rfl | rfl
    · exact ⟨fun _ => rfl, [0, 1, 2, 3, 4, 5, 6, 7, 8, 9, 10, 12, 13, 14, 15, 16, 17], by kernel_rfl, fun g v => ⟨rfl, rfl, rfl, rfl, rfl, rfl, rfl, rfl, rfl, rfl, rfl, rfl, rfl, rfl, rfl, rfl, rfl, trivial⟩⟩
    · exact ⟨fun _ => rfl, [0, 1, 2, 3, 4, 5, 6, 7, 8, 9, 10, 11, 13, 14, 15, 16, 17], by kernel_rfl, fun g v => ⟨rfl, rfl, rfl, rfl, rfl, rfl, rfl, rfl, rfl, rfl, rfl, rfl, rfl, rfl, rfl, rfl, rfl, trivial⟩⟩
    · exact ⟨fun _ => rfl, [0, 1, 2, 3, 4, 5, 6, 7, 8, 9, 10, 11, 12, 14, 15, 16, 17], by kernel_rfl, fun g v => ⟨rfl, rfl, rfl, rfl, rfl, rfl, rfl, rfl, rfl, rfl, rfl, rfl, rfl, rfl, rfl, rfl, rfl, trivial⟩⟩
    · exact ⟨fun _ => rfl, [0, 1, 2, 3, 4, 5, 6, 7, 8, 9, 10, 11, 12, 13, 15, 16, 17], by kernel_rfl, fun g v => ⟨rfl, rfl, rfl, rfl, rfl, rfl, rfl, rfl, rfl, rfl, rfl, rfl, rfl, rfl, rfl, rfl, rfl, trivial⟩⟩
    · exact ⟨fun _ => rfl, [0, 1, 2, 3, 4, 5, 6, 7, 8, 9, 10, 11, 12, 13, 14, 16, 17], by kernel_rfl, fun g v => ⟨rfl, rfl, rfl, rfl, rfl, rfl, rfl, rfl, rfl, rfl, rfl, rfl, rfl, rfl, rfl, rfl, rfl, trivial⟩⟩
    · exact ⟨fun _ => rfl, [0, 1, 2, 3, 4, 5, 6, 7, 8, 9, 10, 11, 12, 13, 14, 15, 17], by kernel_rfl, fun g v => ⟨rfl, rfl, rfl, rfl, rfl, rfl, rfl, rfl, rfl, rfl, rfl, rfl, rfl, rfl, rfl, rfl, rfl, trivial⟩⟩
    · exact ⟨fun _ => rfl, [0, 1, 2, 3, 4, 5, 6, 7, 8, 9, 10, 11, 12, 13, 14, 15, 16], by kernel_rfl, fun g v => ⟨rfl, rfl, rfl, rfl, rfl, rfl, rfl, rfl, rfl, rfl, rfl, rfl, rfl, rfl, rfl, rfl, rfl, trivial⟩⟩
  simp only [fillD, Act.put, List.setIfInBounds_toArray, List.set_cons_zero, List.set_cons_succ] at hF
  have hF2 := funext hF
  clear hF
  subst hF2
  refine ⟨⟨doesN_want (by decide) rfl (fun g => rfl) (fun st w' hS hp K hK => ?_), doesN_want (by decide) rfl (fun g => rfl) (fun st w' hS hp K hK => ?_), doesN_want (by decide) rfl (fun g => rfl) (fun st w' hS hp K hK => ?_), doesN_want (by decide) rfl (fun g => rfl) (fun st w' hS hp K hK => ?_), doesN_want (by decide) rfl (fun g => rfl) (fun st w' hS hp K hK => ?_), doesN_want (by decide) rfl (fun g => rfl) (fun st w' hS hp K hK => ?_), doesN_want (by decide) rfl (fun g => rfl) (fun st w' hS hp K hK => ?_), doesN_want (by decide) rfl (fun g => rfl) (fun st w' hS hp K hK => ?_), doesN_want (by decide) rfl (fun g => rfl) (fun st w' hS hp K hK => ?_), doesN_want (by decide) rfl (fun g => rfl) (fun st w' hS hp K hK => ?_), doesN_want (by decide) rfl (fun g => rfl) (fun st w' hS hp K hK => ?_), doesC_want (by decide) rfl (fun g => rfl) (fun st w' hS hn hp K hK => ?_), doesC_want (by decide) rfl (fun g => rfl) (fun st w' hS hn hp K hK => ?_), doesC_want (by decide) rfl (fun g => rfl) (fun st w' hS hn hp K hK => ?_), doesC_want (by decide) rfl (fun g => rfl) (fun st w' hS hn hp K hK => ?_), doesC_want (by decide) rfl (fun g => rfl) (fun st w' hS hn hp K hK => ?_), doesC_want (by decide) rfl (fun g => rfl) (fun st w' hS hn hp K hK => ?_), doesC_want (by decide) rfl (fun g => rfl) (fun st w' hS hn hp K hK => ?_), trivial⟩, fun st w' hS hall => ?_⟩
  · try dsimp only
    go_simp
    exact hK _ hS
  · try dsimp only
    exact wp_mid_h hS.own.held 2 rfl (M.mat 2 (D.sub 0 t)) (mat_sub t (by decide)) rfl Try.underlying23 rfl (sN20 _) (hK _ hS)
  · try dsimp only
    go_simp
    go_at_call 11
    refine (Wca _).mono ?_
    rintro e w2 ⟨rfl, hb⟩
    exact hK _ (hS.call hb)
  · try dsimp only
    go_simp
    exact hK _ hS
  · try dsimp only
    exact wp_mid_h hS.own.held 2 rfl (M.mat 2 (D.sub 2 t)) (mat_sub t (by decide)) rfl Try.underlying23 rfl (sN20 _) (hK _ hS)
  · try dsimp only
    go_simp
    go_at_call 11
    refine (Wcb _).mono ?_
    rintro e w2 ⟨rfl, hb⟩
    exact hK _ (hS.call hb)
  · try dsimp only
    go_simp
    exact hK _ hS
  · try dsimp only
    exact wp_mid_h hS.own.held 2 rfl (M.mat 2 (D.sub 4 t)) (mat_sub t (by decide)) rfl Try.underlying23 rfl (sN20 _) (hK _ hS)
  · try dsimp only
    go_simp
    go_at_call 11
    refine (Wcc _).mono ?_
    rintro e w2 ⟨rfl, hb⟩
    exact hK _ (hS.call hb)
  · try dsimp only
    exact wp_whole hS.own 1 rfl rfl Try.underlying23 rfl (sN20 _) (hK _ hS)
  · try dsimp only
    go_simp
    go_at_call 11
    refine (Wcd _).mono ?_
    rintro e w2 ⟨rfl, hb⟩
    exact hK _ (hS.call hb)
  · try dsimp only
    exact hS.alloc HD 0 rfl hn zeroW hK
  · try dsimp only
    exact hS.alloc HD 1 rfl hn zeroW hK
  · try dsimp only
    exact hS.alloc HD 2 rfl hn zeroW hK
  · try dsimp only
    exact hS.alloc HD 3 rfl hn zeroW hK
  · try dsimp only
    exact hS.put HD 0 rfl (hp 11 (by decide) (by kernel_rfl)) hn rfl rfl (sW _) (M.mat_len2 _ _ _) (M.mat_one _ _) hK
  · try dsimp only
    exact hS.put HD 1 rfl (hp 12 (by decide) (by kernel_rfl)) hn rfl rfl (sW _) (M.mat_len2 _ _ _) (M.mat_one _ _) hK
  · try dsimp only
    exact hS.put HD 2 rfl (hp 13 (by decide) (by kernel_rfl)) hn rfl rfl (sW _) (M.mat_len2 _ _ _) (M.mat_one _ _) hK
  try dsimp only
  obtain ⟨g7, e0⟩ := hS.ptr 0 rfl (hall 11 (by decide))
  obtain ⟨g8, e1⟩ := hS.ptr 1 rfl (hall 12 (by decide))
  obtain ⟨g9, e2⟩ := hS.ptr 2 rfl (hall 13 (by decide))
  obtain ⟨g10, e3⟩ := hS.ptr 3 rfl (hall 14 (by decide))
  have O3 : Own w w' [(g7, 34, M.mat 7 ca), (g8, 34, M.mat 7 cb), (g9, 34, M.mat 7 cc), (g10, 34, M.mat 7 M.zero), (ga, 41, M.mat 2 p), (gd, 23, M.mat 2 d), (gt, 25, M.mat 6 t)] := by
    have h3 := hS.2.2
    rw [nows_cons, nows_cons, nows_cons, nows_cons, NbS.now_is e0 true (hall 15 (by decide)), NbS.now_is e1 true (hall 16 (by decide)), NbS.now_is e2 true (hall 17 (by decide)), NbS.now_same e3 rfl] at h3
    exact h3
  clear hS O
  have O := O3
  clear O3
  simp only [seen, e0, e1, e2, e3, Option.getD_some]
  try generalize (st 15).getD undef = x15'
  try generalize (st 16).getD undef = x16'
  try generalize (st 17).getD undef = x17'
  clear hall e0 e1 e2 e3
  refine wpAny_want (i := 18) (by kernel_rfl) rfl (by rfl) (fun K hK => ?_)
  refine wp_put_own O 3 (M.mat 7 (cd)) rfl rfl rfl (sW _) (M.mat_len2 _ _ _) (M.mat_one _ _) fun w9 O9 => hK _ _ ?_
  clear O
  have O := O9
  clear O9
  clear hK K
  try simp only [Act.put, List.setIfInBounds_toArray, List.set_cons_zero, List.set_cons_succ]
  refine wpAny_done (by kernel_rfl) ?_ _
  have O9 := Own.as O (l' := [(g7, 34, M.mat 7 ca), (g8, 34, M.mat 7 cb), (g9, 34, M.mat 7 cc), (g10, 34, M.mat 7 cd), (ga, 41, M.mat 2 p), (gd, 23, M.mat 2 d), (gt, 25, M.mat 6 t)]) rfl
  clear O HD
  have O := O9
  clear O9
  clear CF CM CN Wca Wcb Wcc Wcd
  have t0 : True := trivial
  obtain ⟨A0, hA0⟩ : ∃ z, TR.ar ca cb cc = z := ⟨_, rfl⟩
  have CA0 := fun w => parea20_any ca cb cc MA.out MB.out MC.out w
  rw [hA0] at CA0
  by_cases hneg : A0 < 0
  · have CA1 := fun w => parea20_any ca cc cd MA.out MC.out MD.out w
    have CA2 := fun w => parea20_any cc cb cd MC.out MB.out MD.out w
    have CA3 := fun w => parea20_any cb ca cd MB.out MA.out MD.out w
    have CA := fun w => parea20_any ca cc cb MA.out MC.out MB.out w
    have CH1 := fun w => phas20_any ca cc cd MA.out MC.out MD.out p0 p1 PX.out PY.out w
    have CH2 := fun w => phas20_any cc cb cd MC.out MB.out MD.out p0 p1 PX.out PY.out w
    have CH3 := fun w => phas20_any cb ca cd MB.out MA.out MD.out p0 p1 PX.out PY.out w
    have CH0 := fun w => phas20_any ca cc cb MA.out MC.out MB.out p0 p1 PX.out PY.out w
    have HC := fun hA h1 h2 h3 => @TR.cut ca cc cb cd MA.out MC.out MB.out MD.out hA h1 h2 h3 p0 p1
    have hA0b : TR.ar ca cc cb = -A0 := by rw [TR.ar_swap, hA0]
    rw [hA0b] at CA HC
    obtain ⟨A, hA⟩ : ∃ z, -A0 = z := ⟨_, rfl⟩
    rw [hA] at CA HC
    generalize TR.ar ca cc cd = A1 at *
    generalize TR.ar cc cb cd = A2 at *
    generalize TR.ar cb ca cd = A3 at *
    generalize TR.has ca cc cd p0 p1 = z1 at *
    generalize TR.has cc cb cd p0 p1 = z2 at *
    generalize TR.has cb ca cd p0 p1 = z3 at *
    generalize TR.has ca cc cb p0 p1 = z0 at *
    have K0 : decide (A0 < 0) = true := by simp; omega
    by_cases k0 : A1 < 0
    · have K1 : decide (A1 < 0) = true := decide_eq_true k0
      clear HC CH1 CH2 CH3 CH0 hA hneg hA0 k0 hA0b
      go_wp2_with (first | ((with_reducible refine at_load 37 ?_); refine wpList_whole rfl O 0 rfl rfl Try.underlying34 rfl (sW _) ?_) | ((with_reducible refine at_load 38 ?_); refine wpList_whole rfl O 1 rfl rfl Try.underlying34 rfl (sW _) ?_) | ((with_reducible refine at_load 39 ?_); refine wpList_whole rfl O 2 rfl rfl Try.underlying34 rfl (sW _) ?_) | (go_at_call 15; clear t0; have t1 : True := trivial; refine (CA0 _).mono ?_; rintro e w11 ⟨rfl, hb⟩; replace O := O.call hb; clear hb; (try simp only [Act.put, List.setIfInBounds_toArray, List.set_cons_zero, List.set_cons_succ])) | ((with_reducible refine at_load 42 ?_); refine wpList_whole rfl O 2 rfl rfl Try.underlying34 rfl (sW _) ?_) | ((with_reducible refine at_load 43 ?_); refine wpList_whole rfl O 1 rfl rfl Try.underlying34 rfl (sW _) ?_) | ((with_reducible refine at_store 8 ?_); refine wpList_put_own O 1 (M.mat 7 (cc)) rfl rfl rfl (sW _) (M.mat_len2 _ _ _) (M.mat_one _ _) ?_; clear O; intro w12 O) | ((with_reducible refine at_store 9 ?_); refine wpList_put_own O 2 (M.mat 7 (cb)) rfl rfl rfl (sW _) (M.mat_len2 _ _ _) (M.mat_one _ _) ?_; clear O; intro w13 O) | ((with_reducible refine at_load 44 ?_); refine wpList_whole rfl O 0 rfl rfl Try.underlying34 rfl (sW _) ?_) | ((with_reducible refine at_load 45 ?_); refine wpList_whole rfl O 1 rfl rfl Try.underlying34 rfl (sW _) ?_) | ((with_reducible refine at_load 46 ?_); refine wpList_whole rfl O 3 rfl rfl Try.underlying34 rfl (sW _) ?_) | (go_at_call 15; clear t1; have t2 : True := trivial; refine (CA1 _).mono ?_; rintro e w14 ⟨rfl, hb⟩; replace O := O.call hb; clear hb; (try simp only [Act.put, List.setIfInBounds_toArray, List.set_cons_zero, List.set_cons_succ])) | (go_at_call 10; refine (lawake20 _).mono ?_; rintro e w22 ⟨rfl, hb⟩; replace O := O.call hb; clear hb))
      go_ret
      exact ⟨rfl, O.below⟩
    have K1 : decide (A1 < 0) = false := decide_eq_false k0
    by_cases k1 : A2 < 0
    · have K2 : decide (A2 < 0) = true := decide_eq_true k1
      clear HC CH1 CH2 CH3 CH0 hA hneg hA0 k0 k1 hA0b
      go_wp2_with (first | ((with_reducible refine at_load 37 ?_); refine wpList_whole rfl O 0 rfl rfl Try.underlying34 rfl (sW _) ?_) | ((with_reducible refine at_load 38 ?_); refine wpList_whole rfl O 1 rfl rfl Try.underlying34 rfl (sW _) ?_) | ((with_reducible refine at_load 39 ?_); refine wpList_whole rfl O 2 rfl rfl Try.underlying34 rfl (sW _) ?_) | (go_at_call 15; clear t0; have t1 : True := trivial; refine (CA0 _).mono ?_; rintro e w11 ⟨rfl, hb⟩; replace O := O.call hb; clear hb; (try simp only [Act.put, List.setIfInBounds_toArray, List.set_cons_zero, List.set_cons_succ])) | ((with_reducible refine at_load 42 ?_); refine wpList_whole rfl O 2 rfl rfl Try.underlying34 rfl (sW _) ?_) | ((with_reducible refine at_load 43 ?_); refine wpList_whole rfl O 1 rfl rfl Try.underlying34 rfl (sW _) ?_) | ((with_reducible refine at_store 8 ?_); refine wpList_put_own O 1 (M.mat 7 (cc)) rfl rfl rfl (sW _) (M.mat_len2 _ _ _) (M.mat_one _ _) ?_; clear O; intro w12 O) | ((with_reducible refine at_store 9 ?_); refine wpList_put_own O 2 (M.mat 7 (cb)) rfl rfl rfl (sW _) (M.mat_len2 _ _ _) (M.mat_one _ _) ?_; clear O; intro w13 O) | ((with_reducible refine at_load 44 ?_); refine wpList_whole rfl O 0 rfl rfl Try.underlying34 rfl (sW _) ?_) | ((with_reducible refine at_load 45 ?_); refine wpList_whole rfl O 1 rfl rfl Try.underlying34 rfl (sW _) ?_) | ((with_reducible refine at_load 46 ?_); refine wpList_whole rfl O 3 rfl rfl Try.underlying34 rfl (sW _) ?_) | (go_at_call 15; clear t1; have t2 : True := trivial; refine (CA1 _).mono ?_; rintro e w14 ⟨rfl, hb⟩; replace O := O.call hb; clear hb; (try simp only [Act.put, List.setIfInBounds_toArray, List.set_cons_zero, List.set_cons_succ])) | ((with_reducible refine at_load 50 ?_); refine wpList_whole rfl O 1 rfl rfl Try.underlying34 rfl (sW _) ?_) | ((with_reducible refine at_load 51 ?_); refine wpList_whole rfl O 2 rfl rfl Try.underlying34 rfl (sW _) ?_) | ((with_reducible refine at_load 52 ?_); refine wpList_whole rfl O 3 rfl rfl Try.underlying34 rfl (sW _) ?_) | (go_at_call 15; clear t2; have t3 : True := trivial; refine (CA2 _).mono ?_; rintro e w15 ⟨rfl, hb⟩; replace O := O.call hb; clear hb; (try simp only [Act.put, List.setIfInBounds_toArray, List.set_cons_zero, List.set_cons_succ])) | (go_at_call 10; refine (lawake20 _).mono ?_; rintro e w22 ⟨rfl, hb⟩; replace O := O.call hb; clear hb))
      go_ret
      exact ⟨rfl, O.below⟩
    have K2 : decide (A2 < 0) = false := decide_eq_false k1
    by_cases k2 : A3 < 0
    · have K3 : decide (A3 < 0) = true := decide_eq_true k2
      clear HC CH1 CH2 CH3 CH0 hA hneg hA0 k0 k1 k2 hA0b
      go_wp2_with (first | ((with_reducible refine at_load 37 ?_); refine wpList_whole rfl O 0 rfl rfl Try.underlying34 rfl (sW _) ?_) | ((with_reducible refine at_load 38 ?_); refine wpList_whole rfl O 1 rfl rfl Try.underlying34 rfl (sW _) ?_) | ((with_reducible refine at_load 39 ?_); refine wpList_whole rfl O 2 rfl rfl Try.underlying34 rfl (sW _) ?_) | (go_at_call 15; clear t0; have t1 : True := trivial; refine (CA0 _).mono ?_; rintro e w11 ⟨rfl, hb⟩; replace O := O.call hb; clear hb; (try simp only [Act.put, List.setIfInBounds_toArray, List.set_cons_zero, List.set_cons_succ])) | ((with_reducible refine at_load 42 ?_); refine wpList_whole rfl O 2 rfl rfl Try.underlying34 rfl (sW _) ?_) | ((with_reducible refine at_load 43 ?_); refine wpList_whole rfl O 1 rfl rfl Try.underlying34 rfl (sW _) ?_) | ((with_reducible refine at_store 8 ?_); refine wpList_put_own O 1 (M.mat 7 (cc)) rfl rfl rfl (sW _) (M.mat_len2 _ _ _) (M.mat_one _ _) ?_; clear O; intro w12 O) | ((with_reducible refine at_store 9 ?_); refine wpList_put_own O 2 (M.mat 7 (cb)) rfl rfl rfl (sW _) (M.mat_len2 _ _ _) (M.mat_one _ _) ?_; clear O; intro w13 O) | ((with_reducible refine at_load 44 ?_); refine wpList_whole rfl O 0 rfl rfl Try.underlying34 rfl (sW _) ?_) | ((with_reducible refine at_load 45 ?_); refine wpList_whole rfl O 1 rfl rfl Try.underlying34 rfl (sW _) ?_) | ((with_reducible refine at_load 46 ?_); refine wpList_whole rfl O 3 rfl rfl Try.underlying34 rfl (sW _) ?_) | (go_at_call 15; clear t1; have t2 : True := trivial; refine (CA1 _).mono ?_; rintro e w14 ⟨rfl, hb⟩; replace O := O.call hb; clear hb; (try simp only [Act.put, List.setIfInBounds_toArray, List.set_cons_zero, List.set_cons_succ])) | ((with_reducible refine at_load 50 ?_); refine wpList_whole rfl O 1 rfl rfl Try.underlying34 rfl (sW _) ?_) | ((with_reducible refine at_load 51 ?_); refine wpList_whole rfl O 2 rfl rfl Try.underlying34 rfl (sW _) ?_) | ((with_reducible refine at_load 52 ?_); refine wpList_whole rfl O 3 rfl rfl Try.underlying34 rfl (sW _) ?_) | (go_at_call 15; clear t2; have t3 : True := trivial; refine (CA2 _).mono ?_; rintro e w15 ⟨rfl, hb⟩; replace O := O.call hb; clear hb; (try simp only [Act.put, List.setIfInBounds_toArray, List.set_cons_zero, List.set_cons_succ])) | ((with_reducible refine at_load 57 ?_); refine wpList_whole rfl O 2 rfl rfl Try.underlying34 rfl (sW _) ?_) | ((with_reducible refine at_load 58 ?_); refine wpList_whole rfl O 0 rfl rfl Try.underlying34 rfl (sW _) ?_) | ((with_reducible refine at_load 59 ?_); refine wpList_whole rfl O 3 rfl rfl Try.underlying34 rfl (sW _) ?_) | (go_at_call 15; clear t3; have t4 : True := trivial; refine (CA3 _).mono ?_; rintro e w16 ⟨rfl, hb⟩; replace O := O.call hb; clear hb; (try simp only [Act.put, List.setIfInBounds_toArray, List.set_cons_zero, List.set_cons_succ])) | (go_at_call 10; refine (lawake20 _).mono ?_; rintro e w22 ⟨rfl, hb⟩; replace O := O.call hb; clear hb))
      go_ret
      exact ⟨rfl, O.below⟩
    have K3 : decide (A3 < 0) = false := decide_eq_false k2
    by_cases k3 : A ≤ 0
    · have K4 : decide (A ≤ 0) = true := decide_eq_true k3
      clear HC CH1 CH2 CH3 CH0 hA hneg hA0 k0 k1 k2 k3 hA0b
      go_wp2_with (first | ((with_reducible refine at_load 37 ?_); refine wpList_whole rfl O 0 rfl rfl Try.underlying34 rfl (sW _) ?_) | ((with_reducible refine at_load 38 ?_); refine wpList_whole rfl O 1 rfl rfl Try.underlying34 rfl (sW _) ?_) | ((with_reducible refine at_load 39 ?_); refine wpList_whole rfl O 2 rfl rfl Try.underlying34 rfl (sW _) ?_) | (go_at_call 15; clear t0; have t1 : True := trivial; refine (CA0 _).mono ?_; rintro e w11 ⟨rfl, hb⟩; replace O := O.call hb; clear hb; (try simp only [Act.put, List.setIfInBounds_toArray, List.set_cons_zero, List.set_cons_succ])) | ((with_reducible refine at_load 42 ?_); refine wpList_whole rfl O 2 rfl rfl Try.underlying34 rfl (sW _) ?_) | ((with_reducible refine at_load 43 ?_); refine wpList_whole rfl O 1 rfl rfl Try.underlying34 rfl (sW _) ?_) | ((with_reducible refine at_store 8 ?_); refine wpList_put_own O 1 (M.mat 7 (cc)) rfl rfl rfl (sW _) (M.mat_len2 _ _ _) (M.mat_one _ _) ?_; clear O; intro w12 O) | ((with_reducible refine at_store 9 ?_); refine wpList_put_own O 2 (M.mat 7 (cb)) rfl rfl rfl (sW _) (M.mat_len2 _ _ _) (M.mat_one _ _) ?_; clear O; intro w13 O) | ((with_reducible refine at_load 44 ?_); refine wpList_whole rfl O 0 rfl rfl Try.underlying34 rfl (sW _) ?_) | ((with_reducible refine at_load 45 ?_); refine wpList_whole rfl O 1 rfl rfl Try.underlying34 rfl (sW _) ?_) | ((with_reducible refine at_load 46 ?_); refine wpList_whole rfl O 3 rfl rfl Try.underlying34 rfl (sW _) ?_) | (go_at_call 15; clear t1; have t2 : True := trivial; refine (CA1 _).mono ?_; rintro e w14 ⟨rfl, hb⟩; replace O := O.call hb; clear hb; (try simp only [Act.put, List.setIfInBounds_toArray, List.set_cons_zero, List.set_cons_succ])) | ((with_reducible refine at_load 50 ?_); refine wpList_whole rfl O 1 rfl rfl Try.underlying34 rfl (sW _) ?_) | ((with_reducible refine at_load 51 ?_); refine wpList_whole rfl O 2 rfl rfl Try.underlying34 rfl (sW _) ?_) | ((with_reducible refine at_load 52 ?_); refine wpList_whole rfl O 3 rfl rfl Try.underlying34 rfl (sW _) ?_) | (go_at_call 15; clear t2; have t3 : True := trivial; refine (CA2 _).mono ?_; rintro e w15 ⟨rfl, hb⟩; replace O := O.call hb; clear hb; (try simp only [Act.put, List.setIfInBounds_toArray, List.set_cons_zero, List.set_cons_succ])) | ((with_reducible refine at_load 57 ?_); refine wpList_whole rfl O 2 rfl rfl Try.underlying34 rfl (sW _) ?_) | ((with_reducible refine at_load 58 ?_); refine wpList_whole rfl O 0 rfl rfl Try.underlying34 rfl (sW _) ?_) | ((with_reducible refine at_load 59 ?_); refine wpList_whole rfl O 3 rfl rfl Try.underlying34 rfl (sW _) ?_) | (go_at_call 15; clear t3; have t4 : True := trivial; refine (CA3 _).mono ?_; rintro e w16 ⟨rfl, hb⟩; replace O := O.call hb; clear hb; (try simp only [Act.put, List.setIfInBounds_toArray, List.set_cons_zero, List.set_cons_succ])) | ((with_reducible refine at_load 64 ?_); refine wpList_whole rfl O 0 rfl rfl Try.underlying34 rfl (sW _) ?_) | ((with_reducible refine at_load 65 ?_); refine wpList_whole rfl O 1 rfl rfl Try.underlying34 rfl (sW _) ?_) | ((with_reducible refine at_load 66 ?_); refine wpList_whole rfl O 2 rfl rfl Try.underlying34 rfl (sW _) ?_) | (go_at_call 15; clear t4; have t5 : True := trivial; refine (CA _).mono ?_; rintro e w17 ⟨rfl, hb⟩; replace O := O.call hb; clear hb; (try simp only [Act.put, List.setIfInBounds_toArray, List.set_cons_zero, List.set_cons_succ])) | (go_at_call 10; refine (lawake20 _).mono ?_; rintro e w22 ⟨rfl, hb⟩; replace O := O.call hb; clear hb))
      go_ret
      exact ⟨rfl, O.below⟩
    have K4 : decide (A ≤ 0) = false := decide_eq_false k3
    have hc := HC (by omega) (by omega) (by omega) (by omega)
    have W1 : wrap64 1 = 1 := IntWalk.wrap64_in _ (by omega)
    have W0 : wrap64 0 = 0 := IntWalk.wrap64_in _ (by omega)
    clear HC hA hneg hA0 k0 k1 k2 k3 hA0b
    rcases TR.four _ _ _ _ hc with ⟨rfl, rfl, rfl, rfl⟩ | ⟨rfl, rfl, rfl, rfl⟩ | ⟨rfl, rfl, rfl, rfl⟩ | ⟨rfl, rfl, rfl, rfl⟩
    all_goals
      clear hc
      go_wp2_with (first | ((with_reducible refine at_load 37 ?_); refine wpList_whole rfl O 0 rfl rfl Try.underlying34 rfl (sW _) ?_) | ((with_reducible refine at_load 38 ?_); refine wpList_whole rfl O 1 rfl rfl Try.underlying34 rfl (sW _) ?_) | ((with_reducible refine at_load 39 ?_); refine wpList_whole rfl O 2 rfl rfl Try.underlying34 rfl (sW _) ?_) | (go_at_call 15; clear t0; have t1 : True := trivial; refine (CA0 _).mono ?_; rintro e w11 ⟨rfl, hb⟩; replace O := O.call hb; clear hb; (try simp only [Act.put, List.setIfInBounds_toArray, List.set_cons_zero, List.set_cons_succ])) | ((with_reducible refine at_load 42 ?_); refine wpList_whole rfl O 2 rfl rfl Try.underlying34 rfl (sW _) ?_) | ((with_reducible refine at_load 43 ?_); refine wpList_whole rfl O 1 rfl rfl Try.underlying34 rfl (sW _) ?_) | ((with_reducible refine at_store 8 ?_); refine wpList_put_own O 1 (M.mat 7 (cc)) rfl rfl rfl (sW _) (M.mat_len2 _ _ _) (M.mat_one _ _) ?_; clear O; intro w12 O) | ((with_reducible refine at_store 9 ?_); refine wpList_put_own O 2 (M.mat 7 (cb)) rfl rfl rfl (sW _) (M.mat_len2 _ _ _) (M.mat_one _ _) ?_; clear O; intro w13 O) | ((with_reducible refine at_load 44 ?_); refine wpList_whole rfl O 0 rfl rfl Try.underlying34 rfl (sW _) ?_) | ((with_reducible refine at_load 45 ?_); refine wpList_whole rfl O 1 rfl rfl Try.underlying34 rfl (sW _) ?_) | ((with_reducible refine at_load 46 ?_); refine wpList_whole rfl O 3 rfl rfl Try.underlying34 rfl (sW _) ?_) | (go_at_call 15; clear t1; have t2 : True := trivial; refine (CA1 _).mono ?_; rintro e w14 ⟨rfl, hb⟩; replace O := O.call hb; clear hb; (try simp only [Act.put, List.setIfInBounds_toArray, List.set_cons_zero, List.set_cons_succ])) | ((with_reducible refine at_load 50 ?_); refine wpList_whole rfl O 1 rfl rfl Try.underlying34 rfl (sW _) ?_) | ((with_reducible refine at_load 51 ?_); refine wpList_whole rfl O 2 rfl rfl Try.underlying34 rfl (sW _) ?_) | ((with_reducible refine at_load 52 ?_); refine wpList_whole rfl O 3 rfl rfl Try.underlying34 rfl (sW _) ?_) | (go_at_call 15; clear t2; have t3 : True := trivial; refine (CA2 _).mono ?_; rintro e w15 ⟨rfl, hb⟩; replace O := O.call hb; clear hb; (try simp only [Act.put, List.setIfInBounds_toArray, List.set_cons_zero, List.set_cons_succ])) | ((with_reducible refine at_load 57 ?_); refine wpList_whole rfl O 2 rfl rfl Try.underlying34 rfl (sW _) ?_) | ((with_reducible refine at_load 58 ?_); refine wpList_whole rfl O 0 rfl rfl Try.underlying34 rfl (sW _) ?_) | ((with_reducible refine at_load 59 ?_); refine wpList_whole rfl O 3 rfl rfl Try.underlying34 rfl (sW _) ?_) | (go_at_call 15; clear t3; have t4 : True := trivial; refine (CA3 _).mono ?_; rintro e w16 ⟨rfl, hb⟩; replace O := O.call hb; clear hb; (try simp only [Act.put, List.setIfInBounds_toArray, List.set_cons_zero, List.set_cons_succ])) | ((with_reducible refine at_load 64 ?_); refine wpList_whole rfl O 0 rfl rfl Try.underlying34 rfl (sW _) ?_) | ((with_reducible refine at_load 65 ?_); refine wpList_whole rfl O 1 rfl rfl Try.underlying34 rfl (sW _) ?_) | ((with_reducible refine at_load 66 ?_); refine wpList_whole rfl O 2 rfl rfl Try.underlying34 rfl (sW _) ?_) | (go_at_call 15; clear t4; have t5 : True := trivial; refine (CA _).mono ?_; rintro e w17 ⟨rfl, hb⟩; replace O := O.call hb; clear hb; (try simp only [Act.put, List.setIfInBounds_toArray, List.set_cons_zero, List.set_cons_succ])) | ((with_reducible refine at_load 71 ?_); refine wpList_whole rfl O 0 rfl rfl Try.underlying34 rfl (sW _) ?_) | ((with_reducible refine at_load 72 ?_); refine wpList_whole rfl O 1 rfl rfl Try.underlying34 rfl (sW _) ?_) | ((with_reducible refine at_load 73 ?_); refine wpList_whole rfl O 3 rfl rfl Try.underlying34 rfl (sW _) ?_; (try simp only [Act.put, List.setIfInBounds_toArray, List.set_cons_zero, List.set_cons_succ])) | ((with_reducible refine at_index_ 74 ?_); refine wpList_ino rfl Try.underlying41 sizeOf3 (by decide) (0) rfl rfl (rfl) (by decide) ?_; (try simp only [Act.put, List.setIfInBounds_toArray, List.set_cons_zero, List.set_cons_succ])) | ((with_reducible refine at_load 75 ?_); refine wpList_cell_h (v := .int .i64 (p0)) rfl O.held 4 rfl Cp0.out rfl agg3 rfl ?_; (try simp only [Act.put, List.setIfInBounds_toArray, List.set_cons_zero, List.set_cons_succ])) | ((with_reducible refine at_index_ 76 ?_); refine wpList_ino rfl Try.underlying41 sizeOf3 (by decide) (1) rfl rfl (rfl) (by decide) ?_; (try simp only [Act.put, List.setIfInBounds_toArray, List.set_cons_zero, List.set_cons_succ])) | ((with_reducible refine at_load 77 ?_); refine wpList_cell_h (v := .int .i64 (p1)) rfl O.held 4 rfl Cp1.out rfl agg3 rfl ?_; (try simp only [Act.put, List.setIfInBounds_toArray, List.set_cons_zero, List.set_cons_succ])) | (go_at_call 19; clear t5; have t6 : True := trivial; refine (CH1 _).mono ?_; rintro e w18 ⟨rfl, hb⟩; replace O := O.call hb; clear hb; (try simp only [Act.put, List.setIfInBounds_toArray, List.set_cons_zero, List.set_cons_succ])) | ((with_reducible refine at_load 81 ?_); refine wpList_whole rfl O 1 rfl rfl Try.underlying34 rfl (sW _) ?_) | ((with_reducible refine at_load 82 ?_); refine wpList_whole rfl O 2 rfl rfl Try.underlying34 rfl (sW _) ?_) | ((with_reducible refine at_load 83 ?_); refine wpList_whole rfl O 3 rfl rfl Try.underlying34 rfl (sW _) ?_; (try simp only [Act.put, List.setIfInBounds_toArray, List.set_cons_zero, List.set_cons_succ])) | ((with_reducible refine at_index_ 84 ?_); refine wpList_ino rfl Try.underlying41 sizeOf3 (by decide) (0) rfl rfl (rfl) (by decide) ?_; (try simp only [Act.put, List.setIfInBounds_toArray, List.set_cons_zero, List.set_cons_succ])) | ((with_reducible refine at_load 85 ?_); refine wpList_cell_h (v := .int .i64 (p0)) rfl O.held 4 rfl Cp0.out rfl agg3 rfl ?_; (try simp only [Act.put, List.setIfInBounds_toArray, List.set_cons_zero, List.set_cons_succ])) | ((with_reducible refine at_index_ 86 ?_); refine wpList_ino rfl Try.underlying41 sizeOf3 (by decide) (1) rfl rfl (rfl) (by decide) ?_; (try simp only [Act.put, List.setIfInBounds_toArray, List.set_cons_zero, List.set_cons_succ])) | ((with_reducible refine at_load 87 ?_); refine wpList_cell_h (v := .int .i64 (p1)) rfl O.held 4 rfl Cp1.out rfl agg3 rfl ?_; (try simp only [Act.put, List.setIfInBounds_toArray, List.set_cons_zero, List.set_cons_succ])) | (go_at_call 19; clear t6; have t7 : True := trivial; refine (CH2 _).mono ?_; rintro e w19 ⟨rfl, hb⟩; replace O := O.call hb; clear hb; (try simp only [Act.put, List.setIfInBounds_toArray, List.set_cons_zero, List.set_cons_succ])) | ((with_reducible refine at_load 91 ?_); refine wpList_whole rfl O 2 rfl rfl Try.underlying34 rfl (sW _) ?_) | ((with_reducible refine at_load 92 ?_); refine wpList_whole rfl O 0 rfl rfl Try.underlying34 rfl (sW _) ?_) | ((with_reducible refine at_load 93 ?_); refine wpList_whole rfl O 3 rfl rfl Try.underlying34 rfl (sW _) ?_; (try simp only [Act.put, List.setIfInBounds_toArray, List.set_cons_zero, List.set_cons_succ])) | ((with_reducible refine at_index_ 94 ?_); refine wpList_ino rfl Try.underlying41 sizeOf3 (by decide) (0) rfl rfl (rfl) (by decide) ?_; (try simp only [Act.put, List.setIfInBounds_toArray, List.set_cons_zero, List.set_cons_succ])) | ((with_reducible refine at_load 95 ?_); refine wpList_cell_h (v := .int .i64 (p0)) rfl O.held 4 rfl Cp0.out rfl agg3 rfl ?_; (try simp only [Act.put, List.setIfInBounds_toArray, List.set_cons_zero, List.set_cons_succ])) | ((with_reducible refine at_index_ 96 ?_); refine wpList_ino rfl Try.underlying41 sizeOf3 (by decide) (1) rfl rfl (rfl) (by decide) ?_; (try simp only [Act.put, List.setIfInBounds_toArray, List.set_cons_zero, List.set_cons_succ])) | ((with_reducible refine at_load 97 ?_); refine wpList_cell_h (v := .int .i64 (p1)) rfl O.held 4 rfl Cp1.out rfl agg3 rfl ?_; (try simp only [Act.put, List.setIfInBounds_toArray, List.set_cons_zero, List.set_cons_succ])) | (go_at_call 19; clear t7; have t8 : True := trivial; refine (CH3 _).mono ?_; rintro e w20 ⟨rfl, hb⟩; replace O := O.call hb; clear hb; (try simp only [Act.put, List.setIfInBounds_toArray, List.set_cons_zero, List.set_cons_succ])) | ((with_reducible refine at_load 101 ?_); refine wpList_whole rfl O 0 rfl rfl Try.underlying34 rfl (sW _) ?_) | ((with_reducible refine at_load 102 ?_); refine wpList_whole rfl O 1 rfl rfl Try.underlying34 rfl (sW _) ?_) | ((with_reducible refine at_load 103 ?_); refine wpList_whole rfl O 2 rfl rfl Try.underlying34 rfl (sW _) ?_; (try simp only [Act.put, List.setIfInBounds_toArray, List.set_cons_zero, List.set_cons_succ])) | ((with_reducible refine at_index_ 104 ?_); refine wpList_ino rfl Try.underlying41 sizeOf3 (by decide) (0) rfl rfl (rfl) (by decide) ?_; (try simp only [Act.put, List.setIfInBounds_toArray, List.set_cons_zero, List.set_cons_succ])) | ((with_reducible refine at_load 105 ?_); refine wpList_cell_h (v := .int .i64 (p0)) rfl O.held 4 rfl Cp0.out rfl agg3 rfl ?_; (try simp only [Act.put, List.setIfInBounds_toArray, List.set_cons_zero, List.set_cons_succ])) | ((with_reducible refine at_index_ 106 ?_); refine wpList_ino rfl Try.underlying41 sizeOf3 (by decide) (1) rfl rfl (rfl) (by decide) ?_; (try simp only [Act.put, List.setIfInBounds_toArray, List.set_cons_zero, List.set_cons_succ])) | ((with_reducible refine at_load 107 ?_); refine wpList_cell_h (v := .int .i64 (p1)) rfl O.held 4 rfl Cp1.out rfl agg3 rfl ?_; (try simp only [Act.put, List.setIfInBounds_toArray, List.set_cons_zero, List.set_cons_succ])) | (go_at_call 19; clear t8; have t9 : True := trivial; refine (CH0 _).mono ?_; rintro e w21 ⟨rfl, hb⟩; replace O := O.call hb; clear hb; (try simp only [Act.put, List.setIfInBounds_toArray, List.set_cons_zero, List.set_cons_succ])) | (go_at_call 10; refine (lawake20 _).mono ?_; rintro e w22 ⟨rfl, hb⟩; replace O := O.call hb; clear hb))
      go_ret
      exact ⟨rfl, O.below⟩
  · have CA1 := fun w => parea20_any ca cb cd MA.out MB.out MD.out w
    have CA2 := fun w => parea20_any cb cc cd MB.out MC.out MD.out w
    have CA3 := fun w => parea20_any cc ca cd MC.out MA.out MD.out w
    have CA := fun w => parea20_any ca cb cc MA.out MB.out MC.out w
    have CH1 := fun w => phas20_any ca cb cd MA.out MB.out MD.out p0 p1 PX.out PY.out w
    have CH2 := fun w => phas20_any cb cc cd MB.out MC.out MD.out p0 p1 PX.out PY.out w
    have CH3 := fun w => phas20_any cc ca cd MC.out MA.out MD.out p0 p1 PX.out PY.out w
    have CH0 := fun w => phas20_any ca cb cc MA.out MB.out MC.out p0 p1 PX.out PY.out w
    have HC := fun hA h1 h2 h3 => @TR.cut ca cb cc cd MA.out MB.out MC.out MD.out hA h1 h2 h3 p0 p1
    rw [hA0] at CA HC
    obtain ⟨A, hA⟩ : ∃ z, A0 = z := ⟨_, rfl⟩
    rw [hA] at CA HC
    generalize TR.ar ca cb cd = A1 at *
    generalize TR.ar cb cc cd = A2 at *
    generalize TR.ar cc ca cd = A3 at *
    generalize TR.has ca cb cd p0 p1 = z1 at *
    generalize TR.has cb cc cd p0 p1 = z2 at *
    generalize TR.has cc ca cd p0 p1 = z3 at *
    generalize TR.has ca cb cc p0 p1 = z0 at *
    have K0 : decide (A0 < 0) = false := by simp; omega
    by_cases k0 : A1 < 0
    · have K1 : decide (A1 < 0) = true := decide_eq_true k0
      clear HC CH1 CH2 CH3 CH0 hA hneg hA0 k0
      go_wp2_with (first | ((with_reducible refine at_load 37 ?_); refine wpList_whole rfl O 0 rfl rfl Try.underlying34 rfl (sW _) ?_) | ((with_reducible refine at_load 38 ?_); refine wpList_whole rfl O 1 rfl rfl Try.underlying34 rfl (sW _) ?_) | ((with_reducible refine at_load 39 ?_); refine wpList_whole rfl O 2 rfl rfl Try.underlying34 rfl (sW _) ?_) | (go_at_call 15; clear t0; have t1 : True := trivial; refine (CA0 _).mono ?_; rintro e w11 ⟨rfl, hb⟩; replace O := O.call hb; clear hb; (try simp only [Act.put, List.setIfInBounds_toArray, List.set_cons_zero, List.set_cons_succ])) | ((with_reducible refine at_load 44 ?_); refine wpList_whole rfl O 0 rfl rfl Try.underlying34 rfl (sW _) ?_) | ((with_reducible refine at_load 45 ?_); refine wpList_whole rfl O 1 rfl rfl Try.underlying34 rfl (sW _) ?_) | ((with_reducible refine at_load 46 ?_); refine wpList_whole rfl O 3 rfl rfl Try.underlying34 rfl (sW _) ?_) | (go_at_call 15; clear t1; have t2 : True := trivial; refine (CA1 _).mono ?_; rintro e w14 ⟨rfl, hb⟩; replace O := O.call hb; clear hb; (try simp only [Act.put, List.setIfInBounds_toArray, List.set_cons_zero, List.set_cons_succ])) | (go_at_call 10; refine (lawake20 _).mono ?_; rintro e w22 ⟨rfl, hb⟩; replace O := O.call hb; clear hb))
      go_ret
      exact ⟨rfl, O.below⟩
    have K1 : decide (A1 < 0) = false := decide_eq_false k0
    by_cases k1 : A2 < 0
    · have K2 : decide (A2 < 0) = true := decide_eq_true k1
      clear HC CH1 CH2 CH3 CH0 hA hneg hA0 k0 k1
      go_wp2_with (first | ((with_reducible refine at_load 37 ?_); refine wpList_whole rfl O 0 rfl rfl Try.underlying34 rfl (sW _) ?_) | ((with_reducible refine at_load 38 ?_); refine wpList_whole rfl O 1 rfl rfl Try.underlying34 rfl (sW _) ?_) | ((with_reducible refine at_load 39 ?_); refine wpList_whole rfl O 2 rfl rfl Try.underlying34 rfl (sW _) ?_) | (go_at_call 15; clear t0; have t1 : True := trivial; refine (CA0 _).mono ?_; rintro e w11 ⟨rfl, hb⟩; replace O := O.call hb; clear hb; (try simp only [Act.put, List.setIfInBounds_toArray, List.set_cons_zero, List.set_cons_succ])) | ((with_reducible refine at_load 44 ?_); refine wpList_whole rfl O 0 rfl rfl Try.underlying34 rfl (sW _) ?_) | ((with_reducible refine at_load 45 ?_); refine wpList_whole rfl O 1 rfl rfl Try.underlying34 rfl (sW _) ?_) | ((with_reducible refine at_load 46 ?_); refine wpList_whole rfl O 3 rfl rfl Try.underlying34 rfl (sW _) ?_) | (go_at_call 15; clear t1; have t2 : True := trivial; refine (CA1 _).mono ?_; rintro e w14 ⟨rfl, hb⟩; replace O := O.call hb; clear hb; (try simp only [Act.put, List.setIfInBounds_toArray, List.set_cons_zero, List.set_cons_succ])) | ((with_reducible refine at_load 50 ?_); refine wpList_whole rfl O 1 rfl rfl Try.underlying34 rfl (sW _) ?_) | ((with_reducible refine at_load 51 ?_); refine wpList_whole rfl O 2 rfl rfl Try.underlying34 rfl (sW _) ?_) | ((with_reducible refine at_load 52 ?_); refine wpList_whole rfl O 3 rfl rfl Try.underlying34 rfl (sW _) ?_) | (go_at_call 15; clear t2; have t3 : True := trivial; refine (CA2 _).mono ?_; rintro e w15 ⟨rfl, hb⟩; replace O := O.call hb; clear hb; (try simp only [Act.put, List.setIfInBounds_toArray, List.set_cons_zero, List.set_cons_succ])) | (go_at_call 10; refine (lawake20 _).mono ?_; rintro e w22 ⟨rfl, hb⟩; replace O := O.call hb; clear hb))
      go_ret
      exact ⟨rfl, O.below⟩
    have K2 : decide (A2 < 0) = false := decide_eq_false k1
    by_cases k2 : A3 < 0
    · have K3 : decide (A3 < 0) = true := decide_eq_true k2
      clear HC CH1 CH2 CH3 CH0 hA hneg hA0 k0 k1 k2
      go_wp2_with (first | ((with_reducible refine at_load 37 ?_); refine wpList_whole rfl O 0 rfl rfl Try.underlying34 rfl (sW _) ?_) | ((with_reducible refine at_load 38 ?_); refine wpList_whole rfl O 1 rfl rfl Try.underlying34 rfl (sW _) ?_) | ((with_reducible refine at_load 39 ?_); refine wpList_whole rfl O 2 rfl rfl Try.underlying34 rfl (sW _) ?_) | (go_at_call 15; clear t0; have t1 : True := trivial; refine (CA0 _).mono ?_; rintro e w11 ⟨rfl, hb⟩; replace O := O.call hb; clear hb; (try simp only [Act.put, List.setIfInBounds_toArray, List.set_cons_zero, List.set_cons_succ])) | ((with_reducible refine at_load 44 ?_); refine wpList_whole rfl O 0 rfl rfl Try.underlying34 rfl (sW _) ?_) | ((with_reducible refine at_load 45 ?_); refine wpList_whole rfl O 1 rfl rfl Try.underlying34 rfl (sW _) ?_) | ((with_reducible refine at_load 46 ?_); refine wpList_whole rfl O 3 rfl rfl Try.underlying34 rfl (sW _) ?_) | (go_at_call 15; clear t1; have t2 : True := trivial; refine (CA1 _).mono ?_; rintro e w14 ⟨rfl, hb⟩; replace O := O.call hb; clear hb; (try simp only [Act.put, List.setIfInBounds_toArray, List.set_cons_zero, List.set_cons_succ])) | ((with_reducible refine at_load 50 ?_); refine wpList_whole rfl O 1 rfl rfl Try.underlying34 rfl (sW _) ?_) | ((with_reducible refine at_load 51 ?_); refine wpList_whole rfl O 2 rfl rfl Try.underlying34 rfl (sW _) ?_) | ((with_reducible refine at_load 52 ?_); refine wpList_whole rfl O 3 rfl rfl Try.underlying34 rfl (sW _) ?_) | (go_at_call 15; clear t2; have t3 : True := trivial; refine (CA2 _).mono ?_; rintro e w15 ⟨rfl, hb⟩; replace O := O.call hb; clear hb; (try simp only [Act.put, List.setIfInBounds_toArray, List.set_cons_zero, List.set_cons_succ])) | ((with_reducible refine at_load 57 ?_); refine wpList_whole rfl O 2 rfl rfl Try.underlying34 rfl (sW _) ?_) | ((with_reducible refine at_load 58 ?_); refine wpList_whole rfl O 0 rfl rfl Try.underlying34 rfl (sW _) ?_) | ((with_reducible refine at_load 59 ?_); refine wpList_whole rfl O 3 rfl rfl Try.underlying34 rfl (sW _) ?_) | (go_at_call 15; clear t3; have t4 : True := trivial; refine (CA3 _).mono ?_; rintro e w16 ⟨rfl, hb⟩; replace O := O.call hb; clear hb; (try simp only [Act.put, List.setIfInBounds_toArray, List.set_cons_zero, List.set_cons_succ])) | (go_at_call 10; refine (lawake20 _).mono ?_; rintro e w22 ⟨rfl, hb⟩; replace O := O.call hb; clear hb))
      go_ret
      exact ⟨rfl, O.below⟩
    have K3 : decide (A3 < 0) = false := decide_eq_false k2
    by_cases k3 : A ≤ 0
    · have K4 : decide (A ≤ 0) = true := decide_eq_true k3
      clear HC CH1 CH2 CH3 CH0 hA hneg hA0 k0 k1 k2 k3
      go_wp2_with (first | ((with_reducible refine at_load 37 ?_); refine wpList_whole rfl O 0 rfl rfl Try.underlying34 rfl (sW _) ?_) | ((with_reducible refine at_load 38 ?_); refine wpList_whole rfl O 1 rfl rfl Try.underlying34 rfl (sW _) ?_) | ((with_reducible refine at_load 39 ?_); refine wpList_whole rfl O 2 rfl rfl Try.underlying34 rfl (sW _) ?_) | (go_at_call 15; clear t0; have t1 : True := trivial; refine (CA0 _).mono ?_; rintro e w11 ⟨rfl, hb⟩; replace O := O.call hb; clear hb; (try simp only [Act.put, List.setIfInBounds_toArray, List.set_cons_zero, List.set_cons_succ])) | ((with_reducible refine at_load 44 ?_); refine wpList_whole rfl O 0 rfl rfl Try.underlying34 rfl (sW _) ?_) | ((with_reducible refine at_load 45 ?_); refine wpList_whole rfl O 1 rfl rfl Try.underlying34 rfl (sW _) ?_) | ((with_reducible refine at_load 46 ?_); refine wpList_whole rfl O 3 rfl rfl Try.underlying34 rfl (sW _) ?_) | (go_at_call 15; clear t1; have t2 : True := trivial; refine (CA1 _).mono ?_; rintro e w14 ⟨rfl, hb⟩; replace O := O.call hb; clear hb; (try simp only [Act.put, List.setIfInBounds_toArray, List.set_cons_zero, List.set_cons_succ])) | ((with_reducible refine at_load 50 ?_); refine wpList_whole rfl O 1 rfl rfl Try.underlying34 rfl (sW _) ?_) | ((with_reducible refine at_load 51 ?_); refine wpList_whole rfl O 2 rfl rfl Try.underlying34 rfl (sW _) ?_) | ((with_reducible refine at_load 52 ?_); refine wpList_whole rfl O 3 rfl rfl Try.underlying34 rfl (sW _) ?_) | (go_at_call 15; clear t2; have t3 : True := trivial; refine (CA2 _).mono ?_; rintro e w15 ⟨rfl, hb⟩; replace O := O.call hb; clear hb; (try simp only [Act.put, List.setIfInBounds_toArray, List.set_cons_zero, List.set_cons_succ])) | ((with_reducible refine at_load 57 ?_); refine wpList_whole rfl O 2 rfl rfl Try.underlying34 rfl (sW _) ?_) | ((with_reducible refine at_load 58 ?_); refine wpList_whole rfl O 0 rfl rfl Try.underlying34 rfl (sW _) ?_) | ((with_reducible refine at_load 59 ?_); refine wpList_whole rfl O 3 rfl rfl Try.underlying34 rfl (sW _) ?_) | (go_at_call 15; clear t3; have t4 : True := trivial; refine (CA3 _).mono ?_; rintro e w16 ⟨rfl, hb⟩; replace O := O.call hb; clear hb; (try simp only [Act.put, List.setIfInBounds_toArray, List.set_cons_zero, List.set_cons_succ])) | ((with_reducible refine at_load 64 ?_); refine wpList_whole rfl O 0 rfl rfl Try.underlying34 rfl (sW _) ?_) | ((with_reducible refine at_load 65 ?_); refine wpList_whole rfl O 1 rfl rfl Try.underlying34 rfl (sW _) ?_) | ((with_reducible refine at_load 66 ?_); refine wpList_whole rfl O 2 rfl rfl Try.underlying34 rfl (sW _) ?_) | (go_at_call 15; clear t4; have t5 : True := trivial; refine (CA _).mono ?_; rintro e w17 ⟨rfl, hb⟩; replace O := O.call hb; clear hb; (try simp only [Act.put, List.setIfInBounds_toArray, List.set_cons_zero, List.set_cons_succ])) | (go_at_call 10; refine (lawake20 _).mono ?_; rintro e w22 ⟨rfl, hb⟩; replace O := O.call hb; clear hb))
      go_ret
      exact ⟨rfl, O.below⟩
    have K4 : decide (A ≤ 0) = false := decide_eq_false k3
    have hc := HC (by omega) (by omega) (by omega) (by omega)
    have W1 : wrap64 1 = 1 := IntWalk.wrap64_in _ (by omega)
    have W0 : wrap64 0 = 0 := IntWalk.wrap64_in _ (by omega)
    clear HC hA hneg hA0 k0 k1 k2 k3
    rcases TR.four _ _ _ _ hc with ⟨rfl, rfl, rfl, rfl⟩ | ⟨rfl, rfl, rfl, rfl⟩ | ⟨rfl, rfl, rfl, rfl⟩ | ⟨rfl, rfl, rfl, rfl⟩
    all_goals
      clear hc
      go_wp2_with (first | ((with_reducible refine at_load 37 ?_); refine wpList_whole rfl O 0 rfl rfl Try.underlying34 rfl (sW _) ?_) | ((with_reducible refine at_load 38 ?_); refine wpList_whole rfl O 1 rfl rfl Try.underlying34 rfl (sW _) ?_) | ((with_reducible refine at_load 39 ?_); refine wpList_whole rfl O 2 rfl rfl Try.underlying34 rfl (sW _) ?_) | (go_at_call 15; clear t0; have t1 : True := trivial; refine (CA0 _).mono ?_; rintro e w11 ⟨rfl, hb⟩; replace O := O.call hb; clear hb; (try simp only [Act.put, List.setIfInBounds_toArray, List.set_cons_zero, List.set_cons_succ])) | ((with_reducible refine at_load 44 ?_); refine wpList_whole rfl O 0 rfl rfl Try.underlying34 rfl (sW _) ?_) | ((with_reducible refine at_load 45 ?_); refine wpList_whole rfl O 1 rfl rfl Try.underlying34 rfl (sW _) ?_) | ((with_reducible refine at_load 46 ?_); refine wpList_whole rfl O 3 rfl rfl Try.underlying34 rfl (sW _) ?_) | (go_at_call 15; clear t1; have t2 : True := trivial; refine (CA1 _).mono ?_; rintro e w14 ⟨rfl, hb⟩; replace O := O.call hb; clear hb; (try simp only [Act.put, List.setIfInBounds_toArray, List.set_cons_zero, List.set_cons_succ])) | ((with_reducible refine at_load 50 ?_); refine wpList_whole rfl O 1 rfl rfl Try.underlying34 rfl (sW _) ?_) | ((with_reducible refine at_load 51 ?_); refine wpList_whole rfl O 2 rfl rfl Try.underlying34 rfl (sW _) ?_) | ((with_reducible refine at_load 52 ?_); refine wpList_whole rfl O 3 rfl rfl Try.underlying34 rfl (sW _) ?_) | (go_at_call 15; clear t2; have t3 : True := trivial; refine (CA2 _).mono ?_; rintro e w15 ⟨rfl, hb⟩; replace O := O.call hb; clear hb; (try simp only [Act.put, List.setIfInBounds_toArray, List.set_cons_zero, List.set_cons_succ])) | ((with_reducible refine at_load 57 ?_); refine wpList_whole rfl O 2 rfl rfl Try.underlying34 rfl (sW _) ?_) | ((with_reducible refine at_load 58 ?_); refine wpList_whole rfl O 0 rfl rfl Try.underlying34 rfl (sW _) ?_) | ((with_reducible refine at_load 59 ?_); refine wpList_whole rfl O 3 rfl rfl Try.underlying34 rfl (sW _) ?_) | (go_at_call 15; clear t3; have t4 : True := trivial; refine (CA3 _).mono ?_; rintro e w16 ⟨rfl, hb⟩; replace O := O.call hb; clear hb; (try simp only [Act.put, List.setIfInBounds_toArray, List.set_cons_zero, List.set_cons_succ])) | ((with_reducible refine at_load 64 ?_); refine wpList_whole rfl O 0 rfl rfl Try.underlying34 rfl (sW _) ?_) | ((with_reducible refine at_load 65 ?_); refine wpList_whole rfl O 1 rfl rfl Try.underlying34 rfl (sW _) ?_) | ((with_reducible refine at_load 66 ?_); refine wpList_whole rfl O 2 rfl rfl Try.underlying34 rfl (sW _) ?_) | (go_at_call 15; clear t4; have t5 : True := trivial; refine (CA _).mono ?_; rintro e w17 ⟨rfl, hb⟩; replace O := O.call hb; clear hb; (try simp only [Act.put, List.setIfInBounds_toArray, List.set_cons_zero, List.set_cons_succ])) | ((with_reducible refine at_load 71 ?_); refine wpList_whole rfl O 0 rfl rfl Try.underlying34 rfl (sW _) ?_) | ((with_reducible refine at_load 72 ?_); refine wpList_whole rfl O 1 rfl rfl Try.underlying34 rfl (sW _) ?_) | ((with_reducible refine at_load 73 ?_); refine wpList_whole rfl O 3 rfl rfl Try.underlying34 rfl (sW _) ?_; (try simp only [Act.put, List.setIfInBounds_toArray, List.set_cons_zero, List.set_cons_succ])) | ((with_reducible refine at_index_ 74 ?_); refine wpList_ino rfl Try.underlying41 sizeOf3 (by decide) (0) rfl rfl (rfl) (by decide) ?_; (try simp only [Act.put, List.setIfInBounds_toArray, List.set_cons_zero, List.set_cons_succ])) | ((with_reducible refine at_load 75 ?_); refine wpList_cell_h (v := .int .i64 (p0)) rfl O.held 4 rfl Cp0.out rfl agg3 rfl ?_; (try simp only [Act.put, List.setIfInBounds_toArray, List.set_cons_zero, List.set_cons_succ])) | ((with_reducible refine at_index_ 76 ?_); refine wpList_ino rfl Try.underlying41 sizeOf3 (by decide) (1) rfl rfl (rfl) (by decide) ?_; (try simp only [Act.put, List.setIfInBounds_toArray, List.set_cons_zero, List.set_cons_succ])) | ((with_reducible refine at_load 77 ?_); refine wpList_cell_h (v := .int .i64 (p1)) rfl O.held 4 rfl Cp1.out rfl agg3 rfl ?_; (try simp only [Act.put, List.setIfInBounds_toArray, List.set_cons_zero, List.set_cons_succ])) | (go_at_call 19; clear t5; have t6 : True := trivial; refine (CH1 _).mono ?_; rintro e w18 ⟨rfl, hb⟩; replace O := O.call hb; clear hb; (try simp only [Act.put, List.setIfInBounds_toArray, List.set_cons_zero, List.set_cons_succ])) | ((with_reducible refine at_load 81 ?_); refine wpList_whole rfl O 1 rfl rfl Try.underlying34 rfl (sW _) ?_) | ((with_reducible refine at_load 82 ?_); refine wpList_whole rfl O 2 rfl rfl Try.underlying34 rfl (sW _) ?_) | ((with_reducible refine at_load 83 ?_); refine wpList_whole rfl O 3 rfl rfl Try.underlying34 rfl (sW _) ?_; (try simp only [Act.put, List.setIfInBounds_toArray, List.set_cons_zero, List.set_cons_succ])) | ((with_reducible refine at_index_ 84 ?_); refine wpList_ino rfl Try.underlying41 sizeOf3 (by decide) (0) rfl rfl (rfl) (by decide) ?_; (try simp only [Act.put, List.setIfInBounds_toArray, List.set_cons_zero, List.set_cons_succ])) | ((with_reducible refine at_load 85 ?_); refine wpList_cell_h (v := .int .i64 (p0)) rfl O.held 4 rfl Cp0.out rfl agg3 rfl ?_; (try simp only [Act.put, List.setIfInBounds_toArray, List.set_cons_zero, List.set_cons_succ])) | ((with_reducible refine at_index_ 86 ?_); refine wpList_ino rfl Try.underlying41 sizeOf3 (by decide) (1) rfl rfl (rfl) (by decide) ?_; (try simp only [Act.put, List.setIfInBounds_toArray, List.set_cons_zero, List.set_cons_succ])) | ((with_reducible refine at_load 87 ?_); refine wpList_cell_h (v := .int .i64 (p1)) rfl O.held 4 rfl Cp1.out rfl agg3 rfl ?_; (try simp only [Act.put, List.setIfInBounds_toArray, List.set_cons_zero, List.set_cons_succ])) | (go_at_call 19; clear t6; have t7 : True := trivial; refine (CH2 _).mono ?_; rintro e w19 ⟨rfl, hb⟩; replace O := O.call hb; clear hb; (try simp only [Act.put, List.setIfInBounds_toArray, List.set_cons_zero, List.set_cons_succ])) | ((with_reducible refine at_load 91 ?_); refine wpList_whole rfl O 2 rfl rfl Try.underlying34 rfl (sW _) ?_) | ((with_reducible refine at_load 92 ?_); refine wpList_whole rfl O 0 rfl rfl Try.underlying34 rfl (sW _) ?_) | ((with_reducible refine at_load 93 ?_); refine wpList_whole rfl O 3 rfl rfl Try.underlying34 rfl (sW _) ?_; (try simp only [Act.put, List.setIfInBounds_toArray, List.set_cons_zero, List.set_cons_succ])) | ((with_reducible refine at_index_ 94 ?_); refine wpList_ino rfl Try.underlying41 sizeOf3 (by decide) (0) rfl rfl (rfl) (by decide) ?_; (try simp only [Act.put, List.setIfInBounds_toArray, List.set_cons_zero, List.set_cons_succ])) | ((with_reducible refine at_load 95 ?_); refine wpList_cell_h (v := .int .i64 (p0)) rfl O.held 4 rfl Cp0.out rfl agg3 rfl ?_; (try simp only [Act.put, List.setIfInBounds_toArray, List.set_cons_zero, List.set_cons_succ])) | ((with_reducible refine at_index_ 96 ?_); refine wpList_ino rfl Try.underlying41 sizeOf3 (by decide) (1) rfl rfl (rfl) (by decide) ?_; (try simp only [Act.put, List.setIfInBounds_toArray, List.set_cons_zero, List.set_cons_succ])) | ((with_reducible refine at_load 97 ?_); refine wpList_cell_h (v := .int .i64 (p1)) rfl O.held 4 rfl Cp1.out rfl agg3 rfl ?_; (try simp only [Act.put, List.setIfInBounds_toArray, List.set_cons_zero, List.set_cons_succ])) | (go_at_call 19; clear t7; have t8 : True := trivial; refine (CH3 _).mono ?_; rintro e w20 ⟨rfl, hb⟩; replace O := O.call hb; clear hb; (try simp only [Act.put, List.setIfInBounds_toArray, List.set_cons_zero, List.set_cons_succ])) | ((with_reducible refine at_load 101 ?_); refine wpList_whole rfl O 0 rfl rfl Try.underlying34 rfl (sW _) ?_) | ((with_reducible refine at_load 102 ?_); refine wpList_whole rfl O 1 rfl rfl Try.underlying34 rfl (sW _) ?_) | ((with_reducible refine at_load 103 ?_); refine wpList_whole rfl O 2 rfl rfl Try.underlying34 rfl (sW _) ?_; (try simp only [Act.put, List.setIfInBounds_toArray, List.set_cons_zero, List.set_cons_succ])) | ((with_reducible refine at_index_ 104 ?_); refine wpList_ino rfl Try.underlying41 sizeOf3 (by decide) (0) rfl rfl (rfl) (by decide) ?_; (try simp only [Act.put, List.setIfInBounds_toArray, List.set_cons_zero, List.set_cons_succ])) | ((with_reducible refine at_load 105 ?_); refine wpList_cell_h (v := .int .i64 (p0)) rfl O.held 4 rfl Cp0.out rfl agg3 rfl ?_; (try simp only [Act.put, List.setIfInBounds_toArray, List.set_cons_zero, List.set_cons_succ])) | ((with_reducible refine at_index_ 106 ?_); refine wpList_ino rfl Try.underlying41 sizeOf3 (by decide) (1) rfl rfl (rfl) (by decide) ?_; (try simp only [Act.put, List.setIfInBounds_toArray, List.set_cons_zero, List.set_cons_succ])) | ((with_reducible refine at_load 107 ?_); refine wpList_cell_h (v := .int .i64 (p1)) rfl O.held 4 rfl Cp1.out rfl agg3 rfl ?_; (try simp only [Act.put, List.setIfInBounds_toArray, List.set_cons_zero, List.set_cons_succ])) | (go_at_call 19; clear t8; have t9 : True := trivial; refine (CH0 _).mono ?_; rintro e w21 ⟨rfl, hb⟩; replace O := O.call hb; clear hb; (try simp only [Act.put, List.setIfInBounds_toArray, List.set_cons_zero, List.set_cons_succ])) | (go_at_call 10; refine (lawake20 _).mono ?_; rintro e w22 ⟨rfl, hb⟩; replace O := O.call hb; clear hb))
      go_ret
      exact ⟨rfl, O.below⟩

theorem readable : ∀ t ∈ Try.f6.params.toList, Try.prog.readableRec t = true ∧ t < Try.prog.types.size := by
  intro t ht
  rw [Try.params6] at ht
  simp only [List.mem_cons, List.not_mem_nil, or_false] at ht
  repeat (first | (rcases ht with rfl | ht; exact ⟨by kernel_rfl, of_decide_eq_true (by kernel_rfl)⟩) | (subst ht; exact ⟨by kernel_rfl, of_decide_eq_true (by kernel_rfl)⟩))
set_option maxRecDepth 100000 in
theorem lifted (os : Os) (started : os.Started) (H : Type) (enc : TypeId × Value → H) :
    ReturnsInHanded {} Try.checked os 6 .any (Rows.triCutSpec.pre6 enc Try.prog Try.f6 Rows.triCutRow.domain false) (Rows.triCutSpec.post enc Try.prog Try.f6 false true false false) := by
  refine returnsInHanded_of_change (C := Try.checked) own started (by kernel_rfl) Try.func6
    (ChangeSpec.witness6 (enc := enc) (C := Try.checked) false ⟨#[], #[.agg #[.int .i64 0, .int .i64 0, .int .i64 0, .int .i64 0, .int .i64 0, .int .i64 0], .agg #[.int .i64 0, .int .i64 0], .agg #[.int .i64 0, .int .i64 0]], []⟩ 8 (by kernel_rfl) (by kernel_rfl) (by kernel_rfl) (by kernel_rfl)) ?_
  intro W base args ds gs before hval0 hW hcnd _
  have hval : ∀ (j : Nat) t v, Try.f6.params[j]? = some t → args[j]? = some v → Value.okWide Try.prog W .any base t v := hval0
  have hW' := hW
  obtain ⟨p, q, hA0, hV, rfl, hfz, hnd⟩ := hW
  have hA : DataW.TrodAll enc Try.prog W 0 (fun _ => true) true Try.f6.params.toList args.toList ds p := hA0
  rw [Try.params6] at hA hval
  have hlt : ∀ x ∈ p ++ q, x.block < W.heap.size := fun x hx => hW'.lt x hx
  obtain ⟨v0, vs0, d0, ds0, p0, q0, hargs, rfl, rfl, h0, rr0⟩ := trodAll_cons hA
  obtain ⟨v1, vs1, d1, ds1, p1, q1, rfl, rfl, rfl, h1, rr1⟩ := trodAll_cons rr0
  obtain ⟨v2, vs2, d2, ds2, p2, q2, rfl, rfl, rfl, h2, rr2⟩ := trodAll_cons rr1
  obtain ⟨rfl, rfl, rfl⟩ := trodAll_nil rr2
  obtain rfl : args = #[v0, v1, v2] := by cases args; simp_all
  obtain ⟨rfl, rfl⟩ := trodVars_none hV
  obtain ⟨a0, rfl⟩ := openTri (hval 0 25 v0 rfl rfl) h0
  obtain ⟨a1, rfl⟩ := openPt (hval 1 23 v1 rfl rfl) h1
  obtain ⟨a2, rfl⟩ := openAt (hval 2 41 v2 rfl rfl) h2
  clear hA0 hval0
  refine (walk W a0 a1 a2).mono fun e W' ⟨he, hg⟩ => ?_
  subst he
  exact ⟨_, rfl, post_true (tb := 4) laid readable (by kernel_rfl) Try.underlying4 rfl (fun l hl => by
    match l, hl with
    | [_, _, _], _ => exact ⟨rfl, rfl, rfl⟩) hW' hg⟩

theorem over : Rows.triCutRow.holds Try.pinned (OpenSpec.ofChange Rows.triCutSpec) :=
  OpenClaim.holds_of_wide 6 Try.f6 rfl rfl rfl rfl rfl rfl rfl ⟨rfl, rfl, rfl, rfl, rfl⟩ rfl rfl rfl rfl rfl (by kernel_rfl) Try.func6 (by kernel_rfl)
    (of_decide_eq_true (by kernel_rfl)) (by unfold Func.isWrapper; first | (rw [if_pos (by decide +kernel)]; kernel_rfl) | (rw [if_neg (by decide +kernel)]; exact ⟨rfl, rfl⟩))
    (fun os started H enc _ => lifted os started H enc)

theorem proved : Rows.TriCutSaid :=
  over
#print axioms proved
end Go.Proofs.Ytndaijcgjhmiaaa.triCut
