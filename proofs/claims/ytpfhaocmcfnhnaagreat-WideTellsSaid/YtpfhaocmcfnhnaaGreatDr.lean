/- Contract: the program's Meets. -/
import Derived.Test.YtpfhaocmcfnhnaaGreatDq
namespace Go.Proofs.YtpfhaocmcfnhnaaGreat
open Go.ChangeShapes Go.WideShapes Go.ChangeAt Go.RowKit
set_option linter.unusedVariables false
set_option linter.unusedSimpArgs false

theorem eqB_two (a b c d : Int) : M.eqB 2 (DM.t2 a b) (DM.t2 c d) = decide (a = c ∧ b = d) := by
 rw [Bool.eq_iff_iff, M.eqB_iff, decide_eq_true_eq]
 exact ⟨fun h => ⟨h 0 (by omega), h 1 (by omega)⟩, fun ⟨h0, h1⟩ i hi => by
  rcases (by omega : i = 0 ∨ i = 1) with rfl | rfl
  · exact h0
  · exact h1⟩
set_option maxRecDepth 100000 in
set_option maxHeartbeats 8000000 in
theorem meets_any (a b : Nat → Int) (x y : Int) (ha : DM.Rg a) (hb : DM.Rg b) (hx : DM.Rx x y) (w_ : World) :
  Calls Tryz.prog 86 #[arr 2 a, arr 2 b, .int .i64 x, .int .i64 y] w_ fun e w' => e = .returned (.bool (DM.meets (DM.rel (a 0) x) (DM.rel (a 1) y) (DM.rel (b 0) x) (DM.rel (b 1) y))) ∧ Below w_.heap.size w_ w' := by
 have O := Own.start w_
 have CA := fun w => middle_any a x y ha hx w
 have CB := fun w => middle_any b x y hb hx w
 unfold DM.Rg at ha hb
 unfold DM.Rx at hx
 have rpu : -1610612864 ≤ DM.rel (a 0) x ∧ DM.rel (a 0) x ≤ 1610612864 := by unfold DM.rel; omega
 have rpv : -1610612864 ≤ DM.rel (a 1) y ∧ DM.rel (a 1) y ≤ 1610612864 := by unfold DM.rel; omega
 have rqu : -1610612864 ≤ DM.rel (b 0) x ∧ DM.rel (b 0) x ≤ 1610612864 := by unfold DM.rel; omega
 have rqv : -1610612864 ≤ DM.rel (b 1) y ∧ DM.rel (b 1) y ≤ 1610612864 := by unfold DM.rel; omega
 have rw_ : -1073741824 ≤ DM.rel (b 0) x - DM.rel (a 0) x ∧ DM.rel (b 0) x - DM.rel (a 0) x ≤ 1073741824 := by unfold DM.rel; omega
 have rh_ : -1073741824 ≤ DM.rel (b 1) y - DM.rel (a 1) y ∧ DM.rel (b 1) y - DM.rel (a 1) y ≤ 1073741824 := by unfold DM.rel; omega
 generalize DM.rel (a 0) x = pu at *
 generalize DM.rel (a 1) y = pv at *
 generalize DM.rel (b 0) x = qu at *
 generalize DM.rel (b 1) y = qv at *
 clear ha hb hx
 have HE := Lib.hid (DM.meets_over pu pv qu qv)
 have CP := fun h w => passes_any (DM.t2 pu pv) (DM.t2 qu qv) ⟨⟨rpu, rpv⟩, rw_, rh_⟩ h w
 have HQ := Lib.hid (eqB_two pu pv qu qv)
 replace CP := fun (h : ¬ (pu = qu ∧ pv = qv)) w => CP h w
 obtain ⟨P, hP⟩ : ∃ z, DM.passes pu pv qu qv = z := ⟨_, rfl⟩
 have CP2 : ∀ (h : ¬ (pu = qu ∧ pv = qv)) w, Calls Tryz.prog 98 #[arr 2 (DM.t2 pu pv), arr 2 (DM.t2 qu qv)] w fun e w' => e = .returned (.bool P) ∧ Below w.heap.size w w' := by
  intro h w
  rw [← hP]
  exact CP h w
 rw [hP] at HE
 clear hP CP
 have HC := Lib.hid CP2
 clear CP2
 obtain ⟨sp, hsp⟩ : ∃ z, pu + pv = z := ⟨_, rfl⟩
 have Wsp : wrap64 (pu + pv) = sp := by rw [← hsp]; exact IntWalk.wrap64_in _ (by omega)
 obtain ⟨sq, hsq⟩ : ∃ z, qu + qv = z := ⟨_, rfl⟩
 have Wsq : wrap64 (qu + qv) = sq := by rw [← hsq]; exact IntWalk.wrap64_in _ (by omega)
 obtain ⟨dp, hdp⟩ : ∃ z, pu - pv = z := ⟨_, rfl⟩
 have Wdp : wrap64 (pu - pv) = dp := by rw [← hdp]; exact IntWalk.wrap64_in _ (by omega)
 obtain ⟨dq, hdq⟩ : ∃ z, qu - qv = z := ⟨_, rfl⟩
 have Wdq : wrap64 (qu - qv) = dq := by rw [← hdq]; exact IntWalk.wrap64_in _ (by omega)
 have C1 := fun w => over_any sp sq w
 have C2 := fun w => over_any dp dq w
 rw [hsp, hsq, hdp, hdq] at HE
 clear hsp hsq hdp hdq rpu rpv rqu rqv rw_ rh_
 obtain ⟨m0, hm0⟩ : ∃ z, DM.meets pu pv qu qv = z := ⟨_, rfl⟩
 rw [hm0] at HE ⊢
 clear hm0
 obtain ⟨o1, ho1⟩ : ∃ z, DM.over sp sq = z := ⟨_, rfl⟩
 rw [ho1] at HE C1
 clear ho1
 obtain ⟨o2, ho2⟩ : ∃ z, DM.over dp dq = z := ⟨_, rfl⟩
 rw [ho2] at HE C2
 clear ho2
 obtain ⟨q, hq⟩ : ∃ z, decide (pu = qu ∧ pv = qv) = z := ⟨_, rfl⟩
 rw [hq] at HE HQ
 have HN : Hid (q = false → ¬ (pu = qu ∧ pv = qv)) := Lib.hid (fun h => by rw [h] at hq; exact of_decide_eq_false hq)
 clear hq
 have CP0 := cell_is (n := 2) (a := DM.t2 pu pv) (i := 0) (z := pu) rfl (by decide)
 have CP1 := cell_is (n := 2) (a := DM.t2 pu pv) (i := 1) (z := pv) rfl (by decide)
 have CQ0 := cell_is (n := 2) (a := DM.t2 qu qv) (i := 0) (z := qu) rfl (by decide)
 have CQ1 := cell_is (n := 2) (a := DM.t2 qu qv) (i := 1) (z := qv) rfl (by decide)
 have FS := Lib.hid (And.intro Wsp (And.intro Wsq (And.intro Wdp Wdq)))
 clear Wsp Wsq Wdp Wdq
 have tok0 : True := trivial
 go_enter Tryz.func86, Tryz.ntmps86
 go_wp2_with (first | ((with_reducible refine at_box 4 ?_); refine wpList_box_own O (M.mat 2 (a)) rfl ?_; clear O; intro g4 w1 O) | ((with_reducible refine at_box 5 ?_); refine wpList_box_own O (M.mat 2 (b)) rfl ?_; clear O; intro g5 w2 O))
 have OO := O
 clear O
 have O := OO
 clear OO
 refine region_T ((fun w2 => Own w_ w2 [(g5, 44, M.mat 2 b), (g4, 44, M.mat 2 a)])) [0, 1, 2, 3, 4, 5, 6, 7] 12 [some 9, some 10, some 11, some 12, some 13, some 14, some 15, some 16] [arr 2 a, .int .i64 x, .int .i64 y, arr 2 (DM.t2 pu pv), arr 2 b, .int .i64 x, .int .i64 y, arr 2 (DM.t2 qu qv)] 2 (by kernel_rfl) (by rfl) (by kernel_rfl) (by rfl) (by rfl) (O.drew) (fun F hF => ?_)
 simp only [fillD, Act.put, List.setIfInBounds_toArray, List.set_cons_zero, List.set_cons_succ] at hF
 subst hF
 refine ⟨⟨does_want rfl (by rfl) (fun w' O K hK => ?_), does_want rfl (by rfl) (fun w' O K hK => ?_), does_want rfl (by rfl) (fun w' O K hK => ?_), does_want rfl (by rfl) (fun w' O K hK => ?_), does_want rfl (by rfl) (fun w' O K hK => ?_), does_want rfl (by rfl) (fun w' O K hK => ?_), does_want rfl (by rfl) (fun w' O K hK => ?_), does_want rfl (by rfl) (fun w' O K hK => ?_), trivial⟩, fun w' O => ?_⟩
 · exact wp_whole O 1 rfl rfl Tryz.underlying44 rfl (sP _) (hK _ O)
 ·
  go_simp
  exact hK _ O
 ·
  go_simp
  exact hK _ O
 ·
  go_simp
  go_at_call 96
  refine (CA _).mono ?_
  rintro e w2 ⟨rfl, hb⟩
  exact hK _ (O.call hb)
 · exact wp_whole O 0 rfl rfl Tryz.underlying44 rfl (sP _) (hK _ O)
 ·
  go_simp
  exact hK _ O
 ·
  go_simp
  exact hK _ O
 ·
  go_simp
  go_at_call 96
  refine (CB _).mono ?_
  rintro e w2 ⟨rfl, hb⟩
  exact hK _ (O.call hb)
 refine wpAny_want (i := 8) (by kernel_rfl) rfl (by rfl) (fun K hK => ?_)
 refine wp_put_own O 1 (M.mat 2 (DM.t2 pu pv)) rfl rfl rfl (sP _) (M.mat_len2 _ _ _) (M.mat_one _ _) fun w9 O9 => hK _ _ ?_
 clear O
 have O := O9
 clear O9
 clear hK K
 try simp only [Act.put, List.setIfInBounds_toArray, List.set_cons_zero, List.set_cons_succ]
 refine wpAny_want (i := 9) (by kernel_rfl) rfl (by rfl) (fun K hK => ?_)
 refine wp_put_own O 0 (M.mat 2 (DM.t2 qu qv)) rfl rfl rfl (sP _) (M.mat_len2 _ _ _) (M.mat_one _ _) fun w9 O9 => hK _ _ ?_
 clear O
 have O := O9
 clear O9
 clear hK K
 try simp only [Act.put, List.setIfInBounds_toArray, List.set_cons_zero, List.set_cons_succ]
 refine wpAny_done (by kernel_rfl) ?_ _
 have O9 := Own.as O (l' := [(g5, 44, M.mat 2 (DM.t2 qu qv)), (g4, 44, M.mat 2 (DM.t2 pu pv))]) rfl
 clear O CA CB
 have O := O9
 clear O9
 have Wsp := FS.out.1
 have Wsq := FS.out.2.1
 have Wdp := FS.out.2.2.1
 have Wdq := FS.out.2.2.2
 cases o1
 ·
  clear C2 HC HN HQ
  rw [Bool.false_and] at HE
  go_wp2_with (first | ((with_reducible refine at_load 18 ?_); refine wpList_cell_h (v := .int .i64 (pu)) rfl O.held 1 rfl CP0.out rfl agg3 rfl ?_) | ((with_reducible refine at_load 20 ?_); refine wpList_cell_h (v := .int .i64 (pv)) rfl O.held 1 rfl CP1.out rfl agg3 rfl ?_) | ((with_reducible refine at_load 23 ?_); refine wpList_cell_h (v := .int .i64 (qu)) rfl O.held 0 rfl CQ0.out rfl agg3 rfl ?_) | ((with_reducible refine at_load 25 ?_); refine wpList_cell_h (v := .int .i64 (qv)) rfl O.held 0 rfl CQ1.out rfl agg3 rfl ?_) | (go_at_call 97; clear tok0; have tok1 : True := trivial; refine (C1 _).mono ?_; rintro e w' ⟨rfl, hw⟩; obtain rfl := hw.symm; clear hw))
  go_ret
  exact ⟨by rw [HE.out]; rfl, O.below⟩
 ·
  rw [Bool.true_and] at HE
  cases o2
  ·
   clear HC HN HQ
   rw [Bool.false_and] at HE
   go_wp2_with (first | ((with_reducible first | refine at_load 18 ?_ | refine at_load 30 ?_); refine wpList_cell_h (v := .int .i64 (pu)) rfl O.held 1 rfl CP0.out rfl agg3 rfl ?_) | ((with_reducible first | refine at_load 20 ?_ | refine at_load 32 ?_); refine wpList_cell_h (v := .int .i64 (pv)) rfl O.held 1 rfl CP1.out rfl agg3 rfl ?_) | ((with_reducible first | refine at_load 23 ?_ | refine at_load 35 ?_); refine wpList_cell_h (v := .int .i64 (qu)) rfl O.held 0 rfl CQ0.out rfl agg3 rfl ?_) | ((with_reducible first | refine at_load 25 ?_ | refine at_load 37 ?_); refine wpList_cell_h (v := .int .i64 (qv)) rfl O.held 0 rfl CQ1.out rfl agg3 rfl ?_) | (go_at_call 97; clear tok0; have tok1 : True := trivial; refine (C1 _).mono ?_; rintro e w' ⟨rfl, hw⟩; obtain rfl := hw.symm; clear hw) | (go_at_call 97; clear tok1; have tok2 : True := trivial; refine (C2 _).mono ?_; rintro e w' ⟨rfl, hw⟩; obtain rfl := hw.symm; clear hw))
   go_ret
   exact ⟨by rw [HE.out]; rfl, O.below⟩
  ·
   rw [Bool.true_and] at HE
   cases q
   ·
    have CP := HC.out (HN.out rfl)
    clear HC HN
    rw [Bool.false_or] at HE
    go_wp2_with (first | ((with_reducible first | refine at_load 18 ?_ | refine at_load 30 ?_); refine wpList_cell_h (v := .int .i64 (pu)) rfl O.held 1 rfl CP0.out rfl agg3 rfl ?_) | ((with_reducible first | refine at_load 20 ?_ | refine at_load 32 ?_); refine wpList_cell_h (v := .int .i64 (pv)) rfl O.held 1 rfl CP1.out rfl agg3 rfl ?_) | ((with_reducible first | refine at_load 23 ?_ | refine at_load 35 ?_); refine wpList_cell_h (v := .int .i64 (qu)) rfl O.held 0 rfl CQ0.out rfl agg3 rfl ?_) | ((with_reducible first | refine at_load 25 ?_ | refine at_load 37 ?_); refine wpList_cell_h (v := .int .i64 (qv)) rfl O.held 0 rfl CQ1.out rfl agg3 rfl ?_) | (go_at_call 97; clear tok0; have tok1 : True := trivial; refine (C1 _).mono ?_; rintro e w' ⟨rfl, hw⟩; obtain rfl := hw.symm; clear hw) | (go_at_call 97; clear tok1; have tok2 : True := trivial; refine (C2 _).mono ?_; rintro e w' ⟨rfl, hw⟩; obtain rfl := hw.symm; clear hw) | ((with_reducible first | refine at_load 42 ?_ | refine at_load 46 ?_); refine wpList_whole rfl O 1 rfl rfl Tryz.underlying44 rfl (sP _) ?_) | ((with_reducible first | refine at_load 43 ?_ | refine at_load 47 ?_); refine wpList_whole rfl O 0 rfl rfl Tryz.underlying44 rfl (sP _) ?_) | ((with_reducible refine at_binOp 44 ?_); refine wpList_eqP rfl (DM.t2 pu pv) (DM.t2 qu qv) rfl rfl ?_; rw [HQ.out]) | (go_at_call 98; refine (CP _).mono ?_; rintro e w5 ⟨rfl, hb⟩; replace O := O.call hb; clear hb))
    go_ret
    exact ⟨by rw [HE.out]; rfl, O.below⟩
   ·
    clear HC HN
    rw [Bool.true_or] at HE
    go_wp2_with (first | ((with_reducible first | refine at_load 18 ?_ | refine at_load 30 ?_); refine wpList_cell_h (v := .int .i64 (pu)) rfl O.held 1 rfl CP0.out rfl agg3 rfl ?_) | ((with_reducible first | refine at_load 20 ?_ | refine at_load 32 ?_); refine wpList_cell_h (v := .int .i64 (pv)) rfl O.held 1 rfl CP1.out rfl agg3 rfl ?_) | ((with_reducible first | refine at_load 23 ?_ | refine at_load 35 ?_); refine wpList_cell_h (v := .int .i64 (qu)) rfl O.held 0 rfl CQ0.out rfl agg3 rfl ?_) | ((with_reducible first | refine at_load 25 ?_ | refine at_load 37 ?_); refine wpList_cell_h (v := .int .i64 (qv)) rfl O.held 0 rfl CQ1.out rfl agg3 rfl ?_) | (go_at_call 97; clear tok0; have tok1 : True := trivial; refine (C1 _).mono ?_; rintro e w' ⟨rfl, hw⟩; obtain rfl := hw.symm; clear hw) | (go_at_call 97; clear tok1; have tok2 : True := trivial; refine (C2 _).mono ?_; rintro e w' ⟨rfl, hw⟩; obtain rfl := hw.symm; clear hw) | ((with_reducible refine at_load 42 ?_); refine wpList_whole rfl O 1 rfl rfl Tryz.underlying44 rfl (sP _) ?_) | ((with_reducible refine at_load 43 ?_); refine wpList_whole rfl O 0 rfl rfl Tryz.underlying44 rfl (sP _) ?_) | ((with_reducible refine at_binOp 44 ?_); refine wpList_eqP rfl (DM.t2 pu pv) (DM.t2 qu qv) rfl rfl ?_; rw [HQ.out]))
    go_ret
    exact ⟨by rw [HE.out]; rfl, O.below⟩
end Go.Proofs.YtpfhaocmcfnhnaaGreat
