/-
  For every two stacks of matrices, every matrix and every int the law StackTells returns true: whether the stacks may be, and what each call makes of them, is the document's. No condition.
-/
import Derived.Test.YthcieapfpgejdaaRow
import Derived.Test.YthcieapfpgejdaaTells6
import Derived.Deep.DeepCutAuto
namespace Go.Proofs.Ythcieapfpgejdaa.stackTells
open Go.ChangeShapes Go.WideShapes Go.ChangeAt Go.RowKit
set_option linter.unusedVariables false
set_option linter.unusedSimpArgs false

theorem own : ownKnob Try.prog.godebug = none := by kernel_rfl

set_option maxRecDepth 100000 in
set_option maxHeartbeats 8000000 in
theorem walk (w : World) (m : Int) (L : Nat → Ent) (x : Nat → Int) (d : Int) (hL : ∀ i, i < 2 → Lies w [] (L i)) :
    Calls Try.prog 3 #[.agg (sv m L).toArray, arr 16 x, .int .i64 d] w fun e w' => e = .returned (.bool true) ∧ Below w.heap.size w w' := by
  have O := OwnL.start w [] (by simp)
  have hu2 := Try.underlying25
  have hu3 := Try.underlying27
  have HL := Lib.hid hL
  clear hL
  go_enter Try.func3, Try.ntmps3
  cases hsm : (decide ((L 0).l.length ≤ 12) && decide ((L 1).l.length ≤ 12))
  · have HSM := Lib.hid hsm
    clear hsm
    go_wp2_with (first | ((with_reducible refine at_box 3 ?_); refine wpList_box_ls O (sv m L) rfl ?_; clear O; intro g3 w1 O) | ((with_reducible refine at_box 4 ?_); refine wpList_box_ls O (M.mat 16 x) rfl ?_; clear O; intro g4 w2 O) | ((with_reducible refine at_load 15 ?_); refine wpList_rowg_ls rfl O 1 rfl rfl Try.underlying25 rfl (s25 _ _) ?_) | (go_at_call 7; refine (small_any m L _).mono ?_; rw [HSM.out]; rintro e w6 ⟨rfl, hb⟩; replace O := O.call hb; clear hb) | (go_at_call 8; refine (awake_any _).mono ?_; rintro e w6 ⟨rfl, hb⟩; replace O := O.call hb; clear hb))
    go_ret
    exact ⟨rfl, O.below⟩
  have HSM := Lib.hid hsm
  clear hsm
  obtain ⟨t0, ht0⟩ : ∃ p, Stk.top (stk m L) d = p := ⟨_, rfl⟩
  obtain ⟨p1, hp1⟩ : ∃ p, Stk.choose (stk m L) d = p := ⟨_, rfl⟩
  obtain ⟨p2, hp2⟩ : ∃ p, Stk.load (stk m L) x = p := ⟨_, rfl⟩
  obtain ⟨p3, hp3⟩ : ∃ p, Stk.mult (stk m L) x = p := ⟨_, rfl⟩
  obtain ⟨p4, hp4⟩ : ∃ p, Stk.push (stk m L) = p := ⟨_, rfl⟩
  obtain ⟨p5, hp5⟩ : ∃ p, Stk.pop (stk m L) = p := ⟨_, rfl⟩
  have s1 : Hid (Stk.short p1.1) := by show Stk.short _; rw [← hp1]; exact Stk.short_choose _ _
  have s2 : Hid (Stk.short p2.1) := by show Stk.short _; rw [← hp2]; exact Stk.short_load _ _
  have s3 : Hid (Stk.short p3.1) := by show Stk.short _; rw [← hp3]; exact Stk.short_mult _ _
  have s4 : Hid (Stk.short p4.1) := by show Stk.short _; rw [← hp4]; exact Stk.short_push _
  have s5 : Hid (Stk.short p5.1) := by show Stk.short _; rw [← hp5]; exact Stk.short_pop _
  obtain ⟨r, hr⟩ : ∃ r, Stk.right (stk m L) = r := ⟨_, rfl⟩
  have HT := Lib.hid ht0
  have H1 := Lib.hid hp1
  have H2 := Lib.hid hp2
  have H3 := Lib.hid hp3
  have H4 := Lib.hid hp4
  have H5 := Lib.hid hp5
  have HR := Lib.hid hr
  clear ht0 hp1 hp2 hp3 hp4 hp5 hr
  go_wp2_with (first | ((with_reducible refine at_box 3 ?_); refine wpList_box_ls O (sv m L) rfl ?_; clear O; intro g3 w1 O) | ((with_reducible refine at_box 4 ?_); refine wpList_box_ls O (M.mat 16 x) rfl ?_; clear O; intro g4 w2 O) | ((with_reducible refine at_load 15 ?_); refine wpList_rowg_ls rfl O 1 rfl rfl Try.underlying25 rfl (s25 _ _) ?_) | (go_at_call 7; refine (small_any m L _).mono ?_; rw [HSM.out]; rintro e w6 ⟨rfl, hb⟩; replace O := O.call hb; clear hb) | ((with_reducible refine at_load 20 ?_); refine wpList_rowg_ls rfl O 1 rfl rfl Try.underlying25 rfl (s25 _ _) ?_) | (go_at_call 9; refine (top_any m L d _ (fun i hi => O.old (HL.out i hi))).mono ?_; rw [HT.out]; rintro e w6 ⟨rfl, hb⟩; replace O := O.call hb; clear hb) | ((with_reducible refine at_alloc 7 ?_); refine wpList_alloc_ls O (M.mat 16 M.zero) zero23 ?_; clear O; intro g7 w7 O) | ((with_reducible refine at_store 7 ?_); refine wpList_put_ls O 0 (M.mat 16 (t0.1)) rfl rfl rfl (s23 _) (M.mat_len2 _ _ _) (M.mat_one _ _) ?_; clear O; intro w7 O) | ((with_reducible refine at_load 26 ?_); refine wpList_rowg_ls rfl O 2 rfl rfl Try.underlying25 rfl (s25 _ _) ?_) | (go_at_call 10; refine (rtop_any m L d _ (fun i hi => O.old (HL.out i hi))).mono ?_; rw [HT.out]; rintro e w6 ⟨rfl, hb⟩; replace O := O.call hb; clear hb) | ((with_reducible refine at_alloc 9 ?_); refine wpList_alloc_ls O (M.mat 16 M.zero) zero23 ?_; clear O; intro g9 w9 O) | ((with_reducible refine at_store 9 ?_); refine wpList_put_ls O 0 (M.mat 16 (t0.1)) rfl rfl rfl (s23 _) (M.mat_len2 _ _ _) (M.mat_one _ _) ?_; clear O; intro w9 O) | ((with_reducible refine at_load 32 ?_); refine wpList_rowg_ls rfl O 3 rfl rfl Try.underlying25 rfl (s25 _ _) ?_) | (go_at_call 11; refine (choose_any m L d _ (fun i hi => O.old (HL.out i hi))).mono ?_; rw [H1.out]; rintro e w6 ⟨v, rfl, hv, hb⟩; obtain ⟨C, rfl, hC, O2⟩ := O.gainS hv hb; clear O hv hb; have O := O2; clear O2; have hsh := s1.out) | ((with_reducible refine at_alloc 11 ?_); refine wpList_alloc_ls O (sv 0 (noL 0)) zero25 ?_; clear O; intro g11 w11 O) | ((with_reducible refine at_store 11 ?_); refine wpList_put_ls O 0 (sv _ C) rfl rfl rfl (s25 _ _) (sv_len _ _ _ _) (sv_one _ _) ?_; clear O; intro w9 O) | ((with_reducible refine at_load 38 ?_); refine wpList_rowg_ls rfl O 4 rfl rfl Try.underlying25 rfl (s25 _ _) ?_) | (go_at_call 12; refine (rchoose_any m L d _ (fun i hi => O.old (HL.out i hi))).mono ?_; rw [H1.out]; rintro e w6 ⟨v, rfl, hv, hb⟩; obtain ⟨D, rfl, hD, O2⟩ := O.gainS hv hb; clear O hv hb; have O := O2; clear O2) | ((with_reducible refine at_alloc 13 ?_); refine wpList_alloc_ls O (sv 0 (noL 0)) zero25 ?_; clear O; intro g13 w13 O) | ((with_reducible refine at_store 13 ?_); refine wpList_put_ls O 0 (sv _ D) rfl rfl rfl (s25 _ _) (sv_len _ _ _ _) (sv_one _ _) ?_; clear O; intro w9 O) | ((with_reducible refine at_load 43 ?_); refine wpList_rowg_ls rfl O 3 rfl rfl Try.underlying27 rfl (s23 _) ?_) | ((with_reducible refine at_load 44 ?_); refine wpList_rowg_ls rfl O 2 rfl rfl Try.underlying27 rfl (s23 _) ?_) | ((with_reducible refine at_binOp 45 ?_); refine wpList_neq_mat (by rfl) Try.underlying27 Try.eqGuardType27 t0.1 t0.1 rfl rfl ?_; rw [M.eqB_refl]) | ((with_reducible refine at_load 52 ?_); refine wpList_rowg_ls rfl O 1 rfl rfl Try.underlying25 rfl (s25 _ _) ?_) | ((with_reducible refine at_load 53 ?_); refine wpList_rowg_ls rfl O 0 rfl rfl Try.underlying25 rfl (s25 _ _) ?_) | (go_at_call 13; refine (same_any _ C D _ O.two2 O.twoL (fun i hi => ((hD i hi).2).trans ((hC i hi).2).symm) (fun i hi => by rw [(hC i hi).2]; exact hsh i hi)).mono ?_; rintro e w6 ⟨rfl, hb⟩; replace O := O.call hb; clear hb) | ((with_reducible refine at_load 63 ?_); refine wpList_rowg_ls rfl O 5 rfl rfl Try.underlying25 rfl (s25 _ _) ?_) | ((with_reducible refine at_load 64 ?_); refine wpList_rowg_ls rfl O 4 rfl rfl Try.underlying27 rfl (s23 _) ?_) | (go_at_call 14; refine (load_any m L x _ (fun i hi => O.old (HL.out i hi))).mono ?_; rw [H2.out]; rintro e w6 ⟨v, rfl, hv, hb⟩; obtain ⟨C, rfl, hC, O2⟩ := O.gainS hv hb; clear O hv hb; have O := O2; clear O2; have hsh := s2.out) | ((with_reducible refine at_store 11 ?_); refine wpList_put_ls O 1 (sv _ C) rfl rfl rfl (s25 _ _) (sv_len _ _ _ _) (sv_one _ _) ?_; clear O; intro w9 O) | ((with_reducible refine at_load 69 ?_); refine wpList_rowg_ls rfl O 5 rfl rfl Try.underlying25 rfl (s25 _ _) ?_) | ((with_reducible refine at_load 70 ?_); refine wpList_rowg_ls rfl O 4 rfl rfl Try.underlying27 rfl (s23 _) ?_) | (go_at_call 15; refine (rload_any m L x _ (fun i hi => O.old (HL.out i hi))).mono ?_; rw [H2.out]; rintro e w6 ⟨v, rfl, hv, hb⟩; obtain ⟨D, rfl, hD, O2⟩ := O.gainS hv hb; clear O hv hb; have O := O2; clear O2) | ((with_reducible refine at_load 74 ?_); refine wpList_rowg_ls rfl O 1 rfl rfl Try.underlying25 rfl (s25 _ _) ?_) | ((with_reducible refine at_load 75 ?_); refine wpList_rowg_ls rfl O 0 rfl rfl Try.underlying25 rfl (s25 _ _) ?_) | ((with_reducible refine at_load 84 ?_); refine wpList_rowg_ls rfl O 5 rfl rfl Try.underlying25 rfl (s25 _ _) ?_) | ((with_reducible refine at_load 85 ?_); refine wpList_rowg_ls rfl O 4 rfl rfl Try.underlying27 rfl (s23 _) ?_) | (go_at_call 16; refine (mult_any m L x _ (fun i hi => O.old (HL.out i hi))).mono ?_; rw [H3.out]; rintro e w6 ⟨v, rfl, hv, hb⟩; obtain ⟨C, rfl, hC, O2⟩ := O.gainS hv hb; clear O hv hb; have O := O2; clear O2; have hsh := s3.out) | ((with_reducible refine at_load 90 ?_); refine wpList_rowg_ls rfl O 5 rfl rfl Try.underlying25 rfl (s25 _ _) ?_) | ((with_reducible refine at_load 91 ?_); refine wpList_rowg_ls rfl O 4 rfl rfl Try.underlying27 rfl (s23 _) ?_) | (go_at_call 17; refine (rmult_any m L x _ (fun i hi => O.old (HL.out i hi))).mono ?_; rw [H3.out]; rintro e w6 ⟨v, rfl, hv, hb⟩; obtain ⟨D, rfl, hD, O2⟩ := O.gainS hv hb; clear O hv hb; have O := O2; clear O2) | ((with_reducible refine at_load 95 ?_); refine wpList_rowg_ls rfl O 1 rfl rfl Try.underlying25 rfl (s25 _ _) ?_) | ((with_reducible refine at_load 96 ?_); refine wpList_rowg_ls rfl O 0 rfl rfl Try.underlying25 rfl (s25 _ _) ?_) | ((with_reducible refine at_load 105 ?_); refine wpList_rowg_ls rfl O 5 rfl rfl Try.underlying25 rfl (s25 _ _) ?_) | (go_at_call 18; refine (push_any m L _ (fun i hi => O.old (HL.out i hi))).mono ?_; rw [H4.out]; rintro e w6 ⟨v, rfl, hv, hb⟩; obtain ⟨C, rfl, hC, O2⟩ := O.gainS hv hb; clear O hv hb; have O := O2; clear O2; have hsh := s4.out) | ((with_reducible refine at_load 110 ?_); refine wpList_rowg_ls rfl O 5 rfl rfl Try.underlying25 rfl (s25 _ _) ?_) | (go_at_call 19; refine (rpush_any m L _ (fun i hi => O.old (HL.out i hi))).mono ?_; rw [H4.out]; rintro e w6 ⟨v, rfl, hv, hb⟩; obtain ⟨D, rfl, hD, O2⟩ := O.gainS hv hb; clear O hv hb; have O := O2; clear O2) | ((with_reducible refine at_load 114 ?_); refine wpList_rowg_ls rfl O 1 rfl rfl Try.underlying25 rfl (s25 _ _) ?_) | ((with_reducible refine at_load 115 ?_); refine wpList_rowg_ls rfl O 0 rfl rfl Try.underlying25 rfl (s25 _ _) ?_) | ((with_reducible refine at_load 124 ?_); refine wpList_rowg_ls rfl O 5 rfl rfl Try.underlying25 rfl (s25 _ _) ?_) | (go_at_call 20; refine (pop_any m L _ (fun i hi => O.old (HL.out i hi))).mono ?_; rw [H5.out]; rintro e w6 ⟨v, rfl, hv, hb⟩; obtain ⟨C, rfl, hC, O2⟩ := O.gainS hv hb; clear O hv hb; have O := O2; clear O2; have hsh := s5.out) | ((with_reducible refine at_load 129 ?_); refine wpList_rowg_ls rfl O 5 rfl rfl Try.underlying25 rfl (s25 _ _) ?_) | (go_at_call 21; refine (rpop_any m L _ (fun i hi => O.old (HL.out i hi))).mono ?_; rw [H5.out]; rintro e w6 ⟨v, rfl, hv, hb⟩; obtain ⟨D, rfl, hD, O2⟩ := O.gainS hv hb; clear O hv hb; have O := O2; clear O2))
  have O2 : OwnL w w9 [(g13, 25, sv p5.1.m D), (g11, 25, sv p5.1.m C), (g9, 27, M.mat 16 t0.1), (g7, 27, M.mat 16 t0.1), (g4, 27, M.mat 16 x), (g3, 25, sv m L)] [D 0, D 1, C 0, C 1] := O.pick (fun y hy => by
    simp only [List.mem_cons, List.not_mem_nil, or_false] at hy
    rcases hy with rfl | rfl | rfl | rfl
    · simp
    · simp
    · simp
    · simp)
  clear O
  have O := O2
  clear O2
  refine region_S (fun st w2 => NewsSt w [(g13, 25, sv p5.1.m D), (g11, 25, sv p5.1.m C), (g9, 27, M.mat 16 t0.1), (g7, 27, M.mat 16 t0.1), (g4, 27, M.mat 16 x), (g3, 25, sv m L)] [D 0, D 1, C 0, C 1] (st 19) (st 20) w2) [19, 20] 12 23 [some 133, some 134, some 135, some 136, some 137, some 138, some 139, some 140, some 141, some 142, some 143, some 144, some 145, some 146, some 147, some 148, some 149, some 150, some 151, some 152, some 153, some 154, some 155] (fun g => [.bool true, .bool true, .agg (sv p5.1.m C).toArray, .agg (sv p5.1.m D).toArray, .bool true, .bool true, .bool true, .int .i64 p5.2, .int .i64 p5.2, .bool true, .bool true, .bool true, .agg (sv m L).toArray, .bool r, .agg (sv m L).toArray, .bool r, .bool true, .bool true, .bool true, g 19, g 20, .bool true, .bool true]) 1 (by kernel_rfl) (by kernel_rfl) (by rfl) (by rfl) (fun _ => rfl) (by decide) ?_ (⟨_, O.drew, fun _ h => h, fun _ h => (nomatch h), fun _ h => (nomatch h)⟩) (fun F hF => ?_)
  · intro i hi
    simp only [List.mem_cons, List.not_mem_nil, or_false] at hi
    rcases hi with rfl | rfl
    · exact ⟨fun _ => rfl, [0, 1, 2, 3, 4, 5, 6, 7, 8, 9, 10, 11, 12, 13, 14, 15, 16, 17, 18, 20, 21, 22], by kernel_rfl, fun g v => ⟨rfl, rfl, rfl, rfl, rfl, rfl, rfl, rfl, rfl, rfl, rfl, rfl, rfl, rfl, rfl, rfl, rfl, rfl, rfl, rfl, rfl, rfl, trivial⟩⟩
    · exact ⟨fun _ => rfl, [0, 1, 2, 3, 4, 5, 6, 7, 8, 9, 10, 11, 12, 13, 14, 15, 16, 17, 18, 19, 21, 22], by kernel_rfl, fun g v => ⟨rfl, rfl, rfl, rfl, rfl, rfl, rfl, rfl, rfl, rfl, rfl, rfl, rfl, rfl, rfl, rfl, rfl, rfl, rfl, rfl, rfl, rfl, trivial⟩⟩
  simp only [fillD, Act.put, List.setIfInBounds_toArray, List.set_cons_zero, List.set_cons_succ] at hF
  have hF2 := funext hF
  clear hF
  subst hF2
  refine ⟨⟨doesN_want (by decide) rfl (fun g => rfl) (fun st w' hS hp K hK => ?_), doesN_want (by decide) rfl (fun g => rfl) (fun st w' hS hp K hK => ?_), doesN_want (by decide) rfl (fun g => rfl) (fun st w' hS hp K hK => ?_), doesN_want (by decide) rfl (fun g => rfl) (fun st w' hS hp K hK => ?_), doesN_want (by decide) rfl (fun g => rfl) (fun st w' hS hp K hK => ?_), doesN_want (by decide) rfl (fun g => rfl) (fun st w' hS hp K hK => ?_), doesN_want (by decide) rfl (fun g => rfl) (fun st w' hS hp K hK => ?_), doesN_want (by decide) rfl (fun g => rfl) (fun st w' hS hp K hK => ?_), doesN_want (by decide) rfl (fun g => rfl) (fun st w' hS hp K hK => ?_), doesN_want (by decide) rfl (fun g => rfl) (fun st w' hS hp K hK => ?_), doesN_want (by decide) rfl (fun g => rfl) (fun st w' hS hp K hK => ?_), doesN_want (by decide) rfl (fun g => rfl) (fun st w' hS hp K hK => ?_), doesN_want (by decide) rfl (fun g => rfl) (fun st w' hS hp K hK => ?_), doesN_want (by decide) rfl (fun g => rfl) (fun st w' hS hp K hK => ?_), doesN_want (by decide) rfl (fun g => rfl) (fun st w' hS hp K hK => ?_), doesN_want (by decide) rfl (fun g => rfl) (fun st w' hS hp K hK => ?_), doesN_want (by decide) rfl (fun g => rfl) (fun st w' hS hp K hK => ?_), doesN_want (by decide) rfl (fun g => rfl) (fun st w' hS hp K hK => ?_), doesN_want (by decide) rfl (fun g => rfl) (fun st w' hS hp K hK => ?_), doesC_want (by decide) rfl (fun g => rfl) (fun st w' hS hn hp K hK => ?_), doesC_want (by decide) rfl (fun g => rfl) (fun st w' hS hn hp K hK => ?_), doesN_want (by decide) rfl (fun g => rfl) (fun st w' hS hp K hK => ?_), doesN_want (by decide) rfl (fun g => rfl) (fun st w' hS hp K hK => ?_), trivial⟩, fun st w' hS hall => ?_⟩
  · try dsimp only
    go_simp
    go_at_call 8
    refine (awake_any _).mono ?_
    rintro e w6 ⟨rfl, hb⟩
    exact hK _ (hS.call hb)
  · try dsimp only
    go_simp
    exact hK _ hS
  · try dsimp only
    exact wp_row_ls hS.own 1 rfl rfl Try.underlying25 rfl (s25 _ _) (hK _ hS)
  · try dsimp only
    exact wp_row_ls hS.own 0 rfl rfl Try.underlying25 rfl (s25 _ _) (hK _ hS)
  · try dsimp only
    have O := hS.own
    go_simp
    go_at_call 13
    refine (same_any _ C D _ O.two2 O.twoL (fun i hi => ((hD i hi).2).trans ((hC i hi).2).symm) (fun i hi => by rw [(hC i hi).2]; exact hsh i hi)).mono ?_
    rintro e w6 ⟨rfl, hb⟩
    exact hK _ (hS.call hb)
  · try dsimp only
    go_simp
    exact hK _ hS
  · try dsimp only
    go_simp
    exact hK _ hS
  · try dsimp only
    go_simp
    exact hK _ hS
  · try dsimp only
    go_simp
    exact hK _ hS
  · try dsimp only
    have gq : (p5.2 == p5.2) = true := by simp
    go_simp
    exact hK _ hS
  · try dsimp only
    go_simp
    exact hK _ hS
  · try dsimp only
    go_simp
    exact hK _ hS
  · try dsimp only
    exact wp_row_ls hS.own 5 rfl rfl Try.underlying25 rfl (s25 _ _) (hK _ hS)
  · try dsimp only
    have O := hS.own
    go_simp
    go_at_call 22
    refine (right6_any m L _ (fun i hi => O.old (HL.out i hi))).mono ?_
    rw [HR.out]
    rintro e w6 ⟨rfl, hb⟩
    exact hK _ (hS.call hb)
  · try dsimp only
    exact wp_row_ls hS.own 5 rfl rfl Try.underlying25 rfl (s25 _ _) (hK _ hS)
  · try dsimp only
    have O := hS.own
    go_simp
    go_at_call 23
    refine (rright6_any m L _ (fun i hi => O.old (HL.out i hi))).mono ?_
    rw [HR.out]
    rintro e w6 ⟨rfl, hb⟩
    exact hK _ (hS.call hb)
  · try dsimp only
    have gq : (r == r) = true := by simp
    go_simp
    exact hK _ hS
  · try dsimp only
    go_simp
    exact hK _ hS
  · try dsimp only
    go_simp
    exact hK _ hS
  · try dsimp only
    go_simp
    go_at_call 24
    refine (new_any _).mono ?_
    rintro e w6 ⟨v, rfl, hv, hb⟩
    obtain ⟨ls', h1, h2, h3, h4, h5⟩ := NewsSt.new hS hv hb
    exact hK v w6 ⟨ls', h1, h2, by rw [upd_same]; exact h5, by rw [upd_other _ _ (by decide)]; exact h4⟩
  · try dsimp only
    go_simp
    go_at_call 25
    refine (rnew_any _).mono ?_
    rintro e w6 ⟨v, rfl, hv, hb⟩
    obtain ⟨ls', h1, h2, h3, h4, h5⟩ := NewsSt.new hS hv hb
    exact hK v w6 ⟨ls', h1, h2, by rw [upd_other _ _ (by decide)]; exact h3, by rw [upd_same]; exact h5⟩
  · try dsimp only
    have hp1 := hp 19 (by decide) (by kernel_rfl)
    have hp2 := hp 20 (by decide) (by kernel_rfl)
    obtain ⟨v1, hv1⟩ := Option.isSome_iff_exists.1 hp1
    obtain ⟨v2, hv2⟩ := Option.isSome_iff_exists.1 hp2
    have e1 : seen st 19 = v1 := by simp [seen, hv1]
    have e2 : seen st 20 = v2 := by simp [seen, hv2]
    obtain ⟨ls', O, h2, h3, h4⟩ := hS
    obtain ⟨N1, rfl, n1⟩ := h3 v1 hv1
    obtain ⟨N2, rfl, n2⟩ := h4 v2 hv2
    clear hp1 hp2
    simp only [e1, e2] at hK ⊢
    go_simp
    go_at_call 13
    refine (same_any 0 N1 N2 _ (fun i hi => mem_lies O (n1 i hi).1) (fun i hi => mem_lies O (n2 i hi).1) (fun i hi => ((n2 i hi).2).trans ((n1 i hi).2).symm) (fun i hi => by rw [(n1 i hi).2]; decide)).mono ?_
    rintro e w6 ⟨rfl, hb⟩
    exact hK _ ⟨ls', O.call hb, h2, h3, h4⟩
  · try dsimp only
    go_simp
    exact hK _ hS
  try dsimp only
  have OE := hS.own
  clear hS hall
  refine wpAny_one (i := 23) (by kernel_rfl) rfl (fun K hK => ?_)
  go_simp
  refine hK _ _ ?_
  clear hK K
  try simp only [Act.put, List.setIfInBounds_toArray, List.set_cons_zero, List.set_cons_succ]
  refine wpAny_done (by kernel_rfl) ?_ _
  go_wp2_with fail
  go_ret
  exact ⟨rfl, OE.below⟩

theorem readable : ∀ t ∈ Try.f3.params.toList, Try.prog.readableRec t = true ∧ t < Try.prog.types.size := by
  intro t ht
  rw [Try.params3] at ht
  simp only [List.mem_cons, List.not_mem_nil, or_false] at ht
  repeat (first | (rcases ht with rfl | ht; exact ⟨by kernel_rfl, of_decide_eq_true (by kernel_rfl)⟩) | (subst ht; exact ⟨by kernel_rfl, of_decide_eq_true (by kernel_rfl)⟩))
set_option maxRecDepth 100000 in
theorem lifted (os : Os) (started : os.Started) (H : Type) (enc : TypeId × Value → H) :
    ReturnsInHanded {} Try.checked os 3 .any (Rows.stackTellsSpec.pre6 enc Try.prog Try.f3 Rows.stackTellsRow.domain false) (Rows.stackTellsSpec.post enc Try.prog Try.f3 false true false false) := by
  refine returnsInHanded_of_change (C := Try.checked) own started (by kernel_rfl) Try.func3
    (ChangeSpec.witness6 (enc := enc) (C := Try.checked) false ⟨#[], #[.agg #[.int .i64 0, .slice none 0 0, .slice none 0 0], .agg #[.int .i64 0, .int .i64 0, .int .i64 0, .int .i64 0, .int .i64 0, .int .i64 0, .int .i64 0, .int .i64 0, .int .i64 0, .int .i64 0, .int .i64 0, .int .i64 0, .int .i64 0, .int .i64 0, .int .i64 0, .int .i64 0], .int .i64 0], []⟩ 8 (by kernel_rfl) (by kernel_rfl) (by kernel_rfl) (by kernel_rfl)) ?_
  intro W base args ds gs before hval0 hW hcnd _
  have hval : ∀ (j : Nat) t v, Try.f3.params[j]? = some t → args[j]? = some v → Value.okWide Try.prog W .any base t v := hval0
  have hW' := hW
  obtain ⟨p, q, hA0, hV, rfl, hfz, hnd⟩ := hW
  have hA : DataW.TrodAll enc Try.prog W 0 (fun _ => true) true Try.f3.params.toList args.toList ds p := hA0
  rw [Try.params3] at hA hval
  have hlt : ∀ x ∈ p ++ q, x.block < W.heap.size := fun x hx => hW'.lt x hx
  obtain ⟨v0, vs0, d0, ds0, p0, q0, hargs, rfl, rfl, h0, rr0⟩ := trodAll_cons hA
  obtain ⟨v1, vs1, d1, ds1, p1, q1, rfl, rfl, rfl, h1, rr1⟩ := trodAll_cons rr0
  obtain ⟨v2, vs2, d2, ds2, p2, q2, rfl, rfl, rfl, h2, rr2⟩ := trodAll_cons rr1
  obtain ⟨rfl, rfl, rfl⟩ := trodAll_nil rr2
  obtain rfl : args = #[v0, v1, v2] := by cases args; simp_all
  obtain ⟨rfl, rfl⟩ := trodVars_none hV
  obtain ⟨m, L, rfl, hL⟩ := openStk (hval 0 25 v0 rfl rfl) h0 (fun x hx => hlt x (by simp [hx]))
  obtain ⟨a, rfl⟩ := openMat (hval 1 27 v1 rfl rfl) h1
  obtain ⟨d, rfl, rfl, rfl, r2⟩ := open_int Try.underlying3 (hval 2 3 v2 rfl rfl) h2
  clear hA0 hval0
  refine (walk W m L a d hL).mono fun e W' ⟨he, hg⟩ => ?_
  subst he
  exact ⟨_, rfl, post_true (tb := 4) laid readable (by kernel_rfl) Try.underlying4 rfl (fun l hl => by
    match l, hl with
    | [_, _, _], _ => exact ⟨rfl, rfl, rfl⟩) hW' hg⟩

theorem over : Rows.stackTellsRow.holds Try.pinned (OpenSpec.ofChange Rows.stackTellsSpec) :=
  OpenClaim.holds_of_wide 3 Try.f3 rfl rfl rfl rfl rfl rfl rfl ⟨rfl, rfl, rfl, rfl, rfl⟩ rfl rfl rfl rfl rfl (by kernel_rfl) Try.func3 (by kernel_rfl)
    (of_decide_eq_true (by kernel_rfl)) (by unfold Func.isWrapper; first | (rw [if_pos (by decide +kernel)]; kernel_rfl) | (rw [if_neg (by decide +kernel)]; exact ⟨rfl, rfl⟩))
    (fun os started H enc _ => lifted os started H enc)

theorem proved : Rows.StackTellsSaid :=
  over
#print axioms proved
end Go.Proofs.Ythcieapfpgejdaa.stackTells
