/-
  DashTells: for every dash and any two numbers: whether it may be, whether a pixel is lit, and what it is later, are the document's.
-/
import Derived.Test.YtpomdghalkphcaaHx
import Derived.Deep.DeepCutAuto
namespace Go.Proofs.Ytpomdghalkphcaa.dashTells
open Go.ChangeShapes Go.WideShapes Go.ChangeAt Go.RowKit
set_option linter.unusedVariables false
set_option linter.unusedSimpArgs false

theorem own : ownKnob Try.prog.godebug = none := by kernel_rfl

set_option maxRecDepth 100000 in
set_option maxHeartbeats 16000000 in
theorem walk (w : World) (d : Nat → Int) (k n : Int) :
    Calls Try.prog 3 #[arr 3 d, .int .i64 k, .int .i64 n] w fun e w' => e = .returned (.bool true) ∧ Below w.heap.size w w' := by
  have O := Own.start w
  have PR := fun w => pright_any d w
  have DR := fun w => rright_any d w
  have FK := fun w => far_any k w
  have FN := fun w => far_any n w
  have PL := plit_any d k
  have DL := rlit_any d k
  have PN := pnext_any d n
  have DN := rnext_any d n
  have tok0 : True := trivial
  cases h1 : HM.right d
  · rw [h1] at PR DR
    clear h1 PL DL PN DN FK FN
    go_enter Try.func3, Try.ntmps3
    go_wp2_with ((with_reducible refine at_box 3 ?_); refine wpList_box_own O (M.mat 3 (d)) rfl ?_; clear O; intro g3 w1 O)
    have OO := O
    clear O
    have O := OO
    clear OO
    refine region_T ((fun w2 => Own w w2 [(g3, 23, M.mat 3 d)])) [0, 1, 2, 3] 12 [some 7, some 8, some 9, some 10] [arr 3 d, .bool false, arr 3 d, .bool false] 1 (by kernel_rfl) (by rfl) (by kernel_rfl) (by rfl) (by rfl) (O.drew) (fun F hF => ?_)
    simp only [fillD, Act.put, List.setIfInBounds_toArray, List.set_cons_zero, List.set_cons_succ] at hF
    subst hF
    refine ⟨⟨does_want rfl (by rfl) (fun w' O K hK => ?_), does_want rfl (by rfl) (fun w' O K hK => ?_), does_want rfl (by rfl) (fun w' O K hK => ?_), does_want rfl (by rfl) (fun w' O K hK => ?_), trivial⟩, fun w' O => ?_⟩
    · exact wp_whole O 0 rfl rfl Try.underlying23 rfl (sH _) (hK _ O)
    · go_simp
      go_at_call 7
      refine (PR _).mono ?_
      rintro e w2 ⟨rfl, hb⟩
      exact hK _ (O.call hb)
    · exact wp_whole O 0 rfl rfl Try.underlying23 rfl (sH _) (hK _ O)
    · go_simp
      go_at_call 8
      refine (DR _).mono ?_
      rintro e w2 ⟨rfl, hb⟩
      exact hK _ (O.call hb)
    refine wpAny_one (i := 4) (by kernel_rfl) rfl (fun K hK => ?_)
    go_simp
    refine hK _ _ ?_
    clear hK K
    try simp only [Act.put, List.setIfInBounds_toArray, List.set_cons_zero, List.set_cons_succ]
    refine wpAny_done (by kernel_rfl) ?_ _
    go_wp2_with (first | ((with_reducible refine at_load 12 ?_); refine wpList_whole rfl O 0 rfl rfl Try.underlying23 rfl (sH _) ?_) | (go_at_call 8; refine (DR _).mono ?_; rintro e w5 ⟨rfl, hb⟩; replace O := O.call hb; clear hb) | (go_at_call 10; refine (awake_any _).mono ?_; rintro e w20 ⟨rfl, hb⟩; replace O := O.call hb; clear hb))
    go_ret
    exact ⟨rfl, O.below⟩
  · replace PL := PL h1
    replace DL := DL h1
    replace PN := PN h1
    replace DN := DN h1
    rw [h1] at PR DR
    clear h1
    cases hk : HM.far k
    · have rk := HM.far_iff.1 hk
      rw [hk] at FK
      cases hn : HM.far n
      · have rn := HM.far_iff.1 hn
        rw [hn] at FN
        replace PL := PL rk
        replace DL := DL rk
        replace PN := PN rn
        replace DN := DN rn
        generalize HM.litF d k = b at *
        generalize HM.nextF d n = x at *
        clear hk hn rk rn
        go_enter Try.func3, Try.ntmps3
        go_wp2_with ((with_reducible refine at_box 3 ?_); refine wpList_box_own O (M.mat 3 (d)) rfl ?_; clear O; intro g3 w1 O)
        have OO := O
        clear O
        have O := OO
        clear OO
        refine region_T ((fun w2 => Own w w2 [(g3, 23, M.mat 3 d)])) [0, 1, 2, 3] 12 [some 7, some 8, some 9, some 10] [arr 3 d, .bool true, arr 3 d, .bool true] 1 (by kernel_rfl) (by rfl) (by kernel_rfl) (by rfl) (by rfl) (O.drew) (fun F hF => ?_)
        simp only [fillD, Act.put, List.setIfInBounds_toArray, List.set_cons_zero, List.set_cons_succ] at hF
        subst hF
        refine ⟨⟨does_want rfl (by rfl) (fun w' O K hK => ?_), does_want rfl (by rfl) (fun w' O K hK => ?_), does_want rfl (by rfl) (fun w' O K hK => ?_), does_want rfl (by rfl) (fun w' O K hK => ?_), trivial⟩, fun w' O => ?_⟩
        · exact wp_whole O 0 rfl rfl Try.underlying23 rfl (sH _) (hK _ O)
        · go_simp
          go_at_call 7
          refine (PR _).mono ?_
          rintro e w2 ⟨rfl, hb⟩
          exact hK _ (O.call hb)
        · exact wp_whole O 0 rfl rfl Try.underlying23 rfl (sH _) (hK _ O)
        · go_simp
          go_at_call 8
          refine (DR _).mono ?_
          rintro e w2 ⟨rfl, hb⟩
          exact hK _ (O.call hb)
        refine wpAny_one (i := 4) (by kernel_rfl) rfl (fun K hK => ?_)
        go_simp
        refine hK _ _ ?_
        clear hK K
        try simp only [Act.put, List.setIfInBounds_toArray, List.set_cons_zero, List.set_cons_succ]
        refine wpAny_done (by kernel_rfl) ?_ _
        clear PR
        go_wp2_with (first | ((with_reducible refine at_load 12 ?_); refine wpList_whole rfl O 0 rfl rfl Try.underlying23 rfl (sH _) ?_) | (go_at_call 8; refine (DR _).mono ?_; rintro e w5 ⟨rfl, hb⟩; replace O := O.call hb; clear hb) | (go_at_call 9; clear tok0; have tok1 : True := trivial; refine (FK _).mono ?_; rintro e w' ⟨rfl, rfl⟩) | (go_at_call 9; clear tok1; have tok2 : True := trivial; refine (FN _).mono ?_; rintro e w' ⟨rfl, rfl⟩))
        have OO := O
        clear O
        clear O
        have O := OO
        clear OO
        refine region_T ((fun w2 => Own w w2 [(g3, 23, M.mat 3 d)])) [0, 1, 2, 3, 4, 5, 6, 7, 8, 9, 10, 11, 12, 13, 14, 15, 16, 17, 18] 12 [some 24, some 25, some 26, some 27, some 28, some 29, some 30, some 31, some 32, some 33, some 34, some 35, some 36, some 37, some 38, some 39, some 40, some 41, some 42] [.bool true, .bool true, arr 3 d, .int .i64 k, .bool b, arr 3 d, .int .i64 k, .bool b, .bool true, .bool true, .bool true, arr 3 d, .int .i64 n, arr 3 x, arr 3 d, .int .i64 n, arr 3 x, .bool true, .bool true] 1 (by kernel_rfl) (by rfl) (by kernel_rfl) (by rfl) (by rfl) (O.drew) (fun F hF => ?_)
        simp only [fillD, Act.put, List.setIfInBounds_toArray, List.set_cons_zero, List.set_cons_succ] at hF
        subst hF
        refine ⟨⟨does_want rfl (by rfl) (fun w' O K hK => ?_), does_want rfl (by rfl) (fun w' O K hK => ?_), does_want rfl (by rfl) (fun w' O K hK => ?_), does_want rfl (by rfl) (fun w' O K hK => ?_), does_want rfl (by rfl) (fun w' O K hK => ?_), does_want rfl (by rfl) (fun w' O K hK => ?_), does_want rfl (by rfl) (fun w' O K hK => ?_), does_want rfl (by rfl) (fun w' O K hK => ?_), does_want rfl (by rfl) (fun w' O K hK => ?_), does_want rfl (by rfl) (fun w' O K hK => ?_), does_want rfl (by rfl) (fun w' O K hK => ?_), does_want rfl (by rfl) (fun w' O K hK => ?_), does_want rfl (by rfl) (fun w' O K hK => ?_), does_want rfl (by rfl) (fun w' O K hK => ?_), does_want rfl (by rfl) (fun w' O K hK => ?_), does_want rfl (by rfl) (fun w' O K hK => ?_), does_want rfl (by rfl) (fun w' O K hK => ?_), does_want rfl (by rfl) (fun w' O K hK => ?_), does_want rfl (by rfl) (fun w' O K hK => ?_), trivial⟩, fun w' O => ?_⟩
        · go_simp
          go_at_call 10
          refine (awake_any _).mono ?_
          rintro e w2 ⟨rfl, hb⟩
          exact hK _ (O.call hb)
        · go_simp
          exact hK _ O
        · exact wp_whole O 0 rfl rfl Try.underlying23 rfl (sH _) (hK _ O)
        · go_simp
          exact hK _ O
        · go_simp
          go_at_call 11
          refine (PL _).mono ?_
          rintro e w2 ⟨rfl, hb⟩
          exact hK _ (O.call hb)
        · exact wp_whole O 0 rfl rfl Try.underlying23 rfl (sH _) (hK _ O)
        · go_simp
          exact hK _ O
        · go_simp
          go_at_call 12
          refine (DL _).mono ?_
          rintro e w2 ⟨rfl, hb⟩
          exact hK _ (O.call hb)
        · go_simp
          first | exact hK _ O | (simp; exact hK _ O)
        · go_simp
          exact hK _ O
        · go_simp
          exact hK _ O
        · exact wp_whole O 0 rfl rfl Try.underlying23 rfl (sH _) (hK _ O)
        · go_simp
          exact hK _ O
        · go_simp
          go_at_call 13
          refine (PN _).mono ?_
          rintro e w2 ⟨rfl, hb⟩
          exact hK _ (O.call hb)
        · exact wp_whole O 0 rfl rfl Try.underlying23 rfl (sH _) (hK _ O)
        · go_simp
          exact hK _ O
        · go_simp
          go_at_call 14
          refine (DN _).mono ?_
          rintro e w2 ⟨rfl, hb⟩
          exact hK _ (O.call hb)
        · refine wp_eqH x x rfl rfl ?_
          rw [M.eqB_refl]
          exact hK _ O
        · go_simp
          exact hK _ O
        refine wpAny_one (i := 19) (by kernel_rfl) rfl (fun K hK => ?_)
        go_simp
        refine hK _ _ ?_
        clear hK K
        try simp only [Act.put, List.setIfInBounds_toArray, List.set_cons_zero, List.set_cons_succ]
        refine wpAny_done (by kernel_rfl) ?_ _
        go_wp2_with fail
        go_ret
        exact ⟨rfl, O.below⟩
      · rw [hn] at FN
        clear PL DL PN DN rk hk hn
        go_enter Try.func3, Try.ntmps3
        go_wp2_with ((with_reducible refine at_box 3 ?_); refine wpList_box_own O (M.mat 3 (d)) rfl ?_; clear O; intro g3 w1 O)
        have OO := O
        clear O
        have O := OO
        clear OO
        refine region_T ((fun w2 => Own w w2 [(g3, 23, M.mat 3 d)])) [0, 1, 2, 3] 12 [some 7, some 8, some 9, some 10] [arr 3 d, .bool true, arr 3 d, .bool true] 1 (by kernel_rfl) (by rfl) (by kernel_rfl) (by rfl) (by rfl) (O.drew) (fun F hF => ?_)
        simp only [fillD, Act.put, List.setIfInBounds_toArray, List.set_cons_zero, List.set_cons_succ] at hF
        subst hF
        refine ⟨⟨does_want rfl (by rfl) (fun w' O K hK => ?_), does_want rfl (by rfl) (fun w' O K hK => ?_), does_want rfl (by rfl) (fun w' O K hK => ?_), does_want rfl (by rfl) (fun w' O K hK => ?_), trivial⟩, fun w' O => ?_⟩
        · exact wp_whole O 0 rfl rfl Try.underlying23 rfl (sH _) (hK _ O)
        · go_simp
          go_at_call 7
          refine (PR _).mono ?_
          rintro e w2 ⟨rfl, hb⟩
          exact hK _ (O.call hb)
        · exact wp_whole O 0 rfl rfl Try.underlying23 rfl (sH _) (hK _ O)
        · go_simp
          go_at_call 8
          refine (DR _).mono ?_
          rintro e w2 ⟨rfl, hb⟩
          exact hK _ (O.call hb)
        refine wpAny_one (i := 4) (by kernel_rfl) rfl (fun K hK => ?_)
        go_simp
        refine hK _ _ ?_
        clear hK K
        try simp only [Act.put, List.setIfInBounds_toArray, List.set_cons_zero, List.set_cons_succ]
        refine wpAny_done (by kernel_rfl) ?_ _
        go_wp2_with (first | ((with_reducible refine at_load 12 ?_); refine wpList_whole rfl O 0 rfl rfl Try.underlying23 rfl (sH _) ?_) | (go_at_call 8; refine (DR _).mono ?_; rintro e w5 ⟨rfl, hb⟩; replace O := O.call hb; clear hb) | (go_at_call 9; clear tok0; have tok1 : True := trivial; refine (FK _).mono ?_; rintro e w' ⟨rfl, rfl⟩) | (go_at_call 9; clear tok1; have tok2 : True := trivial; refine (FN _).mono ?_; rintro e w' ⟨rfl, rfl⟩) | (go_at_call 10; refine (awake_any _).mono ?_; rintro e w20 ⟨rfl, hb⟩; replace O := O.call hb; clear hb))
        go_ret
        exact ⟨rfl, O.below⟩
    · rw [hk] at FK
      clear PL DL PN DN FN hk
      go_enter Try.func3, Try.ntmps3
      go_wp2_with ((with_reducible refine at_box 3 ?_); refine wpList_box_own O (M.mat 3 (d)) rfl ?_; clear O; intro g3 w1 O)
      have OO := O
      clear O
      have O := OO
      clear OO
      refine region_T ((fun w2 => Own w w2 [(g3, 23, M.mat 3 d)])) [0, 1, 2, 3] 12 [some 7, some 8, some 9, some 10] [arr 3 d, .bool true, arr 3 d, .bool true] 1 (by kernel_rfl) (by rfl) (by kernel_rfl) (by rfl) (by rfl) (O.drew) (fun F hF => ?_)
      simp only [fillD, Act.put, List.setIfInBounds_toArray, List.set_cons_zero, List.set_cons_succ] at hF
      subst hF
      refine ⟨⟨does_want rfl (by rfl) (fun w' O K hK => ?_), does_want rfl (by rfl) (fun w' O K hK => ?_), does_want rfl (by rfl) (fun w' O K hK => ?_), does_want rfl (by rfl) (fun w' O K hK => ?_), trivial⟩, fun w' O => ?_⟩
      · exact wp_whole O 0 rfl rfl Try.underlying23 rfl (sH _) (hK _ O)
      · go_simp
        go_at_call 7
        refine (PR _).mono ?_
        rintro e w2 ⟨rfl, hb⟩
        exact hK _ (O.call hb)
      · exact wp_whole O 0 rfl rfl Try.underlying23 rfl (sH _) (hK _ O)
      · go_simp
        go_at_call 8
        refine (DR _).mono ?_
        rintro e w2 ⟨rfl, hb⟩
        exact hK _ (O.call hb)
      refine wpAny_one (i := 4) (by kernel_rfl) rfl (fun K hK => ?_)
      go_simp
      refine hK _ _ ?_
      clear hK K
      try simp only [Act.put, List.setIfInBounds_toArray, List.set_cons_zero, List.set_cons_succ]
      refine wpAny_done (by kernel_rfl) ?_ _
      go_wp2_with (first | ((with_reducible refine at_load 12 ?_); refine wpList_whole rfl O 0 rfl rfl Try.underlying23 rfl (sH _) ?_) | (go_at_call 8; refine (DR _).mono ?_; rintro e w5 ⟨rfl, hb⟩; replace O := O.call hb; clear hb) | (go_at_call 9; clear tok0; have tok1 : True := trivial; refine (FK _).mono ?_; rintro e w' ⟨rfl, rfl⟩) | (go_at_call 10; refine (awake_any _).mono ?_; rintro e w20 ⟨rfl, hb⟩; replace O := O.call hb; clear hb))
      go_ret
      exact ⟨rfl, O.below⟩

theorem readable : ∀ t ∈ Try.f3.params.toList, Try.prog.readableRec t = true ∧ t < Try.prog.types.size := by
  intro t ht
  rw [Try.params3] at ht
  simp only [List.mem_cons, List.not_mem_nil, or_false] at ht
  repeat (first | (rcases ht with rfl | ht; exact ⟨by kernel_rfl, of_decide_eq_true (by kernel_rfl)⟩) | (subst ht; exact ⟨by kernel_rfl, of_decide_eq_true (by kernel_rfl)⟩))
set_option maxRecDepth 100000 in
theorem lifted (os : Os) (started : os.Started) (H : Type) (enc : TypeId × Value → H) :
    ReturnsInHanded {} Try.checked os 3 .any (Rows.dashTellsSpec.pre6 enc Try.prog Try.f3 Rows.dashTellsRow.domain false) (Rows.dashTellsSpec.post enc Try.prog Try.f3 false true false false) := by
  refine returnsInHanded_of_change (C := Try.checked) own started (by kernel_rfl) Try.func3
    (ChangeSpec.witness6 (enc := enc) (C := Try.checked) false ⟨#[], #[.agg #[.int .i64 0, .int .i64 0, .int .i64 0], .int .i64 0, .int .i64 0], []⟩ 8 (by kernel_rfl) (by kernel_rfl) (by kernel_rfl) (by kernel_rfl)) ?_
  intro W base args ds gs before hval0 hW hcnd _
  have hval : ∀ (j : Nat) t v, Try.f3.params[j]? = some t → args[j]? = some v → Value.okWide Try.prog W .any base t v := hval0
  have hW' := hW
  obtain ⟨p, q, hA0, hV, rfl, hfz, hnd⟩ := hW
  have hA : DataW.TrodAll enc Try.prog W 0 (fun _ => true) true Try.f3.params.toList args.toList ds p := hA0
  rw [Try.params3] at hA hval
  have hlt : ∀ x ∈ p ++ q, x.block < W.heap.size := fun x hx => hW'.lt x hx
  obtain ⟨v0, vs0, d0, ds0, p0, q0, hargs, rfl, rfl, h0, rr0⟩ := trodAll_cons hA
  obtain ⟨v1, vs1, d1, ds1, p1, q1, rfl, rfl, rfl, h1, rr1⟩ := trodAll_cons rr0
  obtain ⟨v2, vs2, d2, ds2, p2, q2, rfl, rfl, rfl, h2, rr2⟩ := trodAll_cons rr1
  obtain ⟨rfl, rfl, rfl⟩ := trodAll_nil rr2
  obtain rfl : args = #[v0, v1, v2] := by cases args; simp_all
  obtain ⟨rfl, rfl⟩ := trodVars_none hV
  obtain ⟨a0, rfl⟩ := openDash (hval 0 23 v0 rfl rfl) h0
  obtain ⟨i1, rfl, rfl, rfl, x1⟩ := open_int Try.underlying3 (hval 1 3 v1 rfl rfl) h1
  obtain ⟨i2, rfl, rfl, rfl, x2⟩ := open_int Try.underlying3 (hval 2 3 v2 rfl rfl) h2
  clear hA0 hval0
  refine (walk W a0 i1 i2).mono fun e W' ⟨he, hg⟩ => ?_
  subst he
  exact ⟨_, rfl, post_true (tb := 4) laid readable (by kernel_rfl) Try.underlying4 rfl (fun l hl => by
    match l, hl with
    | [_, _, _], _ => exact ⟨rfl, rfl, rfl⟩) hW' hg⟩

theorem over : Rows.dashTellsRow.holds Try.pinned (OpenSpec.ofChange Rows.dashTellsSpec) :=
  OpenClaim.holds_of_wide 3 Try.f3 rfl rfl rfl rfl rfl rfl rfl ⟨rfl, rfl, rfl, rfl, rfl⟩ rfl rfl rfl rfl rfl (by kernel_rfl) Try.func3 (by kernel_rfl)
    (of_decide_eq_true (by kernel_rfl)) (by unfold Func.isWrapper; first | (rw [if_pos (by decide +kernel)]; kernel_rfl) | (rw [if_neg (by decide +kernel)]; exact ⟨rfl, rfl⟩))
    (fun os started H enc _ => lifted os started H enc)

theorem proved : Rows.DashTellsSaid :=
  over
#print axioms proved
end Go.Proofs.Ytpomdghalkphcaa.dashTells
