/-
  RectCuts: for every two rectangles and any corner, what both have, what the one has alone, and its parts at the corner, are the document's.
-/
import Derived.Test.YthioeohmnlppcaaWg
import Derived.Test.YthioeohmnlppcaaWh
import Derived.Test.YthioeohmnlppcaaWi
import Derived.Test.YthioeohmnlppcaaLx
import Derived.Deep.DeepCutAuto
namespace Go.Proofs.Ythioeohmnlppcaa.rectCuts
open Go.ChangeShapes Go.WideShapes Go.ChangeAt Go.RowKit
set_option linter.unusedVariables false
set_option linter.unusedSimpArgs false

theorem own : ownKnob Try.prog.godebug = none := by kernel_rfl

set_option maxRecDepth 100000 in
set_option maxHeartbeats 16000000 in
theorem walk (w : World) (a b p : Nat → Int) :
    Calls Try.prog 4 #[arr 4 a, arr 4 b, arr 2 p] w fun e w' => e = .returned (.bool true) ∧ Below w.heap.size w w' := by
  have O := Own.start w
  have CA := fun w => and_any a b w
  have CB := fun w => rand_any a b w
  have CM := fun w => minus_any a b w
  have CN := fun w => rminus_any a b w
  have CP := fun w => parts_any a (p 0) (p 1) w
  have CQ := fun w => rparts_any a (p 0) (p 1) w
  have h1 := RC.minus_len a b
  have h2 := RC.parts_len a (p 0) (p 1)
  generalize RC.both a b = c at CA CB
  generalize RC.minus a b = l at CM CN h1
  generalize RC.parts a (p 0) (p 1) = m at CP CQ h2
  have SM := fun {A1 A2 : Option Addr} {c1 c2 : Nat} w x y => same_any l (lo1 := 0) (lo2 := 0) (A1 := A1) (A2 := A2) (c1 := c1) (c2 := c2) (by omega) w x y
  have SP := fun {A1 A2 : Option Addr} {c1 c2 : Nat} w x y => same_any m (lo1 := 0) (lo2 := 0) (A1 := A1) (A2 := A2) (c1 := c1) (c2 := c2) (by omega) w x y
  clear h1 h2
  obtain ⟨p0, ep0⟩ : ∃ z, p 0 = z := ⟨_, rfl⟩
  have Cp0 := cell_is (n := 2) ep0 (by decide)
  obtain ⟨p1, ep1⟩ : ∃ z, p 1 = z := ⟨_, rfl⟩
  have Cp1 := cell_is (n := 2) ep1 (by decide)
  rw [ep0, ep1] at CP CQ
  clear ep0 ep1
  go_enter Try.func4, Try.ntmps4
  go_wp2_with (first | ((with_reducible refine at_box 3 ?_); refine wpList_box_own O (M.mat 4 (a)) rfl ?_; clear O; intro g3 w1 O) | ((with_reducible refine at_box 4 ?_); refine wpList_box_own O (M.mat 4 (b)) rfl ?_; clear O; intro g4 w2 O) | ((with_reducible refine at_box 5 ?_); refine wpList_box_own O (M.mat 2 (p)) rfl ?_; clear O; intro g5 w3 O))
  refine region_S (fun st w2 => LS w [(g5, 24, M.mat 2 p), (g4, 23, M.mat 4 b), (g3, 23, M.mat 4 a)] [(13, l), (16, l), (25, m), (31, m)] st w2) [13, 16, 25, 31] 12 34 [some 7, some 8, some 9, some 10, some 11, some 12, some 13, some 14, some 15, some 16, some 17, some 18, some 19, some 20, some 21, some 22, some 23, some 24, some 25, some 26, some 27, some 28, some 29, some 30, some 31, some 32, some 33, some 34, some 35, some 36, some 37, some 38, some 39, some 40] (fun g => [.bool true, .bool true, arr 4 a, arr 4 b, arr 4 c, arr 4 a, arr 4 b, arr 4 c, .bool true, .bool true, .bool true, arr 4 a, arr 4 b, g 13, arr 4 a, arr 4 b, g 16, .bool true, .bool true, .bool true, arr 4 a, .pointer (some ⟨g5, 0, none⟩), .int .i64 p0, .pointer (some ⟨g5, 1, none⟩), .int .i64 p1, g 25, arr 4 a, .pointer (some ⟨g5, 0, none⟩), .int .i64 p0, .pointer (some ⟨g5, 1, none⟩), .int .i64 p1, g 31, .bool true, .bool true]) 1 (by kernel_rfl) (by kernel_rfl) (by rfl) (by rfl) (fun _ => rfl) (by decide) ?_ (LS.start O.drew) (fun F hF => ?_)
  · intro i hi
    simp only [List.mem_cons, List.not_mem_nil, or_false] at hi
    rcases hi with rfl | rfl | rfl | rfl
    · exact ⟨fun _ => rfl, [0, 1, 2, 3, 4, 5, 6, 7, 8, 9, 10, 11, 12, 14, 15, 16, 17, 18, 19, 20, 21, 22, 23, 24, 25, 26, 27, 28, 29, 30, 31, 32, 33], by kernel_rfl, fun g v => ⟨rfl, rfl, rfl, rfl, rfl, rfl, rfl, rfl, rfl, rfl, rfl, rfl, rfl, rfl, rfl, rfl, rfl, rfl, rfl, rfl, rfl, rfl, rfl, rfl, rfl, rfl, rfl, rfl, rfl, rfl, rfl, rfl, rfl, trivial⟩⟩
    · exact ⟨fun _ => rfl, [0, 1, 2, 3, 4, 5, 6, 7, 8, 9, 10, 11, 12, 13, 14, 15, 17, 18, 19, 20, 21, 22, 23, 24, 25, 26, 27, 28, 29, 30, 31, 32, 33], by kernel_rfl, fun g v => ⟨rfl, rfl, rfl, rfl, rfl, rfl, rfl, rfl, rfl, rfl, rfl, rfl, rfl, rfl, rfl, rfl, rfl, rfl, rfl, rfl, rfl, rfl, rfl, rfl, rfl, rfl, rfl, rfl, rfl, rfl, rfl, rfl, rfl, trivial⟩⟩
    · exact ⟨fun _ => rfl, [0, 1, 2, 3, 4, 5, 6, 7, 8, 9, 10, 11, 12, 13, 14, 15, 16, 17, 18, 19, 20, 21, 22, 23, 24, 26, 27, 28, 29, 30, 31, 32, 33], by kernel_rfl, fun g v => ⟨rfl, rfl, rfl, rfl, rfl, rfl, rfl, rfl, rfl, rfl, rfl, rfl, rfl, rfl, rfl, rfl, rfl, rfl, rfl, rfl, rfl, rfl, rfl, rfl, rfl, rfl, rfl, rfl, rfl, rfl, rfl, rfl, rfl, trivial⟩⟩
    · exact ⟨fun _ => rfl, [0, 1, 2, 3, 4, 5, 6, 7, 8, 9, 10, 11, 12, 13, 14, 15, 16, 17, 18, 19, 20, 21, 22, 23, 24, 25, 26, 27, 28, 29, 30, 32, 33], by kernel_rfl, fun g v => ⟨rfl, rfl, rfl, rfl, rfl, rfl, rfl, rfl, rfl, rfl, rfl, rfl, rfl, rfl, rfl, rfl, rfl, rfl, rfl, rfl, rfl, rfl, rfl, rfl, rfl, rfl, rfl, rfl, rfl, rfl, rfl, rfl, rfl, trivial⟩⟩
  simp only [fillD, Act.put, List.setIfInBounds_toArray, List.set_cons_zero, List.set_cons_succ] at hF
  have hF2 := funext hF
  clear hF
  subst hF2
  refine ⟨⟨doesN_want (by decide) rfl (fun g => rfl) (fun st w' hS hp K hK => ?_), doesN_want (by decide) rfl (fun g => rfl) (fun st w' hS hp K hK => ?_), doesN_want (by decide) rfl (fun g => rfl) (fun st w' hS hp K hK => ?_), doesN_want (by decide) rfl (fun g => rfl) (fun st w' hS hp K hK => ?_), doesN_want (by decide) rfl (fun g => rfl) (fun st w' hS hp K hK => ?_), doesN_want (by decide) rfl (fun g => rfl) (fun st w' hS hp K hK => ?_), doesN_want (by decide) rfl (fun g => rfl) (fun st w' hS hp K hK => ?_), doesN_want (by decide) rfl (fun g => rfl) (fun st w' hS hp K hK => ?_), doesN_want (by decide) rfl (fun g => rfl) (fun st w' hS hp K hK => ?_), doesN_want (by decide) rfl (fun g => rfl) (fun st w' hS hp K hK => ?_), doesN_want (by decide) rfl (fun g => rfl) (fun st w' hS hp K hK => ?_), doesN_want (by decide) rfl (fun g => rfl) (fun st w' hS hp K hK => ?_), doesN_want (by decide) rfl (fun g => rfl) (fun st w' hS hp K hK => ?_), doesC_want (by decide) rfl (fun g => rfl) (fun st w' hS hn hp K hK => ?_), doesN_want (by decide) rfl (fun g => rfl) (fun st w' hS hp K hK => ?_), doesN_want (by decide) rfl (fun g => rfl) (fun st w' hS hp K hK => ?_), doesC_want (by decide) rfl (fun g => rfl) (fun st w' hS hn hp K hK => ?_), doesN_want (by decide) rfl (fun g => rfl) (fun st w' hS hp K hK => ?_), doesN_want (by decide) rfl (fun g => rfl) (fun st w' hS hp K hK => ?_), doesN_want (by decide) rfl (fun g => rfl) (fun st w' hS hp K hK => ?_), doesN_want (by decide) rfl (fun g => rfl) (fun st w' hS hp K hK => ?_), doesN_want (by decide) rfl (fun g => rfl) (fun st w' hS hp K hK => ?_), doesN_want (by decide) rfl (fun g => rfl) (fun st w' hS hp K hK => ?_), doesN_want (by decide) rfl (fun g => rfl) (fun st w' hS hp K hK => ?_), doesN_want (by decide) rfl (fun g => rfl) (fun st w' hS hp K hK => ?_), doesC_want (by decide) rfl (fun g => rfl) (fun st w' hS hn hp K hK => ?_), doesN_want (by decide) rfl (fun g => rfl) (fun st w' hS hp K hK => ?_), doesN_want (by decide) rfl (fun g => rfl) (fun st w' hS hp K hK => ?_), doesN_want (by decide) rfl (fun g => rfl) (fun st w' hS hp K hK => ?_), doesN_want (by decide) rfl (fun g => rfl) (fun st w' hS hp K hK => ?_), doesN_want (by decide) rfl (fun g => rfl) (fun st w' hS hp K hK => ?_), doesC_want (by decide) rfl (fun g => rfl) (fun st w' hS hn hp K hK => ?_), doesN_want (by decide) rfl (fun g => rfl) (fun st w' hS hp K hK => ?_), doesN_want (by decide) rfl (fun g => rfl) (fun st w' hS hp K hK => ?_), trivial⟩, fun st w' hS hall => ?_⟩
  · try dsimp only
    go_simp
    go_at_call 9
    refine (awake_any _).mono ?_
    rintro e w2 ⟨rfl, hb⟩
    exact hK _ (hS.call hb)
  · try dsimp only
    go_simp
    exact hK _ hS
  · try dsimp only
    exact wp_whole hS.1 2 rfl rfl Try.underlying23 rfl (sR _) (hK _ hS)
  · try dsimp only
    exact wp_whole hS.1 1 rfl rfl Try.underlying23 rfl (sR _) (hK _ hS)
  · try dsimp only
    go_simp
    go_at_call 16
    refine (CA _).mono ?_
    rintro e w2 ⟨rfl, hb⟩
    exact hK _ (hS.call hb)
  · try dsimp only
    exact wp_whole hS.1 2 rfl rfl Try.underlying23 rfl (sR _) (hK _ hS)
  · try dsimp only
    exact wp_whole hS.1 1 rfl rfl Try.underlying23 rfl (sR _) (hK _ hS)
  · try dsimp only
    go_simp
    go_at_call 17
    refine (CB _).mono ?_
    rintro e w2 ⟨rfl, hb⟩
    exact hK _ (hS.call hb)
  · try dsimp only
    refine wp_eqR c c rfl rfl ?_
    rw [M.eqB_refl]
    exact hK _ hS
  · try dsimp only
    go_simp
    exact hK _ hS
  · try dsimp only
    go_simp
    exact hK _ hS
  · try dsimp only
    exact wp_whole hS.1 2 rfl rfl Try.underlying23 rfl (sR _) (hK _ hS)
  · try dsimp only
    exact wp_whole hS.1 1 rfl rfl Try.underlying23 rfl (sR _) (hK _ hS)
  · try dsimp only
    go_simp
    go_at_call 19
    refine (CM _).mono ?_
    rintro e w2 ⟨VA, vc, rfl, hL, hb⟩
    exact hK _ _ (hS.gain 0 rfl (by decide : [13, 16, 25, 31].Nodup) hL hb)
  · try dsimp only
    exact wp_whole hS.1 2 rfl rfl Try.underlying23 rfl (sR _) (hK _ hS)
  · try dsimp only
    exact wp_whole hS.1 1 rfl rfl Try.underlying23 rfl (sR _) (hK _ hS)
  · try dsimp only
    go_simp
    go_at_call 20
    refine (CN _).mono ?_
    rintro e w2 ⟨VA, vc, rfl, hL, hb⟩
    exact hK _ _ (hS.gain 1 rfl (by decide : [13, 16, 25, 31].Nodup) hL hb)
  · try dsimp only
    obtain ⟨A1, k1, e1, h1⟩ := hS.get 0 rfl (hp 13 (by decide) (by kernel_rfl))
    obtain ⟨A2, k2, e2, h2⟩ := hS.get 1 rfl (hp 16 (by decide) (by kernel_rfl))
    simp only [seen, e1, e2, Option.getD_some] at hK ⊢
    go_simp
    go_at_call 18
    refine (SM _ h1 h2).mono ?_
    rintro e w2 ⟨rfl, hb⟩
    exact hK _ (hS.call hb)
  · try dsimp only
    go_simp
    exact hK _ hS
  · try dsimp only
    go_simp
    exact hK _ hS
  · try dsimp only
    exact wp_whole hS.1 2 rfl rfl Try.underlying23 rfl (sR _) (hK _ hS)
  · try dsimp only
    go_simp
    exact hK _ hS
  · try dsimp only
    exact wp_cell_h (v := .int .i64 p0) hS.1.held 0 rfl Cp0.out rfl agg3 rfl (hK _ hS)
  · try dsimp only
    go_simp
    exact hK _ hS
  · try dsimp only
    exact wp_cell_h (v := .int .i64 p1) hS.1.held 0 rfl Cp1.out rfl agg3 rfl (hK _ hS)
  · try dsimp only
    go_simp
    go_at_call 21
    refine (CP _).mono ?_
    rintro e w2 ⟨VA, vc, rfl, hL, hb⟩
    exact hK _ _ (hS.gain 2 rfl (by decide : [13, 16, 25, 31].Nodup) hL hb)
  · try dsimp only
    exact wp_whole hS.1 2 rfl rfl Try.underlying23 rfl (sR _) (hK _ hS)
  · try dsimp only
    go_simp
    exact hK _ hS
  · try dsimp only
    exact wp_cell_h (v := .int .i64 p0) hS.1.held 0 rfl Cp0.out rfl agg3 rfl (hK _ hS)
  · try dsimp only
    go_simp
    exact hK _ hS
  · try dsimp only
    exact wp_cell_h (v := .int .i64 p1) hS.1.held 0 rfl Cp1.out rfl agg3 rfl (hK _ hS)
  · try dsimp only
    go_simp
    go_at_call 22
    refine (CQ _).mono ?_
    rintro e w2 ⟨VA, vc, rfl, hL, hb⟩
    exact hK _ _ (hS.gain 3 rfl (by decide : [13, 16, 25, 31].Nodup) hL hb)
  · try dsimp only
    obtain ⟨A1, k1, e1, h1⟩ := hS.get 2 rfl (hp 25 (by decide) (by kernel_rfl))
    obtain ⟨A2, k2, e2, h2⟩ := hS.get 3 rfl (hp 31 (by decide) (by kernel_rfl))
    simp only [seen, e1, e2, Option.getD_some] at hK ⊢
    go_simp
    go_at_call 18
    refine (SP _ h1 h2).mono ?_
    rintro e w2 ⟨rfl, hb⟩
    exact hK _ (hS.call hb)
  · try dsimp only
    go_simp
    exact hK _ hS
  try dsimp only
  have O3 := hS.1
  clear hS O
  have O := O3
  clear O3 hall
  refine wpAny_one (i := 34) (by kernel_rfl) rfl (fun K hK => ?_)
  go_simp
  refine hK _ _ ?_
  clear hK K
  try simp only [Act.put, List.setIfInBounds_toArray, List.set_cons_zero, List.set_cons_succ]
  refine wpAny_done (by kernel_rfl) ?_ _
  go_wp2_with fail
  go_ret
  exact ⟨rfl, O.below⟩

theorem readable : ∀ t ∈ Try.f4.params.toList, Try.prog.readableRec t = true ∧ t < Try.prog.types.size := by
  intro t ht
  rw [Try.params4] at ht
  simp only [List.mem_cons, List.not_mem_nil, or_false] at ht
  repeat (first | (rcases ht with rfl | ht; exact ⟨by kernel_rfl, of_decide_eq_true (by kernel_rfl)⟩) | (subst ht; exact ⟨by kernel_rfl, of_decide_eq_true (by kernel_rfl)⟩))
set_option maxRecDepth 100000 in
theorem lifted (os : Os) (started : os.Started) (H : Type) (enc : TypeId × Value → H) :
    ReturnsInHanded {} Try.checked os 4 .any (Rows.rectCutsSpec.pre6 enc Try.prog Try.f4 Rows.rectCutsRow.domain false) (Rows.rectCutsSpec.post enc Try.prog Try.f4 false true false false) := by
  refine returnsInHanded_of_change (C := Try.checked) own started (by kernel_rfl) Try.func4
    (ChangeSpec.witness6 (enc := enc) (C := Try.checked) false ⟨#[], #[.agg #[.int .i64 0, .int .i64 0, .int .i64 0, .int .i64 0], .agg #[.int .i64 0, .int .i64 0, .int .i64 0, .int .i64 0], .agg #[.int .i64 0, .int .i64 0]], []⟩ 8 (by kernel_rfl) (by kernel_rfl) (by kernel_rfl) (by kernel_rfl)) ?_
  intro W base args ds gs before hval0 hW hcnd _
  have hval : ∀ (j : Nat) t v, Try.f4.params[j]? = some t → args[j]? = some v → Value.okWide Try.prog W .any base t v := hval0
  have hW' := hW
  obtain ⟨p, q, hA0, hV, rfl, hfz, hnd⟩ := hW
  have hA : DataW.TrodAll enc Try.prog W 0 (fun _ => true) true Try.f4.params.toList args.toList ds p := hA0
  rw [Try.params4] at hA hval
  have hlt : ∀ x ∈ p ++ q, x.block < W.heap.size := fun x hx => hW'.lt x hx
  obtain ⟨v0, vs0, d0, ds0, p0, q0, hargs, rfl, rfl, h0, rr0⟩ := trodAll_cons hA
  obtain ⟨v1, vs1, d1, ds1, p1, q1, rfl, rfl, rfl, h1, rr1⟩ := trodAll_cons rr0
  obtain ⟨v2, vs2, d2, ds2, p2, q2, rfl, rfl, rfl, h2, rr2⟩ := trodAll_cons rr1
  obtain ⟨rfl, rfl, rfl⟩ := trodAll_nil rr2
  obtain rfl : args = #[v0, v1, v2] := by cases args; simp_all
  obtain ⟨rfl, rfl⟩ := trodVars_none hV
  obtain ⟨a0, rfl⟩ := openRect (hval 0 23 v0 rfl rfl) h0
  obtain ⟨a1, rfl⟩ := openRect (hval 1 23 v1 rfl rfl) h1
  obtain ⟨a2, rfl, x2⟩ := openPair (hval 2 24 v2 rfl rfl) h2
  clear hA0 hval0
  refine (walk W a0 a1 a2).mono fun e W' ⟨he, hg⟩ => ?_
  subst he
  exact ⟨_, rfl, post_true (tb := 4) laid readable (by kernel_rfl) Try.underlying4 rfl (fun l hl => by
    match l, hl with
    | [_, _, _], _ => exact ⟨rfl, rfl, rfl⟩) hW' hg⟩

theorem over : Rows.rectCutsRow.holds Try.pinned (OpenSpec.ofChange Rows.rectCutsSpec) :=
  OpenClaim.holds_of_wide 4 Try.f4 rfl rfl rfl rfl rfl rfl rfl ⟨rfl, rfl, rfl, rfl, rfl⟩ rfl rfl rfl rfl rfl (by kernel_rfl) Try.func4 (by kernel_rfl)
    (of_decide_eq_true (by kernel_rfl)) (by unfold Func.isWrapper; first | (rw [if_pos (by decide +kernel)]; kernel_rfl) | (rw [if_neg (by decide +kernel)]; exact ⟨rfl, rfl⟩))
    (fun os started H enc _ => lifted os started H enc)

theorem proved : Rows.RectCutsSaid :=
  over
#print axioms proved
end Go.Proofs.Ythioeohmnlppcaa.rectCuts
