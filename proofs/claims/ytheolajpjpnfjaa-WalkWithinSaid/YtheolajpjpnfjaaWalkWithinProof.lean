/-
  WalkWithin: for every two points and every rectangle of 600 pixels at most, the pixels of the line between them that are in it, and their numbers, are the document's.
-/
import Derived.Test.YtheolajpjpnfjaaXn
import Derived.Deep.DeepCutAuto
namespace Go.Proofs.Ytheolajpjpnfjaa.walkWithin
open Go.ChangeShapes Go.WideShapes Go.ChangeAt Go.RowKit
set_option linter.unusedVariables false
set_option linter.unusedSimpArgs false

theorem own : ownKnob Try.prog.godebug = none := by kernel_rfl

set_option maxRecDepth 100000 in
set_option maxHeartbeats 16000000 in
theorem walk (w : World) (a b r : Nat → Int) :
    Calls Try.prog 3 #[arr 2 a, arr 2 b, arr 4 r] w fun e w' => e = .returned (.bool true) ∧ Below w.heap.size w w' := by
  have O := Own.start w
  have MA := fun w => may_any a w
  have MB := fun w => may_any b w
  have MS := fun w => small_any r w
  have tok0 : True := trivial
  cases h1 : DM.may (a 0) (a 1)
  · rw [h1] at MA
    clear h1 MB MS
    go_enter Try.func3, Try.ntmps3
    go_wp2_with (first | ((with_reducible refine at_box 3 ?_); refine wpList_box_own O (M.mat 2 (a)) rfl ?_; clear O; intro g3 w1 O) | ((with_reducible refine at_box 4 ?_); refine wpList_box_own O (M.mat 2 (b)) rfl ?_; clear O; intro g4 w2 O) | ((with_reducible refine at_box 5 ?_); refine wpList_box_own O (M.mat 4 (r)) rfl ?_; clear O; intro g5 w3 O) | ((with_reducible refine at_load 7 ?_); refine wpList_whole rfl O 2 rfl rfl Try.underlying23 rfl (sP _) ?_) | (go_at_call 8; clear tok0; have tok1 : True := trivial; refine (MA _).mono ?_; rintro e w4 ⟨rfl, hb⟩; replace O := O.call hb; clear hb) | ((with_reducible refine at_load 11 ?_); refine wpList_whole rfl O 1 rfl rfl Try.underlying23 rfl (sP _) ?_) | ((with_reducible refine at_load 16 ?_); refine wpList_whole rfl O 0 rfl rfl Try.underlying25 rfl (sR _) ?_) | (go_at_call 10; refine (awake_any _).mono ?_; rintro e w20 ⟨rfl, hb⟩; replace O := O.call hb; clear hb))
    go_ret
    exact ⟨rfl, O.below⟩
  cases h2 : DM.may (b 0) (b 1)
  · rw [h1] at MA
    rw [h2] at MB
    clear h1 h2 MS
    go_enter Try.func3, Try.ntmps3
    go_wp2_with (first | ((with_reducible refine at_box 3 ?_); refine wpList_box_own O (M.mat 2 (a)) rfl ?_; clear O; intro g3 w1 O) | ((with_reducible refine at_box 4 ?_); refine wpList_box_own O (M.mat 2 (b)) rfl ?_; clear O; intro g4 w2 O) | ((with_reducible refine at_box 5 ?_); refine wpList_box_own O (M.mat 4 (r)) rfl ?_; clear O; intro g5 w3 O) | ((with_reducible refine at_load 7 ?_); refine wpList_whole rfl O 2 rfl rfl Try.underlying23 rfl (sP _) ?_) | (go_at_call 8; clear tok0; have tok1 : True := trivial; refine (MA _).mono ?_; rintro e w4 ⟨rfl, hb⟩; replace O := O.call hb; clear hb) | ((with_reducible refine at_load 11 ?_); refine wpList_whole rfl O 1 rfl rfl Try.underlying23 rfl (sP _) ?_) | (go_at_call 8; clear tok1; have tok2 : True := trivial; refine (MB _).mono ?_; rintro e w5 ⟨rfl, hb⟩; replace O := O.call hb; clear hb) | ((with_reducible refine at_load 16 ?_); refine wpList_whole rfl O 0 rfl rfl Try.underlying25 rfl (sR _) ?_) | (go_at_call 10; refine (awake_any _).mono ?_; rintro e w20 ⟨rfl, hb⟩; replace O := O.call hb; clear hb))
    go_ret
    exact ⟨rfl, O.below⟩
  cases h3 : DM.small r
  · rw [h1] at MA
    rw [h2] at MB
    rw [h3] at MS
    clear h1 h2 h3
    go_enter Try.func3, Try.ntmps3
    go_wp2_with (first | ((with_reducible refine at_box 3 ?_); refine wpList_box_own O (M.mat 2 (a)) rfl ?_; clear O; intro g3 w1 O) | ((with_reducible refine at_box 4 ?_); refine wpList_box_own O (M.mat 2 (b)) rfl ?_; clear O; intro g4 w2 O) | ((with_reducible refine at_box 5 ?_); refine wpList_box_own O (M.mat 4 (r)) rfl ?_; clear O; intro g5 w3 O) | ((with_reducible refine at_load 7 ?_); refine wpList_whole rfl O 2 rfl rfl Try.underlying23 rfl (sP _) ?_) | (go_at_call 8; clear tok0; have tok1 : True := trivial; refine (MA _).mono ?_; rintro e w4 ⟨rfl, hb⟩; replace O := O.call hb; clear hb) | ((with_reducible refine at_load 11 ?_); refine wpList_whole rfl O 1 rfl rfl Try.underlying23 rfl (sP _) ?_) | (go_at_call 8; clear tok1; have tok2 : True := trivial; refine (MB _).mono ?_; rintro e w5 ⟨rfl, hb⟩; replace O := O.call hb; clear hb) | ((with_reducible refine at_load 16 ?_); refine wpList_whole rfl O 0 rfl rfl Try.underlying25 rfl (sR _) ?_) | (go_at_call 9; refine (MS _).mono ?_; rintro e w6 ⟨rfl, hb⟩; replace O := O.call hb; clear hb) | (go_at_call 10; refine (awake_any _).mono ?_; rintro e w20 ⟨rfl, hb⟩; replace O := O.call hb; clear hb))
    go_ret
    exact ⟨rfl, O.below⟩
  have ra : DM.Rg a := DM.may_iff.1 h1
  have rb : DM.Rg b := DM.may_iff.1 h2
  have rs := DM.small_lim h3
  have CP := fun w => within_any a b r ra rb rs w
  have CD := fun w => rwithin_any a b r ra rb rs w
  have hlen : (if RC.right r then DM.wth (a 0) (a 1) (b 0) (b 1) r else []).length ≤ 100000 := by
    cases hr : RC.right r
    · simp
    · rw [if_pos rfl]
      have := DM.wth_len (ax := a 0) (ay := a 1) (bx := b 0) (by_ := b 1) hr (rs hr)
      omega
  rw [h1] at MA
  rw [h2] at MB
  rw [h3] at MS
  clear h1 h2 h3 ra rb rs
  generalize (if RC.right r then DM.wth (a 0) (a 1) (b 0) (b 1) r else []) = l at *
  have SM := fun {A1 A2 : Option Addr} {c1 c2 : Nat} w x y => same_any l (lo1 := 0) (lo2 := 0) (A1 := A1) (A2 := A2) (c1 := c1) (c2 := c2) hlen w x y
  unfold RetT at CP CD
  clear hlen
  go_enter Try.func3, Try.ntmps3
  go_wp2_with (first | ((with_reducible refine at_box 3 ?_); refine wpList_box_own O (M.mat 2 (a)) rfl ?_; clear O; intro g3 w1 O) | ((with_reducible refine at_box 4 ?_); refine wpList_box_own O (M.mat 2 (b)) rfl ?_; clear O; intro g4 w2 O) | ((with_reducible refine at_box 5 ?_); refine wpList_box_own O (M.mat 4 (r)) rfl ?_; clear O; intro g5 w3 O) | ((with_reducible refine at_load 7 ?_); refine wpList_whole rfl O 2 rfl rfl Try.underlying23 rfl (sP _) ?_) | (go_at_call 8; clear tok0; have tok1 : True := trivial; refine (MA _).mono ?_; rintro e w4 ⟨rfl, hb⟩; replace O := O.call hb; clear hb) | ((with_reducible refine at_load 11 ?_); refine wpList_whole rfl O 1 rfl rfl Try.underlying23 rfl (sP _) ?_) | (go_at_call 8; clear tok1; have tok2 : True := trivial; refine (MB _).mono ?_; rintro e w5 ⟨rfl, hb⟩; replace O := O.call hb; clear hb) | ((with_reducible refine at_load 16 ?_); refine wpList_whole rfl O 0 rfl rfl Try.underlying25 rfl (sR _) ?_) | (go_at_call 9; refine (MS _).mono ?_; rintro e w6 ⟨rfl, hb⟩; replace O := O.call hb; clear hb))
  refine region_S (fun st w2 => LS w [(g5, 25, M.mat 4 r), (g4, 23, M.mat 2 b), (g3, 23, M.mat 2 a)] [(5, l), (9, l)] st w2) [5, 9] 12 12 [some 21, some 22, some 23, some 24, some 25, some 26, some 27, some 28, some 29, some 30, some 31, some 32] (fun g => [.bool true, .bool true, arr 2 a, arr 2 b, arr 4 r, g 5, arr 2 a, arr 2 b, arr 4 r, g 9, .bool true, .bool true]) 1 (by kernel_rfl) (by kernel_rfl) (by rfl) (by rfl) (fun _ => rfl) (by decide) ?_ (LS.start O.drew) (fun F hF => ?_)
  · intro i hi
    simp only [List.mem_cons, List.not_mem_nil, or_false] at hi
    rcases hi with rfl | rfl
    · exact ⟨fun _ => rfl, [0, 1, 2, 3, 4, 6, 7, 8, 9, 10, 11], by kernel_rfl, fun g v => ⟨rfl, rfl, rfl, rfl, rfl, rfl, rfl, rfl, rfl, rfl, rfl, trivial⟩⟩
    · exact ⟨fun _ => rfl, [0, 1, 2, 3, 4, 5, 6, 7, 8, 10, 11], by kernel_rfl, fun g v => ⟨rfl, rfl, rfl, rfl, rfl, rfl, rfl, rfl, rfl, rfl, rfl, trivial⟩⟩
  simp only [fillD, Act.put, List.setIfInBounds_toArray, List.set_cons_zero, List.set_cons_succ] at hF
  have hF2 := funext hF
  clear hF
  subst hF2
  refine ⟨⟨doesN_want (by decide) rfl (fun g => rfl) (fun st w' hS hp K hK => ?_), doesN_want (by decide) rfl (fun g => rfl) (fun st w' hS hp K hK => ?_), doesN_want (by decide) rfl (fun g => rfl) (fun st w' hS hp K hK => ?_), doesN_want (by decide) rfl (fun g => rfl) (fun st w' hS hp K hK => ?_), doesN_want (by decide) rfl (fun g => rfl) (fun st w' hS hp K hK => ?_), doesC_want (by decide) rfl (fun g => rfl) (fun st w' hS hn hp K hK => ?_), doesN_want (by decide) rfl (fun g => rfl) (fun st w' hS hp K hK => ?_), doesN_want (by decide) rfl (fun g => rfl) (fun st w' hS hp K hK => ?_), doesN_want (by decide) rfl (fun g => rfl) (fun st w' hS hp K hK => ?_), doesC_want (by decide) rfl (fun g => rfl) (fun st w' hS hn hp K hK => ?_), doesN_want (by decide) rfl (fun g => rfl) (fun st w' hS hp K hK => ?_), doesN_want (by decide) rfl (fun g => rfl) (fun st w' hS hp K hK => ?_), trivial⟩, fun st w' hS hall => ?_⟩
  · try dsimp only
    go_simp
    go_at_call 10
    refine (awake_any _).mono ?_
    rintro e w2 ⟨rfl, hb⟩
    exact hK _ (hS.call hb)
  · try dsimp only
    go_simp
    exact hK _ hS
  · try dsimp only
    exact wp_whole hS.1 2 rfl rfl Try.underlying23 rfl (sP _) (hK _ hS)
  · try dsimp only
    exact wp_whole hS.1 1 rfl rfl Try.underlying23 rfl (sP _) (hK _ hS)
  · try dsimp only
    exact wp_whole hS.1 0 rfl rfl Try.underlying25 rfl (sR _) (hK _ hS)
  · try dsimp only
    go_simp
    go_at_call 12
    refine (CP _).mono ?_
    rintro e w2 ⟨VA, vc, rfl, hL, hb⟩
    exact hK _ _ (hS.gain 0 rfl (by decide : [5, 9].Nodup) hL hb)
  · try dsimp only
    exact wp_whole hS.1 2 rfl rfl Try.underlying23 rfl (sP _) (hK _ hS)
  · try dsimp only
    exact wp_whole hS.1 1 rfl rfl Try.underlying23 rfl (sP _) (hK _ hS)
  · try dsimp only
    exact wp_whole hS.1 0 rfl rfl Try.underlying25 rfl (sR _) (hK _ hS)
  · try dsimp only
    go_simp
    go_at_call 13
    refine (CD _).mono ?_
    rintro e w2 ⟨VA, vc, rfl, hL, hb⟩
    exact hK _ _ (hS.gain 1 rfl (by decide : [5, 9].Nodup) hL hb)
  · try dsimp only
    obtain ⟨A1, k1, e1, h1⟩ := hS.get 0 rfl (hp 5 (by decide) (by kernel_rfl))
    obtain ⟨A2, k2, e2, h2⟩ := hS.get 1 rfl (hp 9 (by decide) (by kernel_rfl))
    simp only [seen, e1, e2, Option.getD_some] at hK ⊢
    go_simp
    go_at_call 11
    refine (SM _ h1 h2).mono ?_
    rintro e w2 ⟨rfl, hb⟩
    exact hK _ (hS.call hb)
  · try dsimp only
    go_simp
    exact hK _ hS
  try dsimp only
  have O3 := hS.1
  clear hS O
  have O := O3
  clear O3 hall
  refine wpAny_one (i := 12) (by kernel_rfl) rfl (fun K hK => ?_)
  go_simp
  refine hK _ _ ?_
  clear hK K
  try simp only [Act.put, List.setIfInBounds_toArray, List.set_cons_zero, List.set_cons_succ]
  refine wpAny_done (by kernel_rfl) ?_ _
  go_wp2_with fail
  go_ret
  exact ⟨rfl, O.below⟩

theorem readable : ∀ t ∈ Try.f3.params.toList, Try.prog.readableRec t = true ∧ t < Try.prog.types.size := by
  intro t ht
  rw [Try.params3] at ht
  simp only [List.mem_cons, List.not_mem_nil, or_false] at ht
  repeat (first | (rcases ht with rfl | ht; exact ⟨by kernel_rfl, of_decide_eq_true (by kernel_rfl)⟩) | (subst ht; exact ⟨by kernel_rfl, of_decide_eq_true (by kernel_rfl)⟩))
set_option maxRecDepth 100000 in
theorem lifted (os : Os) (started : os.Started) (H : Type) (enc : TypeId × Value → H) :
    ReturnsInHanded {} Try.checked os 3 .any (Rows.walkWithinSpec.pre6 enc Try.prog Try.f3 Rows.walkWithinRow.domain false) (Rows.walkWithinSpec.post enc Try.prog Try.f3 false true false false) := by
  refine returnsInHanded_of_change (C := Try.checked) own started (by kernel_rfl) Try.func3
    (ChangeSpec.witness6 (enc := enc) (C := Try.checked) false ⟨#[], #[.agg #[.int .i64 0, .int .i64 0], .agg #[.int .i64 0, .int .i64 0], .agg #[.int .i64 0, .int .i64 0, .int .i64 0, .int .i64 0]], []⟩ 8 (by kernel_rfl) (by kernel_rfl) (by kernel_rfl) (by kernel_rfl)) ?_
  intro W base args ds gs before hval0 hW hcnd _
  have hval : ∀ (j : Nat) t v, Try.f3.params[j]? = some t → args[j]? = some v → Value.okWide Try.prog W .any base t v := hval0
  have hW' := hW
  obtain ⟨p, q, hA0, hV, rfl, hfz, hnd⟩ := hW
  have hA : DataW.TrodAll enc Try.prog W 0 (fun _ => true) true Try.f3.params.toList args.toList ds p := hA0
  rw [Try.params3] at hA hval
  have hlt : ∀ x ∈ p ++ q, x.block < W.heap.size := fun x hx => hW'.lt x hx
  obtain ⟨v0, vs0, d0, ds0, p0, q0, hargs, rfl, rfl, h0, rr0⟩ := trodAll_cons hA
  obtain ⟨v1, vs1, d1, ds1, p1, q1, rfl, rfl, rfl, h1, rr1⟩ := trodAll_cons rr0
  obtain ⟨v2, vs2, d2, ds2, p2, q2, rfl, rfl, rfl, h2, rr2⟩ := trodAll_cons rr1
  obtain ⟨rfl, rfl, rfl⟩ := trodAll_nil rr2
  obtain rfl : args = #[v0, v1, v2] := by cases args; simp_all
  obtain ⟨rfl, rfl⟩ := trodVars_none hV
  obtain ⟨a0, rfl⟩ := openPoint (hval 0 23 v0 rfl rfl) h0
  obtain ⟨a1, rfl⟩ := openPoint (hval 1 23 v1 rfl rfl) h1
  obtain ⟨a2, rfl⟩ := openRect (hval 2 25 v2 rfl rfl) h2
  clear hA0 hval0
  refine (walk W a0 a1 a2).mono fun e W' ⟨he, hg⟩ => ?_
  subst he
  exact ⟨_, rfl, post_true (tb := 4) laid readable (by kernel_rfl) Try.underlying4 rfl (fun l hl => by
    match l, hl with
    | [_, _, _], _ => exact ⟨rfl, rfl, rfl⟩) hW' hg⟩

theorem over : Rows.walkWithinRow.holds Try.pinned (OpenSpec.ofChange Rows.walkWithinSpec) :=
  OpenClaim.holds_of_wide 3 Try.f3 rfl rfl rfl rfl rfl rfl rfl ⟨rfl, rfl, rfl, rfl, rfl⟩ rfl rfl rfl rfl rfl (by kernel_rfl) Try.func3 (by kernel_rfl)
    (of_decide_eq_true (by kernel_rfl)) (by unfold Func.isWrapper; first | (rw [if_pos (by decide +kernel)]; kernel_rfl) | (rw [if_neg (by decide +kernel)]; exact ⟨rfl, rfl⟩))
    (fun os started H enc _ => lifted os started H enc)

theorem proved : Rows.WalkWithinSaid :=
  over
#print axioms proved
end Go.Proofs.Ytheolajpjpnfjaa.walkWithin
