/-
  DashRuns: for every dash and any number up to 3000: the runs of lit pixels are the document's.
-/
import Derived.Test.YtpomdghalkphcaaHx
import Derived.Deep.DeepCutAuto
namespace Go.Proofs.Ytpomdghalkphcaa.dashRuns
open Go.ChangeShapes Go.WideShapes Go.ChangeAt Go.RowKit
set_option linter.unusedVariables false
set_option linter.unusedSimpArgs false

theorem own : ownKnob Try.prog.godebug = none := by kernel_rfl

set_option maxRecDepth 100000 in
set_option maxHeartbeats 16000000 in
theorem walk (w : World) (d : Nat → Int) (n : Int) :
    Calls Try.prog 4 #[arr 3 d, .int .i64 n] w fun e w' => e = .returned (.bool true) ∧ Below w.heap.size w w' := by
  have O := Own.start w
  have DR := fun w => rright_any d w
  cases h1 : HM.right d
  · rw [h1] at DR
    clear h1
    go_enter Try.func4, Try.ntmps4
    go_wp2_with (first | ((with_reducible refine at_box 2 ?_); refine wpList_box_own O (M.mat 3 (d)) rfl ?_; clear O; intro g2 w1 O) | ((with_reducible refine at_load 5 ?_); refine wpList_whole rfl O 0 rfl rfl Try.underlying23 rfl (sH _) ?_) | (go_at_call 8; refine (DR _).mono ?_; rintro e w4 ⟨rfl, hb⟩; replace O := O.call hb; clear hb) | (go_at_call 10; refine (awake_any _).mono ?_; rintro e w20 ⟨rfl, hb⟩; replace O := O.call hb; clear hb))
    go_ret
    exact ⟨rfl, O.below⟩
  · cases c1 : decide (n < 0)
    · cases c2 : decide (3000 < n)
      · obtain ⟨m, rfl⟩ : ∃ m : Nat, n = m := ⟨n.toNat, by have := of_decide_eq_false c1; omega⟩
        have hm : m ≤ 3000 := by have := of_decide_eq_false c2; omega
        have PRN := fun w => pruns_any d h1 m (by omega) w
        have DRN := fun w => rruns_any d h1 m (by omega) w
        rw [h1] at DR
        have hlen := HM.runs_len (fun k : Nat => HM.litF d k) m
        generalize HM.runs (fun k : Nat => HM.litF d k) m = l at *
        have SM := fun {A1 A2 : Option Addr} {c1 c2 : Nat} w x y => same_any l (lo1 := 0) (lo2 := 0) (A1 := A1) (A2 := A2) (c1 := c1) (c2 := c2) (by omega) w x y
        unfold RetT at PRN DRN
        clear h1 hlen hm
        go_enter Try.func4, Try.ntmps4
        go_wp2_with (first | ((with_reducible refine at_box 2 ?_); refine wpList_box_own O (M.mat 3 (d)) rfl ?_; clear O; intro g2 w1 O) | ((with_reducible refine at_load 5 ?_); refine wpList_whole rfl O 0 rfl rfl Try.underlying23 rfl (sH _) ?_) | (go_at_call 8; refine (DR _).mono ?_; rintro e w4 ⟨rfl, hb⟩; replace O := O.call hb; clear hb))
        refine region_S (fun st w2 => LS w [(g2, 23, M.mat 3 d)] [(4, l), (7, l)] st w2) [4, 7] 12 10 [some 17, some 18, some 19, some 20, some 21, some 22, some 23, some 24, some 25, some 26] (fun g => [.bool true, .bool true, arr 3 d, .int .i64 (m : Int), g 4, arr 3 d, .int .i64 (m : Int), g 7, .bool true, .bool true]) 1 (by kernel_rfl) (by kernel_rfl) (by rfl) (by rfl) (fun _ => rfl) (by decide) ?_ (LS.start O.drew) (fun F hF => ?_)
        · intro i hi
          simp only [List.mem_cons, List.not_mem_nil, or_false] at hi
          rcases hi with rfl | rfl
          · exact ⟨fun _ => rfl, [0, 1, 2, 3, 5, 6, 7, 8, 9], by kernel_rfl, fun g v => ⟨rfl, rfl, rfl, rfl, rfl, rfl, rfl, rfl, rfl, trivial⟩⟩
          · exact ⟨fun _ => rfl, [0, 1, 2, 3, 4, 5, 6, 8, 9], by kernel_rfl, fun g v => ⟨rfl, rfl, rfl, rfl, rfl, rfl, rfl, rfl, rfl, trivial⟩⟩
        simp only [fillD, Act.put, List.setIfInBounds_toArray, List.set_cons_zero, List.set_cons_succ] at hF
        have hF2 := funext hF
        clear hF
        subst hF2
        refine ⟨⟨doesN_want (by decide) rfl (fun g => rfl) (fun st w' hS hp K hK => ?_), doesN_want (by decide) rfl (fun g => rfl) (fun st w' hS hp K hK => ?_), doesN_want (by decide) rfl (fun g => rfl) (fun st w' hS hp K hK => ?_), doesN_want (by decide) rfl (fun g => rfl) (fun st w' hS hp K hK => ?_), doesC_want (by decide) rfl (fun g => rfl) (fun st w' hS hn hp K hK => ?_), doesN_want (by decide) rfl (fun g => rfl) (fun st w' hS hp K hK => ?_), doesN_want (by decide) rfl (fun g => rfl) (fun st w' hS hp K hK => ?_), doesC_want (by decide) rfl (fun g => rfl) (fun st w' hS hn hp K hK => ?_), doesN_want (by decide) rfl (fun g => rfl) (fun st w' hS hp K hK => ?_), doesN_want (by decide) rfl (fun g => rfl) (fun st w' hS hp K hK => ?_), trivial⟩, fun st w' hS hall => ?_⟩
        · try dsimp only
          go_simp
          go_at_call 10
          refine (awake_any _).mono ?_
          rintro e w2 ⟨rfl, hb⟩
          exact hK _ (hS.call hb)
        · try dsimp only
          go_simp
          exact hK _ hS
        · try dsimp only
          exact wp_whole hS.1 0 rfl rfl Try.underlying23 rfl (sH _) (hK _ hS)
        · try dsimp only
          go_simp
          exact hK _ hS
        · try dsimp only
          go_simp
          go_at_call 16
          refine (PRN _).mono ?_
          rintro e w2 ⟨VA, vc, rfl, hL, hb⟩
          exact hK _ _ (hS.gain 0 rfl (by decide : [4, 7].Nodup) hL hb)
        · try dsimp only
          exact wp_whole hS.1 0 rfl rfl Try.underlying23 rfl (sH _) (hK _ hS)
        · try dsimp only
          go_simp
          exact hK _ hS
        · try dsimp only
          go_simp
          go_at_call 17
          refine (DRN _).mono ?_
          rintro e w2 ⟨VA, vc, rfl, hL, hb⟩
          exact hK _ _ (hS.gain 1 rfl (by decide : [4, 7].Nodup) hL hb)
        · try dsimp only
          obtain ⟨A1, k1, e1, h1⟩ := hS.get 0 rfl (hp 4 (by decide) (by kernel_rfl))
          obtain ⟨A2, k2, e2, h2⟩ := hS.get 1 rfl (hp 7 (by decide) (by kernel_rfl))
          simp only [seen, e1, e2, Option.getD_some] at hK ⊢
          go_simp
          go_at_call 15
          refine (SM _ h1 h2).mono ?_
          rintro e w2 ⟨rfl, hb⟩
          exact hK _ (hS.call hb)
        · try dsimp only
          go_simp
          exact hK _ hS
        try dsimp only
        have O3 := hS.1
        clear hS O
        have O := O3
        clear O3 hall
        refine wpAny_one (i := 10) (by kernel_rfl) rfl (fun K hK => ?_)
        go_simp
        refine hK _ _ ?_
        clear hK K
        try simp only [Act.put, List.setIfInBounds_toArray, List.set_cons_zero, List.set_cons_succ]
        refine wpAny_done (by kernel_rfl) ?_ _
        go_wp2_with fail
        go_ret
        exact ⟨rfl, O.below⟩
      · rw [h1] at DR
        clear h1
        go_enter Try.func4, Try.ntmps4
        go_wp2_with (first | ((with_reducible refine at_box 2 ?_); refine wpList_box_own O (M.mat 3 (d)) rfl ?_; clear O; intro g2 w1 O) | ((with_reducible refine at_load 5 ?_); refine wpList_whole rfl O 0 rfl rfl Try.underlying23 rfl (sH _) ?_) | (go_at_call 8; refine (DR _).mono ?_; rintro e w4 ⟨rfl, hb⟩; replace O := O.call hb; clear hb) | (go_at_call 10; refine (awake_any _).mono ?_; rintro e w20 ⟨rfl, hb⟩; replace O := O.call hb; clear hb))
        go_ret
        exact ⟨rfl, O.below⟩
    · rw [h1] at DR
      clear h1
      go_enter Try.func4, Try.ntmps4
      go_wp2_with (first | ((with_reducible refine at_box 2 ?_); refine wpList_box_own O (M.mat 3 (d)) rfl ?_; clear O; intro g2 w1 O) | ((with_reducible refine at_load 5 ?_); refine wpList_whole rfl O 0 rfl rfl Try.underlying23 rfl (sH _) ?_) | (go_at_call 8; refine (DR _).mono ?_; rintro e w4 ⟨rfl, hb⟩; replace O := O.call hb; clear hb) | (go_at_call 10; refine (awake_any _).mono ?_; rintro e w20 ⟨rfl, hb⟩; replace O := O.call hb; clear hb))
      go_ret
      exact ⟨rfl, O.below⟩

theorem readable : ∀ t ∈ Try.f4.params.toList, Try.prog.readableRec t = true ∧ t < Try.prog.types.size := by
  intro t ht
  rw [Try.params4] at ht
  simp only [List.mem_cons, List.not_mem_nil, or_false] at ht
  repeat (first | (rcases ht with rfl | ht; exact ⟨by kernel_rfl, of_decide_eq_true (by kernel_rfl)⟩) | (subst ht; exact ⟨by kernel_rfl, of_decide_eq_true (by kernel_rfl)⟩))
set_option maxRecDepth 100000 in
theorem lifted (os : Os) (started : os.Started) (H : Type) (enc : TypeId × Value → H) :
    ReturnsInHanded {} Try.checked os 4 .any (Rows.dashRunsSpec.pre6 enc Try.prog Try.f4 Rows.dashRunsRow.domain false) (Rows.dashRunsSpec.post enc Try.prog Try.f4 false true false false) := by
  refine returnsInHanded_of_change (C := Try.checked) own started (by kernel_rfl) Try.func4
    (ChangeSpec.witness6 (enc := enc) (C := Try.checked) false ⟨#[], #[.agg #[.int .i64 0, .int .i64 0, .int .i64 0], .int .i64 0], []⟩ 8 (by kernel_rfl) (by kernel_rfl) (by kernel_rfl) (by kernel_rfl)) ?_
  intro W base args ds gs before hval0 hW hcnd _
  have hval : ∀ (j : Nat) t v, Try.f4.params[j]? = some t → args[j]? = some v → Value.okWide Try.prog W .any base t v := hval0
  have hW' := hW
  obtain ⟨p, q, hA0, hV, rfl, hfz, hnd⟩ := hW
  have hA : DataW.TrodAll enc Try.prog W 0 (fun _ => true) true Try.f4.params.toList args.toList ds p := hA0
  rw [Try.params4] at hA hval
  have hlt : ∀ x ∈ p ++ q, x.block < W.heap.size := fun x hx => hW'.lt x hx
  obtain ⟨v0, vs0, d0, ds0, p0, q0, hargs, rfl, rfl, h0, rr0⟩ := trodAll_cons hA
  obtain ⟨v1, vs1, d1, ds1, p1, q1, rfl, rfl, rfl, h1, rr1⟩ := trodAll_cons rr0
  obtain ⟨rfl, rfl, rfl⟩ := trodAll_nil rr1
  obtain rfl : args = #[v0, v1] := by cases args; simp_all
  obtain ⟨rfl, rfl⟩ := trodVars_none hV
  obtain ⟨a0, rfl⟩ := openDash (hval 0 23 v0 rfl rfl) h0
  obtain ⟨i1, rfl, rfl, rfl, x1⟩ := open_int Try.underlying3 (hval 1 3 v1 rfl rfl) h1
  clear hA0 hval0
  refine (walk W a0 i1).mono fun e W' ⟨he, hg⟩ => ?_
  subst he
  exact ⟨_, rfl, post_true (tb := 4) laid readable (by kernel_rfl) Try.underlying4 rfl (fun l hl => by
    match l, hl with
    | [_, _], _ => exact ⟨rfl, rfl, rfl⟩) hW' hg⟩

theorem over : Rows.dashRunsRow.holds Try.pinned (OpenSpec.ofChange Rows.dashRunsSpec) :=
  OpenClaim.holds_of_wide 4 Try.f4 rfl rfl rfl rfl rfl rfl rfl ⟨rfl, rfl, rfl, rfl, rfl⟩ rfl rfl rfl rfl rfl (by kernel_rfl) Try.func4 (by kernel_rfl)
    (of_decide_eq_true (by kernel_rfl)) (by unfold Func.isWrapper; first | (rw [if_pos (by decide +kernel)]; kernel_rfl) | (rw [if_neg (by decide +kernel)]; exact ⟨rfl, rfl⟩))
    (fun os started H enc _ => lifted os started H enc)

theorem proved : Rows.DashRunsSaid :=
  over
#print axioms proved
end Go.Proofs.Ytpomdghalkphcaa.dashRuns
