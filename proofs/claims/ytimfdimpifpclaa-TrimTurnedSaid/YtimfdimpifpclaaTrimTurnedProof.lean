/-
  For every two vertices and list of sides the law TrimTurned returns true: from the other end the same is left, the other way round. No condition.
-/
import Derived.Test.YtimfdimpifpclaaE4
import Derived.Deep.DeepCutAuto
namespace Go.Proofs.Ytimfdimpifpclaa.trimTurned
open Go.ChangeShapes Go.WideShapes Go.ChangeAt Go.RowKit
set_option linter.unusedVariables false
set_option linter.unusedSimpArgs false

theorem own : ownKnob Try.prog.godebug = none := by kernel_rfl

set_option maxRecDepth 100000 in
set_option maxHeartbeats 16000000 in
theorem walk (w : World) (a b : Nat → Int) (l : List (Nat → Int)) {A : Option Addr} {c : Nat} (hl : Lies w free (sE 0 A c l)) :
    Calls Try.prog 5 #[arr 8 a, arr 8 b, .slice A l.length c] w fun e w' => e = .returned (.bool true) ∧ Below w.heap.size w w' := by
  have O := Held.start w [sE 0 A c l] (by simpa using hl)
  clear hl
  have cm := fun (w : World) (h : Lies w free (sE 0 A c l)) => may_any a b l w h
  cases hm : D.may a b l
  all_goals rw [hm] at cm
  · clear hm
    go_enter Try.func5, Try.ntmps5
    go_wp2_with (first | ((with_reducible refine at_box 3 ?_); refine wpList_box_h O (M.mat 8 (a)) rfl ?_; clear O; intro g3 w1 O) | ((with_reducible refine at_box 4 ?_); refine wpList_box_h O (M.mat 8 (b)) rfl ?_; clear O; intro g4 w2 O) | ((with_reducible refine at_load 13 ?_); refine wpList_rowg_h rfl O 1 rfl rfl Try.underlying27 rfl (s27 _) ?_) | ((with_reducible refine at_load 14 ?_); refine wpList_rowg_h rfl O 0 rfl rfl Try.underlying27 rfl (s27 _) ?_) | (go_at_call 8; refine (cm _ (O.arg List.mem_cons_self)).mono ?_; rintro e w3 ⟨rfl, hb⟩; replace O := O.call hb; clear hb) | (go_at_call 9; refine (awake_any _).mono ?_; rintro e w5 ⟨rfl, hb⟩; replace O := O.call hb; clear hb))
    go_ret
    exact ⟨rfl, O.below⟩
  · obtain ⟨h9, ha, hb, hr⟩ := D.may_iff.1 hm
    clear hm
    have c1 := fun (w : World) (h : Lies w free (sE 0 A c l)) => ptrim_any a b l ha hb hr (by omega) w h
    have c2 := fun (w : World) (h : Lies w free (sE 0 A c l)) => ptrim_any b a l hb ha hr (by omega) w h
    rw [D.trim_turn a b l] at c2
    obtain ⟨⟨f1, f2, z⟩, hp⟩ : ∃ r, D.trim a b l = r := ⟨_, rfl⟩
    unfold RetTrim at c1 c2
    rw [hp] at c1 c2
    dsimp only at c1 c2
    clear ha hb hr hp h9
    have tok : True := trivial
    cases z
    all_goals
      go_enter Try.func5, Try.ntmps5
      go_wp2_with (first | ((with_reducible refine at_box 3 ?_); refine wpList_box_h O (M.mat 8 (a)) rfl ?_; clear O; intro g3 w1 O) | ((with_reducible refine at_box 4 ?_); refine wpList_box_h O (M.mat 8 (b)) rfl ?_; clear O; intro g4 w2 O) | ((with_reducible refine at_load 13 ?_); refine wpList_rowg_h rfl O 1 rfl rfl Try.underlying27 rfl (s27 _) ?_) | ((with_reducible refine at_load 14 ?_); refine wpList_rowg_h rfl O 0 rfl rfl Try.underlying27 rfl (s27 _) ?_) | (go_at_call 8; refine (cm _ (O.arg List.mem_cons_self)).mono ?_; rintro e w3 ⟨rfl, hb⟩; replace O := O.call hb; clear hb) | ((with_reducible refine at_load 20 ?_); refine wpList_rowg_h rfl O 1 rfl rfl Try.underlying27 rfl (s27 _) ?_) | ((with_reducible refine at_load 21 ?_); refine wpList_rowg_h rfl O 0 rfl rfl Try.underlying27 rfl (s27 _) ?_) | (go_at_call 12; clear tok; have tok2 : True := trivial; refine (c1 _ (O.arg List.mem_cons_self)).mono ?_; rintro e w4 ⟨rfl, hb⟩; replace O := O.call hb; clear hb c1) | (go_at_call 12; clear tok2; refine (c2 _ (O.arg List.mem_cons_self)).mono ?_; rintro e w9 ⟨rfl, hb⟩; replace O := O.call hb; clear hb c2) | ((with_reducible refine at_alloc 7 ?_); refine wpList_alloc_h O (M.mat 8 M.zero) zero27 ?_; clear O; intro g7 w5 O) | ((with_reducible refine at_alloc 8 ?_); refine wpList_alloc_h O (M.mat 8 M.zero) zero27 ?_; clear O; intro g8 w6 O) | ((with_reducible refine at_store 7 ?_); refine wpList_put_h O 1 (M.mat 8 (f1)) rfl rfl rfl (s27 _) (M.mat_len2 _ _ _) (M.mat_one _ _) ?_; clear O; intro w7 O) | ((with_reducible refine at_store 8 ?_); refine wpList_put_h O 0 (M.mat 8 (f2)) rfl rfl rfl (s27 _) (M.mat_len2 _ _ _) (M.mat_one _ _) ?_; clear O; intro w8 O) | ((with_reducible refine at_load 28 ?_); refine wpList_rowg_h rfl O 2 rfl rfl Try.underlying27 rfl (s27 _) ?_) | ((with_reducible refine at_load 29 ?_); refine wpList_rowg_h rfl O 3 rfl rfl Try.underlying27 rfl (s27 _) ?_) | ((with_reducible refine at_alloc 10 ?_); refine wpList_alloc_h O (M.mat 8 M.zero) zero27 ?_; clear O; intro g10 x1 O) | ((with_reducible refine at_alloc 11 ?_); refine wpList_alloc_h O (M.mat 8 M.zero) zero27 ?_; clear O; intro g11 x2 O) | ((with_reducible refine at_store 10 ?_); refine wpList_put_h O 1 (M.mat 8 (f2)) rfl rfl rfl (s27 _) (M.mat_len2 _ _ _) (M.mat_one _ _) ?_; clear O; intro x3 O) | ((with_reducible refine at_store 11 ?_); refine wpList_put_h O 0 (M.mat 8 (f1)) rfl rfl rfl (s27 _) (M.mat_len2 _ _ _) (M.mat_one _ _) ?_; clear O; intro x4 O) | (go_at_call 9; refine (awake_any _).mono ?_; rintro e x5 ⟨rfl, hb⟩; replace O := O.call hb; clear hb) | ((with_reducible refine at_load 37 ?_); refine wpList_rowg_h rfl O 3 rfl rfl Try.underlying27 rfl (s27 _) ?_) | ((with_reducible refine at_load 38 ?_); refine wpList_rowg_h rfl O 0 rfl rfl Try.underlying27 rfl (s27 _) ?_) | ((with_reducible refine at_binOp 39 ?_); refine wpList_eq27 rfl (f1) (f1) rfl rfl ?_; rw [M.eqB_refl]) | ((with_reducible refine at_load 42 ?_); refine wpList_rowg_h rfl O 2 rfl rfl Try.underlying27 rfl (s27 _) ?_) | ((with_reducible refine at_load 43 ?_); refine wpList_rowg_h rfl O 1 rfl rfl Try.underlying27 rfl (s27 _) ?_) | ((with_reducible refine at_binOp 44 ?_); refine wpList_eq27 rfl (f2) (f2) rfl rfl ?_; rw [M.eqB_refl]))
      go_ret
      exact ⟨rfl, O.below⟩
theorem readable : ∀ t ∈ Try.f5.params.toList, Try.prog.readableRec t = true ∧ t < Try.prog.types.size := by
  intro t ht
  rw [Try.params5] at ht
  simp only [List.mem_cons, List.not_mem_nil, or_false] at ht
  repeat (first | (rcases ht with rfl | ht; exact ⟨by kernel_rfl, of_decide_eq_true (by kernel_rfl)⟩) | (subst ht; exact ⟨by kernel_rfl, of_decide_eq_true (by kernel_rfl)⟩))
set_option maxRecDepth 100000 in
theorem lifted (os : Os) (started : os.Started) (H : Type) (enc : TypeId × Value → H) :
    ReturnsInHanded {} Try.checked os 5 .any (Rows.trimTurnedSpec.pre6 enc Try.prog Try.f5 Rows.trimTurnedRow.domain false) (Rows.trimTurnedSpec.post enc Try.prog Try.f5 false true false false) := by
  refine returnsInHanded_of_change (C := Try.checked) own started (by kernel_rfl) Try.func5
    (ChangeSpec.witness6 (enc := enc) (C := Try.checked) false ⟨#[], #[.agg #[.int .i64 0, .int .i64 0, .int .i64 0, .int .i64 0, .int .i64 0, .int .i64 0, .int .i64 0, .int .i64 0], .agg #[.int .i64 0, .int .i64 0, .int .i64 0, .int .i64 0, .int .i64 0, .int .i64 0, .int .i64 0, .int .i64 0], .slice none 0 0], []⟩ 8 (by kernel_rfl) (by kernel_rfl) (by kernel_rfl) (by kernel_rfl)) ?_
  intro W base args ds gs before hval0 hW hcnd _
  have hval : ∀ (j : Nat) t v, Try.f5.params[j]? = some t → args[j]? = some v → Value.okWide Try.prog W .any base t v := hval0
  have hW' := hW
  obtain ⟨p, q, hA0, hV, rfl, hfz, hnd⟩ := hW
  have hA : DataW.TrodAll enc Try.prog W 0 (fun _ => true) true Try.f5.params.toList args.toList ds p := hA0
  rw [Try.params5] at hA hval
  have hlt : ∀ x ∈ p ++ q, x.block < W.heap.size := fun x hx => hW'.lt x hx
  obtain ⟨v0, vs0, d0, ds0, p0, q0, hargs, rfl, rfl, h0, rr0⟩ := trodAll_cons hA
  obtain ⟨v1, vs1, d1, ds1, p1, q1, rfl, rfl, rfl, h1, rr1⟩ := trodAll_cons rr0
  obtain ⟨v2, vs2, d2, ds2, p2, q2, rfl, rfl, rfl, h2, rr2⟩ := trodAll_cons rr1
  obtain ⟨rfl, rfl, rfl⟩ := trodAll_nil rr2
  obtain rfl : args = #[v0, v1, v2] := by cases args; simp_all
  obtain ⟨rfl, rfl⟩ := trodVars_none hV
  obtain ⟨a0, rfl⟩ := openVert (hval 0 27 v0 rfl rfl) h0
  obtain ⟨a1, rfl⟩ := openVert (hval 1 27 v1 rfl rfl) h1
  obtain ⟨A2, n2, c2, rfl⟩ := okWide_slice Try.underlying29 (hval 2 29 v2 rfl rfl)
  obtain ⟨B2, k2, l2, e2, hF⟩ := openSides h2 (fun x hx => hlt x (by simp [hx]))
  obtain ⟨rfl, rfl, rfl⟩ := Value.slice.inj e2
  clear hA0 hval0
  refine (walk W a0 a1 _ hF).mono fun e W' ⟨he, hg⟩ => ?_
  subst he
  exact ⟨_, rfl, post_true (tb := 4) laid readable (by kernel_rfl) Try.underlying4 rfl (fun l hl => by
    match l, hl with
    | [_, _, _], _ => exact ⟨rfl, rfl, rfl⟩) hW' hg⟩

theorem over : Rows.trimTurnedRow.holds Try.pinned (OpenSpec.ofChange Rows.trimTurnedSpec) :=
  OpenClaim.holds_of_wide 5 Try.f5 rfl rfl rfl rfl rfl rfl rfl ⟨rfl, rfl, rfl, rfl, rfl⟩ rfl rfl rfl rfl rfl (by kernel_rfl) Try.func5 (by kernel_rfl)
    (of_decide_eq_true (by kernel_rfl)) (by unfold Func.isWrapper; first | (rw [if_pos (by decide +kernel)]; kernel_rfl) | (rw [if_neg (by decide +kernel)]; exact ⟨rfl, rfl⟩))
    (fun os started H enc _ => lifted os started H enc)

theorem proved : Rows.TrimTurnedSaid :=
  over
#print axioms proved
end Go.Proofs.Ytimfdimpifpclaa.trimTurned
