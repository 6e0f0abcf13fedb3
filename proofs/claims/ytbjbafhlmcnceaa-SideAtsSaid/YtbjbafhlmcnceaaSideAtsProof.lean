/-
  For every two vertices and two numbers the law SideAts returns true: what stands on the way from the one to the other one is the document's. No condition.
-/
import Derived.Test.YtbjbafhlmcnceaaRow
import Derived.Test.YtbjbafhlmcnceaaW7
import Derived.Test.YtbjbafhlmcnceaaOpen8
import Derived.Test.YtbjbafhlmcnceaaW9
import Derived.Deep.DeepCutAuto
namespace Go.Proofs.Ytbjbafhlmcnceaa.sideAts
open Go.ChangeShapes Go.WideShapes Go.ChangeAt Go.RowKit
set_option linter.unusedVariables false
set_option linter.unusedSimpArgs false

theorem own : ownKnob Try.prog.godebug = none := by kernel_rfl

set_option maxRecDepth 100000 in
set_option maxHeartbeats 16000000 in
theorem walk (w : World) (a b t : Nat → Int) (ht : ∀ i, i < 2 → -9223372036854775808 ≤ t i ∧ t i < 9223372036854775808) :
    Calls Try.prog 5 #[arr 8 a, arr 8 b, arr 2 t] w fun e w' => e = .returned (.bool true) ∧ Below w.heap.size w w' := by
  have O := Own.start w
  have ca := fun w => at_any a b (t 0) (t 1) (ht 1 (by omega)).2 w
  have cb := fun w => rat_any a b (t 0) (t 1) (ht 1 (by omega)).2 w
  obtain ⟨r, hr⟩ : ∃ r, D.at_ a b (t 0) (t 1) = r := ⟨_, rfl⟩
  rw [hr] at ca cb
  clear hr
  obtain ⟨v, z⟩ := r
  unfold RetAt at ca cb
  dsimp only at ca cb
  go_enter Try.func5, Try.ntmps5
  go_wp2_with (first | ((with_reducible refine at_box 3 ?_); refine wpList_box_own O (M.mat 8 (a)) rfl ?_; clear O; intro g3 w1 O) | ((with_reducible refine at_box 4 ?_); refine wpList_box_own O (M.mat 8 (b)) rfl ?_; clear O; intro g4 w2 O) | ((with_reducible refine at_box 5 ?_); refine wpList_box_own O (M.mat 2 (t)) rfl ?_; clear O; intro g5 w3 O) | ((with_reducible refine at_load 12 ?_); refine wpList_whole rfl O 2 rfl rfl Try.underlying27 rfl (s27 _) ?_) | ((with_reducible refine at_load 13 ?_); refine wpList_whole rfl O 1 rfl rfl Try.underlying27 rfl (s27 _) ?_) | ((with_reducible refine at_load 15 ?_); refine wpList_cell_h (v := .int .i64 ((t) (0))) rfl O.held 0 rfl (M.mat_get (by omega)) rfl agg3 rfl ?_) | ((with_reducible refine at_load 17 ?_); refine wpList_cell_h (v := .int .i64 ((t) (1))) rfl O.held 0 rfl (M.mat_get (by omega)) rfl agg3 rfl ?_) | (go_at_call 17; refine (ca _).mono ?_; rintro e w4 ⟨rfl, hb⟩; replace O := O.call hb; clear hb) | ((with_reducible refine at_alloc 7 ?_); refine wpList_alloc_own O (M.mat 8 M.zero) zero27 ?_; clear O; intro g7 w5 O) | ((with_reducible refine at_store 7 ?_); refine wpList_put_own O 0 (M.mat 8 (v)) rfl rfl rfl (s27 _) (M.mat_len2 _ _ _) (M.mat_one _ _) ?_; clear O; intro w6 O) | ((with_reducible refine at_load 22 ?_); refine wpList_whole rfl O 3 rfl rfl Try.underlying27 rfl (s27 _) ?_) | ((with_reducible refine at_load 23 ?_); refine wpList_whole rfl O 2 rfl rfl Try.underlying27 rfl (s27 _) ?_) | ((with_reducible refine at_load 25 ?_); refine wpList_cell_h (v := .int .i64 ((t) (0))) rfl O.held 1 rfl (M.mat_get (by omega)) rfl agg3 rfl ?_) | ((with_reducible refine at_load 27 ?_); refine wpList_cell_h (v := .int .i64 ((t) (1))) rfl O.held 1 rfl (M.mat_get (by omega)) rfl agg3 rfl ?_) | (go_at_call 18; refine (cb _).mono ?_; rintro e w7 ⟨rfl, hb⟩; replace O := O.call hb; clear hb) | ((with_reducible refine at_alloc 9 ?_); refine wpList_alloc_own O (M.mat 8 M.zero) zero27 ?_; clear O; intro g9 w8 O) | ((with_reducible refine at_store 9 ?_); refine wpList_put_own O 0 (M.mat 8 (v)) rfl rfl rfl (s27 _) (M.mat_len2 _ _ _) (M.mat_one _ _) ?_; clear O; intro w9 O) | (go_at_call 12; refine (awake_any _).mono ?_; rintro e w10 ⟨rfl, hb⟩; replace O := O.call hb; clear hb) | ((with_reducible refine at_load 33 ?_); refine wpList_whole rfl O 1 rfl rfl Try.underlying27 rfl (s27 _) ?_) | ((with_reducible refine at_load 34 ?_); refine wpList_whole rfl O 0 rfl rfl Try.underlying27 rfl (s27 _) ?_) | ((with_reducible refine at_binOp 35 ?_); refine wpList_eq27 rfl (v) (v) rfl rfl ?_; rw [M.eqB_refl]))
  go_ret
  exact ⟨rfl, O.below⟩
theorem readable : ∀ t ∈ Try.f5.params.toList, Try.prog.readableRec t = true ∧ t < Try.prog.types.size := by
  intro t ht
  rw [Try.params5] at ht
  simp only [List.mem_cons, List.not_mem_nil, or_false] at ht
  repeat (first | (rcases ht with rfl | ht; exact ⟨by kernel_rfl, of_decide_eq_true (by kernel_rfl)⟩) | (subst ht; exact ⟨by kernel_rfl, of_decide_eq_true (by kernel_rfl)⟩))
set_option maxRecDepth 100000 in
theorem lifted (os : Os) (started : os.Started) (H : Type) (enc : TypeId × Value → H) :
    ReturnsInHanded {} Try.checked os 5 .any (Rows.sideAtsSpec.pre6 enc Try.prog Try.f5 Rows.sideAtsRow.domain false) (Rows.sideAtsSpec.post enc Try.prog Try.f5 false true false false) := by
  refine returnsInHanded_of_change (C := Try.checked) own started (by kernel_rfl) Try.func5
    (ChangeSpec.witness6 (enc := enc) (C := Try.checked) false ⟨#[], #[.agg #[.int .i64 0, .int .i64 0, .int .i64 0, .int .i64 0, .int .i64 0, .int .i64 0, .int .i64 0, .int .i64 0], .agg #[.int .i64 0, .int .i64 0, .int .i64 0, .int .i64 0, .int .i64 0, .int .i64 0, .int .i64 0, .int .i64 0], .agg #[.int .i64 0, .int .i64 0]], []⟩ 8 (by kernel_rfl) (by kernel_rfl) (by kernel_rfl) (by kernel_rfl)) ?_
  intro W base args ds gs before hval0 hW hcnd _
  have hval : ∀ (j : Nat) t v, Try.f5.params[j]? = some t → args[j]? = some v → Value.okWide Try.prog W .any base t v := hval0
  have hW' := hW
  obtain ⟨p, q, hA0, hV, rfl, hfz, hnd⟩ := hW
  have hA : DataW.TrodAll enc Try.prog W 0 (fun _ => true) true Try.f5.params.toList args.toList ds p := hA0
  rw [Try.params5] at hA hval
  have hlt : ∀ x ∈ p ++ q, x.block < W.heap.size := fun x hx => hW'.lt x hx
  obtain ⟨v0, vs0, d0, ds0, p0, q0, hargs, rfl, rfl, h0, rr0⟩ := trodAll_cons hA
  obtain ⟨v1, vs1, d1, ds1, p1, q1, rfl, rfl, rfl, h1, rr1⟩ := trodAll_cons rr0
  obtain ⟨v2, vs2, d2, ds2, p2, q2, rfl, rfl, rfl, h2, rr2⟩ := trodAll_cons rr1
  obtain ⟨rfl, rfl, rfl⟩ := trodAll_nil rr2
  obtain rfl : args = #[v0, v1, v2] := by cases args; simp_all
  obtain ⟨rfl, rfl⟩ := trodVars_none hV
  obtain ⟨a0, rfl⟩ := openVert (hval 0 27 v0 rfl rfl) h0
  obtain ⟨a1, rfl⟩ := openVert (hval 1 27 v1 rfl rfl) h1
  obtain ⟨a2, rfl, x2⟩ := openTwo (hval 2 38 v2 rfl rfl) h2
  clear hA0 hval0
  refine (walk W a0 a1 a2 x2).mono fun e W' ⟨he, hg⟩ => ?_
  subst he
  exact ⟨_, rfl, post_true (tb := 4) laid readable (by kernel_rfl) Try.underlying4 rfl (fun l hl => by
    match l, hl with
    | [_, _, _], _ => exact ⟨rfl, rfl, rfl⟩) hW' hg⟩

theorem over : Rows.sideAtsRow.holds Try.pinned (OpenSpec.ofChange Rows.sideAtsSpec) :=
  OpenClaim.holds_of_wide 5 Try.f5 rfl rfl rfl rfl rfl rfl rfl ⟨rfl, rfl, rfl, rfl, rfl⟩ rfl rfl rfl rfl rfl (by kernel_rfl) Try.func5 (by kernel_rfl)
    (of_decide_eq_true (by kernel_rfl)) (by unfold Func.isWrapper; first | (rw [if_pos (by decide +kernel)]; kernel_rfl) | (rw [if_neg (by decide +kernel)]; exact ⟨rfl, rfl⟩))
    (fun os started H enc _ => lifted os started H enc)

theorem proved : Rows.SideAtsSaid :=
  over
#print axioms proved
end Go.Proofs.Ytbjbafhlmcnceaa.sideAts
