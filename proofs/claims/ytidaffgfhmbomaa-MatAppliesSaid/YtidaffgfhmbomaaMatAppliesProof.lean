/-
  For every matrix, four numbers and bound the law MatApplies returns true: what the numbers become, or why nothing comes of them, is the document's. No condition.
-/
import Derived.Test.YtidaffgfhmbomaaRow
import Derived.Test.YtidaffgfhmbomaaAwake4
import Derived.Test.YtidaffgfhmbomaaRApply4
import Derived.Test.YtidaffgfhmbomaaOpen4
import Derived.Deep.DeepCutAuto
namespace Go.Proofs.Ytidaffgfhmbomaa.matApplies
open Go.ChangeShapes Go.WideShapes Go.ChangeAt Go.RowKit
set_option linter.unusedVariables false
set_option linter.unusedSimpArgs false

theorem own : ownKnob Try.prog.godebug = none := by kernel_rfl

set_option maxRecDepth 100000 in
set_option maxHeartbeats 8000000 in
theorem walk (m v : Nat → Int) (most : Int) (w : World) :
    Calls Try.prog 4 #[arr 16 m, arr 4 v, .int .i64 most] w fun e w' => e = .returned (.bool true) ∧ Below w.heap.size w w' := by
  obtain ⟨x, k, A, B⟩ : ∃ (x : Nat → Int) (k : Int), (∀ w, Calls Try.prog 18 #[arr 16 m, arr 4 v, .int .i64 most] w fun e w' => e = .returned (.tuple #[arr 4 x, .int .i64 k]) ∧ Below w.heap.size w w') ∧ (∀ w, Calls Try.prog 19 #[arr 16 m, arr 4 v, .int .i64 most] w fun e w' => e = .returned (.tuple #[arr 4 x, .int .i64 k]) ∧ Below w.heap.size w w') :=
    ⟨_, _, fun w => apply_any m v most w, fun w => rapply_any m v most w⟩
  have O := Own.start w
  have hu2 := Try.underlying23
  have hu3 := Try.underlying32
  go_enter Try.func4, Try.ntmps4
  go_wp2_with (first | ((with_reducible refine at_box 3 ?_); refine wpList_box_own O (M.mat 16 m) rfl ?_; clear O; intro g3 w1 O) | ((with_reducible refine at_box 4 ?_); refine wpList_box_own O (M.mat 4 v) rfl ?_; clear O; intro g4 w1 O) | ((with_reducible refine at_load 12 ?_); refine wpList_row_own O 1 rfl rfl Try.underlying23 (s23 _) ?_) | ((with_reducible refine at_load 13 ?_); refine wpList_row_own O 0 rfl rfl Try.underlying32 (s32 _) ?_) | (go_at_call 18; refine (A _).mono ?_; rintro e w1 ⟨rfl, hb⟩; replace O := O.call hb; clear hb) | ((with_reducible refine at_alloc 7 ?_); refine wpList_alloc_own O (M.mat 4 M.zero) zero32 ?_; clear O; intro g7 w1 O) | ((with_reducible refine at_store 7 ?_); refine wpList_put_own O 0 (M.mat 4 (x)) rfl rfl rfl (s32 _) (M.mat_len2 _ _ _) (M.mat_one _ _) ?_; clear O; intro w1 O) | ((with_reducible refine at_load 19 ?_); refine wpList_row_own O 2 rfl rfl Try.underlying23 (s23 _) ?_) | ((with_reducible refine at_load 20 ?_); refine wpList_row_own O 1 rfl rfl Try.underlying32 (s32 _) ?_) | (go_at_call 19; refine (B _).mono ?_; rintro e w1 ⟨rfl, hb⟩; replace O := O.call hb; clear hb) | ((with_reducible refine at_alloc 9 ?_); refine wpList_alloc_own O (M.mat 4 M.zero) zero32 ?_; clear O; intro g9 w1 O) | ((with_reducible refine at_store 9 ?_); refine wpList_put_own O 0 (M.mat 4 (x)) rfl rfl rfl (s32 _) (M.mat_len2 _ _ _) (M.mat_one _ _) ?_; clear O; intro w1 O) | (go_at_call 11; refine (awake_any _).mono ?_; rintro e w1 ⟨rfl, hb⟩; replace O := O.call hb; clear hb) | ((with_reducible refine at_load 27 ?_); refine wpList_rowg_own rfl O 1 rfl rfl Try.underlying32 (s32 _) ?_) | ((with_reducible refine at_load 28 ?_); refine wpList_rowg_own rfl O 0 rfl rfl Try.underlying32 (s32 _) ?_) | ((with_reducible refine at_binOp 29 ?_); refine wpList_eq_mat (by rfl) Try.underlying32 Try.eqGuardType32 (x) (x) rfl rfl ?_; rw [M.eqB_refl]))
  go_ret
  exact ⟨rfl, O.below⟩

theorem readable : ∀ t ∈ Try.f4.params.toList, Try.prog.readableRec t = true ∧ t < Try.prog.types.size := by
  intro t ht
  rw [Try.params4] at ht
  simp only [List.mem_cons, List.not_mem_nil, or_false] at ht
  repeat (first | (rcases ht with rfl | ht; exact ⟨by kernel_rfl, of_decide_eq_true (by kernel_rfl)⟩) | (subst ht; exact ⟨by kernel_rfl, of_decide_eq_true (by kernel_rfl)⟩))
set_option maxRecDepth 100000 in
theorem lifted (os : Os) (started : os.Started) (H : Type) (enc : TypeId × Value → H) :
    ReturnsInHanded {} Try.checked os 4 .any (Rows.matAppliesSpec.pre6 enc Try.prog Try.f4 Rows.matAppliesRow.domain false) (Rows.matAppliesSpec.post enc Try.prog Try.f4 false true false false) := by
  refine returnsInHanded_of_change (C := Try.checked) own started (by kernel_rfl) Try.func4
    (ChangeSpec.witness6 (enc := enc) (C := Try.checked) false ⟨#[], #[.agg #[.int .i64 0, .int .i64 0, .int .i64 0, .int .i64 0, .int .i64 0, .int .i64 0, .int .i64 0, .int .i64 0, .int .i64 0, .int .i64 0, .int .i64 0, .int .i64 0, .int .i64 0, .int .i64 0, .int .i64 0, .int .i64 0], .agg #[.int .i64 0, .int .i64 0, .int .i64 0, .int .i64 0], .int .i64 0], []⟩ 8 (by kernel_rfl) (by kernel_rfl) (by kernel_rfl) (by kernel_rfl)) ?_
  intro W base args ds gs before hval0 hW hcnd _
  have hval : ∀ (j : Nat) t v, Try.f4.params[j]? = some t → args[j]? = some v → Value.okWide Try.prog W .any base t v := hval0
  have hW' := hW
  obtain ⟨p, q, hA0, hV, rfl, hfz, hnd⟩ := hW
  have hA : DataW.TrodAll enc Try.prog W 0 (fun _ => true) true Try.f4.params.toList args.toList ds p := hA0
  rw [Try.params4] at hA hval
  have hlt : ∀ x ∈ p ++ q, x.block < W.heap.size := fun x hx => hW'.lt x hx
  obtain ⟨v0, vs0, d0, ds0, p0, q0, hargs, rfl, rfl, h0, rr0⟩ := trodAll_cons hA
  obtain ⟨v1, vs1, d1, ds1, p1, q1, rfl, rfl, rfl, h1, rr1⟩ := trodAll_cons rr0
  obtain ⟨v2, vs2, d2, ds2, p2, q2, rfl, rfl, rfl, h2, rr2⟩ := trodAll_cons rr1
  obtain ⟨rfl, rfl, rfl⟩ := trodAll_nil rr2
  obtain rfl : args = #[v0, v1, v2] := by cases args; simp_all
  obtain ⟨rfl, rfl⟩ := trodVars_none hV
  obtain ⟨a0, rfl, r0⟩ := open23 (hval 0 23 v0 rfl rfl) h0
  obtain ⟨a1, rfl, r1⟩ := open32 (hval 1 32 v1 rfl rfl) h1
  obtain ⟨a2, rfl, rfl, rfl, r2⟩ := open_int Try.underlying3 (hval 2 3 v2 rfl rfl) h2
  clear hA0 hval0
  refine (walk a0 a1 a2 W).mono fun e W' ⟨he, hg⟩ => ?_
  subst he
  exact ⟨_, rfl, post_true (tb := 4) laid readable (by kernel_rfl) Try.underlying4 rfl (fun l hl => by
    match l, hl with
    | [_, _, _], _ => exact ⟨rfl, rfl, rfl⟩) hW' hg⟩

theorem over : Rows.matAppliesRow.holds Try.pinned (OpenSpec.ofChange Rows.matAppliesSpec) :=
  OpenClaim.holds_of_wide 4 Try.f4 rfl rfl rfl rfl rfl rfl rfl ⟨rfl, rfl, rfl, rfl, rfl⟩ rfl rfl rfl rfl rfl (by kernel_rfl) Try.func4 (by kernel_rfl)
    (of_decide_eq_true (by kernel_rfl)) (by unfold Func.isWrapper; first | (rw [if_pos (by decide +kernel)]; kernel_rfl) | (rw [if_neg (by decide +kernel)]; exact ⟨rfl, rfl⟩))
    (fun os started H enc _ => lifted os started H enc)

theorem proved : Rows.MatAppliesSaid :=
  over
#print axioms proved
end Go.Proofs.Ytidaffgfhmbomaa.matApplies
