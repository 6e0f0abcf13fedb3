/-
  For every two matrices the law MatTells returns true: whether they may be, their product, or why there is none, and rows as columns, are the document's. No condition.
-/
import Derived.Test.YtidaffgfhmbomaaRow
import Derived.Test.YtidaffgfhmbomaaAwake4
import Derived.Test.YtidaffgfhmbomaaRMul4
import Derived.Test.YtidaffgfhmbomaaOpen4
import Derived.Deep.DeepCutAuto
namespace Go.Proofs.Ytidaffgfhmbomaa.matTells
open Go.ChangeShapes Go.WideShapes Go.ChangeAt Go.RowKit
set_option linter.unusedVariables false
set_option linter.unusedSimpArgs false

theorem own : ownKnob Try.prog.godebug = none := by kernel_rfl

set_option maxRecDepth 100000 in
set_option maxHeartbeats 8000000 in
theorem walk (a b : Nat → Int) (w : World) :
    Calls Try.prog 3 #[arr 16 a, arr 16 b] w fun e w' => e = .returned (.bool true) ∧ Below w.heap.size w w' := by
  obtain ⟨m, k, A, B⟩ : ∃ (m : Nat → Int) (k : Int), (∀ w, Calls Try.prog 9 #[arr 16 a, arr 16 b] w fun e w' => e = .returned (.tuple #[arr 16 m, .int .i64 k]) ∧ Below w.heap.size w w') ∧ (∀ w, Calls Try.prog 10 #[arr 16 a, arr 16 b] w fun e w' => e = .returned (.tuple #[arr 16 m, .int .i64 k]) ∧ Below w.heap.size w w') := ⟨_, _, fun w => mul_any a b w, fun w => rmul_any a b w⟩
  have O := Own.start w
  have hu2 := Try.underlying23
  go_enter Try.func3, Try.ntmps3
  go_wp2_with (first | ((with_reducible refine at_box 2 ?_); refine wpList_box_own O (M.mat 16 a) rfl ?_; clear O; intro g2 w1 O) | ((with_reducible refine at_box 3 ?_); refine wpList_box_own O (M.mat 16 b) rfl ?_; clear O; intro g3 w1 O) | ((with_reducible refine at_load 10 ?_); refine wpList_row_own O 1 rfl rfl Try.underlying23 (s23 _) ?_) | ((with_reducible refine at_load 11 ?_); refine wpList_row_own O 0 rfl rfl Try.underlying23 (s23 _) ?_) | (go_at_call 9; refine (A _).mono ?_; rintro e w1 ⟨rfl, hb⟩; replace O := O.call hb; clear hb) | ((with_reducible refine at_alloc 5 ?_); refine wpList_alloc_own O (M.mat 16 M.zero) zero23 ?_; clear O; intro g5 w1 O) | ((with_reducible refine at_store 5 ?_); refine wpList_put_own O 0 (M.mat 16 (m)) rfl rfl rfl (s23 _) (M.mat_len2 _ _ _) (M.mat_one _ _) ?_; clear O; intro w1 O) | ((with_reducible refine at_load 16 ?_); refine wpList_row_own O 2 rfl rfl Try.underlying23 (s23 _) ?_) | ((with_reducible refine at_load 17 ?_); refine wpList_row_own O 1 rfl rfl Try.underlying23 (s23 _) ?_) | (go_at_call 10; refine (B _).mono ?_; rintro e w1 ⟨rfl, hb⟩; replace O := O.call hb; clear hb) | ((with_reducible refine at_alloc 7 ?_); refine wpList_alloc_own O (M.mat 16 M.zero) zero23 ?_; clear O; intro g7 w1 O) | ((with_reducible refine at_store 7 ?_); refine wpList_put_own O 0 (M.mat 16 (m)) rfl rfl rfl (s23 _) (M.mat_len2 _ _ _) (M.mat_one _ _) ?_; clear O; intro w1 O))
  refine region_V (fun w2 => Own w w2 [(g7, 23, M.mat 16 m), (g5, 23, M.mat 16 m), (g3, 23, M.mat 16 b), (g2, 23, M.mat 16 a)]) [0, 1, 2, 3, 4, 5, 6, 7, 8, 9, 10, 11, 12, 13, 14, 15, 16, 17, 18, 19, 20, 21, 22, 23, 24, 25, 26, 27, 28, 29] [some 21, some 22, some 23, some 24, some 25, some 26, some 27, some 28, some 29, some 30, some 31, some 32, some 33, some 34, some 35, some 36, some 37, some 38, some 39, some 40, some 41, some 42, some 43, some 44, some 45, some 46, some 47, some 48, some 49, some 50] [.bool true, .bool true, arr 16 m, arr 16 m, .bool true, .bool true, .bool true, .int .i64 k, .int .i64 k, .bool true, .bool true, .bool true, arr 16 a, .bool (M.right a), arr 16 a, .bool (M.right a), .bool true, .bool true, .bool true, arr 16 a, arr 16 (M.flip a), arr 16 a, arr 16 (M.flip a), .bool true, .bool true, .bool true, arr 16 M.unit, arr 16 M.unit, .bool true, .bool true] 1 (by kernel_rfl) (by kernel_rfl) (by rfl) (by rfl) (O.drew) (fun F hF => ?_)
  simp only [fillD, Act.put, List.setIfInBounds_toArray, List.set_cons_zero, List.set_cons_succ] at hF
  subst hF
  refine ⟨⟨does_want rfl (by rfl) (fun w' O K hK => ?_), does_want rfl (by rfl) (fun w' O K hK => ?_), does_want rfl (by rfl) (fun w' O K hK => ?_), does_want rfl (by rfl) (fun w' O K hK => ?_), does_want rfl (by rfl) (fun w' O K hK => ?_), does_want rfl (by rfl) (fun w' O K hK => ?_), does_want rfl (by rfl) (fun w' O K hK => ?_), does_want rfl (by rfl) (fun w' O K hK => ?_), does_want rfl (by rfl) (fun w' O K hK => ?_), does_want rfl (by rfl) (fun w' O K hK => ?_), does_want rfl (by rfl) (fun w' O K hK => ?_), does_want rfl (by rfl) (fun w' O K hK => ?_), does_want rfl (by rfl) (fun w' O K hK => ?_), does_want rfl (by rfl) (fun w' O K hK => ?_), does_want rfl (by rfl) (fun w' O K hK => ?_), does_want rfl (by rfl) (fun w' O K hK => ?_), does_want rfl (by rfl) (fun w' O K hK => ?_), does_want rfl (by rfl) (fun w' O K hK => ?_), does_want rfl (by rfl) (fun w' O K hK => ?_), does_want rfl (by rfl) (fun w' O K hK => ?_), does_want rfl (by rfl) (fun w' O K hK => ?_), does_want rfl (by rfl) (fun w' O K hK => ?_), does_want rfl (by rfl) (fun w' O K hK => ?_), does_want rfl (by rfl) (fun w' O K hK => ?_), does_want rfl (by rfl) (fun w' O K hK => ?_), does_want rfl (by rfl) (fun w' O K hK => ?_), does_want rfl (by rfl) (fun w' O K hK => ?_), does_want rfl (by rfl) (fun w' O K hK => ?_), does_want rfl (by rfl) (fun w' O K hK => ?_), does_want rfl (by rfl) (fun w' O K hK => ?_), trivial⟩, fun w' O => ?_⟩
  · go_simp
    go_at_call 11
    refine (awake_any _).mono ?_
    rintro e w2 ⟨rfl, hb⟩
    exact hK _ (O.call hb)
  · go_simp
    exact hK _ O
  · exact wp_row_own O 1 rfl rfl Try.underlying23 (s23 _) (hK _ O)
  · exact wp_row_own O 0 rfl rfl Try.underlying23 (s23 _) (hK _ O)
  · refine wp_eq_mat Try.underlying23 Try.eqGuardType23 (m) (m) rfl rfl ?_
    rw [M.eqB_refl]
    exact hK _ O
  · go_simp
    exact hK _ O
  · go_simp
    exact hK _ O
  · go_simp
    exact hK _ O
  · go_simp
    exact hK _ O
  · go_simp
    exact hK _ O
  · go_simp
    exact hK _ O
  · go_simp
    exact hK _ O
  · exact wp_row_own O 3 rfl rfl Try.underlying23 (s23 _) (hK _ O)
  · go_simp
    go_at_call 12
    refine (right_any a _).mono ?_
    rintro e w2 ⟨rfl, hb⟩
    exact hK _ (O.call hb)
  · exact wp_row_own O 3 rfl rfl Try.underlying23 (s23 _) (hK _ O)
  · go_simp
    go_at_call 13
    refine (rright_any a _).mono ?_
    rintro e w2 ⟨rfl, hb⟩
    exact hK _ (O.call hb)
  · go_simp
    exact hK _ O
  · go_simp
    exact hK _ O
  · go_simp
    exact hK _ O
  · exact wp_row_own O 3 rfl rfl Try.underlying23 (s23 _) (hK _ O)
  · go_simp
    go_at_call 14
    refine (flip_any a _).mono ?_
    rintro e w2 ⟨rfl, hb⟩
    exact hK _ (O.call hb)
  · exact wp_row_own O 3 rfl rfl Try.underlying23 (s23 _) (hK _ O)
  · go_simp
    go_at_call 15
    refine (rflip_any a _).mono ?_
    rintro e w2 ⟨rfl, hb⟩
    exact hK _ (O.call hb)
  · refine wp_eq_mat Try.underlying23 Try.eqGuardType23 (M.flip a) (M.flip a) rfl rfl ?_
    rw [M.eqB_refl]
    exact hK _ O
  · go_simp
    exact hK _ O
  · go_simp
    exact hK _ O
  · go_simp
    go_at_call 16
    refine (unit_any _).mono ?_
    rintro e w2 ⟨rfl, hb⟩
    exact hK _ (O.call hb)
  · go_simp
    go_at_call 17
    refine (runit_any _).mono ?_
    rintro e w2 ⟨rfl, hb⟩
    exact hK _ (O.call hb)
  · refine wp_eq_mat Try.underlying23 Try.eqGuardType23 (M.unit) (M.unit) rfl rfl ?_
    rw [M.eqB_refl]
    exact hK _ O
  · go_simp
    exact hK _ O
  refine wpAny_one (i := 30) (by kernel_rfl) rfl (fun K hK => ?_)
  go_simp
  refine hK _ _ ?_
  clear hK K
  try simp only [Act.put, List.setIfInBounds_toArray, List.set_cons_zero, List.set_cons_succ]
  refine wpAny_done (by kernel_rfl) ?_ _
  go_wp2_with fail
  go_ret
  exact ⟨rfl, O.below⟩

theorem readable : ∀ t ∈ Try.f3.params.toList, Try.prog.readableRec t = true ∧ t < Try.prog.types.size := by
  intro t ht
  rw [Try.params3] at ht
  simp only [List.mem_cons, List.not_mem_nil, or_false] at ht
  repeat (first | (rcases ht with rfl | ht; exact ⟨by kernel_rfl, of_decide_eq_true (by kernel_rfl)⟩) | (subst ht; exact ⟨by kernel_rfl, of_decide_eq_true (by kernel_rfl)⟩))
set_option maxRecDepth 100000 in
theorem lifted (os : Os) (started : os.Started) (H : Type) (enc : TypeId × Value → H) :
    ReturnsInHanded {} Try.checked os 3 .any (Rows.matTellsSpec.pre6 enc Try.prog Try.f3 Rows.matTellsRow.domain false) (Rows.matTellsSpec.post enc Try.prog Try.f3 false true false false) := by
  refine returnsInHanded_of_change (C := Try.checked) own started (by kernel_rfl) Try.func3
    (ChangeSpec.witness6 (enc := enc) (C := Try.checked) false ⟨#[], #[.agg #[.int .i64 0, .int .i64 0, .int .i64 0, .int .i64 0, .int .i64 0, .int .i64 0, .int .i64 0, .int .i64 0, .int .i64 0, .int .i64 0, .int .i64 0, .int .i64 0, .int .i64 0, .int .i64 0, .int .i64 0, .int .i64 0], .agg #[.int .i64 0, .int .i64 0, .int .i64 0, .int .i64 0, .int .i64 0, .int .i64 0, .int .i64 0, .int .i64 0, .int .i64 0, .int .i64 0, .int .i64 0, .int .i64 0, .int .i64 0, .int .i64 0, .int .i64 0, .int .i64 0]], []⟩ 8 (by kernel_rfl) (by kernel_rfl) (by kernel_rfl) (by kernel_rfl)) ?_
  intro W base args ds gs before hval0 hW hcnd _
  have hval : ∀ (j : Nat) t v, Try.f3.params[j]? = some t → args[j]? = some v → Value.okWide Try.prog W .any base t v := hval0
  have hW' := hW
  obtain ⟨p, q, hA0, hV, rfl, hfz, hnd⟩ := hW
  have hA : DataW.TrodAll enc Try.prog W 0 (fun _ => true) true Try.f3.params.toList args.toList ds p := hA0
  rw [Try.params3] at hA hval
  have hlt : ∀ x ∈ p ++ q, x.block < W.heap.size := fun x hx => hW'.lt x hx
  obtain ⟨v0, vs0, d0, ds0, p0, q0, hargs, rfl, rfl, h0, rr0⟩ := trodAll_cons hA
  obtain ⟨v1, vs1, d1, ds1, p1, q1, rfl, rfl, rfl, h1, rr1⟩ := trodAll_cons rr0
  obtain ⟨rfl, rfl, rfl⟩ := trodAll_nil rr1
  obtain rfl : args = #[v0, v1] := by cases args; simp_all
  obtain ⟨rfl, rfl⟩ := trodVars_none hV
  obtain ⟨a0, rfl, r0⟩ := open23 (hval 0 23 v0 rfl rfl) h0
  obtain ⟨a1, rfl, r1⟩ := open23 (hval 1 23 v1 rfl rfl) h1
  clear hA0 hval0
  refine (walk a0 a1 W).mono fun e W' ⟨he, hg⟩ => ?_
  subst he
  exact ⟨_, rfl, post_true (tb := 4) laid readable (by kernel_rfl) Try.underlying4 rfl (fun l hl => by
    match l, hl with
    | [_, _], _ => exact ⟨rfl, rfl, rfl⟩) hW' hg⟩

theorem over : Rows.matTellsRow.holds Try.pinned (OpenSpec.ofChange Rows.matTellsSpec) :=
  OpenClaim.holds_of_wide 3 Try.f3 rfl rfl rfl rfl rfl rfl rfl ⟨rfl, rfl, rfl, rfl, rfl⟩ rfl rfl rfl rfl rfl (by kernel_rfl) Try.func3 (by kernel_rfl)
    (of_decide_eq_true (by kernel_rfl)) (by unfold Func.isWrapper; first | (rw [if_pos (by decide +kernel)]; kernel_rfl) | (rw [if_neg (by decide +kernel)]; exact ⟨rfl, rfl⟩))
    (fun os started H enc _ => lifted os started H enc)

theorem proved : Rows.MatTellsSaid :=
  over
#print axioms proved
end Go.Proofs.Ytidaffgfhmbomaa.matTells
