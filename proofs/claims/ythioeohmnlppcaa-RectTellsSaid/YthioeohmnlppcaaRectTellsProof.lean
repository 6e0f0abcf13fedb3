/-
  RectTells: for every rectangle and any numbers, whether it may be, how many pixels it has, whether a pixel is one of them, and what is made of the numbers, are the document's.
-/
import Derived.Test.YthioeohmnlppcaaWg
import Derived.Test.YthioeohmnlppcaaWh
import Derived.Test.YthioeohmnlppcaaWi
import Derived.Deep.DeepCutAuto
namespace Go.Proofs.Ythioeohmnlppcaa.rectTells
open Go.ChangeShapes Go.WideShapes Go.ChangeAt Go.RowKit
set_option linter.unusedVariables false
set_option linter.unusedSimpArgs false

theorem own : ownKnob Try.prog.godebug = none := by kernel_rfl

set_option maxRecDepth 100000 in
set_option maxHeartbeats 16000000 in
theorem walk (w : World) (r a b : Nat → Int) (ha : ∀ i, i < 2 → -9223372036854775808 ≤ a i ∧ a i < 9223372036854775808) :
    Calls Try.prog 3 #[arr 4 r, arr 2 a, arr 2 b] w fun e w' => e = .returned (.bool true) ∧ Below w.heap.size w w' := by
  have O := Own.start w
  have CM := fun w => make_any (a 0) (a 1) (b 0) (b 1) (ha 0 (by omega)).1 (ha 0 (by omega)).2 (ha 1 (by omega)).1 (ha 1 (by omega)).2 w
  have CN := fun w => rmake_any (a 0) (a 1) (b 0) (b 1) w
  have CR := fun w => right_any r w
  have CS := fun w => rright_any r w
  have CA := fun w => area_any r w
  have CB := fun w => rarea_any r w
  have CH := fun w => has_any r (a 0) (a 1) w
  have CI := fun w => rhas_any r (a 0) (a 1) w
  unfold RetMk at CM CN
  generalize RC.mk_at (a 0) (a 1) (b 0) (b 1) = mm at CM CN
  generalize RC.right r = p at CR CS
  generalize RC.area r = z at CA CB
  generalize RC.has r (a 0) (a 1) = h at CH CI
  obtain ⟨m, k⟩ := mm
  simp only at CM CN
  clear ha
  obtain ⟨a0, ea0⟩ : ∃ z, a 0 = z := ⟨_, rfl⟩
  have Ca0 := cell_is (n := 2) ea0 (by decide)
  obtain ⟨a1, ea1⟩ : ∃ z, a 1 = z := ⟨_, rfl⟩
  have Ca1 := cell_is (n := 2) ea1 (by decide)
  obtain ⟨b0, eb0⟩ : ∃ z, b 0 = z := ⟨_, rfl⟩
  have Cb0 := cell_is (n := 2) eb0 (by decide)
  obtain ⟨b1, eb1⟩ : ∃ z, b 1 = z := ⟨_, rfl⟩
  have Cb1 := cell_is (n := 2) eb1 (by decide)
  rw [ea0, ea1, eb0, eb1] at CM CN
  rw [ea0, ea1] at CH CI
  clear ea0 ea1 eb0 eb1
  go_enter Try.func3, Try.ntmps3
  go_wp2_with (first | ((with_reducible refine at_box 3 ?_); refine wpList_box_own O (M.mat 4 (r)) rfl ?_; clear O; intro g3 w1 O) | ((with_reducible refine at_box 4 ?_); refine wpList_box_own O (M.mat 2 (a)) rfl ?_; clear O; intro g4 w2 O) | ((with_reducible refine at_box 5 ?_); refine wpList_box_own O (M.mat 2 (b)) rfl ?_; clear O; intro g5 w3 O; have f0 := O.cell 1 rfl Ca0.out; have f1 := O.cell 1 rfl Ca1.out; have f2 := O.cell 0 rfl Cb0.out; have f3 := O.cell 0 rfl Cb1.out) | ((with_reducible refine at_load 13 ?_); refine wpList_cell_h (v := .int .i64 (a0)) rfl O.held 1 rfl Ca0.out rfl agg3 rfl ?_) | ((with_reducible refine at_load 15 ?_); refine wpList_cell_h (v := .int .i64 (a1)) rfl O.held 1 rfl Ca1.out rfl agg3 rfl ?_) | ((with_reducible refine at_load 17 ?_); refine wpList_cell_h (v := .int .i64 (b0)) rfl O.held 0 rfl Cb0.out rfl agg3 rfl ?_) | ((with_reducible refine at_load 19 ?_); refine wpList_cell_h (v := .int .i64 (b1)) rfl O.held 0 rfl Cb1.out rfl agg3 rfl ?_) | (go_at_call 7; refine (CM _).mono ?_; rintro e w4 ⟨rfl, hb⟩; replace O := O.call hb; clear hb) | ((with_reducible refine at_alloc 7 ?_); refine wpList_alloc_own O (M.mat 4 M.zero) zeroR ?_; clear O; intro g7 w5 O) | ((with_reducible refine at_store 7 ?_); refine wpList_put_own O 0 (M.mat 4 (m)) rfl rfl rfl (sR _) (M.mat_len2 _ _ _) (M.mat_one _ _) ?_; clear O; intro w6 O; have q0 := O.cell 2 rfl Ca0.out; have q1 := O.cell 2 rfl Ca1.out; have q2 := O.cell 1 rfl Cb0.out; have q3 := O.cell 1 rfl Cb1.out) | ((with_reducible refine at_load 25 ?_); refine wpList_cell_h (v := .int .i64 (a0)) rfl O.held 2 rfl Ca0.out rfl agg3 rfl ?_) | ((with_reducible refine at_load 27 ?_); refine wpList_cell_h (v := .int .i64 (a1)) rfl O.held 2 rfl Ca1.out rfl agg3 rfl ?_) | ((with_reducible refine at_load 29 ?_); refine wpList_cell_h (v := .int .i64 (b0)) rfl O.held 1 rfl Cb0.out rfl agg3 rfl ?_) | ((with_reducible refine at_load 31 ?_); refine wpList_cell_h (v := .int .i64 (b1)) rfl O.held 1 rfl Cb1.out rfl agg3 rfl ?_) | (go_at_call 8; refine (CN _).mono ?_; rintro e w7 ⟨rfl, hb⟩; replace O := O.call hb; clear hb) | ((with_reducible refine at_alloc 9 ?_); refine wpList_alloc_own O (M.mat 4 M.zero) zeroR ?_; clear O; intro g9 w8 O) | ((with_reducible refine at_store 9 ?_); refine wpList_put_own O 0 (M.mat 4 (m)) rfl rfl rfl (sR _) (M.mat_len2 _ _ _) (M.mat_one _ _) ?_; clear O; intro w9 O))
  try clear f0 f1 f2 f3
  try clear q0 q1 q2 q3
  refine region_T ((fun w2 => Own w w2 [(g9, 23, M.mat 4 m), (g7, 23, M.mat 4 m), (g5, 24, M.mat 2 b), (g4, 24, M.mat 2 a), (g3, 23, M.mat 4 r)])) [0, 1, 2, 3, 4, 5, 6, 7, 8, 9, 10, 11, 12, 13, 14, 15, 16, 17, 18, 19, 20, 21, 22, 23, 24, 25, 26, 27, 28, 29, 30, 31, 32, 33, 34, 35, 36, 37, 38, 39] 12 [some 35, some 36, some 37, some 38, some 39, some 40, some 41, some 42, some 43, some 44, some 45, some 46, some 47, some 48, some 49, some 50, some 51, some 52, some 53, some 54, some 55, some 56, some 57, some 58, some 59, some 60, some 61, some 62, some 63, some 64, some 65, some 66, some 67, some 68, some 69, some 70, some 71, some 72, some 73, some 74] [.bool true, .bool true, arr 4 r, .bool p, arr 4 r, .bool p, .bool true, .bool true, .bool true, arr 4 r, .int .i64 z, arr 4 r, .int .i64 z, .bool true, .bool true, .bool true, arr 4 r, .pointer (some ⟨g4, 0, none⟩), .int .i64 a0, .pointer (some ⟨g4, 1, none⟩), .int .i64 a1, .bool h, arr 4 r, .pointer (some ⟨g4, 0, none⟩), .int .i64 a0, .pointer (some ⟨g4, 1, none⟩), .int .i64 a1, .bool h, .bool true, .bool true, .bool true, arr 4 m, arr 4 m, .bool true, .bool true, .bool true, .bool k, .bool k, .bool true, .bool true] 1 (by kernel_rfl) (by rfl) (by kernel_rfl) (by rfl) (by rfl) (O.drew) (fun F hF => ?_)
  simp only [fillD, Act.put, List.setIfInBounds_toArray, List.set_cons_zero, List.set_cons_succ] at hF
  subst hF
  refine ⟨⟨does_want rfl (by rfl) (fun w' O K hK => ?_), does_want rfl (by rfl) (fun w' O K hK => ?_), does_want rfl (by rfl) (fun w' O K hK => ?_), does_want rfl (by rfl) (fun w' O K hK => ?_), does_want rfl (by rfl) (fun w' O K hK => ?_), does_want rfl (by rfl) (fun w' O K hK => ?_), does_want rfl (by rfl) (fun w' O K hK => ?_), does_want rfl (by rfl) (fun w' O K hK => ?_), does_want rfl (by rfl) (fun w' O K hK => ?_), does_want rfl (by rfl) (fun w' O K hK => ?_), does_want rfl (by rfl) (fun w' O K hK => ?_), does_want rfl (by rfl) (fun w' O K hK => ?_), does_want rfl (by rfl) (fun w' O K hK => ?_), does_want rfl (by rfl) (fun w' O K hK => ?_), does_want rfl (by rfl) (fun w' O K hK => ?_), does_want rfl (by rfl) (fun w' O K hK => ?_), does_want rfl (by rfl) (fun w' O K hK => ?_), does_want rfl (by rfl) (fun w' O K hK => ?_), does_want rfl (by rfl) (fun w' O K hK => ?_), does_want rfl (by rfl) (fun w' O K hK => ?_), does_want rfl (by rfl) (fun w' O K hK => ?_), does_want rfl (by rfl) (fun w' O K hK => ?_), does_want rfl (by rfl) (fun w' O K hK => ?_), does_want rfl (by rfl) (fun w' O K hK => ?_), does_want rfl (by rfl) (fun w' O K hK => ?_), does_want rfl (by rfl) (fun w' O K hK => ?_), does_want rfl (by rfl) (fun w' O K hK => ?_), does_want rfl (by rfl) (fun w' O K hK => ?_), does_want rfl (by rfl) (fun w' O K hK => ?_), does_want rfl (by rfl) (fun w' O K hK => ?_), does_want rfl (by rfl) (fun w' O K hK => ?_), does_want rfl (by rfl) (fun w' O K hK => ?_), does_want rfl (by rfl) (fun w' O K hK => ?_), does_want rfl (by rfl) (fun w' O K hK => ?_), does_want rfl (by rfl) (fun w' O K hK => ?_), does_want rfl (by rfl) (fun w' O K hK => ?_), does_want rfl (by rfl) (fun w' O K hK => ?_), does_want rfl (by rfl) (fun w' O K hK => ?_), does_want rfl (by rfl) (fun w' O K hK => ?_), does_want rfl (by rfl) (fun w' O K hK => ?_), trivial⟩, fun w' O => ?_⟩
  · go_simp
    go_at_call 9
    refine (awake_any _).mono ?_
    rintro e w2 ⟨rfl, hb⟩
    exact hK _ (O.call hb)
  · go_simp
    exact hK _ O
  · exact wp_whole O 4 rfl rfl Try.underlying23 rfl (sR _) (hK _ O)
  · go_simp
    go_at_call 10
    refine (CR _).mono ?_
    rintro e w2 ⟨rfl, hb⟩
    exact hK _ (O.call hb)
  · exact wp_whole O 4 rfl rfl Try.underlying23 rfl (sR _) (hK _ O)
  · go_simp
    go_at_call 11
    refine (CS _).mono ?_
    rintro e w2 ⟨rfl, hb⟩
    exact hK _ (O.call hb)
  · go_simp
    exact hK _ O
  · go_simp
    exact hK _ O
  · go_simp
    exact hK _ O
  · exact wp_whole O 4 rfl rfl Try.underlying23 rfl (sR _) (hK _ O)
  · go_simp
    go_at_call 12
    refine (CA _).mono ?_
    rintro e w2 ⟨rfl, hb⟩
    exact hK _ (O.call hb)
  · exact wp_whole O 4 rfl rfl Try.underlying23 rfl (sR _) (hK _ O)
  · go_simp
    go_at_call 13
    refine (CB _).mono ?_
    rintro e w2 ⟨rfl, hb⟩
    exact hK _ (O.call hb)
  · go_simp
    exact hK _ O
  · go_simp
    exact hK _ O
  · go_simp
    exact hK _ O
  · exact wp_whole O 4 rfl rfl Try.underlying23 rfl (sR _) (hK _ O)
  · go_simp
    exact hK _ O
  · exact wp_cell_h (v := .int .i64 (a0)) O.held 3 rfl Ca0.out rfl agg3 rfl (hK _ O)
  · go_simp
    exact hK _ O
  · exact wp_cell_h (v := .int .i64 (a1)) O.held 3 rfl Ca1.out rfl agg3 rfl (hK _ O)
  · go_simp
    go_at_call 14
    refine (CH _).mono ?_
    rintro e w2 ⟨rfl, hb⟩
    exact hK _ (O.call hb)
  · exact wp_whole O 4 rfl rfl Try.underlying23 rfl (sR _) (hK _ O)
  · go_simp
    exact hK _ O
  · exact wp_cell_h (v := .int .i64 (a0)) O.held 3 rfl Ca0.out rfl agg3 rfl (hK _ O)
  · go_simp
    exact hK _ O
  · exact wp_cell_h (v := .int .i64 (a1)) O.held 3 rfl Ca1.out rfl agg3 rfl (hK _ O)
  · go_simp
    go_at_call 15
    refine (CI _).mono ?_
    rintro e w2 ⟨rfl, hb⟩
    exact hK _ (O.call hb)
  · go_simp
    exact hK _ O
  · go_simp
    exact hK _ O
  · go_simp
    exact hK _ O
  · exact wp_whole O 1 rfl rfl Try.underlying23 rfl (sR _) (hK _ O)
  · exact wp_whole O 0 rfl rfl Try.underlying23 rfl (sR _) (hK _ O)
  · refine wp_eqR m m rfl rfl ?_
    rw [M.eqB_refl]
    exact hK _ O
  · go_simp
    exact hK _ O
  · go_simp
    exact hK _ O
  · go_simp
    exact hK _ O
  · go_simp
    exact hK _ O
  · go_simp
    exact hK _ O
  · go_simp
    exact hK _ O
  refine wpAny_one (i := 40) (by kernel_rfl) rfl (fun K hK => ?_)
  go_simp
  refine hK _ _ ?_
  clear hK K
  try simp only [Act.put, List.setIfInBounds_toArray, List.set_cons_zero, List.set_cons_succ]
  refine wpAny_done (by kernel_rfl) ?_ _
  go_wp2_with fail
  go_ret
  exact ⟨rfl, O.below⟩

theorem readable : ∀ t ∈ Try.f3.params.toList, Try.prog.readableRec t = true ∧ t < Try.prog.types.size := by
  intro t ht
  rw [Try.params3] at ht
  simp only [List.mem_cons, List.not_mem_nil, or_false] at ht
  repeat (first | (rcases ht with rfl | ht; exact ⟨by kernel_rfl, of_decide_eq_true (by kernel_rfl)⟩) | (subst ht; exact ⟨by kernel_rfl, of_decide_eq_true (by kernel_rfl)⟩))
set_option maxRecDepth 100000 in
theorem lifted (os : Os) (started : os.Started) (H : Type) (enc : TypeId × Value → H) :
    ReturnsInHanded {} Try.checked os 3 .any (Rows.rectTellsSpec.pre6 enc Try.prog Try.f3 Rows.rectTellsRow.domain false) (Rows.rectTellsSpec.post enc Try.prog Try.f3 false true false false) := by
  refine returnsInHanded_of_change (C := Try.checked) own started (by kernel_rfl) Try.func3
    (ChangeSpec.witness6 (enc := enc) (C := Try.checked) false ⟨#[], #[.agg #[.int .i64 0, .int .i64 0, .int .i64 0, .int .i64 0], .agg #[.int .i64 0, .int .i64 0], .agg #[.int .i64 0, .int .i64 0]], []⟩ 8 (by kernel_rfl) (by kernel_rfl) (by kernel_rfl) (by kernel_rfl)) ?_
  intro W base args ds gs before hval0 hW hcnd _
  have hval : ∀ (j : Nat) t v, Try.f3.params[j]? = some t → args[j]? = some v → Value.okWide Try.prog W .any base t v := hval0
  have hW' := hW
  obtain ⟨p, q, hA0, hV, rfl, hfz, hnd⟩ := hW
  have hA : DataW.TrodAll enc Try.prog W 0 (fun _ => true) true Try.f3.params.toList args.toList ds p := hA0
  rw [Try.params3] at hA hval
  have hlt : ∀ x ∈ p ++ q, x.block < W.heap.size := fun x hx => hW'.lt x hx
  obtain ⟨v0, vs0, d0, ds0, p0, q0, hargs, rfl, rfl, h0, rr0⟩ := trodAll_cons hA
  obtain ⟨v1, vs1, d1, ds1, p1, q1, rfl, rfl, rfl, h1, rr1⟩ := trodAll_cons rr0
  obtain ⟨v2, vs2, d2, ds2, p2, q2, rfl, rfl, rfl, h2, rr2⟩ := trodAll_cons rr1
  obtain ⟨rfl, rfl, rfl⟩ := trodAll_nil rr2
  obtain rfl : args = #[v0, v1, v2] := by cases args; simp_all
  obtain ⟨rfl, rfl⟩ := trodVars_none hV
  obtain ⟨a0, rfl⟩ := openRect (hval 0 23 v0 rfl rfl) h0
  obtain ⟨a1, rfl, x1⟩ := openPair (hval 1 24 v1 rfl rfl) h1
  obtain ⟨a2, rfl, x2⟩ := openPair (hval 2 24 v2 rfl rfl) h2
  clear hA0 hval0
  refine (walk W a0 a1 a2 x1).mono fun e W' ⟨he, hg⟩ => ?_
  subst he
  exact ⟨_, rfl, post_true (tb := 4) laid readable (by kernel_rfl) Try.underlying4 rfl (fun l hl => by
    match l, hl with
    | [_, _, _], _ => exact ⟨rfl, rfl, rfl⟩) hW' hg⟩

theorem over : Rows.rectTellsRow.holds Try.pinned (OpenSpec.ofChange Rows.rectTellsSpec) :=
  OpenClaim.holds_of_wide 3 Try.f3 rfl rfl rfl rfl rfl rfl rfl ⟨rfl, rfl, rfl, rfl, rfl⟩ rfl rfl rfl rfl rfl (by kernel_rfl) Try.func3 (by kernel_rfl)
    (of_decide_eq_true (by kernel_rfl)) (by unfold Func.isWrapper; first | (rw [if_pos (by decide +kernel)]; kernel_rfl) | (rw [if_neg (by decide +kernel)]; exact ⟨rfl, rfl⟩))
    (fun os started H enc _ => lifted os started H enc)

theorem proved : Rows.RectTellsSaid :=
  over
#print axioms proved
end Go.Proofs.Ythioeohmnlppcaa.rectTells
