/-
  For every side and two vertices the law TrimParts returns true: at which part the line comes in, or goes out, is the document's. No condition.
-/
import Derived.Test.YtimfdimpifpclaaE4
import Derived.Deep.DeepCutAuto
namespace Go.Proofs.Ytimfdimpifpclaa.trimParts
open Go.ChangeShapes Go.WideShapes Go.ChangeAt Go.RowKit
set_option linter.unusedVariables false
set_option linter.unusedSimpArgs false

theorem own : ownKnob Try.prog.godebug = none := by kernel_rfl

set_option maxRecDepth 100000 in
set_option maxHeartbeats 16000000 in
theorem walk (w : World) (s a b : Nat → Int) :
    Calls Try.prog 3 #[arr 5 s, arr 8 a, arr 8 b] w fun e w' => e = .returned (.bool true) ∧ Below w.heap.size w w' := by
  have O := Held.start w [] (by simp)
  have cm := fun (w : World) (lo : Nat) (A : Option Addr) (c : Nat) (h : Lies w free (sE lo A c [s])) => (may_any a b [s] w h : Calls Try.prog 8 #[arr 8 a, arr 8 b, .slice A 1 c] w fun e w' => e = .returned (.bool (D.may a b [s])) ∧ Below w.heap.size w w')
  cases hm : D.may a b [s]
  all_goals rw [hm] at cm
  · clear hm
    go_enter Try.func3, Try.ntmps3
    go_wp2_with (first | ((with_reducible refine at_box 3 ?_); refine wpList_box_h O (M.mat 5 (s)) rfl ?_; clear O; intro g3 w1 O) | ((with_reducible refine at_box 4 ?_); refine wpList_box_h O (M.mat 8 (a)) rfl ?_; clear O; intro g4 w2 O) | ((with_reducible refine at_box 5 ?_); refine wpList_box_h O (M.mat 8 (b)) rfl ?_; clear O; intro g5 w3 O) | ((with_reducible refine at_load 13 ?_); refine wpList_rowg_h rfl O 1 rfl rfl Try.underlying27 rfl (s27 _) ?_) | ((with_reducible refine at_load 14 ?_); refine wpList_rowg_h rfl O 0 rfl rfl Try.underlying27 rfl (s27 _) ?_) | ((with_reducible refine at_load 15 ?_); refine wpList_rowg_h rfl O 2 rfl rfl Try.underlying24 rfl (s24 _) ?_) | ((with_reducible refine at_lit 16 ?_); refine wpList_lit_h rfl O 5 (.agg (M.mat 5 M.zero).toArray) info24 Try.underlying29 ([(0, .agg (M.mat 5 (s)).toArray)]) (ss [s]) rfl (ss_len _) (by decide) (by decide) (by kernel_rfl) ?_; clear O; intro gl u5 O) | (go_at_call 8; refine (cm _ _ _ _ (O.arg List.mem_cons_self)).mono ?_; rintro e w4 ⟨rfl, hb⟩; replace O := O.call hb; clear hb) | (go_at_call 9; refine (awake_any _).mono ?_; rintro e w5 ⟨rfl, hb⟩; replace O := O.call hb; clear hb))
    go_ret
    exact ⟨rfl, O.below⟩
  · obtain ⟨-, ha, hb, hr⟩ := D.may_iff.1 hm
    have hs := hr s (by simp)
    have c1 := fun w => part_any s a b hs ha hb w
    have c2 := fun w => rpart_any s a b hs ha hb w
    obtain ⟨⟨j, n, d⟩, hp⟩ : ∃ r, D.partOf s a b = r := ⟨_, rfl⟩
    unfold RetPart at c1 c2
    rw [hp] at c1 c2
    dsimp only at c1 c2
    clear hm hr ha hb hs hp
    go_enter Try.func3, Try.ntmps3
    go_wp2_with (first | ((with_reducible refine at_box 3 ?_); refine wpList_box_h O (M.mat 5 (s)) rfl ?_; clear O; intro g3 w1 O) | ((with_reducible refine at_box 4 ?_); refine wpList_box_h O (M.mat 8 (a)) rfl ?_; clear O; intro g4 w2 O) | ((with_reducible refine at_box 5 ?_); refine wpList_box_h O (M.mat 8 (b)) rfl ?_; clear O; intro g5 w3 O) | ((with_reducible refine at_load 13 ?_); refine wpList_rowg_h rfl O 1 rfl rfl Try.underlying27 rfl (s27 _) ?_) | ((with_reducible refine at_load 14 ?_); refine wpList_rowg_h rfl O 0 rfl rfl Try.underlying27 rfl (s27 _) ?_) | ((with_reducible refine at_load 15 ?_); refine wpList_rowg_h rfl O 2 rfl rfl Try.underlying24 rfl (s24 _) ?_) | ((with_reducible refine at_lit 16 ?_); refine wpList_lit_h rfl O 5 (.agg (M.mat 5 M.zero).toArray) info24 Try.underlying29 ([(0, .agg (M.mat 5 (s)).toArray)]) (ss [s]) rfl (ss_len _) (by decide) (by decide) (by kernel_rfl) ?_; clear O; intro gl u5 O) | (go_at_call 8; refine (cm _ _ _ _ (O.arg List.mem_cons_self)).mono ?_; rintro e w4 ⟨rfl, hb⟩; replace O := O.call hb; clear hb) | ((with_reducible refine at_load 21 ?_); refine wpList_rowg_h rfl O 2 rfl rfl Try.underlying24 rfl (s24 _) ?_) | ((with_reducible refine at_load 22 ?_); refine wpList_rowg_h rfl O 1 rfl rfl Try.underlying27 rfl (s27 _) ?_) | ((with_reducible refine at_load 23 ?_); refine wpList_rowg_h rfl O 0 rfl rfl Try.underlying27 rfl (s27 _) ?_) | (go_at_call 10; refine (c1 _).mono ?_; rintro e w5 ⟨rfl, hb⟩; replace O := O.call hb; clear hb) | ((with_reducible refine at_load 29 ?_); refine wpList_rowg_h rfl O 2 rfl rfl Try.underlying24 rfl (s24 _) ?_) | ((with_reducible refine at_load 30 ?_); refine wpList_rowg_h rfl O 1 rfl rfl Try.underlying27 rfl (s27 _) ?_) | ((with_reducible refine at_load 31 ?_); refine wpList_rowg_h rfl O 0 rfl rfl Try.underlying27 rfl (s27 _) ?_) | (go_at_call 11; refine (c2 _).mono ?_; rintro e w6 ⟨rfl, hb⟩; replace O := O.call hb; clear hb) | (go_at_call 9; refine (awake_any _).mono ?_; rintro e w7 ⟨rfl, hb⟩; replace O := O.call hb; clear hb))
    go_ret
    exact ⟨rfl, O.below⟩
theorem readable : ∀ t ∈ Try.f3.params.toList, Try.prog.readableRec t = true ∧ t < Try.prog.types.size := by
  intro t ht
  rw [Try.params3] at ht
  simp only [List.mem_cons, List.not_mem_nil, or_false] at ht
  repeat (first | (rcases ht with rfl | ht; exact ⟨by kernel_rfl, of_decide_eq_true (by kernel_rfl)⟩) | (subst ht; exact ⟨by kernel_rfl, of_decide_eq_true (by kernel_rfl)⟩))
set_option maxRecDepth 100000 in
theorem lifted (os : Os) (started : os.Started) (H : Type) (enc : TypeId × Value → H) :
    ReturnsInHanded {} Try.checked os 3 .any (Rows.trimPartsSpec.pre6 enc Try.prog Try.f3 Rows.trimPartsRow.domain false) (Rows.trimPartsSpec.post enc Try.prog Try.f3 false true false false) := by
  refine returnsInHanded_of_change (C := Try.checked) own started (by kernel_rfl) Try.func3
    (ChangeSpec.witness6 (enc := enc) (C := Try.checked) false ⟨#[], #[.agg #[.int .i64 0, .int .i64 0, .int .i64 0, .int .i64 0, .int .i64 0], .agg #[.int .i64 0, .int .i64 0, .int .i64 0, .int .i64 0, .int .i64 0, .int .i64 0, .int .i64 0, .int .i64 0], .agg #[.int .i64 0, .int .i64 0, .int .i64 0, .int .i64 0, .int .i64 0, .int .i64 0, .int .i64 0, .int .i64 0]], []⟩ 8 (by kernel_rfl) (by kernel_rfl) (by kernel_rfl) (by kernel_rfl)) ?_
  intro W base args ds gs before hval0 hW hcnd _
  have hval : ∀ (j : Nat) t v, Try.f3.params[j]? = some t → args[j]? = some v → Value.okWide Try.prog W .any base t v := hval0
  have hW' := hW
  obtain ⟨p, q, hA0, hV, rfl, hfz, hnd⟩ := hW
  have hA : DataW.TrodAll enc Try.prog W 0 (fun _ => true) true Try.f3.params.toList args.toList ds p := hA0
  rw [Try.params3] at hA hval
  have hlt : ∀ x ∈ p ++ q, x.block < W.heap.size := fun x hx => hW'.lt x hx
  obtain ⟨v0, vs0, d0, ds0, p0, q0, hargs, rfl, rfl, h0, rr0⟩ := trodAll_cons hA
  obtain ⟨v1, vs1, d1, ds1, p1, q1, rfl, rfl, rfl, h1, rr1⟩ := trodAll_cons rr0
  obtain ⟨v2, vs2, d2, ds2, p2, q2, rfl, rfl, rfl, h2, rr2⟩ := trodAll_cons rr1
  obtain ⟨rfl, rfl, rfl⟩ := trodAll_nil rr2
  obtain rfl : args = #[v0, v1, v2] := by cases args; simp_all
  obtain ⟨rfl, rfl⟩ := trodVars_none hV
  obtain ⟨a0, rfl⟩ := openSide (hval 0 24 v0 rfl rfl) h0
  obtain ⟨a1, rfl⟩ := openVert (hval 1 27 v1 rfl rfl) h1
  obtain ⟨a2, rfl⟩ := openVert (hval 2 27 v2 rfl rfl) h2
  clear hA0 hval0
  refine (walk W a0 a1 a2).mono fun e W' ⟨he, hg⟩ => ?_
  subst he
  exact ⟨_, rfl, post_true (tb := 4) laid readable (by kernel_rfl) Try.underlying4 rfl (fun l hl => by
    match l, hl with
    | [_, _, _], _ => exact ⟨rfl, rfl, rfl⟩) hW' hg⟩

theorem over : Rows.trimPartsRow.holds Try.pinned (OpenSpec.ofChange Rows.trimPartsSpec) :=
  OpenClaim.holds_of_wide 3 Try.f3 rfl rfl rfl rfl rfl rfl rfl ⟨rfl, rfl, rfl, rfl, rfl⟩ rfl rfl rfl rfl rfl (by kernel_rfl) Try.func3 (by kernel_rfl)
    (of_decide_eq_true (by kernel_rfl)) (by unfold Func.isWrapper; first | (rw [if_pos (by decide +kernel)]; kernel_rfl) | (rw [if_neg (by decide +kernel)]; exact ⟨rfl, rfl⟩))
    (fun os started H enc _ => lifted os started H enc)

theorem proved : Rows.TrimPartsSaid :=
  over
#print axioms proved
end Go.Proofs.Ytimfdimpifpclaa.trimParts
