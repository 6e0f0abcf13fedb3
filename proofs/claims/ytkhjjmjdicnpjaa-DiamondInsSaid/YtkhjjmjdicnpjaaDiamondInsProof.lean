/-
  DiamondIns: for every point, the pixel in whose diamond it is, or that it is in none, is the document's.
-/
import Derived.Test.YtkhjjmjdicnpjaaWe
import Derived.Test.YtkhjjmjdicnpjaaWi
import Derived.Deep.DeepCutAuto
namespace Go.Proofs.Ytkhjjmjdicnpjaa.diamondIns
open Go.ChangeShapes Go.WideShapes Go.ChangeAt Go.RowKit
set_option linter.unusedVariables false
set_option linter.unusedSimpArgs false

theorem own : ownKnob Try.prog.godebug = none := by kernel_rfl

set_option maxRecDepth 100000 in
set_option maxHeartbeats 16000000 in
theorem walk (w : World) (p : Nat → Int) :
    Calls Try.prog 3 #[arr 2 p] w fun e w' => e = .returned (.bool true) ∧ Below w.heap.size w w' := by
  have O := Own.start w
  have CM := fun w => may_any p w
  cases hm : DM.may (p 0) (p 1)
  · rw [hm] at CM
    clear hm
    go_enter Try.func3, Try.ntmps3
    go_wp2_with (first | ((with_reducible refine at_box 1 ?_); refine wpList_box_own O (M.mat 2 (p)) rfl ?_; clear O; intro g1 w1 O) | ((with_reducible refine at_load 9 ?_); refine wpList_whole rfl O 0 rfl rfl Try.underlying23 rfl (sP _) ?_) | (go_at_call 8; refine (CM _).mono ?_; rintro e w2 ⟨rfl, hb⟩; replace O := O.call hb; clear hb) | (go_at_call 9; refine (awake_any _).mono ?_; rintro e w3 ⟨rfl, hb⟩; replace O := O.call hb; clear hb))
    go_ret
    exact ⟨rfl, O.below⟩
  · have hr : DM.Rg p := DM.may_iff.1 hm
    have CI := fun w => in_any p hr w
    have CR := fun w => rin_any p hr w
    unfold RetIn at CI
    rw [hm] at CM
    clear hm hr
    generalize DM.inr (p 0) (p 1) = r at CI CR
    obtain ⟨x, y, k⟩ := r
    simp only at CI CR
    go_enter Try.func3, Try.ntmps3
    go_wp2_with (first | ((with_reducible refine at_box 1 ?_); refine wpList_box_own O (M.mat 2 (p)) rfl ?_; clear O; intro g1 w1 O) | ((with_reducible refine at_load 9 ?_); refine wpList_whole rfl O 0 rfl rfl Try.underlying23 rfl (sP _) ?_) | (go_at_call 8; refine (CM _).mono ?_; rintro e w2 ⟨rfl, hb⟩; replace O := O.call hb; clear hb) | ((with_reducible refine at_load 14 ?_); refine wpList_whole rfl O 0 rfl rfl Try.underlying23 rfl (sP _) ?_) | (go_at_call 10; refine (CI _).mono ?_; rintro e w3 ⟨rfl, hb⟩; replace O := O.call hb; clear hb) | ((with_reducible refine at_load 20 ?_); refine wpList_whole rfl O 0 rfl rfl Try.underlying23 rfl (sP _) ?_) | (go_at_call 11; refine (CR _).mono ?_; rintro e w4 ⟨rfl, hb⟩; replace O := O.call hb; clear hb) | (go_at_call 9; refine (awake_any _).mono ?_; rintro e w5 ⟨rfl, hb⟩; replace O := O.call hb; clear hb))
    go_ret
    exact ⟨rfl, O.below⟩

theorem readable : ∀ t ∈ Try.f3.params.toList, Try.prog.readableRec t = true ∧ t < Try.prog.types.size := by
  intro t ht
  rw [Try.params3] at ht
  simp only [List.mem_cons, List.not_mem_nil, or_false] at ht
  repeat (first | (rcases ht with rfl | ht; exact ⟨by kernel_rfl, of_decide_eq_true (by kernel_rfl)⟩) | (subst ht; exact ⟨by kernel_rfl, of_decide_eq_true (by kernel_rfl)⟩))
set_option maxRecDepth 100000 in
theorem lifted (os : Os) (started : os.Started) (H : Type) (enc : TypeId × Value → H) :
    ReturnsInHanded {} Try.checked os 3 .any (Rows.diamondInsSpec.pre6 enc Try.prog Try.f3 Rows.diamondInsRow.domain false) (Rows.diamondInsSpec.post enc Try.prog Try.f3 false true false false) := by
  refine returnsInHanded_of_change (C := Try.checked) own started (by kernel_rfl) Try.func3
    (ChangeSpec.witness6 (enc := enc) (C := Try.checked) false ⟨#[], #[.agg #[.int .i64 0, .int .i64 0]], []⟩ 8 (by kernel_rfl) (by kernel_rfl) (by kernel_rfl) (by kernel_rfl)) ?_
  intro W base args ds gs before hval0 hW hcnd _
  have hval : ∀ (j : Nat) t v, Try.f3.params[j]? = some t → args[j]? = some v → Value.okWide Try.prog W .any base t v := hval0
  have hW' := hW
  obtain ⟨p, q, hA0, hV, rfl, hfz, hnd⟩ := hW
  have hA : DataW.TrodAll enc Try.prog W 0 (fun _ => true) true Try.f3.params.toList args.toList ds p := hA0
  rw [Try.params3] at hA hval
  have hlt : ∀ x ∈ p ++ q, x.block < W.heap.size := fun x hx => hW'.lt x hx
  obtain ⟨v0, vs0, d0, ds0, p0, q0, hargs, rfl, rfl, h0, rr0⟩ := trodAll_cons hA
  obtain ⟨rfl, rfl, rfl⟩ := trodAll_nil rr0
  obtain rfl : args = #[v0] := by cases args; simp_all
  obtain ⟨rfl, rfl⟩ := trodVars_none hV
  obtain ⟨a0, rfl⟩ := openPoint (hval 0 23 v0 rfl rfl) h0
  clear hA0 hval0
  refine (walk W a0).mono fun e W' ⟨he, hg⟩ => ?_
  subst he
  exact ⟨_, rfl, post_true (tb := 4) laid readable (by kernel_rfl) Try.underlying4 rfl (fun l hl => by
    match l, hl with
    | [_], _ => exact ⟨rfl, rfl, rfl⟩) hW' hg⟩

theorem over : Rows.diamondInsRow.holds Try.pinned (OpenSpec.ofChange Rows.diamondInsSpec) :=
  OpenClaim.holds_of_wide 3 Try.f3 rfl rfl rfl rfl rfl rfl rfl ⟨rfl, rfl, rfl, rfl, rfl⟩ rfl rfl rfl rfl rfl (by kernel_rfl) Try.func3 (by kernel_rfl)
    (of_decide_eq_true (by kernel_rfl)) (by unfold Func.isWrapper; first | (rw [if_pos (by decide +kernel)]; kernel_rfl) | (rw [if_neg (by decide +kernel)]; exact ⟨rfl, rfl⟩))
    (fun os started H enc _ => lifted os started H enc)

theorem proved : Rows.DiamondInsSaid :=
  over
#print axioms proved
end Go.Proofs.Ytkhjjmjdicnpjaa.diamondIns
