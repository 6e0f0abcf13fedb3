/-
  LerpTells: the depth and the color of any line at any pixel are the document's.
-/
import Derived.Test.YtjhefgfnecdcoaaVi
import Derived.Deep.DeepCutAuto
namespace Go.Proofs.Ytjhefgfnecdcoaa.lerpTells
open Go.ChangeShapes Go.WideShapes Go.ChangeAt Go.RowKit
set_option linter.unusedVariables false
set_option linter.unusedSimpArgs false

theorem own : ownKnob Try.prog.godebug = none := by kernel_rfl

set_option maxRecDepth 100000 in
set_option maxHeartbeats 16000000 in
theorem walk (w : World) (a b p : Nat → Int) :
    Calls Try.prog 4 #[arr 7 a, arr 7 b, arr 2 p] w fun e w' => e = .returned (.bool true) ∧ Below w.heap.size w w' := by
  have O := Own.start w
  have FA := fun w => fits_any a w
  have FB := fun w => fits_any b w
  have FN := fun w => near_any p w
  have tok0 : True := trivial
  cases h1 : VM.fit a
  · rw [h1] at FA
    clear h1 FB FN
    go_enter Try.func4, Try.ntmps4
    go_wp2_with (first | ((with_reducible refine at_box 3 ?_); refine wpList_box_own O (M.mat 7 (a)) rfl ?_; clear O; intro g3 w1 O) | ((with_reducible refine at_box 4 ?_); refine wpList_box_own O (M.mat 7 (b)) rfl ?_; clear O; intro g4 w2 O) | ((with_reducible refine at_box 5 ?_); refine wpList_box_own O (M.mat 2 (p)) rfl ?_; clear O; intro g5 w3 O) | ((with_reducible refine at_load 15 ?_); refine wpList_whole rfl O 2 rfl rfl Try.underlying30 rfl (sW _) ?_) | (go_at_call 11; clear tok0; have tok1 : True := trivial; refine (FA _).mono ?_; rintro e w4 ⟨rfl, hb⟩; replace O := O.call hb; clear hb) | (go_at_call 8; refine (awake_any _).mono ?_; rintro e w20 ⟨rfl, hb⟩; replace O := O.call hb; clear hb))
    go_ret
    exact ⟨rfl, O.below⟩
  · cases h2 : VM.fit b
    · rw [h1] at FA
      rw [h2] at FB
      clear h1 h2 FN
      go_enter Try.func4, Try.ntmps4
      go_wp2_with (first | ((with_reducible refine at_box 3 ?_); refine wpList_box_own O (M.mat 7 (a)) rfl ?_; clear O; intro g3 w1 O) | ((with_reducible refine at_box 4 ?_); refine wpList_box_own O (M.mat 7 (b)) rfl ?_; clear O; intro g4 w2 O) | ((with_reducible refine at_box 5 ?_); refine wpList_box_own O (M.mat 2 (p)) rfl ?_; clear O; intro g5 w3 O) | ((with_reducible refine at_load 15 ?_); refine wpList_whole rfl O 2 rfl rfl Try.underlying30 rfl (sW _) ?_) | (go_at_call 11; clear tok0; have tok1 : True := trivial; refine (FA _).mono ?_; rintro e w4 ⟨rfl, hb⟩; replace O := O.call hb; clear hb) | ((with_reducible refine at_load 19 ?_); refine wpList_whole rfl O 1 rfl rfl Try.underlying30 rfl (sW _) ?_) | (go_at_call 11; clear tok1; have tok2 : True := trivial; refine (FB _).mono ?_; rintro e w5 ⟨rfl, hb⟩; replace O := O.call hb; clear hb) | (go_at_call 8; refine (awake_any _).mono ?_; rintro e w20 ⟨rfl, hb⟩; replace O := O.call hb; clear hb))
      go_ret
      exact ⟨rfl, O.below⟩
    · cases h3 : VM.near p
      · rw [h1] at FA
        rw [h2] at FB
        rw [h3] at FN
        clear h1 h2 h3
        go_enter Try.func4, Try.ntmps4
        go_wp2_with (first | ((with_reducible refine at_box 3 ?_); refine wpList_box_own O (M.mat 7 (a)) rfl ?_; clear O; intro g3 w1 O) | ((with_reducible refine at_box 4 ?_); refine wpList_box_own O (M.mat 7 (b)) rfl ?_; clear O; intro g4 w2 O) | ((with_reducible refine at_box 5 ?_); refine wpList_box_own O (M.mat 2 (p)) rfl ?_; clear O; intro g5 w3 O) | ((with_reducible refine at_load 15 ?_); refine wpList_whole rfl O 2 rfl rfl Try.underlying30 rfl (sW _) ?_) | (go_at_call 11; clear tok0; have tok1 : True := trivial; refine (FA _).mono ?_; rintro e w4 ⟨rfl, hb⟩; replace O := O.call hb; clear hb) | ((with_reducible refine at_load 19 ?_); refine wpList_whole rfl O 1 rfl rfl Try.underlying30 rfl (sW _) ?_) | (go_at_call 11; clear tok1; have tok2 : True := trivial; refine (FB _).mono ?_; rintro e w5 ⟨rfl, hb⟩; replace O := O.call hb; clear hb) | ((with_reducible refine at_load 24 ?_); refine wpList_whole rfl O 0 rfl rfl Try.underlying22 rfl (sD _) ?_) | (go_at_call 12; refine (FN _).mono ?_; rintro e w6 ⟨rfl, hb⟩; replace O := O.call hb; clear hb) | (go_at_call 8; refine (awake_any _).mono ?_; rintro e w20 ⟨rfl, hb⟩; replace O := O.call hb; clear hb))
        go_ret
        exact ⟨rfl, O.below⟩
      · obtain ⟨n0, n1⟩ := VM.near_lim h3
        have C1 := fun w => palong_any a b (p 0) (p 1) h1 h2 n0 n1 w
        have C2 := fun w => ralong_any a b (p 0) (p 1) h1 h2 n0 n1 w
        have C3 := fun w => pacross_any a b (p 0) (p 1) h1 h2 n0 n1 w
        have C4 := fun w => racross_any a b (p 0) (p 1) h1 h2 n0 n1 w
        obtain ⟨X, eX⟩ : ∃ z, p 0 = z := ⟨_, rfl⟩
        have CX := cell_is (n := 2) eX (by decide)
        obtain ⟨Y, eY⟩ : ∃ z, p 1 = z := ⟨_, rfl⟩
        have CY := cell_is (n := 2) eY (by decide)
        rw [eX, eY] at C1 C2 C3 C4
        generalize VM.mid (a 2) (b 2) (VM.nA (a 0) (a 1) (b 0) (b 1) X Y) (VM.dA (a 0) (a 1) (b 0) (b 1)) = z at C1 C2
        generalize VM.col a b (VM.nA (a 0) (a 1) (b 0) (b 1) X Y) (VM.dA (a 0) (a 1) (b 0) (b 1)) = c at C1 C2
        generalize VM.mid (a 2) (b 2) (VM.nC (a 0) (a 1) (b 0) (b 1) X Y) (VM.dC (a 0) (a 1) (b 0) (b 1)) = y at C3 C4
        generalize VM.col a b (VM.nC (a 0) (a 1) (b 0) (b 1) X Y) (VM.dC (a 0) (a 1) (b 0) (b 1)) = e' at C3 C4
        rw [h1] at FA
        rw [h2] at FB
        rw [h3] at FN
        have D1 := Lib.hid C1
        have D2 := Lib.hid C2
        have D3 := Lib.hid C3
        have D4 := Lib.hid C4
        clear h1 h2 h3 n0 n1 eX eY C1 C2 C3 C4
        go_enter Try.func4, Try.ntmps4
        go_wp2_with (first | ((with_reducible refine at_box 3 ?_); refine wpList_box_own O (M.mat 7 (a)) rfl ?_; clear O; intro g3 w1 O) | ((with_reducible refine at_box 4 ?_); refine wpList_box_own O (M.mat 7 (b)) rfl ?_; clear O; intro g4 w2 O) | ((with_reducible refine at_box 5 ?_); refine wpList_box_own O (M.mat 2 (p)) rfl ?_; clear O; intro g5 w3 O) | ((with_reducible refine at_load 15 ?_); refine wpList_whole rfl O 2 rfl rfl Try.underlying30 rfl (sW _) ?_) | (go_at_call 11; clear tok0; have tok1 : True := trivial; refine (FA _).mono ?_; rintro e w4 ⟨rfl, hb⟩; replace O := O.call hb; clear hb) | ((with_reducible refine at_load 19 ?_); refine wpList_whole rfl O 1 rfl rfl Try.underlying30 rfl (sW _) ?_) | (go_at_call 11; clear tok1; have tok2 : True := trivial; refine (FB _).mono ?_; rintro e w5 ⟨rfl, hb⟩; replace O := O.call hb; clear hb) | ((with_reducible refine at_load 24 ?_); refine wpList_whole rfl O 0 rfl rfl Try.underlying22 rfl (sD _) ?_) | (go_at_call 12; refine (FN _).mono ?_; rintro e w6 ⟨rfl, hb⟩; replace O := O.call hb; clear hb) | ((with_reducible refine at_load 30 ?_); refine wpList_whole rfl O 2 rfl rfl Try.underlying30 rfl (sW _) ?_) | ((with_reducible refine at_load 31 ?_); refine wpList_whole rfl O 1 rfl rfl Try.underlying30 rfl (sW _) ?_) | ((with_reducible refine at_load 33 ?_); refine wpList_cell_h (v := .int .i64 (X)) rfl O.held 0 rfl CX.out rfl agg3 rfl ?_) | ((with_reducible refine at_load 35 ?_); refine wpList_cell_h (v := .int .i64 (Y)) rfl O.held 0 rfl CY.out rfl agg3 rfl ?_) | (go_at_call 13; refine (D1.out _).mono ?_; rintro e w7 ⟨rfl, hb⟩; replace O := O.call hb; clear hb) | ((with_reducible refine at_alloc 8 ?_); refine wpList_alloc_own O (M.mat 4 M.zero) zeroC ?_; clear O; intro g8 w8 O) | ((with_reducible refine at_store 8 ?_); refine wpList_put_own O 0 (M.mat 4 (c)) rfl rfl rfl (sC _) (M.mat_len2 _ _ _) (M.mat_one _ _) ?_; clear O; intro w9 O) | ((with_reducible refine at_load 40 ?_); refine wpList_whole rfl O 3 rfl rfl Try.underlying30 rfl (sW _) ?_) | ((with_reducible refine at_load 41 ?_); refine wpList_whole rfl O 2 rfl rfl Try.underlying30 rfl (sW _) ?_) | ((with_reducible refine at_load 43 ?_); refine wpList_cell_h (v := .int .i64 (X)) rfl O.held 1 rfl CX.out rfl agg3 rfl ?_) | ((with_reducible refine at_load 45 ?_); refine wpList_cell_h (v := .int .i64 (Y)) rfl O.held 1 rfl CY.out rfl agg3 rfl ?_) | (go_at_call 14; refine (D2.out _).mono ?_; rintro e w10 ⟨rfl, hb⟩; replace O := O.call hb; clear hb) | ((with_reducible refine at_alloc 10 ?_); refine wpList_alloc_own O (M.mat 4 M.zero) zeroC ?_; clear O; intro g10 w11 O) | ((with_reducible refine at_store 10 ?_); refine wpList_put_own O 0 (M.mat 4 (c)) rfl rfl rfl (sC _) (M.mat_len2 _ _ _) (M.mat_one _ _) ?_; clear O; intro w12 O) | ((with_reducible refine at_load 50 ?_); refine wpList_whole rfl O 4 rfl rfl Try.underlying30 rfl (sW _) ?_) | ((with_reducible refine at_load 51 ?_); refine wpList_whole rfl O 3 rfl rfl Try.underlying30 rfl (sW _) ?_) | ((with_reducible refine at_load 53 ?_); refine wpList_cell_h (v := .int .i64 (X)) rfl O.held 2 rfl CX.out rfl agg3 rfl ?_) | ((with_reducible refine at_load 55 ?_); refine wpList_cell_h (v := .int .i64 (Y)) rfl O.held 2 rfl CY.out rfl agg3 rfl ?_) | (go_at_call 15; refine (D3.out _).mono ?_; rintro e w13 ⟨rfl, hb⟩; replace O := O.call hb; clear hb) | ((with_reducible refine at_alloc 12 ?_); refine wpList_alloc_own O (M.mat 4 M.zero) zeroC ?_; clear O; intro g12 w14 O) | ((with_reducible refine at_store 12 ?_); refine wpList_put_own O 0 (M.mat 4 (e')) rfl rfl rfl (sC _) (M.mat_len2 _ _ _) (M.mat_one _ _) ?_; clear O; intro w15 O) | ((with_reducible refine at_load 60 ?_); refine wpList_whole rfl O 5 rfl rfl Try.underlying30 rfl (sW _) ?_) | ((with_reducible refine at_load 61 ?_); refine wpList_whole rfl O 4 rfl rfl Try.underlying30 rfl (sW _) ?_) | ((with_reducible refine at_load 63 ?_); refine wpList_cell_h (v := .int .i64 (X)) rfl O.held 3 rfl CX.out rfl agg3 rfl ?_) | ((with_reducible refine at_load 65 ?_); refine wpList_cell_h (v := .int .i64 (Y)) rfl O.held 3 rfl CY.out rfl agg3 rfl ?_) | (go_at_call 16; refine (D4.out _).mono ?_; rintro e w16 ⟨rfl, hb⟩; replace O := O.call hb; clear hb) | ((with_reducible refine at_alloc 14 ?_); refine wpList_alloc_own O (M.mat 4 M.zero) zeroC ?_; clear O; intro g14 w17 O) | ((with_reducible refine at_store 14 ?_); refine wpList_put_own O 0 (M.mat 4 (e')) rfl rfl rfl (sC _) (M.mat_len2 _ _ _) (M.mat_one _ _) ?_; clear O; intro w18 O) | (go_at_call 8; refine (awake_any _).mono ?_; rintro e w20 ⟨rfl, hb⟩; replace O := O.call hb; clear hb) | ((with_reducible refine at_load 76 ?_); refine wpList_whole rfl O 3 rfl rfl Try.underlying28 rfl (sC _) ?_) | ((with_reducible refine at_load 77 ?_); refine wpList_whole rfl O 2 rfl rfl Try.underlying28 rfl (sC _) ?_) | ((with_reducible refine at_binOp 78 ?_); refine wpList_eqC rfl (c) (c) rfl rfl ?_; rw [M.eqB_refl]) | ((with_reducible refine at_load 86 ?_); refine wpList_whole rfl O 1 rfl rfl Try.underlying28 rfl (sC _) ?_) | ((with_reducible refine at_load 87 ?_); refine wpList_whole rfl O 0 rfl rfl Try.underlying28 rfl (sC _) ?_) | ((with_reducible refine at_binOp 88 ?_); refine wpList_eqC rfl (e') (e') rfl rfl ?_; rw [M.eqB_refl]))
        go_ret
        exact ⟨rfl, O.below⟩

theorem readable : ∀ t ∈ Try.f4.params.toList, Try.prog.readableRec t = true ∧ t < Try.prog.types.size := by
  intro t ht
  rw [Try.params4] at ht
  simp only [List.mem_cons, List.not_mem_nil, or_false] at ht
  repeat (first | (rcases ht with rfl | ht; exact ⟨by kernel_rfl, of_decide_eq_true (by kernel_rfl)⟩) | (subst ht; exact ⟨by kernel_rfl, of_decide_eq_true (by kernel_rfl)⟩))
set_option maxRecDepth 100000 in
theorem lifted (os : Os) (started : os.Started) (H : Type) (enc : TypeId × Value → H) :
    ReturnsInHanded {} Try.checked os 4 .any (Rows.lerpTellsSpec.pre6 enc Try.prog Try.f4 Rows.lerpTellsRow.domain false) (Rows.lerpTellsSpec.post enc Try.prog Try.f4 false true false false) := by
  refine returnsInHanded_of_change (C := Try.checked) own started (by kernel_rfl) Try.func4
    (ChangeSpec.witness6 (enc := enc) (C := Try.checked) false ⟨#[], #[.agg #[.int .i64 0, .int .i64 0, .int .i64 0, .int .i64 0, .int .i64 0, .int .i64 0, .int .i64 0], .agg #[.int .i64 0, .int .i64 0, .int .i64 0, .int .i64 0, .int .i64 0, .int .i64 0, .int .i64 0], .agg #[.int .i64 0, .int .i64 0]], []⟩ 8 (by kernel_rfl) (by kernel_rfl) (by kernel_rfl) (by kernel_rfl)) ?_
  intro W base args ds gs before hval0 hW hcnd _
  have hval : ∀ (j : Nat) t v, Try.f4.params[j]? = some t → args[j]? = some v → Value.okWide Try.prog W .any base t v := hval0
  have hW' := hW
  obtain ⟨p, q, hA0, hV, rfl, hfz, hnd⟩ := hW
  have hA : DataW.TrodAll enc Try.prog W 0 (fun _ => true) true Try.f4.params.toList args.toList ds p := hA0
  rw [Try.params4] at hA hval
  have hlt : ∀ x ∈ p ++ q, x.block < W.heap.size := fun x hx => hW'.lt x hx
  obtain ⟨v0, vs0, d0, ds0, p0, q0, hargs, rfl, rfl, h0, rr0⟩ := trodAll_cons hA
  obtain ⟨v1, vs1, d1, ds1, p1, q1, rfl, rfl, rfl, h1, rr1⟩ := trodAll_cons rr0
  obtain ⟨v2, vs2, d2, ds2, p2, q2, rfl, rfl, rfl, h2, rr2⟩ := trodAll_cons rr1
  obtain ⟨rfl, rfl, rfl⟩ := trodAll_nil rr2
  obtain rfl : args = #[v0, v1, v2] := by cases args; simp_all
  obtain ⟨rfl, rfl⟩ := trodVars_none hV
  obtain ⟨a0, rfl⟩ := openWin (hval 0 30 v0 rfl rfl) h0
  obtain ⟨a1, rfl⟩ := openWin (hval 1 30 v1 rfl rfl) h1
  obtain ⟨a2, rfl, x2⟩ := openPair (hval 2 22 v2 rfl rfl) h2
  clear hA0 hval0
  refine (walk W a0 a1 a2).mono fun e W' ⟨he, hg⟩ => ?_
  subst he
  exact ⟨_, rfl, post_true (tb := 4) laid readable (by kernel_rfl) Try.underlying4 rfl (fun l hl => by
    match l, hl with
    | [_, _, _], _ => exact ⟨rfl, rfl, rfl⟩) hW' hg⟩

theorem over : Rows.lerpTellsRow.holds Try.pinned (OpenSpec.ofChange Rows.lerpTellsSpec) :=
  OpenClaim.holds_of_wide 4 Try.f4 rfl rfl rfl rfl rfl rfl rfl ⟨rfl, rfl, rfl, rfl, rfl⟩ rfl rfl rfl rfl rfl (by kernel_rfl) Try.func4 (by kernel_rfl)
    (of_decide_eq_true (by kernel_rfl)) (by unfold Func.isWrapper; first | (rw [if_pos (by decide +kernel)]; kernel_rfl) | (rw [if_neg (by decide +kernel)]; exact ⟨rfl, rfl⟩))
    (fun os started H enc _ => lifted os started H enc)

theorem proved : Rows.LerpTellsSaid :=
  over
#print axioms proved
end Go.Proofs.Ytjhefgfnecdcoaa.lerpTells
