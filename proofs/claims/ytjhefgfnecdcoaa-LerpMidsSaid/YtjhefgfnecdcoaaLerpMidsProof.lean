/-
  LerpMids: what stands between any two numbers is the document's.
-/
import Derived.Test.YtjhefgfnecdcoaaVi
import Derived.Deep.DeepCutAuto
namespace Go.Proofs.Ytjhefgfnecdcoaa.lerpMids
open Go.ChangeShapes Go.WideShapes Go.ChangeAt Go.RowKit
set_option linter.unusedVariables false
set_option linter.unusedSimpArgs false

theorem own : ownKnob Try.prog.godebug = none := by kernel_rfl

set_option maxRecDepth 100000 in
set_option maxHeartbeats 16000000 in
theorem walk (w : World) (x y : Int) (p : Nat → Int) (hp : ∀ i, i < 2 → -9223372036854775808 ≤ p i ∧ p i < 9223372036854775808) :
    Calls Try.prog 3 #[.int .i64 x, .int .i64 y, arr 2 p] w fun e w' => e = .returned (.bool true) ∧ Below w.heap.size w w' := by
  have O := Own.start w
  have F1 := fun w => far_any x w
  have F2 := fun w => far_any y w
  have r0 := hp 0 (by omega)
  have r1 := hp 1 (by omega)
  obtain ⟨n, en⟩ : ∃ z, p 0 = z := ⟨_, rfl⟩
  have Cn := cell_is (n := 2) en (by decide)
  obtain ⟨d, ed⟩ : ∃ z, p 1 = z := ⟨_, rfl⟩
  have Cd := cell_is (n := 2) ed (by decide)
  rw [en] at r0
  rw [ed] at r1
  clear en ed hp
  have tok0 : True := trivial
  cases h1 : VM.far x
  · have l1 := VM.far_no h1
    rw [h1] at F1
    cases h2 : VM.far y
    · have l2 := VM.far_no h2
      rw [h2] at F2
      by_cases hd : 4611686018427387904 < d
      · have K : decide (4611686018427387904 < d) = true := decide_eq_true hd
        clear hd r0 r1 l1 l2 h1 h2
        go_enter Try.func3, Try.ntmps3
        go_wp2_with (first | ((with_reducible refine at_box 5 ?_); refine wpList_box_own O (M.mat 2 (p)) rfl ?_; clear O; intro g5 w1 O) | (go_at_call 7; clear tok0; have tok1 : True := trivial; refine (F1 _).mono ?_; rintro e w' ⟨rfl, rfl⟩) | (go_at_call 7; clear tok1; have tok2 : True := trivial; refine (F2 _).mono ?_; rintro e w' ⟨rfl, rfl⟩) | ((with_reducible refine at_load 15 ?_); refine wpList_cell_h (v := .int .i64 (d)) rfl O.held 0 rfl Cd.out rfl agg3 rfl ?_) | (go_at_call 8; refine (awake_any _).mono ?_; rintro e w20 ⟨rfl, hb⟩; replace O := O.call hb; clear hb))
        go_ret
        exact ⟨rfl, O.below⟩
      · have K : decide (4611686018427387904 < d) = false := decide_eq_false hd
        have PM := Lib.hid (fun w => pmid_any x y n d l1 l2 r0 (by omega) w)
        have DM := Lib.hid (fun w => rmid_any x y n d l1 l2 (by omega) w)
        generalize VM.mid x y n d = m at *
        clear hd r0 r1 l1 l2 h1 h2
        go_enter Try.func3, Try.ntmps3
        go_wp2_with (first | ((with_reducible refine at_box 5 ?_); refine wpList_box_own O (M.mat 2 (p)) rfl ?_; clear O; intro g5 w1 O) | (go_at_call 7; clear tok0; have tok1 : True := trivial; refine (F1 _).mono ?_; rintro e w' ⟨rfl, rfl⟩) | (go_at_call 7; clear tok1; have tok2 : True := trivial; refine (F2 _).mono ?_; rintro e w' ⟨rfl, rfl⟩) | ((with_reducible refine at_load 15 ?_); refine wpList_cell_h (v := .int .i64 (d)) rfl O.held 0 rfl Cd.out rfl agg3 rfl ?_))
        have OO := O
        clear O
        have O := OO
        clear OO
        refine region_T ((fun w2 => Own w w2 [(g5, 22, M.mat 2 p)])) [0, 1, 2, 3, 4, 5, 6, 7, 8, 9, 10, 11, 12, 13, 14, 15, 16, 17] 12 [some 19, some 20, some 21, some 22, some 23, some 24, some 25, some 26, some 27, some 28, some 29, some 30, some 31, some 32, some 33, some 34, some 35, some 36] [.bool true, .bool true, .int .i64 x, .int .i64 y, .pointer (some ⟨g5, 0, none⟩), .int .i64 n, .pointer (some ⟨g5, 1, none⟩), .int .i64 d, .int .i64 m, .int .i64 x, .int .i64 y, .pointer (some ⟨g5, 0, none⟩), .int .i64 n, .pointer (some ⟨g5, 1, none⟩), .int .i64 d, .int .i64 m, .bool true, .bool true] 1 (by kernel_rfl) (by rfl) (by kernel_rfl) (by rfl) (by rfl) (O.drew) (fun F hF => ?_)
        simp only [fillD, Act.put, List.setIfInBounds_toArray, List.set_cons_zero, List.set_cons_succ] at hF
        subst hF
        refine ⟨⟨does_want rfl (by rfl) (fun w' O K hK => ?_), does_want rfl (by rfl) (fun w' O K hK => ?_), does_want rfl (by rfl) (fun w' O K hK => ?_), does_want rfl (by rfl) (fun w' O K hK => ?_), does_want rfl (by rfl) (fun w' O K hK => ?_), does_want rfl (by rfl) (fun w' O K hK => ?_), does_want rfl (by rfl) (fun w' O K hK => ?_), does_want rfl (by rfl) (fun w' O K hK => ?_), does_want rfl (by rfl) (fun w' O K hK => ?_), does_want rfl (by rfl) (fun w' O K hK => ?_), does_want rfl (by rfl) (fun w' O K hK => ?_), does_want rfl (by rfl) (fun w' O K hK => ?_), does_want rfl (by rfl) (fun w' O K hK => ?_), does_want rfl (by rfl) (fun w' O K hK => ?_), does_want rfl (by rfl) (fun w' O K hK => ?_), does_want rfl (by rfl) (fun w' O K hK => ?_), does_want rfl (by rfl) (fun w' O K hK => ?_), does_want rfl (by rfl) (fun w' O K hK => ?_), trivial⟩, fun w' O => ?_⟩
        · go_simp
          go_at_call 8
          refine (awake_any _).mono ?_
          rintro e w2 ⟨rfl, hb⟩
          exact hK _ (O.call hb)
        · go_simp
          exact hK _ O
        · go_simp
          exact hK _ O
        · go_simp
          exact hK _ O
        · go_simp
          exact hK _ O
        · exact wp_cell_h (v := .int .i64 (n)) O.held 0 rfl Cn.out rfl agg3 rfl (hK _ O)
        · go_simp
          exact hK _ O
        · exact wp_cell_h (v := .int .i64 (d)) O.held 0 rfl Cd.out rfl agg3 rfl (hK _ O)
        · go_simp
          go_at_call 9
          refine (PM.out _).mono ?_
          rintro e w2 ⟨rfl, hb⟩
          exact hK _ (O.call hb)
        · go_simp
          exact hK _ O
        · go_simp
          exact hK _ O
        · go_simp
          exact hK _ O
        · exact wp_cell_h (v := .int .i64 (n)) O.held 0 rfl Cn.out rfl agg3 rfl (hK _ O)
        · go_simp
          exact hK _ O
        · exact wp_cell_h (v := .int .i64 (d)) O.held 0 rfl Cd.out rfl agg3 rfl (hK _ O)
        · go_simp
          go_at_call 10
          refine (DM.out _).mono ?_
          rintro e w2 ⟨rfl, hb⟩
          exact hK _ (O.call hb)
        · go_simp
          first | exact hK _ O | (simp; exact hK _ O)
        · go_simp
          exact hK _ O
        refine wpAny_one (i := 18) (by kernel_rfl) rfl (fun K hK => ?_)
        go_simp
        refine hK _ _ ?_
        clear hK K
        try simp only [Act.put, List.setIfInBounds_toArray, List.set_cons_zero, List.set_cons_succ]
        refine wpAny_done (by kernel_rfl) ?_ _
        go_wp2_with fail
        go_ret
        exact ⟨rfl, O.below⟩
    · rw [h2] at F2
      clear h1 h2 l1 r0 r1
      go_enter Try.func3, Try.ntmps3
      go_wp2_with (first | ((with_reducible refine at_box 5 ?_); refine wpList_box_own O (M.mat 2 (p)) rfl ?_; clear O; intro g5 w1 O) | (go_at_call 7; clear tok0; have tok1 : True := trivial; refine (F1 _).mono ?_; rintro e w' ⟨rfl, rfl⟩) | (go_at_call 7; clear tok1; have tok2 : True := trivial; refine (F2 _).mono ?_; rintro e w' ⟨rfl, rfl⟩) | (go_at_call 8; refine (awake_any _).mono ?_; rintro e w20 ⟨rfl, hb⟩; replace O := O.call hb; clear hb))
      go_ret
      exact ⟨rfl, O.below⟩
  · rw [h1] at F1
    clear h1 F2 r0 r1
    go_enter Try.func3, Try.ntmps3
    go_wp2_with (first | ((with_reducible refine at_box 5 ?_); refine wpList_box_own O (M.mat 2 (p)) rfl ?_; clear O; intro g5 w1 O) | (go_at_call 7; clear tok0; have tok1 : True := trivial; refine (F1 _).mono ?_; rintro e w' ⟨rfl, rfl⟩) | (go_at_call 8; refine (awake_any _).mono ?_; rintro e w20 ⟨rfl, hb⟩; replace O := O.call hb; clear hb))
    go_ret
    exact ⟨rfl, O.below⟩

theorem readable : ∀ t ∈ Try.f3.params.toList, Try.prog.readableRec t = true ∧ t < Try.prog.types.size := by
  intro t ht
  rw [Try.params3] at ht
  simp only [List.mem_cons, List.not_mem_nil, or_false] at ht
  repeat (first | (rcases ht with rfl | ht; exact ⟨by kernel_rfl, of_decide_eq_true (by kernel_rfl)⟩) | (subst ht; exact ⟨by kernel_rfl, of_decide_eq_true (by kernel_rfl)⟩))
set_option maxRecDepth 100000 in
theorem lifted (os : Os) (started : os.Started) (H : Type) (enc : TypeId × Value → H) :
    ReturnsInHanded {} Try.checked os 3 .any (Rows.lerpMidsSpec.pre6 enc Try.prog Try.f3 Rows.lerpMidsRow.domain false) (Rows.lerpMidsSpec.post enc Try.prog Try.f3 false true false false) := by
  refine returnsInHanded_of_change (C := Try.checked) own started (by kernel_rfl) Try.func3
    (ChangeSpec.witness6 (enc := enc) (C := Try.checked) false ⟨#[], #[.int .i64 0, .int .i64 0, .agg #[.int .i64 0, .int .i64 0]], []⟩ 8 (by kernel_rfl) (by kernel_rfl) (by kernel_rfl) (by kernel_rfl)) ?_
  intro W base args ds gs before hval0 hW hcnd _
  have hval : ∀ (j : Nat) t v, Try.f3.params[j]? = some t → args[j]? = some v → Value.okWide Try.prog W .any base t v := hval0
  have hW' := hW
  obtain ⟨p, q, hA0, hV, rfl, hfz, hnd⟩ := hW
  have hA : DataW.TrodAll enc Try.prog W 0 (fun _ => true) true Try.f3.params.toList args.toList ds p := hA0
  rw [Try.params3] at hA hval
  have hlt : ∀ x ∈ p ++ q, x.block < W.heap.size := fun x hx => hW'.lt x hx
  obtain ⟨v0, vs0, d0, ds0, p0, q0, hargs, rfl, rfl, h0, rr0⟩ := trodAll_cons hA
  obtain ⟨v1, vs1, d1, ds1, p1, q1, rfl, rfl, rfl, h1, rr1⟩ := trodAll_cons rr0
  obtain ⟨v2, vs2, d2, ds2, p2, q2, rfl, rfl, rfl, h2, rr2⟩ := trodAll_cons rr1
  obtain ⟨rfl, rfl, rfl⟩ := trodAll_nil rr2
  obtain rfl : args = #[v0, v1, v2] := by cases args; simp_all
  obtain ⟨rfl, rfl⟩ := trodVars_none hV
  obtain ⟨i0, rfl, rfl, rfl, x0⟩ := open_int Try.underlying3 (hval 0 3 v0 rfl rfl) h0
  obtain ⟨i1, rfl, rfl, rfl, x1⟩ := open_int Try.underlying3 (hval 1 3 v1 rfl rfl) h1
  obtain ⟨a2, rfl, x2⟩ := openPair (hval 2 22 v2 rfl rfl) h2
  clear hA0 hval0
  refine (walk W i0 i1 a2 x2).mono fun e W' ⟨he, hg⟩ => ?_
  subst he
  exact ⟨_, rfl, post_true (tb := 4) laid readable (by kernel_rfl) Try.underlying4 rfl (fun l hl => by
    match l, hl with
    | [_, _, _], _ => exact ⟨rfl, rfl, rfl⟩) hW' hg⟩

theorem over : Rows.lerpMidsRow.holds Try.pinned (OpenSpec.ofChange Rows.lerpMidsSpec) :=
  OpenClaim.holds_of_wide 3 Try.f3 rfl rfl rfl rfl rfl rfl rfl ⟨rfl, rfl, rfl, rfl, rfl⟩ rfl rfl rfl rfl rfl (by kernel_rfl) Try.func3 (by kernel_rfl)
    (of_decide_eq_true (by kernel_rfl)) (by unfold Func.isWrapper; first | (rw [if_pos (by decide +kernel)]; kernel_rfl) | (rw [if_neg (by decide +kernel)]; exact ⟨rfl, rfl⟩))
    (fun os started H enc _ => lifted os started H enc)

theorem proved : Rows.LerpMidsSaid :=
  over
#print axioms proved
end Go.Proofs.Ytjhefgfnecdcoaa.lerpMids
