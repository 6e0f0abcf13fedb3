/-
  DashLater: for every dash and any two numbers: what is lit behind n pixels is lit of the dash n pixels later; after 16 times Repeat pixels all is as it was; one later, and one later again, is one by both.
-/
import Derived.Test.YtpomdghalkphcaaHx
import Derived.Deep.DeepCutAuto
namespace Go.Proofs.Ytpomdghalkphcaa.dashLater
open Go.ChangeShapes Go.WideShapes Go.ChangeAt Go.RowKit
set_option linter.unusedVariables false
set_option linter.unusedSimpArgs false

theorem own : ownKnob Try.prog.godebug = none := by kernel_rfl

set_option maxRecDepth 100000 in
set_option maxHeartbeats 16000000 in
theorem walk (w : World) (d : Nat → Int) (n k : Int) :
    Calls Try.prog 5 #[arr 3 d, .int .i64 n, .int .i64 k] w fun e w' => e = .returned (.bool true) ∧ Below w.heap.size w w' := by
  have O := Own.start w
  have DR := fun w => rright_any d w
  have FN := fun w => far_any n w
  have FK := fun w => far_any k w
  have tok0 : True := trivial
  cases h1 : HM.right d
  · rw [h1] at DR
    clear h1 FN FK
    go_enter Try.func5, Try.ntmps5
    go_wp2_with (first | ((with_reducible refine at_box 3 ?_); refine wpList_box_own O (M.mat 3 (d)) rfl ?_; clear O; intro g3 w1 O) | ((with_reducible refine at_load 8 ?_); refine wpList_whole rfl O 0 rfl rfl Try.underlying23 rfl (sH _) ?_) | (go_at_call 8; refine (DR _).mono ?_; rintro e w2 ⟨rfl, hb⟩; replace O := O.call hb; clear hb) | (go_at_call 10; refine (awake_any _).mono ?_; rintro e w20 ⟨rfl, hb⟩; replace O := O.call hb; clear hb))
    go_ret
    exact ⟨rfl, O.below⟩
  cases hn : HM.far n
  case true =>
    rw [h1] at DR
    rw [hn] at FN
    clear h1 hn FK
    go_enter Try.func5, Try.ntmps5
    go_wp2_with (first | ((with_reducible refine at_box 3 ?_); refine wpList_box_own O (M.mat 3 (d)) rfl ?_; clear O; intro g3 w1 O) | ((with_reducible refine at_load 8 ?_); refine wpList_whole rfl O 0 rfl rfl Try.underlying23 rfl (sH _) ?_) | (go_at_call 8; refine (DR _).mono ?_; rintro e w2 ⟨rfl, hb⟩; replace O := O.call hb; clear hb) | (go_at_call 9; clear tok0; have tok1 : True := trivial; refine (FN _).mono ?_; rintro e w' ⟨rfl, rfl⟩) | (go_at_call 10; refine (awake_any _).mono ?_; rintro e w20 ⟨rfl, hb⟩; replace O := O.call hb; clear hb))
    go_ret
    exact ⟨rfl, O.below⟩
  cases hk : HM.far k
  case true =>
    rw [h1] at DR
    rw [hn] at FN
    rw [hk] at FK
    clear h1 hn hk
    go_enter Try.func5, Try.ntmps5
    go_wp2_with (first | ((with_reducible refine at_box 3 ?_); refine wpList_box_own O (M.mat 3 (d)) rfl ?_; clear O; intro g3 w1 O) | ((with_reducible refine at_load 8 ?_); refine wpList_whole rfl O 0 rfl rfl Try.underlying23 rfl (sH _) ?_) | (go_at_call 8; refine (DR _).mono ?_; rintro e w2 ⟨rfl, hb⟩; replace O := O.call hb; clear hb) | (go_at_call 9; clear tok0; have tok1 : True := trivial; refine (FN _).mono ?_; rintro e w' ⟨rfl, rfl⟩) | (go_at_call 9; clear tok1; have tok2 : True := trivial; refine (FK _).mono ?_; rintro e w' ⟨rfl, rfl⟩) | (go_at_call 10; refine (awake_any _).mono ?_; rintro e w20 ⟨rfl, hb⟩; replace O := O.call hb; clear hb))
    go_ret
    exact ⟨rfl, O.below⟩
  cases c1 : decide (549755813888 < n)
  case true =>
    rw [h1] at DR
    rw [hn] at FN
    rw [hk] at FK
    clear h1 hn hk
    go_enter Try.func5, Try.ntmps5
    go_wp2_with (first | ((with_reducible refine at_box 3 ?_); refine wpList_box_own O (M.mat 3 (d)) rfl ?_; clear O; intro g3 w1 O) | ((with_reducible refine at_load 8 ?_); refine wpList_whole rfl O 0 rfl rfl Try.underlying23 rfl (sH _) ?_) | (go_at_call 8; refine (DR _).mono ?_; rintro e w2 ⟨rfl, hb⟩; replace O := O.call hb; clear hb) | (go_at_call 9; clear tok0; have tok1 : True := trivial; refine (FN _).mono ?_; rintro e w' ⟨rfl, rfl⟩) | (go_at_call 9; clear tok1; have tok2 : True := trivial; refine (FK _).mono ?_; rintro e w' ⟨rfl, rfl⟩) | (go_at_call 10; refine (awake_any _).mono ?_; rintro e w20 ⟨rfl, hb⟩; replace O := O.call hb; clear hb))
    go_ret
    exact ⟨rfl, O.below⟩
  cases c2 : decide (549755813888 < k)
  case true =>
    rw [h1] at DR
    rw [hn] at FN
    rw [hk] at FK
    clear h1 hn hk
    go_enter Try.func5, Try.ntmps5
    go_wp2_with (first | ((with_reducible refine at_box 3 ?_); refine wpList_box_own O (M.mat 3 (d)) rfl ?_; clear O; intro g3 w1 O) | ((with_reducible refine at_load 8 ?_); refine wpList_whole rfl O 0 rfl rfl Try.underlying23 rfl (sH _) ?_) | (go_at_call 8; refine (DR _).mono ?_; rintro e w2 ⟨rfl, hb⟩; replace O := O.call hb; clear hb) | (go_at_call 9; clear tok0; have tok1 : True := trivial; refine (FN _).mono ?_; rintro e w' ⟨rfl, rfl⟩) | (go_at_call 9; clear tok1; have tok2 : True := trivial; refine (FK _).mono ?_; rintro e w' ⟨rfl, rfl⟩) | (go_at_call 10; refine (awake_any _).mono ?_; rintro e w20 ⟨rfl, hb⟩; replace O := O.call hb; clear hb))
    go_ret
    exact ⟨rfl, O.below⟩
  have rn := HM.far_iff.1 hn
  have rk := HM.far_iff.1 hk
  have b1 := of_decide_eq_false c1
  have b2 := of_decide_eq_false c2
  have hd := HM.right_iff.1 h1
  have hx : HM.right (HM.nextF d n) = true := by
    have hl := @HM.later_lim (d 1) (d 2) n hd.2.1.1 hd.2.1.2
    rw [HM.right_iff]
    show (0 ≤ d 0 ∧ d 0 ≤ 65535) ∧ (1 ≤ d 1 ∧ d 1 ≤ 256) ∧ (0 ≤ HM.later (d 1) (d 2) n ∧ HM.later (d 1) (d 2) n ≤ 1099511627776)
    exact ⟨hd.1, hd.2.1, by omega⟩
  have PN := fun w => pnext_any d n h1 rn w
  have DX := fun w => rright_any (HM.nextF d n) w
  have L1 := fun w => plit_any (HM.nextF d n) k hx rk w
  have L2 := fun w => plit_any d (n + k) h1 (by omega) w
  have L3 := fun w => plit_any d k h1 rk w
  have L4 := fun w => plit_any d (k + 16 * d 1) h1 (by omega) w
  have N1 := fun w => pnext_any (HM.nextF d n) k hx rk w
  have N2 := fun w => pnext_any d (n + k) h1 (by omega) w
  rw [show HM.litF (HM.nextF d n) k = HM.litF d (n + k) from HM.lit_later (p := d 0) (r := d 1) (c := d 2) (show 0 < d 1 by omega)] at L1
  rw [show HM.litF d (k + 16 * d 1) = HM.litF d k from HM.lit_again (p := d 0) (r := d 1) (c := d 2) (show 0 < d 1 by omega)] at L4
  rw [show HM.nextF (HM.nextF d n) k = HM.nextF d (n + k) by
    show HM.t3 (d 0) (d 1) (HM.later (d 1) (HM.later (d 1) (d 2) n) k) = _
    rw [HM.later_later]
    rfl] at N1
  rw [h1] at DR
  rw [hn] at FN
  rw [hk] at FK
  rw [hx] at DX
  have X0 := cell_is (n := 3) (i := 0) (a := HM.nextF d n) (z := d 0) rfl (by decide)
  have X1 := cell_is (n := 3) (i := 1) (a := HM.nextF d n) (z := d 1) rfl (by decide)
  have D0 := cell_is (n := 3) (i := 0) (a := d) (z := d 0) rfl (by decide)
  have D1 := cell_is (n := 3) (i := 1) (a := d) (z := d 1) rfl (by decide)
  have M1 : IntKind.i64.wrap (n + k) = n + k := IntWalk.i64_in _ (by omega)
  have M2 : IntKind.i64.wrap (16 * d 1) = 16 * d 1 := IntWalk.i64_in _ (by omega)
  have M3 : IntKind.i64.wrap (k + 16 * d 1) = k + 16 * d 1 := IntWalk.i64_in _ (by omega)
  clear h1 hn hk hx hd rn rk b1 b2
  generalize HM.nextF d (n + k) = y at *
  generalize HM.nextF d n = x at *
  generalize HM.litF d (n + k) = l1 at *
  generalize HM.litF d k = l2 at *
  obtain ⟨p, hp⟩ : ∃ p, d 0 = p := ⟨_, rfl⟩
  obtain ⟨r, hr⟩ : ∃ r, d 1 = r := ⟨_, rfl⟩
  rw [hp] at X0 D0
  rw [hr] at X1 D1 L4 M2 M3
  clear hp hr
  obtain ⟨s, hs⟩ : ∃ s, n + k = s := ⟨_, rfl⟩
  obtain ⟨m, hm⟩ : ∃ m, 16 * r = m := ⟨_, rfl⟩
  rw [hm] at M2 M3 L4
  obtain ⟨v, hv⟩ : ∃ v, k + m = v := ⟨_, rfl⟩
  rw [hv] at M3 L4
  rw [hs] at M1 L2 N2
  have HM1 : Hid (n + k = s ∧ IntKind.i64.wrap s = s) := Lib.hid ⟨hs, M1⟩
  have HM2 : Hid (16 * r = m ∧ IntKind.i64.wrap m = m) := Lib.hid ⟨hm, M2⟩
  have HM3 : Hid (k + m = v ∧ IntKind.i64.wrap v = v) := Lib.hid ⟨hv, M3⟩
  clear hs hm hv M1 M2 M3
  have tok2x : True := trivial
  go_enter Try.func5, Try.ntmps5
  go_wp2_with (first | ((with_reducible refine at_box 3 ?_); refine wpList_box_own O (M.mat 3 (d)) rfl ?_; clear O; intro g3 w1 O) | ((with_reducible refine at_load 8 ?_); refine wpList_whole rfl O 0 rfl rfl Try.underlying23 rfl (sH _) ?_) | (go_at_call 8; clear tok2x; have tok3x : True := trivial; refine (DR _).mono ?_; rintro e w2 ⟨rfl, hb⟩; replace O := O.call hb; clear hb) | (go_at_call 9; clear tok0; have tok1 : True := trivial; refine (FN _).mono ?_; rintro e w' ⟨rfl, rfl⟩) | (go_at_call 9; clear tok1; have tok2 : True := trivial; refine (FK _).mono ?_; rintro e w' ⟨rfl, rfl⟩) | ((with_reducible refine at_load 28 ?_); refine wpList_whole rfl O 0 rfl rfl Try.underlying23 rfl (sH _) ?_) | (go_at_call 13; refine (PN _).mono ?_; rintro e w5 ⟨rfl, hb⟩; replace O := O.call hb; clear hb) | ((with_reducible refine at_alloc 7 ?_); refine wpList_alloc_own O (M.mat 3 M.zero) zeroH ?_; clear O; intro g7 w6 O) | ((with_reducible refine at_store 7 ?_); refine wpList_put_own O 0 (M.mat 3 (x)) rfl rfl rfl (sH _) (M.mat_len2 _ _ _) (M.mat_one _ _) ?_; clear O; intro w7 O) | ((with_reducible refine at_load 31 ?_); refine wpList_whole rfl O 0 rfl rfl Try.underlying23 rfl (sH _) ?_) | (go_at_call 8; clear tok3x; have tok4x : True := trivial; refine (DX _).mono ?_; rintro e w8 ⟨rfl, hb⟩; replace O := O.call hb; clear hb) | ((with_reducible refine at_load 36 ?_); refine wpList_cell_h (v := .int .i64 (p)) rfl O.held 0 rfl X0.out rfl agg3 rfl ?_) | ((with_reducible refine at_load 38 ?_); refine wpList_cell_h (v := .int .i64 (p)) rfl O.held 1 rfl D0.out rfl agg3 rfl ?_) | ((with_reducible refine at_load 43 ?_); refine wpList_cell_h (v := .int .i64 (r)) rfl O.held 0 rfl X1.out rfl agg3 rfl ?_) | ((with_reducible refine at_load 45 ?_); refine wpList_cell_h (v := .int .i64 (r)) rfl O.held 1 rfl D1.out rfl agg3 rfl ?_))
  have OO := O
  clear O
  have O := OO
  clear OO
  refine region_T ((fun w2 => Own w w2 [(g7, 23, M.mat 3 x), (g3, 23, M.mat 3 d)])) [0, 1, 2, 3, 4, 5, 6, 7, 8, 9, 10, 11, 12, 13, 14, 15, 16, 17, 18, 19, 20, 21, 22, 23, 24, 25, 26, 27, 28, 29, 30, 31, 32, 33, 34, 35] 12 [some 48, some 49, some 50, some 51, some 52, some 53, some 54, some 55, some 56, some 57, some 58, some 59, some 60, some 61, some 62, some 63, some 64, some 65, some 66, some 67, some 68, some 69, some 70, some 71, some 72, some 73, some 74, some 75, some 76, some 77, some 78, some 79, some 80, some 81, some 82, some 83] [.bool true, .bool true, arr 3 x, .int .i64 k, .bool l1, arr 3 d, .int .i64 n, .int .i64 k, .int .i64 s, .bool l1, .bool true, .bool true, .bool true, arr 3 d, .int .i64 k, .bool l2, arr 3 d, .int .i64 k, .pointer (some ⟨g3, 1, none⟩), .int .i64 r, .int .i64 m, .int .i64 v, .bool l2, .bool true, .bool true, .bool true, arr 3 x, .int .i64 k, arr 3 y, arr 3 d, .int .i64 n, .int .i64 k, .int .i64 s, arr 3 y, .bool true, .bool true] 1 (by kernel_rfl) (by rfl) (by kernel_rfl) (by rfl) (by rfl) (O.drew) (fun F hF => ?_)
  simp only [fillD, Act.put, List.setIfInBounds_toArray, List.set_cons_zero, List.set_cons_succ] at hF
  subst hF
  refine ⟨⟨does_want rfl (by rfl) (fun w' O K hK => ?_), does_want rfl (by rfl) (fun w' O K hK => ?_), does_want rfl (by rfl) (fun w' O K hK => ?_), does_want rfl (by rfl) (fun w' O K hK => ?_), does_want rfl (by rfl) (fun w' O K hK => ?_), does_want rfl (by rfl) (fun w' O K hK => ?_), does_want rfl (by rfl) (fun w' O K hK => ?_), does_want rfl (by rfl) (fun w' O K hK => ?_), does_want rfl (by rfl) (fun w' O K hK => ?_), does_want rfl (by rfl) (fun w' O K hK => ?_), does_want rfl (by rfl) (fun w' O K hK => ?_), does_want rfl (by rfl) (fun w' O K hK => ?_), does_want rfl (by rfl) (fun w' O K hK => ?_), does_want rfl (by rfl) (fun w' O K hK => ?_), does_want rfl (by rfl) (fun w' O K hK => ?_), does_want rfl (by rfl) (fun w' O K hK => ?_), does_want rfl (by rfl) (fun w' O K hK => ?_), does_want rfl (by rfl) (fun w' O K hK => ?_), does_want rfl (by rfl) (fun w' O K hK => ?_), does_want rfl (by rfl) (fun w' O K hK => ?_), does_want rfl (by rfl) (fun w' O K hK => ?_), does_want rfl (by rfl) (fun w' O K hK => ?_), does_want rfl (by rfl) (fun w' O K hK => ?_), does_want rfl (by rfl) (fun w' O K hK => ?_), does_want rfl (by rfl) (fun w' O K hK => ?_), does_want rfl (by rfl) (fun w' O K hK => ?_), does_want rfl (by rfl) (fun w' O K hK => ?_), does_want rfl (by rfl) (fun w' O K hK => ?_), does_want rfl (by rfl) (fun w' O K hK => ?_), does_want rfl (by rfl) (fun w' O K hK => ?_), does_want rfl (by rfl) (fun w' O K hK => ?_), does_want rfl (by rfl) (fun w' O K hK => ?_), does_want rfl (by rfl) (fun w' O K hK => ?_), does_want rfl (by rfl) (fun w' O K hK => ?_), does_want rfl (by rfl) (fun w' O K hK => ?_), does_want rfl (by rfl) (fun w' O K hK => ?_), trivial⟩, fun w' O => ?_⟩
  · go_simp
    go_at_call 10
    refine (awake_any _).mono ?_
    rintro e w2 ⟨rfl, hb⟩
    exact hK _ (O.call hb)
  · go_simp
    exact hK _ O
  · exact wp_whole O 0 rfl rfl Try.underlying23 rfl (sH _) (hK _ O)
  · go_simp
    exact hK _ O
  · go_simp
    go_at_call 11
    refine (L1 _).mono ?_
    rintro e w2 ⟨rfl, hb⟩
    exact hK _ (O.call hb)
  · exact wp_whole O 1 rfl rfl Try.underlying23 rfl (sH _) (hK _ O)
  · go_simp
    exact hK _ O
  · go_simp
    exact hK _ O
  · obtain ⟨e1, e2⟩ := HM1.out
    go_simp
    first | exact hK _ O | (rw [e1, e2]; exact hK _ O) | (simp only [e1, e2]; exact hK _ O)
  · go_simp
    go_at_call 11
    refine (L2 _).mono ?_
    rintro e w2 ⟨rfl, hb⟩
    exact hK _ (O.call hb)
  · go_simp
    first | exact hK _ O | (simp; exact hK _ O)
  · go_simp
    exact hK _ O
  · go_simp
    exact hK _ O
  · exact wp_whole O 1 rfl rfl Try.underlying23 rfl (sH _) (hK _ O)
  · go_simp
    exact hK _ O
  · go_simp
    go_at_call 11
    refine (L3 _).mono ?_
    rintro e w2 ⟨rfl, hb⟩
    exact hK _ (O.call hb)
  · exact wp_whole O 1 rfl rfl Try.underlying23 rfl (sH _) (hK _ O)
  · go_simp
    exact hK _ O
  · go_simp
    exact hK _ O
  · exact wp_cell_h (v := .int .i64 (r)) O.held 1 rfl D1.out rfl agg3 rfl (hK _ O)
  · obtain ⟨e1, e2⟩ := HM2.out
    go_simp
    first | exact hK _ O | (rw [e1, e2]; exact hK _ O) | (simp only [e1, e2]; exact hK _ O)
  · obtain ⟨e1, e2⟩ := HM3.out
    go_simp
    first | exact hK _ O | (rw [e1, e2]; exact hK _ O) | (simp only [e1, e2]; exact hK _ O)
  · go_simp
    go_at_call 11
    refine (L4 _).mono ?_
    rintro e w2 ⟨rfl, hb⟩
    exact hK _ (O.call hb)
  · go_simp
    first | exact hK _ O | (simp; exact hK _ O)
  · go_simp
    exact hK _ O
  · go_simp
    exact hK _ O
  · exact wp_whole O 0 rfl rfl Try.underlying23 rfl (sH _) (hK _ O)
  · go_simp
    exact hK _ O
  · go_simp
    go_at_call 13
    refine (N1 _).mono ?_
    rintro e w2 ⟨rfl, hb⟩
    exact hK _ (O.call hb)
  · exact wp_whole O 1 rfl rfl Try.underlying23 rfl (sH _) (hK _ O)
  · go_simp
    exact hK _ O
  · go_simp
    exact hK _ O
  · obtain ⟨e1, e2⟩ := HM1.out
    go_simp
    first | exact hK _ O | (rw [e1, e2]; exact hK _ O) | (simp only [e1, e2]; exact hK _ O)
  · go_simp
    go_at_call 13
    refine (N2 _).mono ?_
    rintro e w2 ⟨rfl, hb⟩
    exact hK _ (O.call hb)
  · refine wp_eqH y y rfl rfl ?_
    rw [M.eqB_refl]
    exact hK _ O
  · go_simp
    exact hK _ O
  refine wpAny_one (i := 36) (by kernel_rfl) rfl (fun K hK => ?_)
  go_simp
  refine hK _ _ ?_
  clear hK K
  try simp only [Act.put, List.setIfInBounds_toArray, List.set_cons_zero, List.set_cons_succ]
  refine wpAny_done (by kernel_rfl) ?_ _
  go_wp2_with fail
  go_ret
  exact ⟨rfl, O.below⟩

theorem readable : ∀ t ∈ Try.f5.params.toList, Try.prog.readableRec t = true ∧ t < Try.prog.types.size := by
  intro t ht
  rw [Try.params5] at ht
  simp only [List.mem_cons, List.not_mem_nil, or_false] at ht
  repeat (first | (rcases ht with rfl | ht; exact ⟨by kernel_rfl, of_decide_eq_true (by kernel_rfl)⟩) | (subst ht; exact ⟨by kernel_rfl, of_decide_eq_true (by kernel_rfl)⟩))
set_option maxRecDepth 100000 in
theorem lifted (os : Os) (started : os.Started) (H : Type) (enc : TypeId × Value → H) :
    ReturnsInHanded {} Try.checked os 5 .any (Rows.dashLaterSpec.pre6 enc Try.prog Try.f5 Rows.dashLaterRow.domain false) (Rows.dashLaterSpec.post enc Try.prog Try.f5 false true false false) := by
  refine returnsInHanded_of_change (C := Try.checked) own started (by kernel_rfl) Try.func5
    (ChangeSpec.witness6 (enc := enc) (C := Try.checked) false ⟨#[], #[.agg #[.int .i64 0, .int .i64 0, .int .i64 0], .int .i64 0, .int .i64 0], []⟩ 8 (by kernel_rfl) (by kernel_rfl) (by kernel_rfl) (by kernel_rfl)) ?_
  intro W base args ds gs before hval0 hW hcnd _
  have hval : ∀ (j : Nat) t v, Try.f5.params[j]? = some t → args[j]? = some v → Value.okWide Try.prog W .any base t v := hval0
  have hW' := hW
  obtain ⟨p, q, hA0, hV, rfl, hfz, hnd⟩ := hW
  have hA : DataW.TrodAll enc Try.prog W 0 (fun _ => true) true Try.f5.params.toList args.toList ds p := hA0
  rw [Try.params5] at hA hval
  have hlt : ∀ x ∈ p ++ q, x.block < W.heap.size := fun x hx => hW'.lt x hx
  obtain ⟨v0, vs0, d0, ds0, p0, q0, hargs, rfl, rfl, h0, rr0⟩ := trodAll_cons hA
  obtain ⟨v1, vs1, d1, ds1, p1, q1, rfl, rfl, rfl, h1, rr1⟩ := trodAll_cons rr0
  obtain ⟨v2, vs2, d2, ds2, p2, q2, rfl, rfl, rfl, h2, rr2⟩ := trodAll_cons rr1
  obtain ⟨rfl, rfl, rfl⟩ := trodAll_nil rr2
  obtain rfl : args = #[v0, v1, v2] := by cases args; simp_all
  obtain ⟨rfl, rfl⟩ := trodVars_none hV
  obtain ⟨a0, rfl⟩ := openDash (hval 0 23 v0 rfl rfl) h0
  obtain ⟨i1, rfl, rfl, rfl, x1⟩ := open_int Try.underlying3 (hval 1 3 v1 rfl rfl) h1
  obtain ⟨i2, rfl, rfl, rfl, x2⟩ := open_int Try.underlying3 (hval 2 3 v2 rfl rfl) h2
  clear hA0 hval0
  refine (walk W a0 i1 i2).mono fun e W' ⟨he, hg⟩ => ?_
  subst he
  exact ⟨_, rfl, post_true (tb := 4) laid readable (by kernel_rfl) Try.underlying4 rfl (fun l hl => by
    match l, hl with
    | [_, _, _], _ => exact ⟨rfl, rfl, rfl⟩) hW' hg⟩

theorem over : Rows.dashLaterRow.holds Try.pinned (OpenSpec.ofChange Rows.dashLaterSpec) :=
  OpenClaim.holds_of_wide 5 Try.f5 rfl rfl rfl rfl rfl rfl rfl ⟨rfl, rfl, rfl, rfl, rfl⟩ rfl rfl rfl rfl rfl (by kernel_rfl) Try.func5 (by kernel_rfl)
    (of_decide_eq_true (by kernel_rfl)) (by unfold Func.isWrapper; first | (rw [if_pos (by decide +kernel)]; kernel_rfl) | (rw [if_neg (by decide +kernel)]; exact ⟨rfl, rfl⟩))
    (fun os started H enc _ => lifted os started H enc)

theorem proved : Rows.DashLaterSaid :=
  over
#print axioms proved
end Go.Proofs.Ytpomdghalkphcaa.dashLater
