/-
  WalkAts: for every two points and every number, how many pixels the line between them has, and which one is that of the number, is the document's.
-/
import Derived.Test.YtheolajpjpnfjaaXn
import Derived.Deep.DeepCutAuto
namespace Go.Proofs.Ytheolajpjpnfjaa.walkAts
open Go.ChangeShapes Go.WideShapes Go.ChangeAt Go.RowKit
set_option linter.unusedVariables false
set_option linter.unusedSimpArgs false

theorem own : ownKnob Try.prog.godebug = none := by kernel_rfl
theorem _root_.Go.Proofs.Ytheolajpjpnfjaa.DM.at14_last (ax ay bx by_ : Int) : (0 < DM.cnt14 ax ay bx by_ → ∃ X Y, DM.at14 ax ay bx by_ (DM.cnt14 ax ay bx by_ - 1) = ((DM.cnt14 ax ay bx by_ - 1, X, Y), true)) ∧ (DM.cnt14 ax ay bx by_ = 0 → DM.at14 ax ay bx by_ (0 - 1) = ((0, 0, 0), false)) := by
  refine ⟨fun h => ?_, fun _ => DM.at14_neg (by decide)⟩
  have h2 := h
  unfold DM.cnt14 at h2
  have hk : (DM.cnt14 ax ay bx by_ - 1).toNat < (DM.pixs ax ay bx by_).length := by unfold DM.cnt14; omega
  refine ⟨((DM.pixs ax ay bx by_)[(DM.cnt14 ax ay bx by_ - 1).toNat]).1, ((DM.pixs ax ay bx by_)[(DM.cnt14 ax ay bx by_ - 1).toNat]).2, ?_⟩
  unfold DM.at14
  rw [if_neg (by omega), List.getElem?_eq_getElem hk]
theorem _root_.Go.Proofs.Ytheolajpjpnfjaa.DM.cnt14_lim {ax ay bx by_ : Int} (h1 : -536870912 ≤ ax ∧ ax ≤ 536870912) (h2 : -536870912 ≤ ay ∧ ay ≤ 536870912) (h3 : -536870912 ≤ bx ∧ bx ≤ 536870912) (h4 : -536870912 ≤ by_ ∧ by_ ≤ 536870912) : 0 ≤ DM.cnt14 ax ay bx by_ ∧ DM.cnt14 ax ay bx by_ ≤ 8388608 := by
  refine ⟨by unfold DM.cnt14; omega, ?_⟩
  by_cases hn : ax = bx ∧ ay = by_
  · rw [← hn.1, ← hn.2, DM.cnt14_same]
    decide
  · rw [DM.cnt14_is hn]
    unfold DM.cntG
    have e := @DM.e1_is (DM.tall (bx - ax) (by_ - ay)) (DM.mn (DM.tall (bx - ax) (by_ - ay)) ax ay) (DM.cr (DM.tall (bx - ax) (by_ - ay)) ax ay) (DM.mn (DM.tall (bx - ax) (by_ - ay)) bx by_) (DM.cr (DM.tall (bx - ax) (by_ - ay)) bx by_)
    have l := @DM.l1_is (DM.tall (bx - ax) (by_ - ay)) (DM.mn (DM.tall (bx - ax) (by_ - ay)) ax ay) (DM.cr (DM.tall (bx - ax) (by_ - ay)) ax ay) (DM.mn (DM.tall (bx - ax) (by_ - ay)) bx by_) (DM.cr (DM.tall (bx - ax) (by_ - ay)) bx by_)
    have hN : DM.nl (DM.mn (DM.tall (bx - ax) (by_ - ay)) ax ay) (DM.mn (DM.tall (bx - ax) (by_ - ay)) bx by_) ≤ 4194310 := by
      unfold DM.nl DM.ahd
      cases DM.tall (bx - ax) (by_ - ay) <;> simp only [DM.mn, Bool.false_eq_true, if_false, if_true] <;> split <;> omega
    omega

set_option maxRecDepth 100000 in
set_option maxHeartbeats 16000000 in
theorem walk (w : World) (a b : Nat → Int) (k : Int) (hk : -9223372036854775808 ≤ k ∧ k < 9223372036854775808) :
    Calls Try.prog 4 #[arr 2 a, arr 2 b, .int .i64 k] w fun e w' => e = .returned (.bool true) ∧ Below w.heap.size w w' := by
  have O := Own.start w
  have MA := fun w => may_any a w
  have MB := fun w => may_any b w
  have tok0 : True := trivial
  cases h1 : DM.may (a 0) (a 1)
  · rw [h1] at MA
    clear h1 MB
    go_enter Try.func4, Try.ntmps4
    go_wp2_with (first | ((with_reducible refine at_box 3 ?_); refine wpList_box_own O (M.mat 2 (a)) rfl ?_; clear O; intro g3 w1 O) | ((with_reducible refine at_box 4 ?_); refine wpList_box_own O (M.mat 2 (b)) rfl ?_; clear O; intro g4 w2 O) | ((with_reducible refine at_load 16 ?_); refine wpList_whole rfl O 1 rfl rfl Try.underlying23 rfl (sP _) ?_) | (go_at_call 8; clear tok0; have tok1 : True := trivial; refine (MA _).mono ?_; rintro e w4 ⟨rfl, hb⟩; replace O := O.call hb; clear hb) | ((with_reducible refine at_load 20 ?_); refine wpList_whole rfl O 0 rfl rfl Try.underlying23 rfl (sP _) ?_) | (go_at_call 10; refine (awake_any _).mono ?_; rintro e w20 ⟨rfl, hb⟩; replace O := O.call hb; clear hb))
    go_ret
    exact ⟨rfl, O.below⟩
  cases h2 : DM.may (b 0) (b 1)
  · rw [h1] at MA
    rw [h2] at MB
    clear h1 h2
    go_enter Try.func4, Try.ntmps4
    go_wp2_with (first | ((with_reducible refine at_box 3 ?_); refine wpList_box_own O (M.mat 2 (a)) rfl ?_; clear O; intro g3 w1 O) | ((with_reducible refine at_box 4 ?_); refine wpList_box_own O (M.mat 2 (b)) rfl ?_; clear O; intro g4 w2 O) | ((with_reducible refine at_load 16 ?_); refine wpList_whole rfl O 1 rfl rfl Try.underlying23 rfl (sP _) ?_) | (go_at_call 8; clear tok0; have tok1 : True := trivial; refine (MA _).mono ?_; rintro e w4 ⟨rfl, hb⟩; replace O := O.call hb; clear hb) | ((with_reducible refine at_load 20 ?_); refine wpList_whole rfl O 0 rfl rfl Try.underlying23 rfl (sP _) ?_) | (go_at_call 8; clear tok1; have tok2 : True := trivial; refine (MB _).mono ?_; rintro e w5 ⟨rfl, hb⟩; replace O := O.call hb; clear hb) | (go_at_call 10; refine (awake_any _).mono ?_; rintro e w20 ⟨rfl, hb⟩; replace O := O.call hb; clear hb))
    go_ret
    exact ⟨rfl, O.below⟩
  have ra : DM.Rg a := DM.may_iff.1 h1
  have rb : DM.Rg b := DM.may_iff.1 h2
  rw [h1] at MA
  rw [h2] at MB
  clear h1 h2
  have CP := fun w => pat_any a b k ra rb hk.2 hk.1 w
  have CD := fun w => at_any a b k ra rb hk.2 w
  have CN := fun w => pcount_any a b ra rb w
  have CM := fun w => count_any a b ra rb w
  have lim := DM.cnt14_lim (ax := a 0) (ay := a 1) (bx := b 0) (by_ := b 1) ra.1 ra.2 rb.1 rb.2
  have hlast := DM.at14_last (a 0) (a 1) (b 0) (b 1)
  have hover := @DM.at14_over (a 0) (a 1) (b 0) (b 1) _ (Int.le_refl _)
  have CL := fun h1 h2 w => pat_any a b (DM.cnt14 (a 0) (a 1) (b 0) (b 1) - 1) ra rb h1 h2 w
  have CO := fun h1 h2 w => pat_any a b (DM.cnt14 (a 0) (a 1) (b 0) (b 1)) ra rb h1 h2 w
  unfold RetS at CP CD CL CO
  generalize DM.at14 (a 0) (a 1) (b 0) (b 1) = AT at *
  generalize DM.cnt14 (a 0) (a 1) (b 0) (b 1) = n at *
  clear ra rb
  replace CL := CL (by omega) (by omega)
  replace CO := CO (by omega) (by omega)
  rw [hover] at CO
  obtain ⟨⟨s, ok⟩, hs⟩ : ∃ z, AT k = z := ⟨_, rfl⟩
  rw [hs] at CP CD
  simp only at CP CD CO
  have W1 : wrap64 (n - 1) = n - 1 := IntWalk.wrap64_in _ (by omega)
  have n0 : 0 ≤ n := lim.1
  clear hover hs hk lim
  rcases (by omega : n = 0 ∨ 0 < n) with hn | hn
  · subst hn
    have hneg : AT (0 - 1) = ((0, 0, 0), false) := hlast.2 rfl
    rw [hneg] at CL
    simp only at CL
    clear hlast hneg W1 n0
    cases ok
    · go_enter Try.func4, Try.ntmps4
      go_wp2_with (first | ((with_reducible refine at_box 3 ?_); refine wpList_box_own O (M.mat 2 (a)) rfl ?_; clear O; intro g3 w1 O) | ((with_reducible refine at_box 4 ?_); refine wpList_box_own O (M.mat 2 (b)) rfl ?_; clear O; intro g4 w2 O) | ((with_reducible refine at_load 16 ?_); refine wpList_whole rfl O 1 rfl rfl Try.underlying23 rfl (sP _) ?_) | (go_at_call 8; clear tok0; have tok1 : True := trivial; refine (MA _).mono ?_; rintro e w4 ⟨rfl, hb⟩; replace O := O.call hb; clear hb) | ((with_reducible refine at_load 20 ?_); refine wpList_whole rfl O 0 rfl rfl Try.underlying23 rfl (sP _) ?_) | (go_at_call 8; clear tok1; have tok2 : True := trivial; refine (MB _).mono ?_; rintro e w5 ⟨rfl, hb⟩; replace O := O.call hb; clear hb) | ((with_reducible refine at_load 26 ?_); refine wpList_whole rfl O 1 rfl rfl Try.underlying23 rfl (sP _) ?_) | ((with_reducible refine at_load 27 ?_); refine wpList_whole rfl O 0 rfl rfl Try.underlying23 rfl (sP _) ?_) | (go_at_call 14; clear tok2; have tok3 : True := trivial; refine (CP _).mono ?_; rintro e w6 ⟨rfl, hb⟩; replace O := O.call hb; clear hb) | ((with_reducible refine at_alloc 7 ?_); refine wpList_alloc_own O (M.mat 3 M.zero) zeroT ?_; clear O; intro g7 w7 O) | ((with_reducible refine at_store 7 ?_); refine wpList_put_own O 0 (M.mat 3 (sF s)) rfl rfl rfl (sT _) (M.mat_len2 _ _ _) (M.mat_one _ _) ?_; clear O; intro w8 O) | ((with_reducible refine at_load 33 ?_); refine wpList_whole rfl O 2 rfl rfl Try.underlying23 rfl (sP _) ?_) | ((with_reducible refine at_load 34 ?_); refine wpList_whole rfl O 1 rfl rfl Try.underlying23 rfl (sP _) ?_) | (go_at_call 15; clear tok3; have tok4 : True := trivial; refine (CD _).mono ?_; rintro e w9 ⟨rfl, hb⟩; replace O := O.call hb; clear hb) | ((with_reducible refine at_alloc 9 ?_); refine wpList_alloc_own O (M.mat 3 M.zero) zeroT ?_; clear O; intro g9 w10 O) | ((with_reducible refine at_store 9 ?_); refine wpList_put_own O 0 (M.mat 3 (sF s)) rfl rfl rfl (sT _) (M.mat_len2 _ _ _) (M.mat_one _ _) ?_; clear O; intro w11 O) | ((with_reducible refine at_load 39 ?_); refine wpList_whole rfl O 3 rfl rfl Try.underlying23 rfl (sP _) ?_) | ((with_reducible refine at_load 40 ?_); refine wpList_whole rfl O 2 rfl rfl Try.underlying23 rfl (sP _) ?_) | (go_at_call 16; clear tok4; have tok5 : True := trivial; refine (CN _).mono ?_; rintro e w12 ⟨rfl, hb⟩; replace O := O.call hb; clear hb) | ((with_reducible refine at_load 43 ?_); refine wpList_whole rfl O 3 rfl rfl Try.underlying23 rfl (sP _) ?_) | ((with_reducible refine at_load 44 ?_); refine wpList_whole rfl O 2 rfl rfl Try.underlying23 rfl (sP _) ?_) | (go_at_call 14; clear tok5; have tok6 : True := trivial; refine (CL _).mono ?_; rintro e w13 ⟨rfl, hb⟩; replace O := O.call hb; clear hb) | ((with_reducible refine at_alloc 12 ?_); refine wpList_alloc_own O (M.mat 3 M.zero) zeroT ?_; clear O; intro g12 w14 O) | ((with_reducible refine at_store 12 ?_); refine wpList_put_own O 0 (M.mat 3 (sF (0, 0, 0))) rfl rfl rfl (sT _) (M.mat_len2 _ _ _) (M.mat_one _ _) ?_; clear O; intro w15 O) | ((with_reducible refine at_load 51 ?_); refine wpList_whole rfl O 4 rfl rfl Try.underlying23 rfl (sP _) ?_) | ((with_reducible refine at_load 52 ?_); refine wpList_whole rfl O 3 rfl rfl Try.underlying23 rfl (sP _) ?_) | (go_at_call 14; clear tok6; have tok7 : True := trivial; refine (CO _).mono ?_; rintro e w16 ⟨rfl, hb⟩; replace O := O.call hb; clear hb) | ((with_reducible refine at_alloc 14 ?_); refine wpList_alloc_own O (M.mat 3 M.zero) zeroT ?_; clear O; intro g14 w17 O) | ((with_reducible refine at_store 14 ?_); refine wpList_put_own O 0 (M.mat 3 (sF (0, 0, 0))) rfl rfl rfl (sT _) (M.mat_len2 _ _ _) (M.mat_one _ _) ?_; clear O; intro w18 O) | (go_at_call 10; refine (awake_any _).mono ?_; rintro e w20 ⟨rfl, hb⟩; replace O := O.call hb; clear hb) | ((with_reducible refine at_load 60 ?_); refine wpList_whole rfl O 5 rfl rfl Try.underlying23 rfl (sP _) ?_) | ((with_reducible refine at_load 61 ?_); refine wpList_whole rfl O 4 rfl rfl Try.underlying23 rfl (sP _) ?_) | (go_at_call 17; clear tok7; have tok8 : True := trivial; refine (CM _).mono ?_; rintro e w21 ⟨rfl, hb⟩; replace O := O.call hb; clear hb) | ((with_reducible refine at_load 66 ?_); refine wpList_whole rfl O 3 rfl rfl Try.underlying34 rfl (sT _) ?_) | ((with_reducible refine at_load 67 ?_); refine wpList_whole rfl O 2 rfl rfl Try.underlying34 rfl (sT _) ?_) | ((with_reducible refine at_binOp 68 ?_); refine wpList_eqT rfl (sF s) (sF s) rfl rfl ?_; rw [M.eqB_refl]))
      go_ret
      exact ⟨rfl, O.below⟩
    · go_enter Try.func4, Try.ntmps4
      go_wp2_with (first | ((with_reducible refine at_box 3 ?_); refine wpList_box_own O (M.mat 2 (a)) rfl ?_; clear O; intro g3 w1 O) | ((with_reducible refine at_box 4 ?_); refine wpList_box_own O (M.mat 2 (b)) rfl ?_; clear O; intro g4 w2 O) | ((with_reducible refine at_load 16 ?_); refine wpList_whole rfl O 1 rfl rfl Try.underlying23 rfl (sP _) ?_) | (go_at_call 8; clear tok0; have tok1 : True := trivial; refine (MA _).mono ?_; rintro e w4 ⟨rfl, hb⟩; replace O := O.call hb; clear hb) | ((with_reducible refine at_load 20 ?_); refine wpList_whole rfl O 0 rfl rfl Try.underlying23 rfl (sP _) ?_) | (go_at_call 8; clear tok1; have tok2 : True := trivial; refine (MB _).mono ?_; rintro e w5 ⟨rfl, hb⟩; replace O := O.call hb; clear hb) | ((with_reducible refine at_load 26 ?_); refine wpList_whole rfl O 1 rfl rfl Try.underlying23 rfl (sP _) ?_) | ((with_reducible refine at_load 27 ?_); refine wpList_whole rfl O 0 rfl rfl Try.underlying23 rfl (sP _) ?_) | (go_at_call 14; clear tok2; have tok3 : True := trivial; refine (CP _).mono ?_; rintro e w6 ⟨rfl, hb⟩; replace O := O.call hb; clear hb) | ((with_reducible refine at_alloc 7 ?_); refine wpList_alloc_own O (M.mat 3 M.zero) zeroT ?_; clear O; intro g7 w7 O) | ((with_reducible refine at_store 7 ?_); refine wpList_put_own O 0 (M.mat 3 (sF s)) rfl rfl rfl (sT _) (M.mat_len2 _ _ _) (M.mat_one _ _) ?_; clear O; intro w8 O) | ((with_reducible refine at_load 33 ?_); refine wpList_whole rfl O 2 rfl rfl Try.underlying23 rfl (sP _) ?_) | ((with_reducible refine at_load 34 ?_); refine wpList_whole rfl O 1 rfl rfl Try.underlying23 rfl (sP _) ?_) | (go_at_call 15; clear tok3; have tok4 : True := trivial; refine (CD _).mono ?_; rintro e w9 ⟨rfl, hb⟩; replace O := O.call hb; clear hb) | ((with_reducible refine at_alloc 9 ?_); refine wpList_alloc_own O (M.mat 3 M.zero) zeroT ?_; clear O; intro g9 w10 O) | ((with_reducible refine at_store 9 ?_); refine wpList_put_own O 0 (M.mat 3 (sF s)) rfl rfl rfl (sT _) (M.mat_len2 _ _ _) (M.mat_one _ _) ?_; clear O; intro w11 O) | ((with_reducible refine at_load 39 ?_); refine wpList_whole rfl O 3 rfl rfl Try.underlying23 rfl (sP _) ?_) | ((with_reducible refine at_load 40 ?_); refine wpList_whole rfl O 2 rfl rfl Try.underlying23 rfl (sP _) ?_) | (go_at_call 16; clear tok4; have tok5 : True := trivial; refine (CN _).mono ?_; rintro e w12 ⟨rfl, hb⟩; replace O := O.call hb; clear hb) | ((with_reducible refine at_load 43 ?_); refine wpList_whole rfl O 3 rfl rfl Try.underlying23 rfl (sP _) ?_) | ((with_reducible refine at_load 44 ?_); refine wpList_whole rfl O 2 rfl rfl Try.underlying23 rfl (sP _) ?_) | (go_at_call 14; clear tok5; have tok6 : True := trivial; refine (CL _).mono ?_; rintro e w13 ⟨rfl, hb⟩; replace O := O.call hb; clear hb) | ((with_reducible refine at_alloc 12 ?_); refine wpList_alloc_own O (M.mat 3 M.zero) zeroT ?_; clear O; intro g12 w14 O) | ((with_reducible refine at_store 12 ?_); refine wpList_put_own O 0 (M.mat 3 (sF (0, 0, 0))) rfl rfl rfl (sT _) (M.mat_len2 _ _ _) (M.mat_one _ _) ?_; clear O; intro w15 O) | ((with_reducible refine at_load 51 ?_); refine wpList_whole rfl O 4 rfl rfl Try.underlying23 rfl (sP _) ?_) | ((with_reducible refine at_load 52 ?_); refine wpList_whole rfl O 3 rfl rfl Try.underlying23 rfl (sP _) ?_) | (go_at_call 14; clear tok6; have tok7 : True := trivial; refine (CO _).mono ?_; rintro e w16 ⟨rfl, hb⟩; replace O := O.call hb; clear hb) | ((with_reducible refine at_alloc 14 ?_); refine wpList_alloc_own O (M.mat 3 M.zero) zeroT ?_; clear O; intro g14 w17 O) | ((with_reducible refine at_store 14 ?_); refine wpList_put_own O 0 (M.mat 3 (sF (0, 0, 0))) rfl rfl rfl (sT _) (M.mat_len2 _ _ _) (M.mat_one _ _) ?_; clear O; intro w18 O) | (go_at_call 10; refine (awake_any _).mono ?_; rintro e w20 ⟨rfl, hb⟩; replace O := O.call hb; clear hb) | ((with_reducible refine at_load 60 ?_); refine wpList_whole rfl O 5 rfl rfl Try.underlying23 rfl (sP _) ?_) | ((with_reducible refine at_load 61 ?_); refine wpList_whole rfl O 4 rfl rfl Try.underlying23 rfl (sP _) ?_) | (go_at_call 17; clear tok7; have tok8 : True := trivial; refine (CM _).mono ?_; rintro e w21 ⟨rfl, hb⟩; replace O := O.call hb; clear hb) | ((with_reducible refine at_load 66 ?_); refine wpList_whole rfl O 3 rfl rfl Try.underlying34 rfl (sT _) ?_) | ((with_reducible refine at_load 67 ?_); refine wpList_whole rfl O 2 rfl rfl Try.underlying34 rfl (sT _) ?_) | ((with_reducible refine at_binOp 68 ?_); refine wpList_eqT rfl (sF s) (sF s) rfl rfl ?_; rw [M.eqB_refl]))
      go_ret
      exact ⟨rfl, O.below⟩
  · obtain ⟨X, Y, hl⟩ := hlast.1 hn
    rw [hl] at CL
    simp only at CL
    have Cp := cell_is (n := 3) (a := sF (n - 1, X, Y)) (i := 0) (z := n - 1) rfl (by decide)
    have nb : (n == 0) = false := beq_eq_false_iff_ne.2 (by omega)
    have nd : decide (n = 0) = false := decide_eq_false (by omega)
    have np : decide (0 < n) = true := decide_eq_true hn
    clear hlast hl n0
    cases ok
    · go_enter Try.func4, Try.ntmps4
      go_wp2_with (first | ((with_reducible refine at_box 3 ?_); refine wpList_box_own O (M.mat 2 (a)) rfl ?_; clear O; intro g3 w1 O) | ((with_reducible refine at_box 4 ?_); refine wpList_box_own O (M.mat 2 (b)) rfl ?_; clear O; intro g4 w2 O) | ((with_reducible refine at_load 16 ?_); refine wpList_whole rfl O 1 rfl rfl Try.underlying23 rfl (sP _) ?_) | (go_at_call 8; clear tok0; have tok1 : True := trivial; refine (MA _).mono ?_; rintro e w4 ⟨rfl, hb⟩; replace O := O.call hb; clear hb) | ((with_reducible refine at_load 20 ?_); refine wpList_whole rfl O 0 rfl rfl Try.underlying23 rfl (sP _) ?_) | (go_at_call 8; clear tok1; have tok2 : True := trivial; refine (MB _).mono ?_; rintro e w5 ⟨rfl, hb⟩; replace O := O.call hb; clear hb) | ((with_reducible refine at_load 26 ?_); refine wpList_whole rfl O 1 rfl rfl Try.underlying23 rfl (sP _) ?_) | ((with_reducible refine at_load 27 ?_); refine wpList_whole rfl O 0 rfl rfl Try.underlying23 rfl (sP _) ?_) | (go_at_call 14; clear tok2; have tok3 : True := trivial; refine (CP _).mono ?_; rintro e w6 ⟨rfl, hb⟩; replace O := O.call hb; clear hb) | ((with_reducible refine at_alloc 7 ?_); refine wpList_alloc_own O (M.mat 3 M.zero) zeroT ?_; clear O; intro g7 w7 O) | ((with_reducible refine at_store 7 ?_); refine wpList_put_own O 0 (M.mat 3 (sF s)) rfl rfl rfl (sT _) (M.mat_len2 _ _ _) (M.mat_one _ _) ?_; clear O; intro w8 O) | ((with_reducible refine at_load 33 ?_); refine wpList_whole rfl O 2 rfl rfl Try.underlying23 rfl (sP _) ?_) | ((with_reducible refine at_load 34 ?_); refine wpList_whole rfl O 1 rfl rfl Try.underlying23 rfl (sP _) ?_) | (go_at_call 15; clear tok3; have tok4 : True := trivial; refine (CD _).mono ?_; rintro e w9 ⟨rfl, hb⟩; replace O := O.call hb; clear hb) | ((with_reducible refine at_alloc 9 ?_); refine wpList_alloc_own O (M.mat 3 M.zero) zeroT ?_; clear O; intro g9 w10 O) | ((with_reducible refine at_store 9 ?_); refine wpList_put_own O 0 (M.mat 3 (sF s)) rfl rfl rfl (sT _) (M.mat_len2 _ _ _) (M.mat_one _ _) ?_; clear O; intro w11 O) | ((with_reducible refine at_load 39 ?_); refine wpList_whole rfl O 3 rfl rfl Try.underlying23 rfl (sP _) ?_) | ((with_reducible refine at_load 40 ?_); refine wpList_whole rfl O 2 rfl rfl Try.underlying23 rfl (sP _) ?_) | (go_at_call 16; clear tok4; have tok5 : True := trivial; refine (CN _).mono ?_; rintro e w12 ⟨rfl, hb⟩; replace O := O.call hb; clear hb) | ((with_reducible refine at_load 43 ?_); refine wpList_whole rfl O 3 rfl rfl Try.underlying23 rfl (sP _) ?_) | ((with_reducible refine at_load 44 ?_); refine wpList_whole rfl O 2 rfl rfl Try.underlying23 rfl (sP _) ?_) | (go_at_call 14; clear tok5; have tok6 : True := trivial; refine (CL _).mono ?_; rintro e w13 ⟨rfl, hb⟩; replace O := O.call hb; clear hb) | ((with_reducible refine at_alloc 12 ?_); refine wpList_alloc_own O (M.mat 3 M.zero) zeroT ?_; clear O; intro g12 w14 O) | ((with_reducible refine at_store 12 ?_); refine wpList_put_own O 0 (M.mat 3 (sF (n - 1, X, Y))) rfl rfl rfl (sT _) (M.mat_len2 _ _ _) (M.mat_one _ _) ?_; clear O; intro w15 O) | ((with_reducible refine at_load 51 ?_); refine wpList_whole rfl O 4 rfl rfl Try.underlying23 rfl (sP _) ?_) | ((with_reducible refine at_load 52 ?_); refine wpList_whole rfl O 3 rfl rfl Try.underlying23 rfl (sP _) ?_) | (go_at_call 14; clear tok6; have tok7 : True := trivial; refine (CO _).mono ?_; rintro e w16 ⟨rfl, hb⟩; replace O := O.call hb; clear hb) | ((with_reducible refine at_alloc 14 ?_); refine wpList_alloc_own O (M.mat 3 M.zero) zeroT ?_; clear O; intro g14 w17 O) | ((with_reducible refine at_store 14 ?_); refine wpList_put_own O 0 (M.mat 3 (sF (0, 0, 0))) rfl rfl rfl (sT _) (M.mat_len2 _ _ _) (M.mat_one _ _) ?_; clear O; intro w18 O) | (go_at_call 10; refine (awake_any _).mono ?_; rintro e w20 ⟨rfl, hb⟩; replace O := O.call hb; clear hb) | ((with_reducible refine at_load 60 ?_); refine wpList_whole rfl O 5 rfl rfl Try.underlying23 rfl (sP _) ?_) | ((with_reducible refine at_load 61 ?_); refine wpList_whole rfl O 4 rfl rfl Try.underlying23 rfl (sP _) ?_) | (go_at_call 17; clear tok7; have tok8 : True := trivial; refine (CM _).mono ?_; rintro e w21 ⟨rfl, hb⟩; replace O := O.call hb; clear hb) | ((with_reducible refine at_load 66 ?_); refine wpList_whole rfl O 3 rfl rfl Try.underlying34 rfl (sT _) ?_) | ((with_reducible refine at_load 67 ?_); refine wpList_whole rfl O 2 rfl rfl Try.underlying34 rfl (sT _) ?_) | ((with_reducible refine at_binOp 68 ?_); refine wpList_eqT rfl (sF s) (sF s) rfl rfl ?_; rw [M.eqB_refl]) | ((with_reducible refine at_load 90 ?_); refine wpList_cell_h (v := .int .i64 (n - 1)) rfl O.held 1 rfl Cp.out rfl agg3 rfl ?_))
      go_ret
      exact ⟨rfl, O.below⟩
    · go_enter Try.func4, Try.ntmps4
      go_wp2_with (first | ((with_reducible refine at_box 3 ?_); refine wpList_box_own O (M.mat 2 (a)) rfl ?_; clear O; intro g3 w1 O) | ((with_reducible refine at_box 4 ?_); refine wpList_box_own O (M.mat 2 (b)) rfl ?_; clear O; intro g4 w2 O) | ((with_reducible refine at_load 16 ?_); refine wpList_whole rfl O 1 rfl rfl Try.underlying23 rfl (sP _) ?_) | (go_at_call 8; clear tok0; have tok1 : True := trivial; refine (MA _).mono ?_; rintro e w4 ⟨rfl, hb⟩; replace O := O.call hb; clear hb) | ((with_reducible refine at_load 20 ?_); refine wpList_whole rfl O 0 rfl rfl Try.underlying23 rfl (sP _) ?_) | (go_at_call 8; clear tok1; have tok2 : True := trivial; refine (MB _).mono ?_; rintro e w5 ⟨rfl, hb⟩; replace O := O.call hb; clear hb) | ((with_reducible refine at_load 26 ?_); refine wpList_whole rfl O 1 rfl rfl Try.underlying23 rfl (sP _) ?_) | ((with_reducible refine at_load 27 ?_); refine wpList_whole rfl O 0 rfl rfl Try.underlying23 rfl (sP _) ?_) | (go_at_call 14; clear tok2; have tok3 : True := trivial; refine (CP _).mono ?_; rintro e w6 ⟨rfl, hb⟩; replace O := O.call hb; clear hb) | ((with_reducible refine at_alloc 7 ?_); refine wpList_alloc_own O (M.mat 3 M.zero) zeroT ?_; clear O; intro g7 w7 O) | ((with_reducible refine at_store 7 ?_); refine wpList_put_own O 0 (M.mat 3 (sF s)) rfl rfl rfl (sT _) (M.mat_len2 _ _ _) (M.mat_one _ _) ?_; clear O; intro w8 O) | ((with_reducible refine at_load 33 ?_); refine wpList_whole rfl O 2 rfl rfl Try.underlying23 rfl (sP _) ?_) | ((with_reducible refine at_load 34 ?_); refine wpList_whole rfl O 1 rfl rfl Try.underlying23 rfl (sP _) ?_) | (go_at_call 15; clear tok3; have tok4 : True := trivial; refine (CD _).mono ?_; rintro e w9 ⟨rfl, hb⟩; replace O := O.call hb; clear hb) | ((with_reducible refine at_alloc 9 ?_); refine wpList_alloc_own O (M.mat 3 M.zero) zeroT ?_; clear O; intro g9 w10 O) | ((with_reducible refine at_store 9 ?_); refine wpList_put_own O 0 (M.mat 3 (sF s)) rfl rfl rfl (sT _) (M.mat_len2 _ _ _) (M.mat_one _ _) ?_; clear O; intro w11 O) | ((with_reducible refine at_load 39 ?_); refine wpList_whole rfl O 3 rfl rfl Try.underlying23 rfl (sP _) ?_) | ((with_reducible refine at_load 40 ?_); refine wpList_whole rfl O 2 rfl rfl Try.underlying23 rfl (sP _) ?_) | (go_at_call 16; clear tok4; have tok5 : True := trivial; refine (CN _).mono ?_; rintro e w12 ⟨rfl, hb⟩; replace O := O.call hb; clear hb) | ((with_reducible refine at_load 43 ?_); refine wpList_whole rfl O 3 rfl rfl Try.underlying23 rfl (sP _) ?_) | ((with_reducible refine at_load 44 ?_); refine wpList_whole rfl O 2 rfl rfl Try.underlying23 rfl (sP _) ?_) | (go_at_call 14; clear tok5; have tok6 : True := trivial; refine (CL _).mono ?_; rintro e w13 ⟨rfl, hb⟩; replace O := O.call hb; clear hb) | ((with_reducible refine at_alloc 12 ?_); refine wpList_alloc_own O (M.mat 3 M.zero) zeroT ?_; clear O; intro g12 w14 O) | ((with_reducible refine at_store 12 ?_); refine wpList_put_own O 0 (M.mat 3 (sF (n - 1, X, Y))) rfl rfl rfl (sT _) (M.mat_len2 _ _ _) (M.mat_one _ _) ?_; clear O; intro w15 O) | ((with_reducible refine at_load 51 ?_); refine wpList_whole rfl O 4 rfl rfl Try.underlying23 rfl (sP _) ?_) | ((with_reducible refine at_load 52 ?_); refine wpList_whole rfl O 3 rfl rfl Try.underlying23 rfl (sP _) ?_) | (go_at_call 14; clear tok6; have tok7 : True := trivial; refine (CO _).mono ?_; rintro e w16 ⟨rfl, hb⟩; replace O := O.call hb; clear hb) | ((with_reducible refine at_alloc 14 ?_); refine wpList_alloc_own O (M.mat 3 M.zero) zeroT ?_; clear O; intro g14 w17 O) | ((with_reducible refine at_store 14 ?_); refine wpList_put_own O 0 (M.mat 3 (sF (0, 0, 0))) rfl rfl rfl (sT _) (M.mat_len2 _ _ _) (M.mat_one _ _) ?_; clear O; intro w18 O) | (go_at_call 10; refine (awake_any _).mono ?_; rintro e w20 ⟨rfl, hb⟩; replace O := O.call hb; clear hb) | ((with_reducible refine at_load 60 ?_); refine wpList_whole rfl O 5 rfl rfl Try.underlying23 rfl (sP _) ?_) | ((with_reducible refine at_load 61 ?_); refine wpList_whole rfl O 4 rfl rfl Try.underlying23 rfl (sP _) ?_) | (go_at_call 17; clear tok7; have tok8 : True := trivial; refine (CM _).mono ?_; rintro e w21 ⟨rfl, hb⟩; replace O := O.call hb; clear hb) | ((with_reducible refine at_load 66 ?_); refine wpList_whole rfl O 3 rfl rfl Try.underlying34 rfl (sT _) ?_) | ((with_reducible refine at_load 67 ?_); refine wpList_whole rfl O 2 rfl rfl Try.underlying34 rfl (sT _) ?_) | ((with_reducible refine at_binOp 68 ?_); refine wpList_eqT rfl (sF s) (sF s) rfl rfl ?_; rw [M.eqB_refl]) | ((with_reducible refine at_load 90 ?_); refine wpList_cell_h (v := .int .i64 (n - 1)) rfl O.held 1 rfl Cp.out rfl agg3 rfl ?_))
      go_ret
      exact ⟨rfl, O.below⟩

theorem readable : ∀ t ∈ Try.f4.params.toList, Try.prog.readableRec t = true ∧ t < Try.prog.types.size := by
  intro t ht
  rw [Try.params4] at ht
  simp only [List.mem_cons, List.not_mem_nil, or_false] at ht
  repeat (first | (rcases ht with rfl | ht; exact ⟨by kernel_rfl, of_decide_eq_true (by kernel_rfl)⟩) | (subst ht; exact ⟨by kernel_rfl, of_decide_eq_true (by kernel_rfl)⟩))
set_option maxRecDepth 100000 in
theorem lifted (os : Os) (started : os.Started) (H : Type) (enc : TypeId × Value → H) :
    ReturnsInHanded {} Try.checked os 4 .any (Rows.walkAtsSpec.pre6 enc Try.prog Try.f4 Rows.walkAtsRow.domain false) (Rows.walkAtsSpec.post enc Try.prog Try.f4 false true false false) := by
  refine returnsInHanded_of_change (C := Try.checked) own started (by kernel_rfl) Try.func4
    (ChangeSpec.witness6 (enc := enc) (C := Try.checked) false ⟨#[], #[.agg #[.int .i64 0, .int .i64 0], .agg #[.int .i64 0, .int .i64 0], .int .i64 0], []⟩ 8 (by kernel_rfl) (by kernel_rfl) (by kernel_rfl) (by kernel_rfl)) ?_
  intro W base args ds gs before hval0 hW hcnd _
  have hval : ∀ (j : Nat) t v, Try.f4.params[j]? = some t → args[j]? = some v → Value.okWide Try.prog W .any base t v := hval0
  have hW' := hW
  obtain ⟨p, q, hA0, hV, rfl, hfz, hnd⟩ := hW
  have hA : DataW.TrodAll enc Try.prog W 0 (fun _ => true) true Try.f4.params.toList args.toList ds p := hA0
  rw [Try.params4] at hA hval
  have hlt : ∀ x ∈ p ++ q, x.block < W.heap.size := fun x hx => hW'.lt x hx
  obtain ⟨v0, vs0, d0, ds0, p0, q0, hargs, rfl, rfl, h0, rr0⟩ := trodAll_cons hA
  obtain ⟨v1, vs1, d1, ds1, p1, q1, rfl, rfl, rfl, h1, rr1⟩ := trodAll_cons rr0
  obtain ⟨v2, vs2, d2, ds2, p2, q2, rfl, rfl, rfl, h2, rr2⟩ := trodAll_cons rr1
  obtain ⟨rfl, rfl, rfl⟩ := trodAll_nil rr2
  obtain rfl : args = #[v0, v1, v2] := by cases args; simp_all
  obtain ⟨rfl, rfl⟩ := trodVars_none hV
  obtain ⟨a0, rfl⟩ := openPoint (hval 0 23 v0 rfl rfl) h0
  obtain ⟨a1, rfl⟩ := openPoint (hval 1 23 v1 rfl rfl) h1
  obtain ⟨i2, rfl, rfl, rfl, x2⟩ := open_int Try.underlying3 (hval 2 3 v2 rfl rfl) h2
  clear hA0 hval0
  refine (walk W a0 a1 i2 (by have := bounds_i64 x2; omega)).mono fun e W' ⟨he, hg⟩ => ?_
  subst he
  exact ⟨_, rfl, post_true (tb := 4) laid readable (by kernel_rfl) Try.underlying4 rfl (fun l hl => by
    match l, hl with
    | [_, _, _], _ => exact ⟨rfl, rfl, rfl⟩) hW' hg⟩

theorem over : Rows.walkAtsRow.holds Try.pinned (OpenSpec.ofChange Rows.walkAtsSpec) :=
  OpenClaim.holds_of_wide 4 Try.f4 rfl rfl rfl rfl rfl rfl rfl ⟨rfl, rfl, rfl, rfl, rfl⟩ rfl rfl rfl rfl rfl (by kernel_rfl) Try.func4 (by kernel_rfl)
    (of_decide_eq_true (by kernel_rfl)) (by unfold Func.isWrapper; first | (rw [if_pos (by decide +kernel)]; kernel_rfl) | (rw [if_neg (by decide +kernel)]; exact ⟨rfl, rfl⟩))
    (fun os started H enc _ => lifted os started H enc)

theorem proved : Rows.WalkAtsSaid :=
  over
#print axioms proved
end Go.Proofs.Ytheolajpjpnfjaa.walkAts
