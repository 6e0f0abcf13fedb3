/-
  For every two matrices of whole numbers and four numbers the law MatJoins returns true: what both together do is what one does behind the other, and their product's rows as columns are the product the other way round. No condition.
-/
import Derived.Test.YtidaffgfhmbomaaRow
import Derived.Test.YtidaffgfhmbomaaAnyA
import Derived.Test.YtidaffgfhmbomaaCells5
import Derived.Test.YtidaffgfhmbomaaMath5
import Derived.Test.YtidaffgfhmbomaaOpen4
import Derived.Deep.DeepCutAuto
namespace Go.Proofs.Ytidaffgfhmbomaa.matJoins
open Go.ChangeShapes Go.WideShapes Go.ChangeAt Go.RowKit
set_option linter.unusedVariables false
set_option linter.unusedSimpArgs false

theorem own : ownKnob Try.prog.godebug = none := by kernel_rfl
def X10 (a : Nat → Int) (i : Nat) : Int := (a i).tmod 10
theorem X10_le (a : Nat → Int) (i : Nat) : -9 ≤ X10 a i ∧ X10 a i ≤ 9 := by
  have h1 := Int.lt_tmod_of_pos (a i) (show (0 : Int) < 10 by decide)
  have h2 := Int.tmod_lt_of_pos (a i) (show (0 : Int) < 10 by decide)
  unfold X10
  omega
def wholeK (X : Nat → Int) (k j : Nat) : Int := if j < k then M.whole X j else 0
theorem wholeK_set (X : Nat → Int) (k : Nat) (hk : k < 16) : (M.mat 16 (wholeK X k)).set k (.int .i64 (X k * 65536)) = M.mat 16 (wholeK X (k + 1)) :=
  M.mat_set_to hk (by simp [wholeK, M.whole]) fun j _ hj => by
    simp only [wholeK]
    by_cases h : j < k
    · rw [if_pos h, if_pos (by omega)]
    · rw [if_neg h, if_neg (by omega)]
theorem wholeK_0 (X : Nat → Int) : M.mat 16 (wholeK X 0) = M.mat 16 M.zero := M.mat_ext fun j hj => by simp [wholeK, M.zero]
theorem wholeK_end (X : Nat → Int) : M.mat 16 (wholeK X 16) = M.mat 16 (M.whole X) := M.mat_ext fun j hj => by simp [wholeK, hj]
theorem sizeOf42 (w : World) : (sizeOf 42).run Try.prog w = .ok 1 w := by kernel_rfl

set_option maxRecDepth 100000 in
set_option maxHeartbeats 8000000 in
theorem walk (a b v : Nat → Int) (hv : ∀ i, i < 4 → -32768 ≤ v i ∧ v i ≤ 32767) (w : World) :
    Calls Try.prog 8 #[.agg (M.matK .i8 16 a).toArray, .agg (M.matK .i8 16 b).toArray, .agg (M.matK .i16 4 v).toArray] w fun e w' => e = .returned (.bool true) ∧ Below w.heap.size w w' := by
  have O := Own.start w
  have hu2 := Try.underlying23
  have hu3 := Try.underlying32
  have hu4 := Try.underlying43
  have hu5 := Try.underlying45
  have HV := Lib.hid hv
  clear hv
  go_enter Try.func8, Try.ntmps8
  go_wp2_with (first | ((with_reducible refine at_box 3 ?_); refine wpList_box_own O (M.matK .i8 16 a) rfl ?_; clear O; intro g3 w1 O) | ((with_reducible refine at_box 4 ?_); refine wpList_box_own O (M.matK .i8 16 b) rfl ?_; clear O; intro g4 w1 O) | ((with_reducible refine at_box 5 ?_); refine wpList_box_own O (M.matK .i16 4 v) rfl ?_; clear O; intro g5 w1 O) | ((with_reducible refine at_alloc 7 ?_); refine wpList_alloc_own O (M.mat 16 M.zero) zero23 ?_; clear O; intro g7 w1 O) | ((with_reducible refine at_alloc 8 ?_); refine wpList_alloc_own O (M.mat 16 M.zero) zero23 ?_; clear O; intro g8 w1 O))
  obtain ⟨wo, rfl⟩ : ∃ wo : World, wo = w1 := ⟨_, rfl⟩
  go_loopw [9] (fun u wr => ∃ k : Nat, k ≤ 16 ∧ u = .int .i64 k ∧ Own w wr [(g8, 23, M.mat 16 (wholeK (X10 b) k)), (g7, 23, M.mat 16 (wholeK (X10 a) k)), (g5, 45, M.matK .i16 4 v), (g4, 43, M.matK .i8 16 b), (g3, 43, M.matK .i8 16 a)]) (fun u _ => 16 - (intOf u).toNat)
  case atStart => exact ⟨0, by omega, rfl, by rw [wholeK_0, wholeK_0]; exact O⟩
  case round =>
    clear O
    obtain ⟨k, hk, rfl, O⟩ := hrel
    have q0 : (0 : Int) ≤ k := by omega
    by_cases hlt : k < 16
    · have q1 : (k : Int) < 16 := by omega
      obtain ⟨x1, x2⟩ := X10_le a k
      obtain ⟨y1, y2⟩ := X10_le b k
      go_wp2_with fail
      refine region_W (fun c w2 => Own w w2 [(g8, 23, M.mat 16 (wholeK (X10 b) k)), (g7, 23, cond c ((M.mat 16 (wholeK (X10 a) k)).set k (.int .i64 (X10 a k * 65536))) (M.mat 16 (wholeK (X10 a) k))), (g5, 45, M.matK .i16 4 v), (g4, 43, M.matK .i8 16 b), (g3, 43, M.matK .i8 16 a)]) 15 [0, 1, 2, 3, 4, 5, 6, 7, 8, 9, 10, 11, 12, 13, 14, 15, 16] [some 25, some 26, some 27, some 28, some 29, some 30, some 31, some 32, some 33, some 34, some 35, some 36, some 37, some 38, some 39, none, some 40] [.int .i64 k, .int .i64 k, .int .i64 k, .pointer (some ⟨g3, k, none⟩), .int .i8 (a k), .int .i8 (X10 a k), .int .i64 (X10 a k), .int .i64 (X10 a k * 65536), .int .i64 k, .pointer (some ⟨g4, k, none⟩), .int .i8 (b k), .int .i8 (X10 b k), .int .i64 (X10 b k), .int .i64 (X10 b k * 65536), .pointer (some ⟨g7, k, none⟩), undef, .pointer (some ⟨g8, k, none⟩)] 1 (by kernel_rfl) (by kernel_rfl) (by rfl) (by rfl) (by decide) (O.drew) (fun F hF => ?_)
      simp only [fillD, Act.put, List.setIfInBounds_toArray, List.set_cons_zero, List.set_cons_succ] at hF
      subst hF
      refine ⟨⟨does_other (by decide) (fun st_ => does_want rfl (by rfl) (fun w' O K hK => ?_)), does_other (by decide) (fun st_ => does_want rfl (by rfl) (fun w' O K hK => ?_)), does_other (by decide) (fun st_ => does_want rfl (by rfl) (fun w' O K hK => ?_)), does_other (by decide) (fun st_ => does_want rfl (by rfl) (fun w' O K hK => ?_)), does_other (by decide) (fun st_ => does_want rfl (by rfl) (fun w' O K hK => ?_)), does_other (by decide) (fun st_ => does_want rfl (by rfl) (fun w' O K hK => ?_)), does_other (by decide) (fun st_ => does_want rfl (by rfl) (fun w' O K hK => ?_)), does_other (by decide) (fun st_ => does_want rfl (by rfl) (fun w' O K hK => ?_)), does_other (by decide) (fun st_ => does_want rfl (by rfl) (fun w' O K hK => ?_)), does_other (by decide) (fun st_ => does_want rfl (by rfl) (fun w' O K hK => ?_)), does_other (by decide) (fun st_ => does_want rfl (by rfl) (fun w' O K hK => ?_)), does_other (by decide) (fun st_ => does_want rfl (by rfl) (fun w' O K hK => ?_)), does_other (by decide) (fun st_ => does_want rfl (by rfl) (fun w' O K hK => ?_)), does_other (by decide) (fun st_ => does_want rfl (by rfl) (fun w' O K hK => ?_)), does_other (by decide) (fun st_ => does_want rfl (by rfl) (fun w' O K hK => ?_)), does_store rfl rfl (by rfl) (fun w' O K hK => ?_), does_other (by decide) (fun st_ => does_want rfl (by rfl) (fun w' O K hK => ?_)), trivial⟩, fun w' O => ?_⟩
      · go_simp
        exact hK _ O
      · go_simp
        exact hK _ O
      · go_simp
        exact hK _ O
      · exact wp_index_own Try.underlying43 sizeOf42 (by decide) k rfl rfl rfl hlt (hK _ O)
      · exact wp_cell_own O 4 rfl (M.matK_get (a := a) hlt) rfl agg42 rfl (hK _ O)
      · have e1 : (a k).tmod 10 = X10 a k := rfl
        have e2 : IntKind.i8.wrap (X10 a k) = X10 a k := IntWalk.i8_in _ (by omega)
        go_simp
        exact hK _ O
      · have e2 : IntKind.i64.wrap (X10 a k) = X10 a k := IntWalk.i64_in _ (by omega)
        go_simp
        exact hK _ O
      · have e2 : IntKind.i64.wrap (X10 a k * 65536) = X10 a k * 65536 := IntWalk.i64_in _ (by omega)
        go_simp
        exact hK _ O
      · go_simp
        exact hK _ O
      · exact wp_index_own Try.underlying43 sizeOf42 (by decide) k rfl rfl rfl hlt (hK _ O)
      · exact wp_cell_own O 3 rfl (M.matK_get (a := b) hlt) rfl agg42 rfl (hK _ O)
      · have e1 : (b k).tmod 10 = X10 b k := rfl
        have e2 : IntKind.i8.wrap (X10 b k) = X10 b k := IntWalk.i8_in _ (by omega)
        go_simp
        exact hK _ O
      · have e2 : IntKind.i64.wrap (X10 b k) = X10 b k := IntWalk.i64_in _ (by omega)
        go_simp
        exact hK _ O
      · have e2 : IntKind.i64.wrap (X10 b k * 65536) = X10 b k * 65536 := IntWalk.i64_in _ (by omega)
        go_simp
        exact hK _ O
      · exact wp_index_own Try.underlying23 sizeOf3 (by decide) k rfl rfl rfl hlt (hK _ O)
      · refine wp_set_own O 1 (.int .i64 (X10 a k * 65536)) rfl (by simpa [M.mat_len] using hlt) rfl rfl size3 rfl rfl fun w9 O9 => hK _ ?_
        exact O9
      · exact wp_index_own Try.underlying23 sizeOf3 (by decide) k rfl rfl rfl hlt (hK _ O)
      refine wpAny_want (i := 17) (by kernel_rfl) rfl (by rfl) (fun K hK => ?_)
      refine wp_set_own O 0 (.int .i64 (X10 b k * 65536)) rfl (by simpa [M.mat_len] using hlt) rfl rfl size3 rfl rfl fun w9 O9 => hK _ _ ?_
      clear O
      have O := O9
      clear O9
      clear hK K
      try simp only [Act.put, List.setIfInBounds_toArray, List.set_cons_zero, List.set_cons_succ]
      refine wpAny_done (by kernel_rfl) ?_ _
      go_wp2_with fail
      go_roundw
      case rel => exact ⟨k + 1, by omega, by go_num, by rw [← wholeK_set (X10 a) k hlt, ← wholeK_set (X10 b) k hlt]; exact O⟩
      case measure => simp [intOf]; omega
    · have q1 : ¬ (k : Int) < 16 := by omega
      obtain rfl : k = 16 := by omega
      rw [wholeK_end, wholeK_end] at O
      clear hlt q0 q1 hk
      obtain ⟨v01, v02⟩ := HV.out 0 (by decide)
      obtain ⟨v11, v12⟩ := HV.out 1 (by decide)
      obtain ⟨v21, v22⟩ := HV.out 2 (by decide)
      obtain ⟨v31, v32⟩ := HV.out 3 (by decide)
      have hX : ∀ i, i < 16 → -9 ≤ X10 a i ∧ X10 a i ≤ 9 := fun i _ => X10_le a i
      have hY : ∀ i, i < 16 → -9 ≤ X10 b i ∧ X10 b i ≤ 9 := fun i _ => X10_le b i
      generalize X10 a = X at *
      generalize X10 b = Y at *
      obtain ⟨f, hf, hf2⟩ : ∃ f, M.four (v 0) (v 1) (v 2) (v 3) = f ∧ ∀ i, i < 4 → -32768 ≤ f i ∧ f i ≤ 32768 := ⟨_, rfl, fun i hi => by
        match i, hi with
        | 0, _ => exact ⟨by show -32768 ≤ v 0; omega, by show v 0 ≤ 32768; omega⟩
        | 1, _ => exact ⟨by show -32768 ≤ v 1; omega, by show v 1 ≤ 32768; omega⟩
        | 2, _ => exact ⟨by show -32768 ≤ v 2; omega, by show v 2 ≤ 32768; omega⟩
        | 3, _ => exact ⟨by show -32768 ≤ v 3; omega, by show v 3 ≤ 32768; omega⟩⟩
      have hf3 := M.appW_le (C := 1179648) hY hf2 (by decide)
      have hf4 := M.appW_le (C := 42467328) hX hf3 (by decide)
      have hP := M.prodW_le hX hY
      have hf5 := M.appW_le (C := 42467328) hP hf2 (by decide)
      have m1 := M.mul_whole hX hY
      have m2 := M.apply_whole (X := Y) (v := f) (fun i hi => by have := hY i hi; omega) (fun i hi => by have := hf2 i hi; omega) (fun i hi => by have := hf3 i hi; omega)
      have m3 := M.apply_whole (X := X) (v := M.appW Y f) (fun i hi => by have := hX i hi; omega) (fun i hi => by have := hf3 i hi; omega) (fun i hi => by have := hf4 i hi; omega)
      have m4 := M.apply_whole (X := M.prodW X Y) (v := f) (fun i hi => by have := hP i hi; omega) (fun i hi => by have := hf2 i hi; omega) (fun i hi => by have := hf5 i hi; omega)
      have m5 := M.mul_whole (X := M.flip Y) (Y := M.flip X) (fun i hi => hY _ (by omega)) (fun i hi => hX _ (by omega))
      have j4 := m4.1.trans (M.mat_ext (M.joins X Y f))
      have j5 := m5.1.trans (M.mat_ext (M.flips X Y))
      have T1 := fun w => two_is (mul_any (M.whole X) (M.whole Y) w) _ _ m1.1 m1.2
      have T2 := fun w => two_is (apply_any (M.whole Y) f 68719476736 w) _ _ m2.1 m2.2
      have T3 := fun w => two_is (apply_any (M.whole X) (M.appW Y f) 68719476736 w) _ _ m3.1 m3.2
      have T4 := fun w => two_is (apply_any (M.whole (M.prodW X Y)) f 68719476736 w) _ _ j4 m4.2
      have T5 : ∀ w, Calls Try.prog 9 #[arr 16 (M.flip (M.whole Y)), arr 16 (M.flip (M.whole X))] w fun e w' => e = .returned (.tuple #[arr 16 (M.flip (M.whole (M.prodW X Y))), .int .i64 0]) ∧ Below w.heap.size w w' :=
        fun w => two_is (mul_any (M.whole (M.flip Y)) (M.whole (M.flip X)) w) _ _ j5 m5.2
      clear m1 m2 m3 m4 m5 j4 j5 hP hf2 hf3 hf4 hf5 hX hY
      generalize M.appW Y f = x at *
      generalize M.appW X x = z at *
      generalize M.prodW X Y = p at *
      have HF := Lib.hid hf
      clear hf
      go_wp2_with (first | ((with_reducible refine at_load 42 ?_); refine wpList_cell_own (by rfl) O 2 rfl (M.matK_get (a := v) (i := 0) (by decide)) rfl agg44 rfl ?_) | ((with_reducible refine at_load 45 ?_); refine wpList_cell_own (by rfl) O 2 rfl (M.matK_get (a := v) (i := 1) (by decide)) rfl agg44 rfl ?_) | ((with_reducible refine at_load 48 ?_); refine wpList_cell_own (by rfl) O 2 rfl (M.matK_get (a := v) (i := 2) (by decide)) rfl agg44 rfl ?_) | ((with_reducible refine at_load 51 ?_); refine wpList_cell_own (by rfl) O 2 rfl (M.matK_get (a := v) (i := 3) (by decide)) rfl agg44 rfl ?_) | ((with_reducible refine at_buildg 53 ?_); refine wpList_buildg_own (by rfl) [(0, .int .i64 (v 0)), (1, .int .i64 (v 1)), (2, .int .i64 (v 2)), (3, .int .i64 (v 3))] (M.mat 4 (M.four (v 0) (v 1) (v 2) (v 3))).toArray ?_ (built32 _ _ _ _) ?_; (focus (simp [Act.eval]; try (refine ⟨?_, ?_, ?_, ?_⟩ <;> rfl))); rw [HF.out]) | ((with_reducible refine at_alloc 10 ?_); refine wpList_alloc_own O (M.mat 4 M.zero) zero32 ?_; clear O; intro g10 w1 O) | ((with_reducible refine at_store 10 ?_); refine wpList_put_own O 0 (M.mat 4 (f)) rfl rfl rfl (s32 _) (M.mat_len2 _ _ _) (M.mat_one _ _) ?_; clear O; intro w1 O) | ((with_reducible refine at_load 55 ?_); refine wpList_row_own O 2 rfl rfl Try.underlying23 (s23 _) ?_) | ((with_reducible refine at_load 56 ?_); refine wpList_row_own O 1 rfl rfl Try.underlying23 (s23 _) ?_) | (go_at_call 9; refine (T1 _).mono ?_; rintro e w1 ⟨rfl, hb⟩; replace O := O.call hb; clear hb) | ((with_reducible refine at_alloc 11 ?_); refine wpList_alloc_own O (M.mat 16 M.zero) zero23 ?_; clear O; intro g11 w1 O) | ((with_reducible refine at_store 11 ?_); refine wpList_put_own O 0 (M.mat 16 (M.whole p)) rfl rfl rfl (s23 _) (M.mat_len2 _ _ _) (M.mat_one _ _) ?_; clear O; intro w1 O) | ((with_reducible refine at_load 61 ?_); refine wpList_row_own O 2 rfl rfl Try.underlying23 (s23 _) ?_) | ((with_reducible refine at_load 62 ?_); refine wpList_row_own O 1 rfl rfl Try.underlying32 (s32 _) ?_) | (go_at_call 18; (first | (with_reducible refine (T2 _).mono ?_) | (with_reducible refine (T3 _).mono ?_) | (with_reducible refine (T4 _).mono ?_)); rintro e w1 ⟨rfl, hb⟩; replace O := O.call hb; clear hb) | ((with_reducible refine at_alloc 13 ?_); refine wpList_alloc_own O (M.mat 4 M.zero) zero32 ?_; clear O; intro g13 w1 O) | ((with_reducible refine at_store 13 ?_); refine wpList_put_own O 0 (M.mat 4 (x)) rfl rfl rfl (s32 _) (M.mat_len2 _ _ _) (M.mat_one _ _) ?_; clear O; intro w1 O) | ((with_reducible refine at_load 67 ?_); refine wpList_row_own O 4 rfl rfl Try.underlying23 (s23 _) ?_) | ((with_reducible refine at_load 68 ?_); refine wpList_row_own O 0 rfl rfl Try.underlying32 (s32 _) ?_) | ((with_reducible refine at_alloc 15 ?_); refine wpList_alloc_own O (M.mat 4 M.zero) zero32 ?_; clear O; intro g15 w1 O) | ((with_reducible refine at_store 15 ?_); refine wpList_put_own O 0 (M.mat 4 (z)) rfl rfl rfl (s32 _) (M.mat_len2 _ _ _) (M.mat_one _ _) ?_; clear O; intro w1 O) | ((with_reducible refine at_load 73 ?_); refine wpList_row_own O 2 rfl rfl Try.underlying23 (s23 _) ?_) | ((with_reducible refine at_load 74 ?_); refine wpList_row_own O 3 rfl rfl Try.underlying32 (s32 _) ?_) | ((with_reducible refine at_alloc 17 ?_); refine wpList_alloc_own O (M.mat 4 M.zero) zero32 ?_; clear O; intro g17 w1 O) | ((with_reducible refine at_store 17 ?_); refine wpList_put_own O 0 (M.mat 4 (z)) rfl rfl rfl (s32 _) (M.mat_len2 _ _ _) (M.mat_one _ _) ?_; clear O; intro w1 O))
      refine region_A w [(g17, 32, M.mat 4 z), (g15, 32, M.mat 4 z), (g13, 32, M.mat 4 x), (g11, 23, M.mat 16 (M.whole p)), (g10, 32, M.mat 4 f), (g8, 23, M.mat 16 (M.whole Y)), (g7, 23, M.mat 16 (M.whole X)), (g5, 45, M.matK .i16 4 v), (g4, 43, M.matK .i8 16 b), (g3, 43, M.matK .i8 16 a)] 23 (M.mat 16 M.zero) (M.mat 16 (M.flip (M.whole p))) 8 9 10 [some 79, some 80, some 81, some 82, some 83, some 78, some 84, some 85, some 19, none] [arr 16 (M.whole Y), arr 16 (M.flip (M.whole Y)), arr 16 (M.whole X), arr 16 (M.flip (M.whole X)), .tuple #[arr 16 (M.flip (M.whole p)), .int .i64 0], .tuple #[arr 16 (M.flip (M.whole p)), .int .i64 0], arr 16 (M.flip (M.whole p)), .int .i64 0, undef, undef] 1 (by kernel_rfl) (by kernel_rfl) (by rfl) (by rfl) (by rfl) (by decide) (by decide) (by decide) (by kernel_rfl) (O.drew) (fun F hF => ?_)
      simp only [fillD, List.set_cons_zero, List.set_cons_succ, Act.put, List.setIfInBounds_toArray, List.set_cons_zero, List.set_cons_succ] at hF
      have hF2 := funext hF
      clear hF
      subst hF2
      refine ⟨⟨doesA_want rfl (fun p => rfl) (fun ext hx p w' O K hK => ?_), doesA_want rfl (fun p => rfl) (fun ext hx p w' O K hK => ?_), doesA_want rfl (fun p => rfl) (fun ext hx p w' O K hK => ?_), doesA_want rfl (fun p => rfl) (fun ext hx p w' O K hK => ?_), doesA_want rfl (fun p => rfl) (fun ext hx p w' O K hK => ?_), doesA_want rfl (fun p => rfl) (fun ext hx p w' O K hK => ?_), doesA_want rfl (fun p => rfl) (fun ext hx p w' O K hK => ?_), doesA_want rfl (fun p => rfl) (fun ext hx p w' O K hK => ?_), doesA_alloc, doesA_store, trivial⟩, ⟨_, rfl, rfl, fun w' O K hK => ?_⟩, ⟨_, rfl, fun g => rfl, fun g w' O K hK => ?_⟩, fun g w' O => ?_⟩
      · try dsimp only
        exact wp_row_own (hx _ O) 5 rfl rfl Try.underlying23 (s23 _) (hK _ O)
      · try dsimp only
        go_simp
        go_at_call 14
        refine (flip_any _ _).mono ?_
        rintro e w2 ⟨rfl, hb⟩
        exact hK _ (O.call hb)
      · try dsimp only
        exact wp_row_own (hx _ O) 6 rfl rfl Try.underlying23 (s23 _) (hK _ O)
      · try dsimp only
        go_simp
        go_at_call 14
        refine (flip_any _ _).mono ?_
        rintro e w2 ⟨rfl, hb⟩
        exact hK _ (O.call hb)
      · try dsimp only
        go_simp
        go_at_call 9
        refine (T5 _).mono ?_
        rintro e w2 ⟨rfl, hb⟩
        exact hK _ (O.call hb)
      · try dsimp only
        go_simp
        exact hK _ O
      · try dsimp only
        go_simp
        exact hK _ O
      · try dsimp only
        go_simp
        exact hK _ O
      · try dsimp only
        exact wp_alloc_own O (M.mat 16 M.zero) zero23 fun g w1 O1 => hK g w1 O1
      · try dsimp only
        exact wp_put_own O 0 (M.mat 16 (M.flip (M.whole p))) rfl rfl rfl (s23 _) (M.mat_len2 _ _ _) (M.mat_one _ _) fun w1 O1 => hK w1 O1
      try dsimp only
      refine wpAny_one (i := 10) (by kernel_rfl) rfl (fun K hK => ?_)
      go_simp
      refine hK _ _ ?_
      clear hK K
      try simp only [Act.put, List.setIfInBounds_toArray, List.set_cons_zero, List.set_cons_succ]
      refine wpAny_done (by kernel_rfl) ?_ _
      go_wp2_with fail
      refine region_V (fun w2 => Own w w2 ((g, 23, M.mat 16 (M.flip (M.whole p))) :: [(g17, 32, M.mat 4 z), (g15, 32, M.mat 4 z), (g13, 32, M.mat 4 x), (g11, 23, M.mat 16 (M.whole p)), (g10, 32, M.mat 4 f), (g8, 23, M.mat 16 (M.whole Y)), (g7, 23, M.mat 16 (M.whole X)), (g5, 45, M.matK .i16 4 v), (g4, 43, M.matK .i8 16 b), (g3, 43, M.matK .i8 16 a)])) [0, 1, 2, 3, 4, 5, 6, 7, 8, 9, 10, 11, 12, 13, 14, 15, 16, 17, 18, 19, 20, 21, 22, 23, 24, 25, 26, 27, 28, 29, 30, 31] [some 86, some 87, some 88, some 89, some 90, some 91, some 92, some 93, some 94, some 95, some 96, some 97, some 98, some 99, some 100, some 101, some 102, some 103, some 104, some 105, some 106, some 107, some 108, some 109, some 110, some 111, some 112, some 113, some 114, some 115, some 116, some 117] [.bool true, .bool true, .int .i64 0, .bool true, .bool true, .bool true, .int .i64 0, .bool true, .bool true, .bool true, .int .i64 0, .bool true, .bool true, .bool true, .int .i64 0, .bool true, .bool true, .bool true, .int .i64 0, .bool true, .bool true, .bool true, arr 4 z, arr 4 z, .bool true, .bool true, .bool true, arr 16 (M.flip (M.whole p)), arr 16 (M.whole p), arr 16 (M.flip (M.whole p)), .bool true, .bool true] 1 (by kernel_rfl) (by kernel_rfl) (by rfl) (by rfl) (O.drew) (fun F hF => ?_)
      simp only [fillD, Act.put, List.setIfInBounds_toArray, List.set_cons_zero, List.set_cons_succ] at hF
      subst hF
      refine ⟨⟨does_want rfl (by rfl) (fun w' O K hK => ?_), does_want rfl (by rfl) (fun w' O K hK => ?_), does_want rfl (by rfl) (fun w' O K hK => ?_), does_want rfl (by rfl) (fun w' O K hK => ?_), does_want rfl (by rfl) (fun w' O K hK => ?_), does_want rfl (by rfl) (fun w' O K hK => ?_), does_want rfl (by rfl) (fun w' O K hK => ?_), does_want rfl (by rfl) (fun w' O K hK => ?_), does_want rfl (by rfl) (fun w' O K hK => ?_), does_want rfl (by rfl) (fun w' O K hK => ?_), does_want rfl (by rfl) (fun w' O K hK => ?_), does_want rfl (by rfl) (fun w' O K hK => ?_), does_want rfl (by rfl) (fun w' O K hK => ?_), does_want rfl (by rfl) (fun w' O K hK => ?_), does_want rfl (by rfl) (fun w' O K hK => ?_), does_want rfl (by rfl) (fun w' O K hK => ?_), does_want rfl (by rfl) (fun w' O K hK => ?_), does_want rfl (by rfl) (fun w' O K hK => ?_), does_want rfl (by rfl) (fun w' O K hK => ?_), does_want rfl (by rfl) (fun w' O K hK => ?_), does_want rfl (by rfl) (fun w' O K hK => ?_), does_want rfl (by rfl) (fun w' O K hK => ?_), does_want rfl (by rfl) (fun w' O K hK => ?_), does_want rfl (by rfl) (fun w' O K hK => ?_), does_want rfl (by rfl) (fun w' O K hK => ?_), does_want rfl (by rfl) (fun w' O K hK => ?_), does_want rfl (by rfl) (fun w' O K hK => ?_), does_want rfl (by rfl) (fun w' O K hK => ?_), does_want rfl (by rfl) (fun w' O K hK => ?_), does_want rfl (by rfl) (fun w' O K hK => ?_), does_want rfl (by rfl) (fun w' O K hK => ?_), does_want rfl (by rfl) (fun w' O K hK => ?_), trivial⟩, fun w' O => ?_⟩
      · go_simp
        go_at_call 11
        refine (awake_any _).mono ?_
        rintro e w2 ⟨rfl, hb⟩
        exact hK _ (O.call hb)
      · go_simp
        exact hK _ O
      · go_simp
        exact hK _ O
      · go_simp
        exact hK _ O
      · go_simp
        exact hK _ O
      · go_simp
        exact hK _ O
      · go_simp
        exact hK _ O
      · go_simp
        exact hK _ O
      · go_simp
        exact hK _ O
      · go_simp
        exact hK _ O
      · go_simp
        exact hK _ O
      · go_simp
        exact hK _ O
      · go_simp
        exact hK _ O
      · go_simp
        exact hK _ O
      · go_simp
        exact hK _ O
      · go_simp
        exact hK _ O
      · go_simp
        exact hK _ O
      · go_simp
        exact hK _ O
      · go_simp
        exact hK _ O
      · go_simp
        exact hK _ O
      · go_simp
        exact hK _ O
      · go_simp
        exact hK _ O
      · exact wp_row_own O 2 rfl rfl Try.underlying32 (s32 _) (hK _ O)
      · exact wp_row_own O 1 rfl rfl Try.underlying32 (s32 _) (hK _ O)
      · refine wp_eq_mat Try.underlying32 Try.eqGuardType32 (z) (z) rfl rfl ?_
        rw [M.eqB_refl]
        exact hK _ O
      · go_simp
        exact hK _ O
      · go_simp
        exact hK _ O
      · exact wp_row_own O 0 rfl rfl Try.underlying23 (s23 _) (hK _ O)
      · exact wp_row_own O 4 rfl rfl Try.underlying23 (s23 _) (hK _ O)
      · go_simp
        go_at_call 14
        refine (flip_any _ _).mono ?_
        rintro e w2 ⟨rfl, hb⟩
        exact hK _ (O.call hb)
      · refine wp_eq_mat Try.underlying23 Try.eqGuardType23 (M.flip (M.whole p)) (M.flip (M.whole p)) rfl rfl ?_
        rw [M.eqB_refl]
        exact hK _ O
      · go_simp
        exact hK _ O
      refine wpAny_one (i := 32) (by kernel_rfl) rfl (fun K hK => ?_)
      go_simp
      refine hK _ _ ?_
      clear hK K
      try simp only [Act.put, List.setIfInBounds_toArray, List.set_cons_zero, List.set_cons_succ]
      refine wpAny_done (by kernel_rfl) ?_ _
      go_wp2_with fail
      go_ret
      exact ⟨rfl, O.below⟩

theorem readable : ∀ t ∈ Try.f8.params.toList, Try.prog.readableRec t = true ∧ t < Try.prog.types.size := by
  intro t ht
  rw [Try.params8] at ht
  simp only [List.mem_cons, List.not_mem_nil, or_false] at ht
  repeat (first | (rcases ht with rfl | ht; exact ⟨by kernel_rfl, of_decide_eq_true (by kernel_rfl)⟩) | (subst ht; exact ⟨by kernel_rfl, of_decide_eq_true (by kernel_rfl)⟩))
set_option maxRecDepth 100000 in
theorem lifted (os : Os) (started : os.Started) (H : Type) (enc : TypeId × Value → H) :
    ReturnsInHanded {} Try.checked os 8 .any (Rows.matJoinsSpec.pre6 enc Try.prog Try.f8 Rows.matJoinsRow.domain false) (Rows.matJoinsSpec.post enc Try.prog Try.f8 false true false false) := by
  refine returnsInHanded_of_change (C := Try.checked) own started (by kernel_rfl) Try.func8
    (ChangeSpec.witness6 (enc := enc) (C := Try.checked) false ⟨#[], #[.agg #[.int .i8 0, .int .i8 0, .int .i8 0, .int .i8 0, .int .i8 0, .int .i8 0, .int .i8 0, .int .i8 0, .int .i8 0, .int .i8 0, .int .i8 0, .int .i8 0, .int .i8 0, .int .i8 0, .int .i8 0, .int .i8 0], .agg #[.int .i8 0, .int .i8 0, .int .i8 0, .int .i8 0, .int .i8 0, .int .i8 0, .int .i8 0, .int .i8 0, .int .i8 0, .int .i8 0, .int .i8 0, .int .i8 0, .int .i8 0, .int .i8 0, .int .i8 0, .int .i8 0], .agg #[.int .i16 0, .int .i16 0, .int .i16 0, .int .i16 0]], []⟩ 8 (by kernel_rfl) (by kernel_rfl) (by kernel_rfl) (by kernel_rfl)) ?_
  intro W base args ds gs before hval0 hW hcnd _
  have hval : ∀ (j : Nat) t v, Try.f8.params[j]? = some t → args[j]? = some v → Value.okWide Try.prog W .any base t v := hval0
  have hW' := hW
  obtain ⟨p, q, hA0, hV, rfl, hfz, hnd⟩ := hW
  have hA : DataW.TrodAll enc Try.prog W 0 (fun _ => true) true Try.f8.params.toList args.toList ds p := hA0
  rw [Try.params8] at hA hval
  have hlt : ∀ x ∈ p ++ q, x.block < W.heap.size := fun x hx => hW'.lt x hx
  obtain ⟨v0, vs0, d0, ds0, p0, q0, hargs, rfl, rfl, h0, rr0⟩ := trodAll_cons hA
  obtain ⟨v1, vs1, d1, ds1, p1, q1, rfl, rfl, rfl, h1, rr1⟩ := trodAll_cons rr0
  obtain ⟨v2, vs2, d2, ds2, p2, q2, rfl, rfl, rfl, h2, rr2⟩ := trodAll_cons rr1
  obtain ⟨rfl, rfl, rfl⟩ := trodAll_nil rr2
  obtain rfl : args = #[v0, v1, v2] := by cases args; simp_all
  obtain ⟨rfl, rfl⟩ := trodVars_none hV
  obtain ⟨a0, rfl, r0⟩ := open43 (hval 0 43 v0 rfl rfl) h0
  obtain ⟨a1, rfl, r1⟩ := open43 (hval 1 43 v1 rfl rfl) h1
  obtain ⟨a2, rfl, r2⟩ := open45 (hval 2 45 v2 rfl rfl) h2
  clear hA0 hval0
  refine (walk a0 a1 a2 r2 W).mono fun e W' ⟨he, hg⟩ => ?_
  subst he
  exact ⟨_, rfl, post_true (tb := 4) laid readable (by kernel_rfl) Try.underlying4 rfl (fun l hl => by
    match l, hl with
    | [_, _, _], _ => exact ⟨rfl, rfl, rfl⟩) hW' hg⟩

theorem over : Rows.matJoinsRow.holds Try.pinned (OpenSpec.ofChange Rows.matJoinsSpec) :=
  OpenClaim.holds_of_wide 8 Try.f8 rfl rfl rfl rfl rfl rfl rfl ⟨rfl, rfl, rfl, rfl, rfl⟩ rfl rfl rfl rfl rfl (by kernel_rfl) Try.func8 (by kernel_rfl)
    (of_decide_eq_true (by kernel_rfl)) (by unfold Func.isWrapper; first | (rw [if_pos (by decide +kernel)]; kernel_rfl) | (rw [if_neg (by decide +kernel)]; exact ⟨rfl, rfl⟩))
    (fun os started H enc _ => lifted os started H enc)

theorem proved : Rows.MatJoinsSaid :=
  over
#print axioms proved
end Go.Proofs.Ytidaffgfhmbomaa.matJoins
