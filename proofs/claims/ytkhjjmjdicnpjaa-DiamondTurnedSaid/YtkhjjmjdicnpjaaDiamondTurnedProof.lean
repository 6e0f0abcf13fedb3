/-
  DiamondTurned: for every two points and every pixel, a line meets the diamonds that the line back meets, those of its ends among them, and a line from a point to itself exits from none.
-/
import Derived.Test.YtkhjjmjdicnpjaaWe
import Derived.Test.YtkhjjmjdicnpjaaWi
import Derived.Deep.DeepCutAuto
namespace Go.Proofs.Ytkhjjmjdicnpjaa.diamondTurned
open Go.ChangeShapes Go.WideShapes Go.ChangeAt Go.RowKit
set_option linter.unusedVariables false
set_option linter.unusedSimpArgs false

theorem own : ownKnob Try.prog.godebug = none := by kernel_rfl
theorem _root_.Go.Proofs.Ytkhjjmjdicnpjaa.DM.inr_is {X Y x y : Int} (h : DM.inr X Y = (x, y, true)) : DM.inside (DM.rel X x) (DM.rel Y y) = true := by
  unfold DM.inr at h
  rw [DM.pix_iff]
  split at h
  · rename_i z e
    rw [e]
    simp only [Prod.mk.injEq] at h
    obtain ⟨rfl, rfl, _⟩ := h
    rfl
  · simp at h

set_option maxRecDepth 100000 in
set_option maxHeartbeats 16000000 in
theorem walk (w : World) (a b p : Nat → Int) :
    Calls Try.prog 5 #[arr 2 a, arr 2 b, arr 2 p] w fun e w' => e = .returned (.bool true) ∧ Below w.heap.size w w' := by
  have O := Own.start w
  have MA := fun w => may_any a w
  have MB := fun w => may_any b w
  obtain ⟨p0, ep0⟩ : ∃ z, p 0 = z := ⟨_, rfl⟩
  have Cp0 := cell_is (n := 2) ep0 (by decide)
  obtain ⟨p1, ep1⟩ : ∃ z, p 1 = z := ⟨_, rfl⟩
  have Cp1 := cell_is (n := 2) ep1 (by decide)
  have NR := fun w => near_any p0 p1 w
  have tok0 : True := trivial
  cases h1 : DM.may (a 0) (a 1)
  · rw [h1] at MA
    clear h1 MB ep0 ep1
    go_enter Try.func5, Try.ntmps5
    go_wp2_with (first | ((with_reducible refine at_box 3 ?_); refine wpList_box_own O (M.mat 2 (a)) rfl ?_; clear O; intro g3 w1 O) | ((with_reducible refine at_box 4 ?_); refine wpList_box_own O (M.mat 2 (b)) rfl ?_; clear O; intro g4 w2 O) | ((with_reducible refine at_box 5 ?_); refine wpList_box_own O (M.mat 2 (p)) rfl ?_; clear O; intro g5 w3 O) | ((with_reducible refine at_load 10 ?_); refine wpList_whole rfl O 2 rfl rfl Try.underlying23 rfl (sP _) ?_) | (go_at_call 8; clear tok0; have tok1 : True := trivial; refine (MA _).mono ?_; rintro e w4 ⟨rfl, hb⟩; replace O := O.call hb; clear hb) | ((with_reducible refine at_load 14 ?_); refine wpList_whole rfl O 1 rfl rfl Try.underlying23 rfl (sP _) ?_) | ((with_reducible refine at_load 20 ?_); refine wpList_cell_h (v := .int .i64 (p0)) rfl O.held 0 rfl Cp0.out rfl agg3 rfl ?_) | ((with_reducible refine at_load 22 ?_); refine wpList_cell_h (v := .int .i64 (p1)) rfl O.held 0 rfl Cp1.out rfl agg3 rfl ?_) | (go_at_call 9; refine (awake_any _).mono ?_; rintro e w6 ⟨rfl, hb⟩; replace O := O.call hb; clear hb))
    go_ret
    exact ⟨rfl, O.below⟩
  cases h2 : DM.may (b 0) (b 1)
  · rw [h1] at MA
    rw [h2] at MB
    clear h1 h2 ep0 ep1
    go_enter Try.func5, Try.ntmps5
    go_wp2_with (first | ((with_reducible refine at_box 3 ?_); refine wpList_box_own O (M.mat 2 (a)) rfl ?_; clear O; intro g3 w1 O) | ((with_reducible refine at_box 4 ?_); refine wpList_box_own O (M.mat 2 (b)) rfl ?_; clear O; intro g4 w2 O) | ((with_reducible refine at_box 5 ?_); refine wpList_box_own O (M.mat 2 (p)) rfl ?_; clear O; intro g5 w3 O) | ((with_reducible refine at_load 10 ?_); refine wpList_whole rfl O 2 rfl rfl Try.underlying23 rfl (sP _) ?_) | (go_at_call 8; clear tok0; have tok1 : True := trivial; refine (MA _).mono ?_; rintro e w4 ⟨rfl, hb⟩; replace O := O.call hb; clear hb) | ((with_reducible refine at_load 14 ?_); refine wpList_whole rfl O 1 rfl rfl Try.underlying23 rfl (sP _) ?_) | (go_at_call 8; clear tok1; have tok2 : True := trivial; refine (MB _).mono ?_; rintro e w5 ⟨rfl, hb⟩; replace O := O.call hb; clear hb; have f0 := O.cell 0 rfl Cp0.out; have f1 := O.cell 0 rfl Cp1.out) | ((with_reducible refine at_load 20 ?_); refine wpList_cell_h (v := .int .i64 (p0)) rfl O.held 0 rfl Cp0.out rfl agg3 rfl ?_) | ((with_reducible refine at_load 22 ?_); refine wpList_cell_h (v := .int .i64 (p1)) rfl O.held 0 rfl Cp1.out rfl agg3 rfl ?_) | (go_at_call 9; refine (awake_any _).mono ?_; rintro e w6 ⟨rfl, hb⟩; replace O := O.call hb; clear hb))
    go_ret
    exact ⟨rfl, O.below⟩
  cases h3 : DM.near p0 p1
  · rw [h1] at MA
    rw [h2] at MB
    rw [h3] at NR
    clear h1 h2 h3 ep0 ep1
    go_enter Try.func5, Try.ntmps5
    go_wp2_with (first | ((with_reducible refine at_box 3 ?_); refine wpList_box_own O (M.mat 2 (a)) rfl ?_; clear O; intro g3 w1 O) | ((with_reducible refine at_box 4 ?_); refine wpList_box_own O (M.mat 2 (b)) rfl ?_; clear O; intro g4 w2 O) | ((with_reducible refine at_box 5 ?_); refine wpList_box_own O (M.mat 2 (p)) rfl ?_; clear O; intro g5 w3 O) | ((with_reducible refine at_load 10 ?_); refine wpList_whole rfl O 2 rfl rfl Try.underlying23 rfl (sP _) ?_) | (go_at_call 8; clear tok0; have tok1 : True := trivial; refine (MA _).mono ?_; rintro e w4 ⟨rfl, hb⟩; replace O := O.call hb; clear hb) | ((with_reducible refine at_load 14 ?_); refine wpList_whole rfl O 1 rfl rfl Try.underlying23 rfl (sP _) ?_) | (go_at_call 8; clear tok1; have tok2 : True := trivial; refine (MB _).mono ?_; rintro e w5 ⟨rfl, hb⟩; replace O := O.call hb; clear hb; have f0 := O.cell 0 rfl Cp0.out; have f1 := O.cell 0 rfl Cp1.out) | ((with_reducible refine at_load 20 ?_); refine wpList_cell_h (v := .int .i64 (p0)) rfl O.held 0 rfl Cp0.out rfl agg3 rfl ?_) | ((with_reducible refine at_load 22 ?_); refine wpList_cell_h (v := .int .i64 (p1)) rfl O.held 0 rfl Cp1.out rfl agg3 rfl ?_) | (go_at_call 12; refine (NR _).mono ?_; rintro e w' ⟨rfl, rfl⟩) | (go_at_call 9; refine (awake_any _).mono ?_; rintro e w6 ⟨rfl, hb⟩; replace O := O.call hb; clear hb))
    go_ret
    exact ⟨rfl, O.below⟩
  have ra : DM.Rg a := DM.may_iff.1 h1
  have rb : DM.Rg b := DM.may_iff.1 h2
  have rx : DM.Rx p0 p1 := DM.near_iff.1 h3
  rw [h1] at MA
  rw [h2] at MB
  rw [h3] at NR
  clear h1 h2 h3 ep0 ep1
  have CM := fun w => meets_any a b p0 p1 ra rb rx w
  have CN := fun w => meets_any b a p0 p1 rb ra rx w
  have CI := fun w => in_any a ra w
  have CK := fun x y h w => meets_any a b x y ra rb h w
  have CX := fun w => exits_any a a p0 p1 ra ra rx w
  have hx : DM.exits (DM.rel (a 0) p0) (DM.rel (a 1) p1) (DM.rel (a 0) p0) (DM.rel (a 1) p1) = false := by
    rw [DM.exits, DM.meets_self]
    cases DM.inside (DM.rel (a 0) p0) (DM.rel (a 1) p1) <;> rfl
  rw [hx] at CX
  rw [DM.meets_turned] at CN
  clear hx ra rb rx
  generalize DM.meets (DM.rel (a 0) p0) (DM.rel (a 1) p1) (DM.rel (b 0) p0) (DM.rel (b 1) p1) = m at CM CN
  unfold RetIn at CI
  have HI := fun x y h => DM.inr_is (X := a 0) (Y := a 1) (x := x) (y := y) h
  obtain ⟨r, hr⟩ : ∃ r, DM.inr (a 0) (a 1) = r := ⟨_, rfl⟩
  rw [hr] at CI HI
  clear hr
  obtain ⟨x, y, k⟩ := r
  simp only at CI
  have CQ := fun w => near_any x y w
  have tokn : True := trivial
  cases k
  · clear HI CK
    go_enter Try.func5, Try.ntmps5
    go_wp2_with (first | ((with_reducible refine at_box 3 ?_); refine wpList_box_own O (M.mat 2 (a)) rfl ?_; clear O; intro g3 w1 O) | ((with_reducible refine at_box 4 ?_); refine wpList_box_own O (M.mat 2 (b)) rfl ?_; clear O; intro g4 w2 O) | ((with_reducible refine at_box 5 ?_); refine wpList_box_own O (M.mat 2 (p)) rfl ?_; clear O; intro g5 w3 O) | ((with_reducible refine at_load 10 ?_); refine wpList_whole rfl O 2 rfl rfl Try.underlying23 rfl (sP _) ?_) | (go_at_call 8; clear tok0; have tok1 : True := trivial; refine (MA _).mono ?_; rintro e w4 ⟨rfl, hb⟩; replace O := O.call hb; clear hb) | ((with_reducible refine at_load 14 ?_); refine wpList_whole rfl O 1 rfl rfl Try.underlying23 rfl (sP _) ?_) | (go_at_call 8; clear tok1; have tok2 : True := trivial; refine (MB _).mono ?_; rintro e w5 ⟨rfl, hb⟩; replace O := O.call hb; clear hb; have f0 := O.cell 0 rfl Cp0.out; have f1 := O.cell 0 rfl Cp1.out) | ((with_reducible refine at_load 20 ?_); refine wpList_cell_h (v := .int .i64 (p0)) rfl O.held 0 rfl Cp0.out rfl agg3 rfl ?_) | ((with_reducible refine at_load 22 ?_); refine wpList_cell_h (v := .int .i64 (p1)) rfl O.held 0 rfl Cp1.out rfl agg3 rfl ?_) | (go_at_call_of 12 (Value.int IntKind.i64 p0); refine (NR _).mono ?_; rintro e w' ⟨rfl, rfl⟩) | ((with_reducible refine at_load 28 ?_); refine wpList_whole rfl O 2 rfl rfl Try.underlying23 rfl (sP _) ?_) | (go_at_call 10; refine (CI _).mono ?_; rintro e w7 ⟨rfl, hb⟩; replace O := O.call hb; clear hb))
    try clear f0 f1
    refine region_T ((fun w2 => Own w w2 [(g5, 28, M.mat 2 p), (g4, 23, M.mat 2 b), (g3, 23, M.mat 2 a)])) [0, 1, 2, 3, 4, 5, 6, 7, 8, 9, 10, 11, 12, 13, 14, 15, 16, 17, 18, 19, 20, 21, 22, 23, 24, 25, 26, 27, 28, 29, 30, 31, 32, 33, 34, 35, 36, 37, 38, 39, 40, 41, 42, 43, 44] 12 [some 33, some 34, some 35, some 36, some 37, some 38, some 39, some 40, some 41, some 42, some 43, some 44, some 45, some 46, some 47, some 48, some 49, some 50, some 51, some 52, some 53, some 54, some 55, some 56, some 57, some 58, some 59, some 60, some 61, some 62, some 63, some 64, some 65, some 66, some 67, some 68, some 69, some 70, some 71, some 72, some 73, some 74, some 75, some 76, some 77] [.bool true, .bool true, arr 2 a, arr 2 b, .pointer (some ⟨g5, 0, none⟩), .int .i64 p0, .pointer (some ⟨g5, 1, none⟩), .int .i64 p1, .bool m, arr 2 b, arr 2 a, .pointer (some ⟨g5, 0, none⟩), .int .i64 p0, .pointer (some ⟨g5, 1, none⟩), .int .i64 p1, .bool m, .bool true, .bool true, .bool true, .bool false, .bool true, .bool true, undef, undef, undef, undef, .bool true, .bool true, undef, undef, undef, undef, undef, .bool true, .bool true, .bool true, arr 2 a, arr 2 a, .pointer (some ⟨g5, 0, none⟩), .int .i64 p0, .pointer (some ⟨g5, 1, none⟩), .int .i64 p1, .bool false, .bool true, .bool true] 1 (by kernel_rfl) (by rfl) (by kernel_rfl) (by rfl) (by rfl) (O.drew) (fun F hF => ?_)
    simp only [fillD, Act.put, List.setIfInBounds_toArray, List.set_cons_zero, List.set_cons_succ] at hF
    subst hF
    refine ⟨⟨does_want rfl (by rfl) (fun w' O K hK => ?_), does_want rfl (by rfl) (fun w' O K hK => ?_), does_want rfl (by rfl) (fun w' O K hK => ?_), does_want rfl (by rfl) (fun w' O K hK => ?_), does_want rfl (by rfl) (fun w' O K hK => ?_), does_want rfl (by rfl) (fun w' O K hK => ?_), does_want rfl (by rfl) (fun w' O K hK => ?_), does_want rfl (by rfl) (fun w' O K hK => ?_), does_want rfl (by rfl) (fun w' O K hK => ?_), does_want rfl (by rfl) (fun w' O K hK => ?_), does_want rfl (by rfl) (fun w' O K hK => ?_), does_want rfl (by rfl) (fun w' O K hK => ?_), does_want rfl (by rfl) (fun w' O K hK => ?_), does_want rfl (by rfl) (fun w' O K hK => ?_), does_want rfl (by rfl) (fun w' O K hK => ?_), does_want rfl (by rfl) (fun w' O K hK => ?_), does_want rfl (by rfl) (fun w' O K hK => ?_), does_want rfl (by rfl) (fun w' O K hK => ?_), does_want rfl (by rfl) (fun w' O K hK => ?_), does_want rfl (by rfl) (fun w' O K hK => ?_), does_want rfl (by rfl) (fun w' O K hK => ?_), does_want rfl (by rfl) (fun w' O K hK => ?_), does_skip rfl (by rfl), does_skip rfl (by rfl), does_skip rfl (by rfl), does_skip rfl (by rfl), does_want rfl (by rfl) (fun w' O K hK => ?_), does_want rfl (by rfl) (fun w' O K hK => ?_), does_skip rfl (by rfl), does_skip rfl (by rfl), does_skip rfl (by rfl), does_skip rfl (by rfl), does_skip rfl (by rfl), does_want rfl (by rfl) (fun w' O K hK => ?_), does_want rfl (by rfl) (fun w' O K hK => ?_), does_want rfl (by rfl) (fun w' O K hK => ?_), does_want rfl (by rfl) (fun w' O K hK => ?_), does_want rfl (by rfl) (fun w' O K hK => ?_), does_want rfl (by rfl) (fun w' O K hK => ?_), does_want rfl (by rfl) (fun w' O K hK => ?_), does_want rfl (by rfl) (fun w' O K hK => ?_), does_want rfl (by rfl) (fun w' O K hK => ?_), does_want rfl (by rfl) (fun w' O K hK => ?_), does_want rfl (by rfl) (fun w' O K hK => ?_), does_want rfl (by rfl) (fun w' O K hK => ?_), trivial⟩, fun w' O => ?_⟩
    · go_simp
      go_at_call 9
      refine (awake_any _).mono ?_
      rintro e w2 ⟨rfl, hb⟩
      exact hK _ (O.call hb)
    · go_simp
      exact hK _ O
    · exact wp_whole O 2 rfl rfl Try.underlying23 rfl (sP _) (hK _ O)
    · exact wp_whole O 1 rfl rfl Try.underlying23 rfl (sP _) (hK _ O)
    · go_simp
      exact hK _ O
    · exact wp_cell_h (v := .int .i64 (p0)) O.held 0 rfl Cp0.out rfl agg3 rfl (hK _ O)
    · go_simp
      exact hK _ O
    · exact wp_cell_h (v := .int .i64 (p1)) O.held 0 rfl Cp1.out rfl agg3 rfl (hK _ O)
    · go_simp
      go_at_call 13
      refine (CM _).mono ?_
      rintro e w2 ⟨rfl, hb⟩
      exact hK _ (O.call hb)
    · exact wp_whole O 1 rfl rfl Try.underlying23 rfl (sP _) (hK _ O)
    · exact wp_whole O 2 rfl rfl Try.underlying23 rfl (sP _) (hK _ O)
    · go_simp
      exact hK _ O
    · exact wp_cell_h (v := .int .i64 (p0)) O.held 0 rfl Cp0.out rfl agg3 rfl (hK _ O)
    · go_simp
      exact hK _ O
    · exact wp_cell_h (v := .int .i64 (p1)) O.held 0 rfl Cp1.out rfl agg3 rfl (hK _ O)
    · go_simp
      go_at_call 13
      refine (CN _).mono ?_
      rintro e w2 ⟨rfl, hb⟩
      exact hK _ (O.call hb)
    · go_simp
      exact hK _ O
    · go_simp
      exact hK _ O
    · go_simp
      exact hK _ O
    · go_simp
      exact hK _ O
    · go_simp
      exact hK _ O
    · go_simp
      exact hK _ O
    · go_simp
      exact hK _ O
    · go_simp
      exact hK _ O
    · go_simp
      exact hK _ O
    · go_simp
      exact hK _ O
    · go_simp
      exact hK _ O
    · exact wp_whole O 2 rfl rfl Try.underlying23 rfl (sP _) (hK _ O)
    · exact wp_whole O 2 rfl rfl Try.underlying23 rfl (sP _) (hK _ O)
    · go_simp
      exact hK _ O
    · exact wp_cell_h (v := .int .i64 (p0)) O.held 0 rfl Cp0.out rfl agg3 rfl (hK _ O)
    · go_simp
      exact hK _ O
    · exact wp_cell_h (v := .int .i64 (p1)) O.held 0 rfl Cp1.out rfl agg3 rfl (hK _ O)
    · go_simp
      go_at_call 15
      refine (CX _).mono ?_
      rintro e w2 ⟨rfl, hb⟩
      exact hK _ (O.call hb)
    · go_simp
      exact hK _ O
    · go_simp
      exact hK _ O
    refine wpAny_one (i := 45) (by kernel_rfl) rfl (fun K hK => ?_)
    go_simp
    refine hK _ _ ?_
    clear hK K
    try simp only [Act.put, List.setIfInBounds_toArray, List.set_cons_zero, List.set_cons_succ]
    refine wpAny_done (by kernel_rfl) ?_ _
    go_wp2_with fail
    go_ret
    exact ⟨rfl, O.below⟩
  · have hi := HI x y rfl
    cases hn : DM.near x y
    · rw [hn] at CQ
      clear hn HI CK hi
      go_enter Try.func5, Try.ntmps5
      go_wp2_with (first | ((with_reducible refine at_box 3 ?_); refine wpList_box_own O (M.mat 2 (a)) rfl ?_; clear O; intro g3 w1 O) | ((with_reducible refine at_box 4 ?_); refine wpList_box_own O (M.mat 2 (b)) rfl ?_; clear O; intro g4 w2 O) | ((with_reducible refine at_box 5 ?_); refine wpList_box_own O (M.mat 2 (p)) rfl ?_; clear O; intro g5 w3 O) | ((with_reducible refine at_load 10 ?_); refine wpList_whole rfl O 2 rfl rfl Try.underlying23 rfl (sP _) ?_) | (go_at_call 8; clear tok0; have tok1 : True := trivial; refine (MA _).mono ?_; rintro e w4 ⟨rfl, hb⟩; replace O := O.call hb; clear hb) | ((with_reducible refine at_load 14 ?_); refine wpList_whole rfl O 1 rfl rfl Try.underlying23 rfl (sP _) ?_) | (go_at_call 8; clear tok1; have tok2 : True := trivial; refine (MB _).mono ?_; rintro e w5 ⟨rfl, hb⟩; replace O := O.call hb; clear hb; have f0 := O.cell 0 rfl Cp0.out; have f1 := O.cell 0 rfl Cp1.out) | ((with_reducible refine at_load 20 ?_); refine wpList_cell_h (v := .int .i64 (p0)) rfl O.held 0 rfl Cp0.out rfl agg3 rfl ?_) | ((with_reducible refine at_load 22 ?_); refine wpList_cell_h (v := .int .i64 (p1)) rfl O.held 0 rfl Cp1.out rfl agg3 rfl ?_) | (go_at_call_of 12 (Value.int IntKind.i64 p0); refine (NR _).mono ?_; rintro e w' ⟨rfl, rfl⟩) | ((with_reducible refine at_load 28 ?_); refine wpList_whole rfl O 2 rfl rfl Try.underlying23 rfl (sP _) ?_) | (go_at_call 10; refine (CI _).mono ?_; rintro e w7 ⟨rfl, hb⟩; replace O := O.call hb; clear hb))
      try clear f0 f1
      refine region_T ((fun w2 => Own w w2 [(g5, 28, M.mat 2 p), (g4, 23, M.mat 2 b), (g3, 23, M.mat 2 a)])) [0, 1, 2, 3, 4, 5, 6, 7, 8, 9, 10, 11, 12, 13, 14, 15, 16, 17, 18, 19, 20, 21, 22, 23, 24, 25, 26, 27, 28, 29, 30, 31, 32, 33, 34, 35, 36, 37, 38, 39, 40, 41, 42, 43, 44] 12 [some 33, some 34, some 35, some 36, some 37, some 38, some 39, some 40, some 41, some 42, some 43, some 44, some 45, some 46, some 47, some 48, some 49, some 50, some 51, some 52, some 53, some 54, some 55, some 56, some 57, some 58, some 59, some 60, some 61, some 62, some 63, some 64, some 65, some 66, some 67, some 68, some 69, some 70, some 71, some 72, some 73, some 74, some 75, some 76, some 77] [.bool true, .bool true, arr 2 a, arr 2 b, .pointer (some ⟨g5, 0, none⟩), .int .i64 p0, .pointer (some ⟨g5, 1, none⟩), .int .i64 p1, .bool m, arr 2 b, arr 2 a, .pointer (some ⟨g5, 0, none⟩), .int .i64 p0, .pointer (some ⟨g5, 1, none⟩), .int .i64 p1, .bool m, .bool true, .bool true, .bool true, .bool true, .bool false, .bool false, .int .i64 x, .int .i64 y, .bool false, .bool true, .bool true, .bool true, undef, undef, undef, undef, undef, .bool true, .bool true, .bool true, arr 2 a, arr 2 a, .pointer (some ⟨g5, 0, none⟩), .int .i64 p0, .pointer (some ⟨g5, 1, none⟩), .int .i64 p1, .bool false, .bool true, .bool true] 1 (by kernel_rfl) (by rfl) (by kernel_rfl) (by rfl) (by rfl) (O.drew) (fun F hF => ?_)
      simp only [fillD, Act.put, List.setIfInBounds_toArray, List.set_cons_zero, List.set_cons_succ] at hF
      subst hF
      refine ⟨⟨does_want rfl (by rfl) (fun w' O K hK => ?_), does_want rfl (by rfl) (fun w' O K hK => ?_), does_want rfl (by rfl) (fun w' O K hK => ?_), does_want rfl (by rfl) (fun w' O K hK => ?_), does_want rfl (by rfl) (fun w' O K hK => ?_), does_want rfl (by rfl) (fun w' O K hK => ?_), does_want rfl (by rfl) (fun w' O K hK => ?_), does_want rfl (by rfl) (fun w' O K hK => ?_), does_want rfl (by rfl) (fun w' O K hK => ?_), does_want rfl (by rfl) (fun w' O K hK => ?_), does_want rfl (by rfl) (fun w' O K hK => ?_), does_want rfl (by rfl) (fun w' O K hK => ?_), does_want rfl (by rfl) (fun w' O K hK => ?_), does_want rfl (by rfl) (fun w' O K hK => ?_), does_want rfl (by rfl) (fun w' O K hK => ?_), does_want rfl (by rfl) (fun w' O K hK => ?_), does_want rfl (by rfl) (fun w' O K hK => ?_), does_want rfl (by rfl) (fun w' O K hK => ?_), does_want rfl (by rfl) (fun w' O K hK => ?_), does_want rfl (by rfl) (fun w' O K hK => ?_), does_want rfl (by rfl) (fun w' O K hK => ?_), does_want rfl (by rfl) (fun w' O K hK => ?_), does_want rfl (by rfl) (fun w' O K hK => ?_), does_want rfl (by rfl) (fun w' O K hK => ?_), does_want rfl (by rfl) (fun w' O K hK => ?_), does_want rfl (by rfl) (fun w' O K hK => ?_), does_want rfl (by rfl) (fun w' O K hK => ?_), does_want rfl (by rfl) (fun w' O K hK => ?_), does_skip rfl (by rfl), does_skip rfl (by rfl), does_skip rfl (by rfl), does_skip rfl (by rfl), does_skip rfl (by rfl), does_want rfl (by rfl) (fun w' O K hK => ?_), does_want rfl (by rfl) (fun w' O K hK => ?_), does_want rfl (by rfl) (fun w' O K hK => ?_), does_want rfl (by rfl) (fun w' O K hK => ?_), does_want rfl (by rfl) (fun w' O K hK => ?_), does_want rfl (by rfl) (fun w' O K hK => ?_), does_want rfl (by rfl) (fun w' O K hK => ?_), does_want rfl (by rfl) (fun w' O K hK => ?_), does_want rfl (by rfl) (fun w' O K hK => ?_), does_want rfl (by rfl) (fun w' O K hK => ?_), does_want rfl (by rfl) (fun w' O K hK => ?_), does_want rfl (by rfl) (fun w' O K hK => ?_), trivial⟩, fun w' O => ?_⟩
      · go_simp
        go_at_call 9
        refine (awake_any _).mono ?_
        rintro e w2 ⟨rfl, hb⟩
        exact hK _ (O.call hb)
      · go_simp
        exact hK _ O
      · exact wp_whole O 2 rfl rfl Try.underlying23 rfl (sP _) (hK _ O)
      · exact wp_whole O 1 rfl rfl Try.underlying23 rfl (sP _) (hK _ O)
      · go_simp
        exact hK _ O
      · exact wp_cell_h (v := .int .i64 (p0)) O.held 0 rfl Cp0.out rfl agg3 rfl (hK _ O)
      · go_simp
        exact hK _ O
      · exact wp_cell_h (v := .int .i64 (p1)) O.held 0 rfl Cp1.out rfl agg3 rfl (hK _ O)
      · go_simp
        go_at_call 13
        refine (CM _).mono ?_
        rintro e w2 ⟨rfl, hb⟩
        exact hK _ (O.call hb)
      · exact wp_whole O 1 rfl rfl Try.underlying23 rfl (sP _) (hK _ O)
      · exact wp_whole O 2 rfl rfl Try.underlying23 rfl (sP _) (hK _ O)
      · go_simp
        exact hK _ O
      · exact wp_cell_h (v := .int .i64 (p0)) O.held 0 rfl Cp0.out rfl agg3 rfl (hK _ O)
      · go_simp
        exact hK _ O
      · exact wp_cell_h (v := .int .i64 (p1)) O.held 0 rfl Cp1.out rfl agg3 rfl (hK _ O)
      · go_simp
        go_at_call 13
        refine (CN _).mono ?_
        rintro e w2 ⟨rfl, hb⟩
        exact hK _ (O.call hb)
      · go_simp
        exact hK _ O
      · go_simp
        exact hK _ O
      · go_simp
        exact hK _ O
      · go_simp
        exact hK _ O
      · go_simp
        exact hK _ O
      · go_simp
        exact hK _ O
      · go_simp
        exact hK _ O
      · go_simp
        exact hK _ O
      · go_simp
        go_at_call 12
        refine (CQ _).mono ?_
        rintro e w2 ⟨rfl, hw⟩
        obtain rfl := hw.symm
        clear hw
        exact hK _ O
      · go_simp
        exact hK _ O
      · go_simp
        exact hK _ O
      · go_simp
        exact hK _ O
      · go_simp
        exact hK _ O
      · go_simp
        exact hK _ O
      · go_simp
        exact hK _ O
      · exact wp_whole O 2 rfl rfl Try.underlying23 rfl (sP _) (hK _ O)
      · exact wp_whole O 2 rfl rfl Try.underlying23 rfl (sP _) (hK _ O)
      · go_simp
        exact hK _ O
      · exact wp_cell_h (v := .int .i64 (p0)) O.held 0 rfl Cp0.out rfl agg3 rfl (hK _ O)
      · go_simp
        exact hK _ O
      · exact wp_cell_h (v := .int .i64 (p1)) O.held 0 rfl Cp1.out rfl agg3 rfl (hK _ O)
      · go_simp
        go_at_call 15
        refine (CX _).mono ?_
        rintro e w2 ⟨rfl, hb⟩
        exact hK _ (O.call hb)
      · go_simp
        exact hK _ O
      · go_simp
        exact hK _ O
      refine wpAny_one (i := 45) (by kernel_rfl) rfl (fun K hK => ?_)
      go_simp
      refine hK _ _ ?_
      clear hK K
      try simp only [Act.put, List.setIfInBounds_toArray, List.set_cons_zero, List.set_cons_succ]
      refine wpAny_done (by kernel_rfl) ?_ _
      go_wp2_with fail
      go_ret
      exact ⟨rfl, O.below⟩
    · have CZ := fun w => CK x y (DM.near_iff.1 hn) w
      rw [hn] at CQ
      rw [DM.inside_meets _ _ hi] at CZ
      clear hn HI CK hi
      go_enter Try.func5, Try.ntmps5
      go_wp2_with (first | ((with_reducible refine at_box 3 ?_); refine wpList_box_own O (M.mat 2 (a)) rfl ?_; clear O; intro g3 w1 O) | ((with_reducible refine at_box 4 ?_); refine wpList_box_own O (M.mat 2 (b)) rfl ?_; clear O; intro g4 w2 O) | ((with_reducible refine at_box 5 ?_); refine wpList_box_own O (M.mat 2 (p)) rfl ?_; clear O; intro g5 w3 O) | ((with_reducible refine at_load 10 ?_); refine wpList_whole rfl O 2 rfl rfl Try.underlying23 rfl (sP _) ?_) | (go_at_call 8; clear tok0; have tok1 : True := trivial; refine (MA _).mono ?_; rintro e w4 ⟨rfl, hb⟩; replace O := O.call hb; clear hb) | ((with_reducible refine at_load 14 ?_); refine wpList_whole rfl O 1 rfl rfl Try.underlying23 rfl (sP _) ?_) | (go_at_call 8; clear tok1; have tok2 : True := trivial; refine (MB _).mono ?_; rintro e w5 ⟨rfl, hb⟩; replace O := O.call hb; clear hb; have f0 := O.cell 0 rfl Cp0.out; have f1 := O.cell 0 rfl Cp1.out) | ((with_reducible refine at_load 20 ?_); refine wpList_cell_h (v := .int .i64 (p0)) rfl O.held 0 rfl Cp0.out rfl agg3 rfl ?_) | ((with_reducible refine at_load 22 ?_); refine wpList_cell_h (v := .int .i64 (p1)) rfl O.held 0 rfl Cp1.out rfl agg3 rfl ?_) | (go_at_call_of 12 (Value.int IntKind.i64 p0); refine (NR _).mono ?_; rintro e w' ⟨rfl, rfl⟩) | ((with_reducible refine at_load 28 ?_); refine wpList_whole rfl O 2 rfl rfl Try.underlying23 rfl (sP _) ?_) | (go_at_call 10; refine (CI _).mono ?_; rintro e w7 ⟨rfl, hb⟩; replace O := O.call hb; clear hb))
      try clear f0 f1
      refine region_T ((fun w2 => Own w w2 [(g5, 28, M.mat 2 p), (g4, 23, M.mat 2 b), (g3, 23, M.mat 2 a)])) [0, 1, 2, 3, 4, 5, 6, 7, 8, 9, 10, 11, 12, 13, 14, 15, 16, 17, 18, 19, 20, 21, 22, 23, 24, 25, 26, 27, 28, 29, 30, 31, 32, 33, 34, 35, 36, 37, 38, 39, 40, 41, 42, 43, 44] 12 [some 33, some 34, some 35, some 36, some 37, some 38, some 39, some 40, some 41, some 42, some 43, some 44, some 45, some 46, some 47, some 48, some 49, some 50, some 51, some 52, some 53, some 54, some 55, some 56, some 57, some 58, some 59, some 60, some 61, some 62, some 63, some 64, some 65, some 66, some 67, some 68, some 69, some 70, some 71, some 72, some 73, some 74, some 75, some 76, some 77] [.bool true, .bool true, arr 2 a, arr 2 b, .pointer (some ⟨g5, 0, none⟩), .int .i64 p0, .pointer (some ⟨g5, 1, none⟩), .int .i64 p1, .bool m, arr 2 b, arr 2 a, .pointer (some ⟨g5, 0, none⟩), .int .i64 p0, .pointer (some ⟨g5, 1, none⟩), .int .i64 p1, .bool m, .bool true, .bool true, .bool true, .bool true, .bool false, .bool false, .int .i64 x, .int .i64 y, .bool true, .bool false, .bool false, .bool false, arr 2 a, arr 2 b, .int .i64 x, .int .i64 y, .bool true, .bool true, .bool true, .bool true, arr 2 a, arr 2 a, .pointer (some ⟨g5, 0, none⟩), .int .i64 p0, .pointer (some ⟨g5, 1, none⟩), .int .i64 p1, .bool false, .bool true, .bool true] 1 (by kernel_rfl) (by rfl) (by kernel_rfl) (by rfl) (by rfl) (O.drew) (fun F hF => ?_)
      simp only [fillD, Act.put, List.setIfInBounds_toArray, List.set_cons_zero, List.set_cons_succ] at hF
      subst hF
      refine ⟨⟨does_want rfl (by rfl) (fun w' O K hK => ?_), does_want rfl (by rfl) (fun w' O K hK => ?_), does_want rfl (by rfl) (fun w' O K hK => ?_), does_want rfl (by rfl) (fun w' O K hK => ?_), does_want rfl (by rfl) (fun w' O K hK => ?_), does_want rfl (by rfl) (fun w' O K hK => ?_), does_want rfl (by rfl) (fun w' O K hK => ?_), does_want rfl (by rfl) (fun w' O K hK => ?_), does_want rfl (by rfl) (fun w' O K hK => ?_), does_want rfl (by rfl) (fun w' O K hK => ?_), does_want rfl (by rfl) (fun w' O K hK => ?_), does_want rfl (by rfl) (fun w' O K hK => ?_), does_want rfl (by rfl) (fun w' O K hK => ?_), does_want rfl (by rfl) (fun w' O K hK => ?_), does_want rfl (by rfl) (fun w' O K hK => ?_), does_want rfl (by rfl) (fun w' O K hK => ?_), does_want rfl (by rfl) (fun w' O K hK => ?_), does_want rfl (by rfl) (fun w' O K hK => ?_), does_want rfl (by rfl) (fun w' O K hK => ?_), does_want rfl (by rfl) (fun w' O K hK => ?_), does_want rfl (by rfl) (fun w' O K hK => ?_), does_want rfl (by rfl) (fun w' O K hK => ?_), does_want rfl (by rfl) (fun w' O K hK => ?_), does_want rfl (by rfl) (fun w' O K hK => ?_), does_want rfl (by rfl) (fun w' O K hK => ?_), does_want rfl (by rfl) (fun w' O K hK => ?_), does_want rfl (by rfl) (fun w' O K hK => ?_), does_want rfl (by rfl) (fun w' O K hK => ?_), does_want rfl (by rfl) (fun w' O K hK => ?_), does_want rfl (by rfl) (fun w' O K hK => ?_), does_want rfl (by rfl) (fun w' O K hK => ?_), does_want rfl (by rfl) (fun w' O K hK => ?_), does_want rfl (by rfl) (fun w' O K hK => ?_), does_want rfl (by rfl) (fun w' O K hK => ?_), does_want rfl (by rfl) (fun w' O K hK => ?_), does_want rfl (by rfl) (fun w' O K hK => ?_), does_want rfl (by rfl) (fun w' O K hK => ?_), does_want rfl (by rfl) (fun w' O K hK => ?_), does_want rfl (by rfl) (fun w' O K hK => ?_), does_want rfl (by rfl) (fun w' O K hK => ?_), does_want rfl (by rfl) (fun w' O K hK => ?_), does_want rfl (by rfl) (fun w' O K hK => ?_), does_want rfl (by rfl) (fun w' O K hK => ?_), does_want rfl (by rfl) (fun w' O K hK => ?_), does_want rfl (by rfl) (fun w' O K hK => ?_), trivial⟩, fun w' O => ?_⟩
      · go_simp
        go_at_call 9
        refine (awake_any _).mono ?_
        rintro e w2 ⟨rfl, hb⟩
        exact hK _ (O.call hb)
      · go_simp
        exact hK _ O
      · exact wp_whole O 2 rfl rfl Try.underlying23 rfl (sP _) (hK _ O)
      · exact wp_whole O 1 rfl rfl Try.underlying23 rfl (sP _) (hK _ O)
      · go_simp
        exact hK _ O
      · exact wp_cell_h (v := .int .i64 (p0)) O.held 0 rfl Cp0.out rfl agg3 rfl (hK _ O)
      · go_simp
        exact hK _ O
      · exact wp_cell_h (v := .int .i64 (p1)) O.held 0 rfl Cp1.out rfl agg3 rfl (hK _ O)
      · go_simp
        go_at_call 13
        refine (CM _).mono ?_
        rintro e w2 ⟨rfl, hb⟩
        exact hK _ (O.call hb)
      · exact wp_whole O 1 rfl rfl Try.underlying23 rfl (sP _) (hK _ O)
      · exact wp_whole O 2 rfl rfl Try.underlying23 rfl (sP _) (hK _ O)
      · go_simp
        exact hK _ O
      · exact wp_cell_h (v := .int .i64 (p0)) O.held 0 rfl Cp0.out rfl agg3 rfl (hK _ O)
      · go_simp
        exact hK _ O
      · exact wp_cell_h (v := .int .i64 (p1)) O.held 0 rfl Cp1.out rfl agg3 rfl (hK _ O)
      · go_simp
        go_at_call 13
        refine (CN _).mono ?_
        rintro e w2 ⟨rfl, hb⟩
        exact hK _ (O.call hb)
      · go_simp
        exact hK _ O
      · go_simp
        exact hK _ O
      · go_simp
        exact hK _ O
      · go_simp
        exact hK _ O
      · go_simp
        exact hK _ O
      · go_simp
        exact hK _ O
      · go_simp
        exact hK _ O
      · go_simp
        exact hK _ O
      · go_simp
        go_at_call 12
        refine (CQ _).mono ?_
        rintro e w2 ⟨rfl, hw⟩
        obtain rfl := hw.symm
        clear hw
        exact hK _ O
      · go_simp
        exact hK _ O
      · go_simp
        exact hK _ O
      · go_simp
        exact hK _ O
      · exact wp_whole O 2 rfl rfl Try.underlying23 rfl (sP _) (hK _ O)
      · exact wp_whole O 1 rfl rfl Try.underlying23 rfl (sP _) (hK _ O)
      · go_simp
        exact hK _ O
      · go_simp
        exact hK _ O
      · go_simp
        go_at_call 13
        refine (CZ _).mono ?_
        rintro e w2 ⟨rfl, hb⟩
        exact hK _ (O.call hb)
      · go_simp
        exact hK _ O
      · go_simp
        exact hK _ O
      · go_simp
        exact hK _ O
      · exact wp_whole O 2 rfl rfl Try.underlying23 rfl (sP _) (hK _ O)
      · exact wp_whole O 2 rfl rfl Try.underlying23 rfl (sP _) (hK _ O)
      · go_simp
        exact hK _ O
      · exact wp_cell_h (v := .int .i64 (p0)) O.held 0 rfl Cp0.out rfl agg3 rfl (hK _ O)
      · go_simp
        exact hK _ O
      · exact wp_cell_h (v := .int .i64 (p1)) O.held 0 rfl Cp1.out rfl agg3 rfl (hK _ O)
      · go_simp
        go_at_call 15
        refine (CX _).mono ?_
        rintro e w2 ⟨rfl, hb⟩
        exact hK _ (O.call hb)
      · go_simp
        exact hK _ O
      · go_simp
        exact hK _ O
      refine wpAny_one (i := 45) (by kernel_rfl) rfl (fun K hK => ?_)
      go_simp
      refine hK _ _ ?_
      clear hK K
      try simp only [Act.put, List.setIfInBounds_toArray, List.set_cons_zero, List.set_cons_succ]
      refine wpAny_done (by kernel_rfl) ?_ _
      go_wp2_with fail
      go_ret
      exact ⟨rfl, O.below⟩

theorem readable : ∀ t ∈ Try.f5.params.toList, Try.prog.readableRec t = true ∧ t < Try.prog.types.size := by
  intro t ht
  rw [Try.params5] at ht
  simp only [List.mem_cons, List.not_mem_nil, or_false] at ht
  repeat (first | (rcases ht with rfl | ht; exact ⟨by kernel_rfl, of_decide_eq_true (by kernel_rfl)⟩) | (subst ht; exact ⟨by kernel_rfl, of_decide_eq_true (by kernel_rfl)⟩))
set_option maxRecDepth 100000 in
theorem lifted (os : Os) (started : os.Started) (H : Type) (enc : TypeId × Value → H) :
    ReturnsInHanded {} Try.checked os 5 .any (Rows.diamondTurnedSpec.pre6 enc Try.prog Try.f5 Rows.diamondTurnedRow.domain false) (Rows.diamondTurnedSpec.post enc Try.prog Try.f5 false true false false) := by
  refine returnsInHanded_of_change (C := Try.checked) own started (by kernel_rfl) Try.func5
    (ChangeSpec.witness6 (enc := enc) (C := Try.checked) false ⟨#[], #[.agg #[.int .i64 0, .int .i64 0], .agg #[.int .i64 0, .int .i64 0], .agg #[.int .i64 0, .int .i64 0]], []⟩ 8 (by kernel_rfl) (by kernel_rfl) (by kernel_rfl) (by kernel_rfl)) ?_
  intro W base args ds gs before hval0 hW hcnd _
  have hval : ∀ (j : Nat) t v, Try.f5.params[j]? = some t → args[j]? = some v → Value.okWide Try.prog W .any base t v := hval0
  have hW' := hW
  obtain ⟨p, q, hA0, hV, rfl, hfz, hnd⟩ := hW
  have hA : DataW.TrodAll enc Try.prog W 0 (fun _ => true) true Try.f5.params.toList args.toList ds p := hA0
  rw [Try.params5] at hA hval
  have hlt : ∀ x ∈ p ++ q, x.block < W.heap.size := fun x hx => hW'.lt x hx
  obtain ⟨v0, vs0, d0, ds0, p0, q0, hargs, rfl, rfl, h0, rr0⟩ := trodAll_cons hA
  obtain ⟨v1, vs1, d1, ds1, p1, q1, rfl, rfl, rfl, h1, rr1⟩ := trodAll_cons rr0
  obtain ⟨v2, vs2, d2, ds2, p2, q2, rfl, rfl, rfl, h2, rr2⟩ := trodAll_cons rr1
  obtain ⟨rfl, rfl, rfl⟩ := trodAll_nil rr2
  obtain rfl : args = #[v0, v1, v2] := by cases args; simp_all
  obtain ⟨rfl, rfl⟩ := trodVars_none hV
  obtain ⟨a0, rfl⟩ := openPoint (hval 0 23 v0 rfl rfl) h0
  obtain ⟨a1, rfl⟩ := openPoint (hval 1 23 v1 rfl rfl) h1
  obtain ⟨a2, rfl, x2⟩ := openPair (hval 2 28 v2 rfl rfl) h2
  clear hA0 hval0
  refine (walk W a0 a1 a2).mono fun e W' ⟨he, hg⟩ => ?_
  subst he
  exact ⟨_, rfl, post_true (tb := 4) laid readable (by kernel_rfl) Try.underlying4 rfl (fun l hl => by
    match l, hl with
    | [_, _, _], _ => exact ⟨rfl, rfl, rfl⟩) hW' hg⟩

theorem over : Rows.diamondTurnedRow.holds Try.pinned (OpenSpec.ofChange Rows.diamondTurnedSpec) :=
  OpenClaim.holds_of_wide 5 Try.f5 rfl rfl rfl rfl rfl rfl rfl ⟨rfl, rfl, rfl, rfl, rfl⟩ rfl rfl rfl rfl rfl (by kernel_rfl) Try.func5 (by kernel_rfl)
    (of_decide_eq_true (by kernel_rfl)) (by unfold Func.isWrapper; first | (rw [if_pos (by decide +kernel)]; kernel_rfl) | (rw [if_neg (by decide +kernel)]; exact ⟨rfl, rfl⟩))
    (fun os started H enc _ => lifted os started H enc)

theorem proved : Rows.DiamondTurnedSaid :=
  over
#print axioms proved
end Go.Proofs.Ytkhjjmjdicnpjaa.diamondTurned
