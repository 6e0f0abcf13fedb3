/- Contract: At by the document. -/
import Derived.Test.YtbjbafhlmcnceaaW5
import Derived.Test.YtbjbafhlmcnceaaW6
namespace Go.Proofs.Ytbjbafhlmcnceaa
open Go.ChangeShapes Go.WideShapes Go.ChangeAt Go.RowKit
set_option linter.unusedVariables false
set_option linter.unusedSimpArgs false

set_option maxHeartbeats 8000000 in
theorem rat_yes (a b : Nat → Int) (n d : Int) (h : D.okAt a b n d = true) (h9 : d < 9223372036854775808) (w : World) : Calls Try.prog 18 #[arr 8 a, arr 8 b, .int .i64 n, .int .i64 d] w (RetAt w (D.at_ a b n d)) := by
  have O := Own.start w
  have HE := Lib.hid (D.at_yes h)
  obtain ⟨h1, h2, h3, h4, h5⟩ := D.okAt_iff.1 h
  have CM := Lib.hid (fun (i : Nat) (hi : i < 8) (w : World) => mid_any (a i) (b i) n d (D.fits_rng h1 hi) (D.fits_rng h2 hi) h4 h5 h3 h9 w)
  have q1 : decide (d < 1) = false := by simp; omega
  have q2 : decide (n < 0) = false := by simp; omega
  have q3 : decide (d < n) = false := by simp; omega
  clear h h3 h4 h5 h9
  go_enter Try.func18, Try.ntmps18
  go_wp2_with (first | ((with_reducible refine at_box 4 ?_); refine wpList_box_own O (M.mat 8 (a)) rfl ?_; clear O; intro g4 w1 O) | ((with_reducible refine at_box 5 ?_); refine wpList_box_own O (M.mat 8 (b)) rfl ?_; clear O; intro g5 w2 O) | ((with_reducible refine at_alloc 8 ?_); refine wpList_alloc_own O (M.mat 8 M.zero) zero27 ?_; clear O; intro g8 w3 O) | ((with_reducible refine at_load 12 ?_); refine wpList_whole rfl O 2 rfl rfl Try.underlying27 rfl (s27 _) ?_) | (go_at_call 11; refine (rfits_any _ _).mono ?_; rintro e w4 ⟨rfl, hb⟩; replace O := O.call hb; clear hb) | ((with_reducible refine at_load 16 ?_); refine wpList_whole rfl O 1 rfl rfl Try.underlying27 rfl (s27 _) ?_))
  clear h1 h2 q1 q2 q3
  refine region_A w [(g8, 27, M.mat 8 M.zero), (g5, 27, M.mat 8 b), (g4, 27, M.mat 8 a)] 27 (M.mat 8 M.zero) (M.mat 8 (D.wayK a b n d 4)) 29 30 31 [some 34, some 35, some 36, some 37, some 38, some 39, some 40, some 41, some 42, some 43, some 44, some 45, some 46, some 47, some 48, some 49, some 50, some 51, some 52, some 53, some 54, some 55, some 56, some 57, some 58, some 59, some 60, some 61, some 62, some 10, none] [.pointer (some ⟨g4, 0, none⟩), .int .i64 (a 0), .pointer (some ⟨g5, 0, none⟩), .int .i64 (b 0), .int .i64 n, .int .i64 d, .int .i64 (D.wt (a 0) (b 0) n d), .pointer (some ⟨g4, 1, none⟩), .int .i64 (a 1), .pointer (some ⟨g5, 1, none⟩), .int .i64 (b 1), .int .i64 n, .int .i64 d, .int .i64 (D.wt (a 1) (b 1) n d), .pointer (some ⟨g4, 2, none⟩), .int .i64 (a 2), .pointer (some ⟨g5, 2, none⟩), .int .i64 (b 2), .int .i64 n, .int .i64 d, .int .i64 (D.wt (a 2) (b 2) n d), .pointer (some ⟨g4, 3, none⟩), .int .i64 (a 3), .pointer (some ⟨g5, 3, none⟩), .int .i64 (b 3), .int .i64 n, .int .i64 d, .int .i64 (D.wt (a 3) (b 3) n d), arr 8 (D.wayK a b n d 4), undef, undef] 0 (by kernel_rfl) (by kernel_rfl) (by rfl) (by rfl) (by rfl) (by decide) (by decide) (by decide) (by kernel_rfl) (O.drew) (fun F hF => ?_)
  simp only [fillD, List.set_cons_zero, List.set_cons_succ, Act.put, List.setIfInBounds_toArray, List.set_cons_zero, List.set_cons_succ] at hF
  have hF2 := funext hF
  clear hF
  subst hF2
  refine ⟨⟨doesA_want rfl (fun p => rfl) (fun ext hx p w' O K hK => ?_), doesA_want rfl (fun p => rfl) (fun ext hx p w' O K hK => ?_), doesA_want rfl (fun p => rfl) (fun ext hx p w' O K hK => ?_), doesA_want rfl (fun p => rfl) (fun ext hx p w' O K hK => ?_), doesA_want rfl (fun p => rfl) (fun ext hx p w' O K hK => ?_), doesA_want rfl (fun p => rfl) (fun ext hx p w' O K hK => ?_), doesA_want rfl (fun p => rfl) (fun ext hx p w' O K hK => ?_), doesA_want rfl (fun p => rfl) (fun ext hx p w' O K hK => ?_), doesA_want rfl (fun p => rfl) (fun ext hx p w' O K hK => ?_), doesA_want rfl (fun p => rfl) (fun ext hx p w' O K hK => ?_), doesA_want rfl (fun p => rfl) (fun ext hx p w' O K hK => ?_), doesA_want rfl (fun p => rfl) (fun ext hx p w' O K hK => ?_), doesA_want rfl (fun p => rfl) (fun ext hx p w' O K hK => ?_), doesA_want rfl (fun p => rfl) (fun ext hx p w' O K hK => ?_), doesA_want rfl (fun p => rfl) (fun ext hx p w' O K hK => ?_), doesA_want rfl (fun p => rfl) (fun ext hx p w' O K hK => ?_), doesA_want rfl (fun p => rfl) (fun ext hx p w' O K hK => ?_), doesA_want rfl (fun p => rfl) (fun ext hx p w' O K hK => ?_), doesA_want rfl (fun p => rfl) (fun ext hx p w' O K hK => ?_), doesA_want rfl (fun p => rfl) (fun ext hx p w' O K hK => ?_), doesA_want rfl (fun p => rfl) (fun ext hx p w' O K hK => ?_), doesA_want rfl (fun p => rfl) (fun ext hx p w' O K hK => ?_), doesA_want rfl (fun p => rfl) (fun ext hx p w' O K hK => ?_), doesA_want rfl (fun p => rfl) (fun ext hx p w' O K hK => ?_), doesA_want rfl (fun p => rfl) (fun ext hx p w' O K hK => ?_), doesA_want rfl (fun p => rfl) (fun ext hx p w' O K hK => ?_), doesA_want rfl (fun p => rfl) (fun ext hx p w' O K hK => ?_), doesA_want rfl (fun p => rfl) (fun ext hx p w' O K hK => ?_), doesA_want rfl (fun p => rfl) (fun ext hx p w' O K hK => ?_), doesA_alloc, doesA_store, trivial⟩, ⟨_, rfl, rfl, fun w' O K hK => ?_⟩, ⟨_, rfl, fun g => rfl, fun g w' O K hK => ?_⟩, fun g w' O => ?_⟩
  · try dsimp only
    go_simp
    exact hK _ O
  · try dsimp only
    exact wp_cell_h (v := .int .i64 ((a) (0))) (hx _ O).held 2 rfl (M.mat_get (by omega)) rfl agg3 rfl (hK _ O)
  · try dsimp only
    go_simp
    exact hK _ O
  · try dsimp only
    exact wp_cell_h (v := .int .i64 ((b) (0))) (hx _ O).held 1 rfl (M.mat_get (by omega)) rfl agg3 rfl (hK _ O)
  · try dsimp only
    go_simp
    exact hK _ O
  · try dsimp only
    go_simp
    exact hK _ O
  · try dsimp only
    go_simp
    go_at_call 23
    refine (CM.out 0 (by omega) _).mono ?_
    rintro e w2 ⟨rfl, hb⟩
    exact hK _ (O.call hb)
  · try dsimp only
    go_simp
    exact hK _ O
  · try dsimp only
    exact wp_cell_h (v := .int .i64 ((a) (1))) (hx _ O).held 2 rfl (M.mat_get (by omega)) rfl agg3 rfl (hK _ O)
  · try dsimp only
    go_simp
    exact hK _ O
  · try dsimp only
    exact wp_cell_h (v := .int .i64 ((b) (1))) (hx _ O).held 1 rfl (M.mat_get (by omega)) rfl agg3 rfl (hK _ O)
  · try dsimp only
    go_simp
    exact hK _ O
  · try dsimp only
    go_simp
    exact hK _ O
  · try dsimp only
    go_simp
    go_at_call 23
    refine (CM.out 1 (by omega) _).mono ?_
    rintro e w2 ⟨rfl, hb⟩
    exact hK _ (O.call hb)
  · try dsimp only
    go_simp
    exact hK _ O
  · try dsimp only
    exact wp_cell_h (v := .int .i64 ((a) (2))) (hx _ O).held 2 rfl (M.mat_get (by omega)) rfl agg3 rfl (hK _ O)
  · try dsimp only
    go_simp
    exact hK _ O
  · try dsimp only
    exact wp_cell_h (v := .int .i64 ((b) (2))) (hx _ O).held 1 rfl (M.mat_get (by omega)) rfl agg3 rfl (hK _ O)
  · try dsimp only
    go_simp
    exact hK _ O
  · try dsimp only
    go_simp
    exact hK _ O
  · try dsimp only
    go_simp
    go_at_call 23
    refine (CM.out 2 (by omega) _).mono ?_
    rintro e w2 ⟨rfl, hb⟩
    exact hK _ (O.call hb)
  · try dsimp only
    go_simp
    exact hK _ O
  · try dsimp only
    exact wp_cell_h (v := .int .i64 ((a) (3))) (hx _ O).held 2 rfl (M.mat_get (by omega)) rfl agg3 rfl (hK _ O)
  · try dsimp only
    go_simp
    exact hK _ O
  · try dsimp only
    exact wp_cell_h (v := .int .i64 ((b) (3))) (hx _ O).held 1 rfl (M.mat_get (by omega)) rfl agg3 rfl (hK _ O)
  · try dsimp only
    go_simp
    exact hK _ O
  · try dsimp only
    go_simp
    exact hK _ O
  · try dsimp only
    go_simp
    go_at_call 23
    refine (CM.out 3 (by omega) _).mono ?_
    rintro e w2 ⟨rfl, hb⟩
    exact hK _ (O.call hb)
  · try dsimp only
    refine wp_build_own ([(0, .int .i64 (D.wt (a 0) (b 0) n d)), (1, .int .i64 (D.wt (a 1) (b 1) n d)), (2, .int .i64 (D.wt (a 2) (b 2) n d)), (3, .int .i64 (D.wt (a 3) (b 3) n d))]) ((M.mat 8 (D.wayK a b n d 4)).toArray) ?_ (built27 a b n d) (hK _ O)
    simp only [List.map_toArray, List.map_cons, List.map_nil]
    rfl
  · try dsimp only
    exact wp_alloc_own O (M.mat 8 M.zero) zero27 fun g w1 O1 => hK g w1 O1
  · try dsimp only
    exact wp_put_own O 0 (M.mat 8 (D.wayK a b n d 4)) rfl rfl rfl (s27 _) (M.mat_len2 _ _ _) (M.mat_one _ _) fun w1 O1 => hK w1 O1
  try dsimp only
  refine wpAny_done (by kernel_rfl) ?_ _
  go_wp2_with fail
  go_loopw [11] (fun t wr => ∃ k : Nat, k ≤ 4 ∧ t = .int .i64 k ∧ Own w wr [(g, 27, M.mat 8 (D.wayK a b n d (4 + k))), (g8, 27, M.mat 8 M.zero), (g5, 27, M.mat 8 b), (g4, 27, M.mat 8 a)]) (fun t _ => 4 - (intOf t).toNat)
  case atStart => exact ⟨0, by omega, rfl, O⟩
  case round =>
    clear O
    obtain ⟨k, hk, rfl, O⟩ := hrel
    have q4 : (0 : Int) ≤ k := by omega
    by_cases hlt : k < 4
    · have q5 : (k : Int) < 4 := by omega
      go_wp2_with fail
      refine region_T ((fun w2 => Own w w2 [(g, 27, M.mat 8 (D.wayK a b n d (4 + k))), (g8, 27, M.mat 8 M.zero), (g5, 27, M.mat 8 b), (g4, 27, M.mat 8 a)])) [0, 1, 2, 3, 4, 5, 6, 7, 8, 9, 10, 11, 12, 13] 12 [some 67, some 68, some 69, some 70, some 71, some 72, some 73, some 74, some 75, some 76, some 77, some 78, some 79, some 80] [.int .i64 k, .int .i64 k, .pointer (some ⟨g4, 4, none⟩), .pointer (some ⟨g4, 4 + k, none⟩), .int .i64 (a (4 + k)), .int .i64 k, .pointer (some ⟨g5, 4, none⟩), .pointer (some ⟨g5, 4 + k, none⟩), .int .i64 (b (4 + k)), .int .i64 n, .int .i64 d, .int .i64 (D.wt (a (4 + k)) (b (4 + k)) n d), .pointer (some ⟨g, 4, none⟩), .pointer (some ⟨g, 4 + k, none⟩)] 1 (by kernel_rfl) (by rfl) (by kernel_rfl) (by rfl) (by rfl) (O.drew) (fun F hF => ?_)
      simp only [fillD, Act.put, List.setIfInBounds_toArray, List.set_cons_zero, List.set_cons_succ] at hF
      subst hF
      refine ⟨⟨does_want rfl (by rfl) (fun w' O K hK => ?_), does_want rfl (by rfl) (fun w' O K hK => ?_), does_want rfl (by rfl) (fun w' O K hK => ?_), does_want rfl (by rfl) (fun w' O K hK => ?_), does_want rfl (by rfl) (fun w' O K hK => ?_), does_want rfl (by rfl) (fun w' O K hK => ?_), does_want rfl (by rfl) (fun w' O K hK => ?_), does_want rfl (by rfl) (fun w' O K hK => ?_), does_want rfl (by rfl) (fun w' O K hK => ?_), does_want rfl (by rfl) (fun w' O K hK => ?_), does_want rfl (by rfl) (fun w' O K hK => ?_), does_want rfl (by rfl) (fun w' O K hK => ?_), does_want rfl (by rfl) (fun w' O K hK => ?_), does_want rfl (by rfl) (fun w' O K hK => ?_), trivial⟩, fun w' O => ?_⟩
      · go_simp
        exact hK _ O
      · go_simp
        exact hK _ O
      · go_simp
        exact hK _ O
      · exact wp_ino Try.underlying25 sizeOf3 (by decide) (k) rfl rfl (by omega) (by omega) (hK _ O)
      · exact wp_cell_h (v := .int .i64 ((a) (4 + k))) O.held 3 rfl (M.mat_get (by omega)) rfl agg3 rfl (hK _ O)
      · go_simp
        exact hK _ O
      · go_simp
        exact hK _ O
      · exact wp_ino Try.underlying25 sizeOf3 (by decide) (k) rfl rfl (by omega) (by omega) (hK _ O)
      · exact wp_cell_h (v := .int .i64 ((b) (4 + k))) O.held 2 rfl (M.mat_get (by omega)) rfl agg3 rfl (hK _ O)
      · go_simp
        exact hK _ O
      · go_simp
        exact hK _ O
      · go_simp
        go_at_call 23
        refine (CM.out (4 + k) (by omega) _).mono ?_
        rintro e w2 ⟨rfl, hb⟩
        exact hK _ (O.call hb)
      · go_simp
        exact hK _ O
      · exact wp_ino Try.underlying25 sizeOf3 (by decide) (k) rfl rfl (by omega) (by omega) (hK _ O)
      refine wpAny_want (i := 14) (by kernel_rfl) rfl (by rfl) (fun K hK => ?_)
      refine wp_set_own O 0 (.int .i64 (D.wt (a (4 + k)) (b (4 + k)) n d)) rfl (by rw [M.mat_len]; omega) rfl rfl size3 rfl rfl fun w9 O9 => hK _ _ ?_
      clear O
      have O := O9
      clear O9
      clear hK K
      try simp only [Act.put, List.setIfInBounds_toArray, List.set_cons_zero, List.set_cons_succ]
      refine wpAny_done (by kernel_rfl) ?_ _
      go_wp2_with fail
      go_roundw
      case rel => exact ⟨k + 1, by omega, by go_num, by rw [← Nat.add_assoc, ← D.wayK_set a b n d (4 + k) (by omega)]; exact O⟩
      case measure => simp [intOf]; omega
    · have q5 : ¬ (k : Int) < 4 := by omega
      obtain rfl : k = 4 := by omega
      go_wp2_with (first | ((with_reducible refine at_load 81 ?_); refine wpList_whole rfl O 0 rfl rfl Try.underlying27 rfl (s27 _) ?_) | ((with_reducible refine at_store 8 ?_); refine wpList_put_own O 1 (M.mat 8 (D.wayK a b n d (4 + 4))) rfl rfl rfl (s27 _) (M.mat_len2 _ _ _) (M.mat_one _ _) ?_; clear O; intro w5 O))
      exact bodyPost_ret (v := .tuple #[arr 8 (D.wayK a b n d (4 + 4)), .int .i64 0]) (res_h2 rfl O.held 1 rfl rfl Try.underlying27 rfl (s27 _) rfl) rfl ⟨by rw [HE.out, arr, D.wayK_end], O.below⟩
theorem rat_any (a b : Nat → Int) (n d : Int) (h9 : d < 9223372036854775808) (w : World) : Calls Try.prog 18 #[arr 8 a, arr 8 b, .int .i64 n, .int .i64 d] w (RetAt w (D.at_ a b n d)) := by
  cases h : D.okAt a b n d
  · exact rat_no a b n d h w
  · exact rat_yes a b n d h h9 w
end Go.Proofs.Ytbjbafhlmcnceaa
