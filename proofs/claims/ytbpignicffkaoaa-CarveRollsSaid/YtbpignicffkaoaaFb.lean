/- Contracts: inside, meet. -/
import Derived.Test.YtbpignicffkaoaaFa
import Derived.OwnWalk
namespace Go.Proofs.Ytbpignicffkaoaa
open Go.ChangeShapes Go.WideShapes Go.ChangeAt Go.RowKit
set_option linter.unusedVariables false
set_option linter.unusedSimpArgs false

theorem pin_any (v s : Nat → Int) (hs : D.right s = true) (hv : D.fits v = true) (w : World) : Calls Try.prog 26 #[arr 8 v, arr 5 s] w fun e w' => e = .returned (.bool (decide (0 ≤ D.dist s v))) ∧ Below w.heap.size w w' := by
  have O := Own.start w
  have cd := fun w => dist_any s v hs hv w
  clear hs hv
  generalize D.dist s v = z at *
  go_enter Try.func26, Try.ntmps26
  go_wp2_with (first | ((with_reducible refine at_box 2 ?_); refine wpList_box_own O (M.mat 8 (v)) rfl ?_; clear O; intro g2 w1 O) | ((with_reducible refine at_box 3 ?_); refine wpList_box_own O (M.mat 5 (s)) rfl ?_; clear O; intro g3 w2 O) | ((with_reducible refine at_load 5 ?_); refine wpList_whole rfl O 0 rfl rfl Try.underlying35 rfl (s24 _) ?_) | ((with_reducible refine at_load 6 ?_); refine wpList_whole rfl O 1 rfl rfl Try.underlying39 rfl (s27 _) ?_) | (go_at_call 32; refine (cd _).mono ?_; rintro e w3 ⟨rfl, hb⟩; replace O := O.call hb; clear hb))
  go_ret
  exact ⟨rfl, O.below⟩
set_option maxRecDepth 100000 in
set_option maxHeartbeats 4000000 in
theorem pmeet_any (p q s : Nat → Int) (hs : D.right s = true) (hp : D.fits p = true) (hq : D.fits q = true) (h1 : 0 ≤ D.dist s p) (h2 : D.dist s q < 0) (w : World) : Calls Try.prog 27 #[arr 8 p, arr 8 q, arr 5 s] w fun e w' => e = .returned (arr 8 (D.way p q (D.dist s p) (D.dist s p - D.dist s q))) ∧ Below w.heap.size w w' := by
  have O := Own.start w
  have cp := fun w => dist_any s p hs hp w
  have cq := fun w => dist_any s q hs hq w
  have b1 := D.dist_le hs hp
  have b2 := D.dist_le hs hq
  have ca := fun w => at_any p q (D.dist s p) (D.dist s p - D.dist s q) (by omega) w
  rw [D.at_yes (D.okAt_iff.2 ⟨hp, hq, by omega, by omega, by omega⟩)] at ca
  unfold RetAt at ca
  dsimp only at ca
  generalize D.way p q (D.dist s p) (D.dist s p - D.dist s q) = v at *
  clear hs hp hq
  generalize D.dist s p = x at *
  generalize D.dist s q = y at *
  obtain ⟨b3, b4⟩ := b1
  obtain ⟨b5, b6⟩ := b2
  have CW := Lib.hid (show IntKind.i64.wrap (x - y) = x - y from IntWalk.i64_in _ (by omega))
  have tok : True := trivial
  go_enter Try.func27, Try.ntmps27
  go_wp2_with (first | ((with_reducible refine at_box 3 ?_); refine wpList_box_own O (M.mat 8 (p)) rfl ?_; clear O; intro g3 w1 O) | ((with_reducible refine at_box 4 ?_); refine wpList_box_own O (M.mat 8 (q)) rfl ?_; clear O; intro g4 w2 O) | ((with_reducible refine at_box 5 ?_); refine wpList_box_own O (M.mat 5 (s)) rfl ?_; clear O; intro g5 w3 O) | ((with_reducible refine at_alloc 6 ?_); refine wpList_alloc_own O (M.mat 8 M.zero) zero27 ?_; clear O; intro g6 w4 O) | ((with_reducible refine at_load 10 ?_); refine wpList_whole rfl O 1 rfl rfl Try.underlying35 rfl (s24 _) ?_) | ((with_reducible refine at_load 11 ?_); refine wpList_whole rfl O 3 rfl rfl Try.underlying39 rfl (s27 _) ?_) | (go_at_call 32; clear tok; refine (cp _).mono ?_; rintro e w5 ⟨rfl, hb⟩; replace O := O.call hb; clear hb))
  refine region_A w [(g6, 39, M.mat 8 M.zero), (g5, 35, M.mat 5 s), (g4, 39, M.mat 8 q), (g3, 39, M.mat 8 p)] 39 (M.mat 8 M.zero) (M.mat 8 v) 12 13 14 [some 14, some 15, some 16, some 17, some 18, some 19, some 20, some 21, some 22, some 13, some 23, some 24, some 8, none] [arr 8 p, arr 8 q, .int .i64 x, .int .i64 x, arr 5 s, arr 8 q, .int .i64 y, .int .i64 (x - y), .tuple #[arr 8 v, .int .i64 0], .tuple #[arr 8 v, .int .i64 0], arr 8 v, .int .i64 0, undef, undef] 1 (by kernel_rfl) (by kernel_rfl) (by rfl) (by rfl) (by rfl) (by decide) (by decide) (by decide) (by kernel_rfl) (O.drew) (fun F hF => ?_)
  simp only [fillD, List.set_cons_zero, List.set_cons_succ, Act.put, List.setIfInBounds_toArray, List.set_cons_zero, List.set_cons_succ] at hF
  have hF2 := funext hF
  clear hF
  subst hF2
  refine ⟨⟨doesA_want rfl (fun p => rfl) (fun ext hx p w' O K hK => ?_), doesA_want rfl (fun p => rfl) (fun ext hx p w' O K hK => ?_), doesA_want rfl (fun p => rfl) (fun ext hx p w' O K hK => ?_), doesA_want rfl (fun p => rfl) (fun ext hx p w' O K hK => ?_), doesA_want rfl (fun p => rfl) (fun ext hx p w' O K hK => ?_), doesA_want rfl (fun p => rfl) (fun ext hx p w' O K hK => ?_), doesA_want rfl (fun p => rfl) (fun ext hx p w' O K hK => ?_), doesA_want rfl (fun p => rfl) (fun ext hx p w' O K hK => ?_), doesA_want rfl (fun p => rfl) (fun ext hx p w' O K hK => ?_), doesA_want rfl (fun p => rfl) (fun ext hx p w' O K hK => ?_), doesA_want rfl (fun p => rfl) (fun ext hx p w' O K hK => ?_), doesA_want rfl (fun p => rfl) (fun ext hx p w' O K hK => ?_), doesA_alloc, doesA_store, trivial⟩, ⟨_, rfl, rfl, fun w' O K hK => ?_⟩, ⟨_, rfl, fun g => rfl, fun g w' O K hK => ?_⟩, fun g w' O => ?_⟩
  · try dsimp only
    exact wp_whole (hx _ O) 3 rfl rfl Try.underlying39 rfl (s27 _) (hK _ O)
  · try dsimp only
    exact wp_whole (hx _ O) 2 rfl rfl Try.underlying39 rfl (s27 _) (hK _ O)
  · try dsimp only
    go_simp
    exact hK _ O
  · try dsimp only
    go_simp
    exact hK _ O
  · try dsimp only
    exact wp_whole (hx _ O) 1 rfl rfl Try.underlying35 rfl (s24 _) (hK _ O)
  · try dsimp only
    exact wp_whole (hx _ O) 2 rfl rfl Try.underlying39 rfl (s27 _) (hK _ O)
  · try dsimp only
    go_simp
    go_at_call 32
    refine (cq _).mono ?_
    rintro e w2 ⟨rfl, hb⟩
    exact hK _ (O.call hb)
  · try dsimp only
    go_simp
    rw [CW.out]
    exact hK _ O
  · try dsimp only
    go_simp
    go_at_call 33
    refine (ca _).mono ?_
    rintro e w2 ⟨rfl, hb⟩
    exact hK _ (O.call hb)
  · try dsimp only
    go_simp
    exact hK _ O
  · try dsimp only
    go_simp
    exact hK _ O
  · try dsimp only
    go_simp
    exact hK _ O
  · try dsimp only
    exact wp_alloc_own O (M.mat 8 M.zero) zero27 fun g w1 O1 => hK g w1 O1
  · try dsimp only
    exact wp_put_own O 0 (M.mat 8 v) rfl rfl rfl (s27 _) (M.mat_len2 _ _ _) (M.mat_one _ _) fun w1 O1 => hK w1 O1
  try dsimp only
  refine wpAny_one (i := 14) (by kernel_rfl) rfl (fun K hK => ?_)
  go_simp
  refine hK _ _ ?_
  clear hK K
  try simp only [Act.put, List.setIfInBounds_toArray, List.set_cons_zero, List.set_cons_succ]
  refine wpAny_done (by kernel_rfl) ?_ _
  go_wp2_with (first | ((with_reducible refine at_load 25 ?_); refine wpList_whole rfl O 0 rfl rfl Try.underlying39 rfl (s27 _) ?_) | ((with_reducible refine at_store 6 ?_); refine wpList_put_own O 1 (M.mat 8 (v)) rfl rfl rfl (s27 _) (M.mat_len2 _ _ _) (M.mat_one _ _) ?_; clear O; intro w9 O))
  exact bodyPost_ret (v := arr 8 v) (res_h rfl O.held 1 rfl rfl Try.underlying39 rfl (s27 _)) rfl ⟨rfl, O.below⟩
end Go.Proofs.Ytbpignicffkaoaa
