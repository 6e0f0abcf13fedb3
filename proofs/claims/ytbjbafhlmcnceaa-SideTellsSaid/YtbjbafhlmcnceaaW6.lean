/- Contracts: between, At; the refusals of both At. -/
import Derived.Test.YtbjbafhlmcnceaaW3
import Derived.Test.YtbjbafhlmcnceaaW4
namespace Go.Proofs.Ytbjbafhlmcnceaa
open Go.ChangeShapes Go.WideShapes Go.ChangeAt Go.RowKit
set_option linter.unusedVariables false
set_option linter.unusedSimpArgs false

/-- The first k numbers have been laid. -/
def D.wayK (a b : Nat → Int) (n d : Int) (k j : Nat) : Int := if j < k then D.way a b n d j else 0
theorem D.wayK_set {m : Nat} (a b : Nat → Int) (n d : Int) (k : Nat) (hk : k < m) : (M.mat m (D.wayK a b n d k)).set k (.int .i64 (D.wt (a k) (b k) n d)) = M.mat m (D.wayK a b n d (k + 1)) :=
  M.mat_set_to hk (by simp [D.wayK, D.way]) fun j _ hj => by
    simp only [D.wayK]
    by_cases h : j < k
    · rw [if_pos h, if_pos (by omega)]
    · rw [if_neg h, if_neg (by omega)]
theorem D.wayK_0 (m : Nat) (a b : Nat → Int) (n d : Int) : M.mat m (D.wayK a b n d 0) = M.mat m M.zero := M.mat_ext fun j hj => by simp [D.wayK, M.zero]
theorem D.wayK_end (m : Nat) (a b : Nat → Int) (n d : Int) : M.mat m (D.wayK a b n d m) = M.mat m (D.way a b n d) := M.mat_ext fun j hj => by simp [D.wayK, hj]
set_option maxHeartbeats 4000000 in
theorem between_any (a b : Nat → Int) (n d : Int) (ha : ∀ i, i < 4 → -68719476736 ≤ a i ∧ a i ≤ 68719476736) (hb : ∀ i, i < 4 → -68719476736 ≤ b i ∧ b i ≤ 68719476736) (h0 : 0 ≤ n) (h1 : n ≤ d) (h2 : 1 ≤ d) (h3 : d < 9223372036854775808) (w : World) :
    Calls Try.prog 22 #[arr 4 a, arr 4 b, .int .i64 n, .int .i64 d] w fun e w' => e = .returned (arr 4 (D.way a b n d)) ∧ Below w.heap.size w w' := by
  have O := Own.start w
  have CW := Lib.hid (fun (k : Nat) (hk : k < 4) (w : World) => weighted_any (a k) (b k) n d (ha k hk) (hb k hk) h0 h1 h2 h3 w)
  clear ha hb h0 h1 h2 h3
  go_enter Try.func22, Try.ntmps22
  go_wp2_with (first | ((with_reducible refine at_box 4 ?_); refine wpList_box_own O (M.mat 4 (a)) rfl ?_; clear O; intro g4 w1 O) | ((with_reducible refine at_box 5 ?_); refine wpList_box_own O (M.mat 4 (b)) rfl ?_; clear O; intro g5 w2 O) | ((with_reducible refine at_alloc 8 ?_); refine wpList_alloc_own O (M.mat 4 M.zero) zero22 ?_; clear O; intro g8 w3 O) | ((with_reducible refine at_alloc 9 ?_); refine wpList_alloc_own O (M.mat 4 M.zero) zero22 ?_; clear O; intro g9 w4 O))
  go_loopw [11] (fun t wr => ∃ k : Nat, k ≤ 4 ∧ t = .int .i64 k ∧ Own w wr [(g9, 22, M.mat 4 (D.wayK a b n d k)), (g8, 22, M.mat 4 M.zero), (g5, 22, M.mat 4 b), (g4, 22, M.mat 4 a)]) (fun t _ => 4 - (intOf t).toNat)
  case atStart => exact ⟨0, by omega, rfl, by rw [D.wayK_0]; exact O⟩
  case round =>
    clear O
    obtain ⟨k, hk, rfl, O⟩ := hrel
    have q4 : (0 : Int) ≤ k := by omega
    by_cases hlt : k < 4
    · have q5 : (k : Int) < 4 := by omega
      go_wp2_with fail
      refine region_V (fun w2 => Own w w2 [(g9, 22, M.mat 4 (D.wayK a b n d k)), (g8, 22, M.mat 4 M.zero), (g5, 22, M.mat 4 b), (g4, 22, M.mat 4 a)]) [0, 1, 2, 3, 4, 5, 6, 7, 8, 9, 10] [some 14, some 15, some 16, some 17, some 18, some 19, some 20, some 21, some 22, some 23, some 24] [.int .i64 k, .int .i64 k, .pointer (some ⟨g4, k, none⟩), .int .i64 (a k), .int .i64 k, .pointer (some ⟨g5, k, none⟩), .int .i64 (b k), .int .i64 n, .int .i64 d, .int .i64 (D.wt (a k) (b k) n d), .pointer (some ⟨g9, k, none⟩)] 1 (by kernel_rfl) (by kernel_rfl) (by rfl) (by rfl) (O.drew) (fun F hF => ?_)
      simp only [fillD, Act.put, List.setIfInBounds_toArray, List.set_cons_zero, List.set_cons_succ] at hF
      subst hF
      refine ⟨⟨does_want rfl (by rfl) (fun w' O K hK => ?_), does_want rfl (by rfl) (fun w' O K hK => ?_), does_want rfl (by rfl) (fun w' O K hK => ?_), does_want rfl (by rfl) (fun w' O K hK => ?_), does_want rfl (by rfl) (fun w' O K hK => ?_), does_want rfl (by rfl) (fun w' O K hK => ?_), does_want rfl (by rfl) (fun w' O K hK => ?_), does_want rfl (by rfl) (fun w' O K hK => ?_), does_want rfl (by rfl) (fun w' O K hK => ?_), does_want rfl (by rfl) (fun w' O K hK => ?_), does_want rfl (by rfl) (fun w' O K hK => ?_), trivial⟩, fun w' O => ?_⟩
      · go_simp
        exact hK _ O
      · go_simp
        exact hK _ O
      · go_simp
        exact hK _ O
      · exact wp_cell_h (v := .int .i64 ((a) (k))) O.held 3 rfl (M.mat_get (by omega)) rfl agg3 rfl (hK _ O)
      · go_simp
        exact hK _ O
      · go_simp
        exact hK _ O
      · exact wp_cell_h (v := .int .i64 ((b) (k))) O.held 2 rfl (M.mat_get (by omega)) rfl agg3 rfl (hK _ O)
      · go_simp
        exact hK _ O
      · go_simp
        exact hK _ O
      · go_simp
        go_at_call 24
        refine (CW.out k hlt _).mono ?_
        rintro e w2 ⟨rfl, hb⟩
        exact hK _ (O.call hb)
      · go_simp
        exact hK _ O
      refine wpAny_want (i := 11) (by kernel_rfl) rfl (by rfl) (fun K hK => ?_)
      refine wp_set_own O 0 (.int .i64 (D.wt (a k) (b k) n d)) rfl (by rw [M.mat_len]; omega) rfl rfl size3 rfl rfl fun w9 O9 => hK _ _ ?_
      clear O
      have O := O9
      clear O9
      clear hK K
      try simp only [Act.put, List.setIfInBounds_toArray, List.set_cons_zero, List.set_cons_succ]
      refine wpAny_done (by kernel_rfl) ?_ _
      go_wp2_with fail
      go_roundw
      case rel => exact ⟨k + 1, by omega, by go_num, by rw [← D.wayK_set a b n d k hlt]; exact O⟩
      case measure => simp [intOf]; omega
    · have q5 : ¬ (k : Int) < 4 := by omega
      obtain rfl : k = 4 := by omega
      go_wp2_with (first | ((with_reducible refine at_load 26 ?_); refine wpList_whole rfl O 0 rfl rfl Try.underlying22 rfl (s22 _) ?_) | ((with_reducible refine at_store 8 ?_); refine wpList_put_own O 1 (M.mat 4 (D.wayK a b n d 4)) rfl rfl rfl (s22 _) (M.mat_len2 _ _ _) (M.mat_one _ _) ?_; clear O; intro w5 O))
      exact bodyPost_ret (v := arr 4 (D.wayK a b n d 4)) (res_cell rfl O 1 rfl rfl Try.underlying22 (s22 _)) rfl ⟨by rw [arr, D.wayK_end], O.below⟩
/-- How a vertex and a number are handed back. -/
def RetAt (w : World) (r : (Nat → Int) × Int) (e : Ending) (w' : World) : Prop := e = .returned (.tuple #[arr 8 r.1, .int .i64 r.2]) ∧ Below w.heap.size w w'
theorem Own.held_res {w0 w : World} {bs : List (Nat × TypeId × List Value)} (O : Own w0 w bs) : Held w0 w bs nilRow [] := O.held
theorem built27 (a b : Nat → Int) (n d : Int) : Try.prog.built 27 [(0, .int .i64 (D.wt (a 0) (b 0) n d)), (1, .int .i64 (D.wt (a 1) (b 1) n d)), (2, .int .i64 (D.wt (a 2) (b 2) n d)), (3, .int .i64 (D.wt (a 3) (b 3) n d))] = some (M.mat 8 (D.wayK a b n d 4)).toArray := by kernel_rfl
theorem D.okAt_split {a b : Nat → Int} {n d : Int} (h : D.okAt a b n d = false) : D.fits a = false ∨ (D.fits a = true ∧ D.fits b = false) ∨ (D.fits a = true ∧ D.fits b = true ∧ d < 1) ∨ (D.fits a = true ∧ D.fits b = true ∧ ¬ d < 1 ∧ n < 0) ∨ (D.fits a = true ∧ D.fits b = true ∧ ¬ d < 1 ∧ ¬ n < 0 ∧ d < n) := by
  cases ha : D.fits a
  · exact .inl rfl
  cases hb : D.fits b
  · exact .inr (.inl ⟨rfl, rfl⟩)
  by_cases hd : d < 1
  · exact .inr (.inr (.inl ⟨rfl, rfl, hd⟩))
  by_cases hn : n < 0
  · exact .inr (.inr (.inr (.inl ⟨rfl, rfl, hd, hn⟩)))
  by_cases hx : d < n
  · exact .inr (.inr (.inr (.inr ⟨rfl, rfl, hd, hn, hx⟩)))
  · have : D.okAt a b n d = true := D.okAt_iff.2 ⟨ha, hb, by omega, by omega, by omega⟩
    rw [this] at h
    cases h
set_option maxHeartbeats 4000000 in
theorem at_no (a b : Nat → Int) (n d : Int) (h : D.okAt a b n d = false) (w : World) : Calls Try.prog 17 #[arr 8 a, arr 8 b, .int .i64 n, .int .i64 d] w (RetAt w (D.at_ a b n d)) := by
  have O := Own.start w
  have HE := Lib.hid (D.at_no h)
  rcases D.okAt_split h with h1 | ⟨h1, h2⟩ | ⟨h1, h2, h3⟩ | ⟨h1, h2, h3, h4⟩ | ⟨h1, h2, h3, h4, h5⟩
  all_goals
    clear h
    go_enter Try.func17, Try.ntmps17
    go_wp2_with (first | ((with_reducible refine at_box 4 ?_); refine wpList_box_own O (M.mat 8 (a)) rfl ?_; clear O; intro g4 w1 O) | ((with_reducible refine at_box 5 ?_); refine wpList_box_own O (M.mat 8 (b)) rfl ?_; clear O; intro g5 w2 O) | ((with_reducible refine at_alloc 8 ?_); refine wpList_alloc_own O (M.mat 8 M.zero) zero27 ?_; clear O; intro g8 w3 O) | ((with_reducible refine at_load 11 ?_); refine wpList_whole rfl O 2 rfl rfl Try.underlying27 rfl (s27 _) ?_) | (go_at_call 10; refine (fits_any _ _).mono ?_; rintro e w4 ⟨rfl, hb⟩; replace O := O.call hb; clear hb) | ((with_reducible refine at_load 15 ?_); refine wpList_whole rfl O 1 rfl rfl Try.underlying27 rfl (s27 _) ?_) | ((with_reducible refine at_build 32 ?_); refine wpList_build_g rfl ([]) ((M.mat 8 M.zero).toArray) ?_ (built27z) ?_; (focus (simp only [List.map_toArray, List.map_cons, List.map_nil]; rfl))) | ((with_reducible refine at_store 8 ?_); refine wpList_put_own O 0 (M.mat 8 (M.zero)) rfl rfl rfl (s27 _) (M.mat_len2 _ _ _) (M.mat_one _ _) ?_; clear O; intro w5 O))
    exact bodyPost_ret (v := .tuple #[arr 8 M.zero, .int .i64 1]) (res_h2 rfl O.held 0 rfl rfl Try.underlying27 rfl (s27 _) rfl) rfl ⟨by rw [HE.out], O.below⟩
set_option maxHeartbeats 4000000 in
theorem rat_no (a b : Nat → Int) (n d : Int) (h : D.okAt a b n d = false) (w : World) : Calls Try.prog 18 #[arr 8 a, arr 8 b, .int .i64 n, .int .i64 d] w (RetAt w (D.at_ a b n d)) := by
  have O := Own.start w
  have HE := Lib.hid (D.at_no h)
  rcases D.okAt_split h with h1 | ⟨h1, h2⟩ | ⟨h1, h2, h3⟩ | ⟨h1, h2, h3, h4⟩ | ⟨h1, h2, h3, h4, h5⟩
  all_goals
    clear h
    go_enter Try.func18, Try.ntmps18
    go_wp2_with (first | ((with_reducible refine at_box 4 ?_); refine wpList_box_own O (M.mat 8 (a)) rfl ?_; clear O; intro g4 w1 O) | ((with_reducible refine at_box 5 ?_); refine wpList_box_own O (M.mat 8 (b)) rfl ?_; clear O; intro g5 w2 O) | ((with_reducible refine at_alloc 8 ?_); refine wpList_alloc_own O (M.mat 8 M.zero) zero27 ?_; clear O; intro g8 w3 O) | ((with_reducible refine at_load 12 ?_); refine wpList_whole rfl O 2 rfl rfl Try.underlying27 rfl (s27 _) ?_) | (go_at_call 11; refine (rfits_any _ _).mono ?_; rintro e w4 ⟨rfl, hb⟩; replace O := O.call hb; clear hb) | ((with_reducible refine at_load 16 ?_); refine wpList_whole rfl O 1 rfl rfl Try.underlying27 rfl (s27 _) ?_) | ((with_reducible refine at_build 33 ?_); refine wpList_build_g rfl ([]) ((M.mat 8 M.zero).toArray) ?_ (built27z) ?_; (focus (simp only [List.map_toArray, List.map_cons, List.map_nil]; rfl))) | ((with_reducible refine at_store 8 ?_); refine wpList_put_own O 0 (M.mat 8 (M.zero)) rfl rfl rfl (s27 _) (M.mat_len2 _ _ _) (M.mat_one _ _) ?_; clear O; intro w5 O))
    exact bodyPost_ret (v := .tuple #[arr 8 M.zero, .int .i64 1]) (res_h2 rfl O.held 0 rfl rfl Try.underlying27 rfl (s27 _) rfl) rfl ⟨by rw [HE.out], O.below⟩
theorem built27w (a b : Nat → Int) (n d : Int) : Try.prog.built 27 [(0, .int .i64 (D.way a b n d 0)), (1, .int .i64 (D.way a b n d 1)), (2, .int .i64 (D.way a b n d 2)), (3, .int .i64 (D.way a b n d 3)), (4, arr 4 (D.way (D.sub 4 a) (D.sub 4 b) n d))] = some (M.mat 8 (D.way a b n d)).toArray := by kernel_rfl
set_option maxHeartbeats 8000000 in
theorem at_yes_any (a b : Nat → Int) (n d : Int) (h : D.okAt a b n d = true) (h9 : d < 9223372036854775808) (w : World) : Calls Try.prog 17 #[arr 8 a, arr 8 b, .int .i64 n, .int .i64 d] w (RetAt w (D.at_ a b n d)) := by
  have O := Own.start w
  have HE := Lib.hid (D.at_yes h)
  obtain ⟨h1, h2, h3, h4, h5⟩ := D.okAt_iff.1 h
  have CB := Lib.hid (fun w => between_any a b n d (D.fits_iff.1 h1).1 (D.fits_iff.1 h2).1 h4 h5 h3 h9 w)
  have CC := Lib.hid (fun w => between_any (D.sub 4 a) (D.sub 4 b) n d (fun i hi => D.fits_rng h1 (i := 4 + i) (by omega)) (fun i hi => D.fits_rng h2 (i := 4 + i) (by omega)) h4 h5 h3 h9 w)
  have q1 : decide (d < 1) = false := by simp; omega
  have q2 : decide (n < 0) = false := by simp; omega
  have q3 : decide (d < n) = false := by simp; omega
  clear h h3 h4 h5 h9
  go_enter Try.func17, Try.ntmps17
  go_wp2_with (first | ((with_reducible refine at_box 4 ?_); refine wpList_box_own O (M.mat 8 (a)) rfl ?_; clear O; intro g4 w1 O) | ((with_reducible refine at_box 5 ?_); refine wpList_box_own O (M.mat 8 (b)) rfl ?_; clear O; intro g5 w2 O) | ((with_reducible refine at_alloc 8 ?_); refine wpList_alloc_own O (M.mat 8 M.zero) zero27 ?_; clear O; intro g8 w3 O) | ((with_reducible refine at_load 11 ?_); refine wpList_whole rfl O 2 rfl rfl Try.underlying27 rfl (s27 _) ?_) | (go_at_call 10; refine (fits_any _ _).mono ?_; rintro e w4 ⟨rfl, hb⟩; replace O := O.call hb; clear hb) | ((with_reducible refine at_load 15 ?_); refine wpList_whole rfl O 1 rfl rfl Try.underlying27 rfl (s27 _) ?_))
  clear h1 h2 q1 q2 q3
  refine region_A w [(g8, 27, M.mat 8 M.zero), (g5, 27, M.mat 8 b), (g4, 27, M.mat 8 a)] 22 (M.mat 4 M.zero) (M.mat 4 (D.way a b n d)) 7 8 9 [some 33, some 34, some 35, some 36, some 37, some 38, some 39, some 10, none] [arr 8 a, arr 4 a, arr 8 b, arr 4 b, .int .i64 n, .int .i64 d, arr 4 (D.way a b n d), undef, undef] 0 (by kernel_rfl) (by kernel_rfl) (by rfl) (by rfl) (by rfl) (by decide) (by decide) (by decide) (by kernel_rfl) (O.drew) (fun F hF => ?_)
  simp only [fillD, List.set_cons_zero, List.set_cons_succ, Act.put, List.setIfInBounds_toArray, List.set_cons_zero, List.set_cons_succ] at hF
  have hF2 := funext hF
  clear hF
  subst hF2
  refine ⟨⟨doesA_want rfl (fun p => rfl) (fun ext hx p w' O K hK => ?_), doesA_want rfl (fun p => rfl) (fun ext hx p w' O K hK => ?_), doesA_want rfl (fun p => rfl) (fun ext hx p w' O K hK => ?_), doesA_want rfl (fun p => rfl) (fun ext hx p w' O K hK => ?_), doesA_want rfl (fun p => rfl) (fun ext hx p w' O K hK => ?_), doesA_want rfl (fun p => rfl) (fun ext hx p w' O K hK => ?_), doesA_want rfl (fun p => rfl) (fun ext hx p w' O K hK => ?_), doesA_alloc, doesA_store, trivial⟩, ⟨_, rfl, rfl, fun w' O K hK => ?_⟩, ⟨_, rfl, fun g => rfl, fun g w' O K hK => ?_⟩, fun g w' O => ?_⟩
  · try dsimp only
    exact wp_whole (hx _ O) 2 rfl rfl Try.underlying27 rfl (s27 _) (hK _ O)
  · try dsimp only
    go_simp
    go_at_call 21
    refine (place_any _ _).mono ?_
    rintro e w2 ⟨rfl, hb⟩
    exact hK _ (O.call hb)
  · try dsimp only
    exact wp_whole (hx _ O) 1 rfl rfl Try.underlying27 rfl (s27 _) (hK _ O)
  · try dsimp only
    go_simp
    go_at_call 21
    refine (place_any _ _).mono ?_
    rintro e w2 ⟨rfl, hb⟩
    exact hK _ (O.call hb)
  · try dsimp only
    go_simp
    exact hK _ O
  · try dsimp only
    go_simp
    exact hK _ O
  · try dsimp only
    go_simp
    go_at_call 22
    refine (CB.out _).mono ?_
    rintro e w2 ⟨rfl, hb⟩
    exact hK _ (O.call hb)
  · try dsimp only
    exact wp_alloc_own O (M.mat 4 M.zero) zero22 fun g w1 O1 => hK g w1 O1
  · try dsimp only
    exact wp_put_own O 0 (M.mat 4 (D.way a b n d)) rfl rfl rfl (s22 _) (M.mat_len2 _ _ _) (M.mat_one _ _) fun w1 O1 => hK w1 O1
  try dsimp only
  refine wpAny_done (by kernel_rfl) ?_ _
  go_wp2_with fail
  refine region_V (fun w2 => Own w w2 ((g, 22, M.mat 4 (D.way a b n d)) :: [(g8, 27, M.mat 8 M.zero), (g5, 27, M.mat 8 b), (g4, 27, M.mat 8 a)])) [0, 1, 2, 3, 4, 5, 6, 7, 8, 9, 10, 11, 12, 13, 14, 15] [some 40, some 41, some 42, some 43, some 44, some 45, some 46, some 47, some 48, some 49, some 50, some 51, some 52, some 53, some 54, some 55] [.pointer (some ⟨g, 0, none⟩), .int .i64 (D.way a b n d 0), .pointer (some ⟨g, 1, none⟩), .int .i64 (D.way a b n d 1), .pointer (some ⟨g, 2, none⟩), .int .i64 (D.way a b n d 2), .pointer (some ⟨g, 3, none⟩), .int .i64 (D.way a b n d 3), .pointer (some ⟨g4, 4, none⟩), arr 4 (D.sub 4 a), .pointer (some ⟨g5, 4, none⟩), arr 4 (D.sub 4 b), .int .i64 n, .int .i64 d, arr 4 (D.way (D.sub 4 a) (D.sub 4 b) n d), arr 8 (D.way a b n d)] 2 (by kernel_rfl) (by kernel_rfl) (by rfl) (by rfl) (O.drew) (fun F hF => ?_)
  simp only [fillD, Act.put, List.setIfInBounds_toArray, List.set_cons_zero, List.set_cons_succ] at hF
  subst hF
  refine ⟨⟨does_want rfl (by rfl) (fun w' O K hK => ?_), does_want rfl (by rfl) (fun w' O K hK => ?_), does_want rfl (by rfl) (fun w' O K hK => ?_), does_want rfl (by rfl) (fun w' O K hK => ?_), does_want rfl (by rfl) (fun w' O K hK => ?_), does_want rfl (by rfl) (fun w' O K hK => ?_), does_want rfl (by rfl) (fun w' O K hK => ?_), does_want rfl (by rfl) (fun w' O K hK => ?_), does_want rfl (by rfl) (fun w' O K hK => ?_), does_want rfl (by rfl) (fun w' O K hK => ?_), does_want rfl (by rfl) (fun w' O K hK => ?_), does_want rfl (by rfl) (fun w' O K hK => ?_), does_want rfl (by rfl) (fun w' O K hK => ?_), does_want rfl (by rfl) (fun w' O K hK => ?_), does_want rfl (by rfl) (fun w' O K hK => ?_), does_want rfl (by rfl) (fun w' O K hK => ?_), trivial⟩, fun w' O => ?_⟩
  · go_simp
    exact hK _ O
  · exact wp_cell_h (v := .int .i64 ((D.way a b n d) (0))) O.held 0 rfl (M.mat_get (by omega)) rfl agg3 rfl (hK _ O)
  · go_simp
    exact hK _ O
  · exact wp_cell_h (v := .int .i64 ((D.way a b n d) (1))) O.held 0 rfl (M.mat_get (by omega)) rfl agg3 rfl (hK _ O)
  · go_simp
    exact hK _ O
  · exact wp_cell_h (v := .int .i64 ((D.way a b n d) (2))) O.held 0 rfl (M.mat_get (by omega)) rfl agg3 rfl (hK _ O)
  · go_simp
    exact hK _ O
  · exact wp_cell_h (v := .int .i64 ((D.way a b n d) (3))) O.held 0 rfl (M.mat_get (by omega)) rfl agg3 rfl (hK _ O)
  · go_simp
    exact hK _ O
  · exact wp_mid_h O.held 3 rfl (M.mat 4 (D.sub 4 a)) (mat_sub a (by omega)) rfl Try.underlying25 rfl (s25 _) (hK _ O)
  · go_simp
    exact hK _ O
  · exact wp_mid_h O.held 2 rfl (M.mat 4 (D.sub 4 b)) (mat_sub b (by omega)) rfl Try.underlying25 rfl (s25 _) (hK _ O)
  · go_simp
    exact hK _ O
  · go_simp
    exact hK _ O
  · go_simp
    go_at_call 22
    refine (CC.out _).mono ?_
    rintro e w2 ⟨rfl, hb⟩
    exact hK _ (O.call hb)
  · refine wp_build_own ([(0, .int .i64 (D.way a b n d 0)), (1, .int .i64 (D.way a b n d 1)), (2, .int .i64 (D.way a b n d 2)), (3, .int .i64 (D.way a b n d 3)), (4, arr 4 (D.way (D.sub 4 a) (D.sub 4 b) n d))]) ((M.mat 8 (D.way a b n d)).toArray) ?_ (built27w a b n d) (hK _ O)
    simp only [List.map_toArray, List.map_cons, List.map_nil]
    rfl
  refine wpAny_want (i := 16) (by kernel_rfl) rfl (by rfl) (fun K hK => ?_)
  refine wp_put_own O 1 (M.mat 8 (D.way a b n d)) rfl rfl rfl (s27 _) (M.mat_len2 _ _ _) (M.mat_one _ _) fun w9 O9 => hK _ _ ?_
  clear O
  have O := O9
  clear O9
  clear hK K
  try simp only [Act.put, List.setIfInBounds_toArray, List.set_cons_zero, List.set_cons_succ]
  refine wpAny_one (i := 17) (by kernel_rfl) rfl (fun K hK => ?_)
  go_simp
  refine hK _ _ ?_
  clear hK K
  try simp only [Act.put, List.setIfInBounds_toArray, List.set_cons_zero, List.set_cons_succ]
  refine wpAny_done (by kernel_rfl) ?_ _
  go_wp2_with fail
  exact bodyPost_ret (v := .tuple #[arr 8 (D.way a b n d), .int .i64 0]) (res_h2 rfl O.held 1 rfl rfl Try.underlying27 rfl (s27 _) rfl) rfl ⟨by rw [HE.out], O.below⟩
theorem at_any (a b : Nat → Int) (n d : Int) (h9 : d < 9223372036854775808) (w : World) : Calls Try.prog 17 #[arr 8 a, arr 8 b, .int .i64 n, .int .i64 d] w (RetAt w (D.at_ a b n d)) := by
  cases h : D.okAt a b n d
  · exact at_no a b n d h w
  · exact at_yes_any a b n d h h9 w
end Go.Proofs.Ytbjbafhlmcnceaa
