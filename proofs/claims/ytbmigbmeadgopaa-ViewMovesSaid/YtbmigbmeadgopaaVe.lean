/- Contract: Map. -/
import Derived.Test.YtbmigbmeadgopaaVd
namespace Go.Proofs.Ytbmigbmeadgopaa
open Go.ChangeShapes Go.WideShapes Go.ChangeAt Go.RowKit
set_option linter.unusedVariables false
set_option linter.unusedSimpArgs false

/-- How a place and an error are handed back. -/
def RetMap (w : World) (r : (Nat → Int) × Int) (e : Ending) (w' : World) : Prop := e = .returned (.tuple #[arr 7 r.1, .int .i64 r.2]) ∧ Below w.heap.size w w'
theorem V.good_parts {v p : Nat → Int} (h : V.good v p = true) : (∀ i, i < 4 → -68719476736 ≤ v i ∧ v i ≤ 68719476736) ∧ (1 ≤ v 3 ∧ v 3 ≤ 68719476736) ∧ (-8192 ≤ p 0 ∧ p 0 ≤ 8192) ∧ (-8192 ≤ p 1 ∧ p 1 ≤ 8192) ∧ (0 ≤ p 2 ∧ p 2 ≤ 4096) ∧ (0 ≤ p 3 ∧ p 3 ≤ 4096) := by
  obtain ⟨h1, h2, h3⟩ := V.good_iff.1 h
  obtain ⟨a1, a2, a3, a4⟩ := V.port_iff.1 h3
  have h4 := (D.fits_iff.1 h1).1
  exact ⟨h4, ⟨h2, (h4 3 (by omega)).2⟩, a1, a2, a3, a4⟩
set_option maxHeartbeats 4000000 in
theorem map_bad_any (v p : Nat → Int) (h : V.good v p = false) (w : World) : Calls Try.prog 8 #[arr 8 v, arr 4 p] w (RetMap w (V.map v p)) := by
  have O := Own.start w
  have HE := Lib.hid (V.map_bad h)
  have CK := fun w => ok_any v w
  have CP := fun w => right_any p w
  rw [V.good_ok] at h
  cases h1 : V.ok v
  · rw [h1] at CK
    clear h h1
    go_enter Try.func8, Try.ntmps8
    go_wp2_with (first | ((with_reducible refine at_box 2 ?_); refine wpList_box_own O (M.mat 8 (v)) rfl ?_; clear O; intro g2 w1 O) | ((with_reducible refine at_box 3 ?_); refine wpList_box_own O (M.mat 4 (p)) rfl ?_; clear O; intro g3 w2 O) | ((with_reducible refine at_alloc 4 ?_); refine wpList_alloc_own O (M.mat 7 M.zero) zeroW ?_; clear O; intro g4 w3 O) | ((with_reducible refine at_load 8 ?_); refine wpList_whole rfl O 2 rfl rfl Try.underlying25 rfl (s27 _) ?_) | (go_at_call 15; refine (CK _).mono ?_; rintro e w4 ⟨rfl, hb⟩; replace O := O.call hb; clear hb) | ((with_reducible refine at_load 12 ?_); refine wpList_whole rfl O 1 rfl rfl Try.underlying27 rfl (sP _) ?_) | (go_at_call 11; refine (CP _).mono ?_; rintro e w5 ⟨rfl, hb⟩; replace O := O.call hb; clear hb) | ((with_reducible refine at_build 16 ?_); refine wpList_build_g rfl ([]) ((M.mat 7 M.zero).toArray) ?_ (builtWz) ?_; (focus (simp only [List.map_toArray, List.map_cons, List.map_nil]; rfl))) | ((with_reducible refine at_store 4 ?_); refine wpList_put_own O 0 (M.mat 7 (M.zero)) rfl rfl rfl (sW _) (M.mat_len2 _ _ _) (M.mat_one _ _) ?_; clear O; intro w6 O))
    exact bodyPost_ret (v := .tuple #[arr 7 (M.zero), .int .i64 1]) (res_h2 rfl O.held 0 rfl rfl Try.underlying29 rfl (sW _) rfl) rfl ⟨by rw [HE.out], O.below⟩
  · rw [h1, Bool.true_and] at h
    rw [h1] at CK
    rw [h] at CP
    clear h h1
    go_enter Try.func8, Try.ntmps8
    go_wp2_with (first | ((with_reducible refine at_box 2 ?_); refine wpList_box_own O (M.mat 8 (v)) rfl ?_; clear O; intro g2 w1 O) | ((with_reducible refine at_box 3 ?_); refine wpList_box_own O (M.mat 4 (p)) rfl ?_; clear O; intro g3 w2 O) | ((with_reducible refine at_alloc 4 ?_); refine wpList_alloc_own O (M.mat 7 M.zero) zeroW ?_; clear O; intro g4 w3 O) | ((with_reducible refine at_load 8 ?_); refine wpList_whole rfl O 2 rfl rfl Try.underlying25 rfl (s27 _) ?_) | (go_at_call 15; refine (CK _).mono ?_; rintro e w4 ⟨rfl, hb⟩; replace O := O.call hb; clear hb) | ((with_reducible refine at_load 12 ?_); refine wpList_whole rfl O 1 rfl rfl Try.underlying27 rfl (sP _) ?_) | (go_at_call 11; refine (CP _).mono ?_; rintro e w5 ⟨rfl, hb⟩; replace O := O.call hb; clear hb) | ((with_reducible refine at_build 16 ?_); refine wpList_build_g rfl ([]) ((M.mat 7 M.zero).toArray) ?_ (builtWz) ?_; (focus (simp only [List.map_toArray, List.map_cons, List.map_nil]; rfl))) | ((with_reducible refine at_store 4 ?_); refine wpList_put_own O 0 (M.mat 7 (M.zero)) rfl rfl rfl (sW _) (M.mat_len2 _ _ _) (M.mat_one _ _) ?_; clear O; intro w6 O))
    exact bodyPost_ret (v := .tuple #[arr 7 (M.zero), .int .i64 1]) (res_h2 rfl O.held 0 rfl rfl Try.underlying29 rfl (sW _) rfl) rfl ⟨by rw [HE.out], O.below⟩
set_option maxHeartbeats 8000000 in
theorem map_good_any (v p : Nat → Int) (h : V.good v p = true) (w : World) : Calls Try.prog 8 #[arr 8 v, arr 4 p] w (RetMap w (V.map v p)) := by
  have O := Own.start w
  have CK := fun w => ok_any v w
  have CP := fun w => right_any p w
  have h' := h
  rw [V.good_ok, Bool.and_eq_true] at h'
  rw [h'.1] at CK
  rw [h'.2] at CP
  clear h'
  obtain ⟨hv, h3, p0, p1, p2, p3⟩ := V.good_parts h
  have CX := fun w => place_any (p 0) (p 2) (v 0) (v 3) p0 p2 (hv 0 (by omega)) h3 w
  have CY := fun w => place_any (p 1) (p 3) (v 1) (v 3) p1 p3 (hv 1 (by omega)) h3 w
  have CZ := fun w => depth_any (v 2) (v 3) (hv 2 (by omega)) h3 w
  clear hv h3 p0 p1 p2 p3
  have HF := Lib.hid (fun g => V.map_far h g)
  have HG := Lib.hid (fun g => V.map_is h g)
  clear h
  generalize V.along (p 0) (p 2) (v 0) (v 3) = x at *
  generalize V.along (p 1) (p 3) (v 1) (v 3) = y at *
  generalize V.deep (v 2) (v 3) = z at *
  have SX := fun w => spot_any x w
  have SY := fun w => spot_any y w
  have BW := fun (x y z : Int) => builtW x y z v
  go_enter Try.func8, Try.ntmps8
  go_wp2_with (first | ((with_reducible refine at_box 2 ?_); refine wpList_box_own O (M.mat 8 (v)) rfl ?_; clear O; intro g2 w1 O) | ((with_reducible refine at_box 3 ?_); refine wpList_box_own O (M.mat 4 (p)) rfl ?_; clear O; intro g3 w2 O) | ((with_reducible refine at_alloc 4 ?_); refine wpList_alloc_own O (M.mat 7 M.zero) zeroW ?_; clear O; intro g4 w3 O) | ((with_reducible refine at_load 8 ?_); refine wpList_whole rfl O 2 rfl rfl Try.underlying25 rfl (s27 _) ?_) | (go_at_call 15; refine (CK _).mono ?_; rintro e w4 ⟨rfl, hb⟩; replace O := O.call hb; clear hb) | ((with_reducible refine at_load 12 ?_); refine wpList_whole rfl O 1 rfl rfl Try.underlying27 rfl (sP _) ?_) | (go_at_call 11; refine (CP _).mono ?_; rintro e w5 ⟨rfl, hb⟩; replace O := O.call hb; clear hb))
  refine region_T ((fun w2 => Own w w2 [(g4, 29, M.mat 7 M.zero), (g3, 27, M.mat 4 p), (g2, 25, M.mat 8 v)])) [0, 1, 2, 3, 4, 5, 6, 7, 8, 9, 10, 11, 12, 13, 14, 15, 16, 17] 12 [some 17, some 18, some 19, some 20, some 21, some 22, some 23, some 24, some 25, some 26, some 27, some 28, some 29, some 30, some 31, some 32, some 33, some 34] [.pointer (some ⟨g3, 0, none⟩), .int .i64 (p 0), .pointer (some ⟨g3, 2, none⟩), .int .i64 (p 2), .pointer (some ⟨g2, 0, none⟩), .int .i64 (v 0), .pointer (some ⟨g2, 3, none⟩), .int .i64 (v 3), .int .i64 (x), .pointer (some ⟨g3, 1, none⟩), .int .i64 (p 1), .pointer (some ⟨g3, 3, none⟩), .int .i64 (p 3), .pointer (some ⟨g2, 1, none⟩), .int .i64 (v 1), .pointer (some ⟨g2, 3, none⟩), .int .i64 (v 3), .int .i64 (y)] 2 (by kernel_rfl) (by rfl) (by kernel_rfl) (by rfl) (by rfl) (O.drew) (fun F hF => ?_)
  simp only [fillD, Act.put, List.setIfInBounds_toArray, List.set_cons_zero, List.set_cons_succ] at hF
  subst hF
  refine ⟨⟨does_want rfl (by rfl) (fun w' O K hK => ?_), does_want rfl (by rfl) (fun w' O K hK => ?_), does_want rfl (by rfl) (fun w' O K hK => ?_), does_want rfl (by rfl) (fun w' O K hK => ?_), does_want rfl (by rfl) (fun w' O K hK => ?_), does_want rfl (by rfl) (fun w' O K hK => ?_), does_want rfl (by rfl) (fun w' O K hK => ?_), does_want rfl (by rfl) (fun w' O K hK => ?_), does_want rfl (by rfl) (fun w' O K hK => ?_), does_want rfl (by rfl) (fun w' O K hK => ?_), does_want rfl (by rfl) (fun w' O K hK => ?_), does_want rfl (by rfl) (fun w' O K hK => ?_), does_want rfl (by rfl) (fun w' O K hK => ?_), does_want rfl (by rfl) (fun w' O K hK => ?_), does_want rfl (by rfl) (fun w' O K hK => ?_), does_want rfl (by rfl) (fun w' O K hK => ?_), does_want rfl (by rfl) (fun w' O K hK => ?_), does_want rfl (by rfl) (fun w' O K hK => ?_), trivial⟩, fun w' O => ?_⟩
  · go_simp
    exact hK _ O
  · exact wp_cell_h (v := .int .i64 ((p) (0))) O.held 1 rfl (M.mat_get (by omega)) rfl agg3 rfl (hK _ O)
  · go_simp
    exact hK _ O
  · exact wp_cell_h (v := .int .i64 ((p) (2))) O.held 1 rfl (M.mat_get (by omega)) rfl agg3 rfl (hK _ O)
  · go_simp
    exact hK _ O
  · exact wp_cell_h (v := .int .i64 ((v) (0))) O.held 2 rfl (M.mat_get (by omega)) rfl agg3 rfl (hK _ O)
  · go_simp
    exact hK _ O
  · exact wp_cell_h (v := .int .i64 ((v) (3))) O.held 2 rfl (M.mat_get (by omega)) rfl agg3 rfl (hK _ O)
  · go_simp
    go_at_call 16
    refine (CX _).mono ?_
    rintro e w2 ⟨rfl, rfl⟩
    exact hK _ O
  · go_simp
    exact hK _ O
  · exact wp_cell_h (v := .int .i64 ((p) (1))) O.held 1 rfl (M.mat_get (by omega)) rfl agg3 rfl (hK _ O)
  · go_simp
    exact hK _ O
  · exact wp_cell_h (v := .int .i64 ((p) (3))) O.held 1 rfl (M.mat_get (by omega)) rfl agg3 rfl (hK _ O)
  · go_simp
    exact hK _ O
  · exact wp_cell_h (v := .int .i64 ((v) (1))) O.held 2 rfl (M.mat_get (by omega)) rfl agg3 rfl (hK _ O)
  · go_simp
    exact hK _ O
  · exact wp_cell_h (v := .int .i64 ((v) (3))) O.held 2 rfl (M.mat_get (by omega)) rfl agg3 rfl (hK _ O)
  · go_simp
    go_at_call 16
    refine (CY _).mono ?_
    rintro e w2 ⟨rfl, rfl⟩
    exact hK _ O
  refine wpAny_one (i := 18) (by kernel_rfl) rfl (fun K hK => ?_)
  go_simp
  refine hK _ _ ?_
  clear hK K
  try simp only [Act.put, List.setIfInBounds_toArray, List.set_cons_zero, List.set_cons_succ]
  refine wpAny_one (i := 19) (by kernel_rfl) rfl (fun K hK => ?_)
  go_simp
  refine hK _ _ ?_
  clear hK K
  try simp only [Act.put, List.setIfInBounds_toArray, List.set_cons_zero, List.set_cons_succ]
  refine wpAny_done (by kernel_rfl) ?_ _
  cases hx : V.spot x
  · have HE := Lib.hid (HF.out (by rw [hx]; rfl))
    clear HF HG
    rw [hx] at SX
    clear hx
    go_wp2_with (first | (go_at_call_of 17 (Value.int IntKind.i64 x); refine (SX _).mono ?_; rintro e w' ⟨rfl, rfl⟩) | (go_at_call_of 17 (Value.int IntKind.i64 y); refine (SY _).mono ?_; rintro e w' ⟨rfl, rfl⟩) | ((with_reducible refine at_build 43 ?_); refine wpList_build_g rfl ([]) ((M.mat 7 M.zero).toArray) ?_ (builtWz) ?_; (focus (simp only [List.map_toArray, List.map_cons, List.map_nil]; rfl))) | ((with_reducible refine at_store 4 ?_); refine wpList_put_own O 0 (M.mat 7 (M.zero)) rfl rfl rfl (sW _) (M.mat_len2 _ _ _) (M.mat_one _ _) ?_; clear O; intro w6 O))
    exact bodyPost_ret (v := .tuple #[arr 7 (M.zero), .int .i64 9]) (res_h2 rfl O.held 0 rfl rfl Try.underlying29 rfl (sW _) rfl) rfl ⟨by rw [HE.out], O.below⟩
  cases hy : V.spot y
  · have HE := Lib.hid (HF.out (by rw [hx, hy]; rfl))
    clear HF HG
    rw [hx] at SX
    rw [hy] at SY
    clear hx hy
    go_wp2_with (first | (go_at_call_of 17 (Value.int IntKind.i64 x); refine (SX _).mono ?_; rintro e w' ⟨rfl, rfl⟩) | (go_at_call_of 17 (Value.int IntKind.i64 y); refine (SY _).mono ?_; rintro e w' ⟨rfl, rfl⟩) | ((with_reducible refine at_build 43 ?_); refine wpList_build_g rfl ([]) ((M.mat 7 M.zero).toArray) ?_ (builtWz) ?_; (focus (simp only [List.map_toArray, List.map_cons, List.map_nil]; rfl))) | ((with_reducible refine at_store 4 ?_); refine wpList_put_own O 0 (M.mat 7 (M.zero)) rfl rfl rfl (sW _) (M.mat_len2 _ _ _) (M.mat_one _ _) ?_; clear O; intro w6 O))
    exact bodyPost_ret (v := .tuple #[arr 7 (M.zero), .int .i64 9]) (res_h2 rfl O.held 0 rfl rfl Try.underlying29 rfl (sW _) rfl) rfl ⟨by rw [HE.out], O.below⟩
  have HE := Lib.hid (HG.out (by rw [hx, hy]; rfl))
  clear HF HG
  rw [hx] at SX
  rw [hy] at SY
  clear hx hy
  go_wp2_with (first | (go_at_call_of 17 (Value.int IntKind.i64 x); refine (SX _).mono ?_; rintro e w' ⟨rfl, rfl⟩) | (go_at_call_of 17 (Value.int IntKind.i64 y); refine (SY _).mono ?_; rintro e w' ⟨rfl, rfl⟩))
  refine region_T ((fun w2 => Own w w2 [(g4, 29, M.mat 7 M.zero), (g3, 27, M.mat 4 p), (g2, 25, M.mat 8 v)])) [0, 1, 2, 3, 4, 5, 6, 7, 8, 9] 12 [some 44, some 45, some 46, some 47, some 48, some 49, some 50, some 51, some 52, some 53] [.int .i64 (x), .int .i64 (y), .pointer (some ⟨g2, 2, none⟩), .int .i64 (v 2), .pointer (some ⟨g2, 3, none⟩), .int .i64 (v 3), .int .i64 (z), .pointer (some ⟨g2, 4, none⟩), arr 4 (D.sub 4 v), arr 7 (V.win x y z v)] 2 (by kernel_rfl) (by rfl) (by kernel_rfl) (by rfl) (by rfl) (O.drew) (fun F hF => ?_)
  simp only [fillD, Act.put, List.setIfInBounds_toArray, List.set_cons_zero, List.set_cons_succ] at hF
  subst hF
  refine ⟨⟨does_want rfl (by rfl) (fun w' O K hK => ?_), does_want rfl (by rfl) (fun w' O K hK => ?_), does_want rfl (by rfl) (fun w' O K hK => ?_), does_want rfl (by rfl) (fun w' O K hK => ?_), does_want rfl (by rfl) (fun w' O K hK => ?_), does_want rfl (by rfl) (fun w' O K hK => ?_), does_want rfl (by rfl) (fun w' O K hK => ?_), does_want rfl (by rfl) (fun w' O K hK => ?_), does_want rfl (by rfl) (fun w' O K hK => ?_), does_want rfl (by rfl) (fun w' O K hK => ?_), trivial⟩, fun w' O => ?_⟩
  · go_simp
    exact hK _ O
  · go_simp
    exact hK _ O
  · go_simp
    exact hK _ O
  · exact wp_cell_h (v := .int .i64 ((v) (2))) O.held 2 rfl (M.mat_get (by omega)) rfl agg3 rfl (hK _ O)
  · go_simp
    exact hK _ O
  · exact wp_cell_h (v := .int .i64 ((v) (3))) O.held 2 rfl (M.mat_get (by omega)) rfl agg3 rfl (hK _ O)
  · go_simp
    go_at_call 18
    refine (CZ _).mono ?_
    rintro e w2 ⟨rfl, rfl⟩
    exact hK _ O
  · go_simp
    exact hK _ O
  · exact wp_mid_h O.held 2 rfl (M.mat 4 (D.sub 4 v)) (mat_sub v (by omega)) rfl Try.underlying23 rfl (s25 _) (hK _ O)
  · refine wp_build_own ([(0, .int .i64 x), (1, .int .i64 y), (2, .int .i64 z), (3, arr 4 (D.sub 4 v))]) ((M.mat 7 (V.win x y z v)).toArray) ?_ (BW x y z) (hK _ O)
    simp only [List.map_toArray, List.map_cons, List.map_nil]
    rfl
  refine wpAny_want (i := 10) (by kernel_rfl) rfl (by rfl) (fun K hK => ?_)
  refine wp_put_own O 0 (M.mat 7 (V.win x y z v)) rfl rfl rfl (sW _) (M.mat_len2 _ _ _) (M.mat_one _ _) fun w9 O9 => hK _ _ ?_
  clear O
  have O := O9
  clear O9
  clear hK K
  try simp only [Act.put, List.setIfInBounds_toArray, List.set_cons_zero, List.set_cons_succ]
  refine wpAny_one (i := 11) (by kernel_rfl) rfl (fun K hK => ?_)
  go_simp
  refine hK _ _ ?_
  clear hK K
  try simp only [Act.put, List.setIfInBounds_toArray, List.set_cons_zero, List.set_cons_succ]
  refine wpAny_done (by kernel_rfl) ?_ _
  go_wp2_with fail
  exact bodyPost_ret (v := .tuple #[arr 7 (V.win x y z v), .int .i64 0]) (res_h2 rfl O.held 0 rfl rfl Try.underlying29 rfl (sW _) rfl) rfl ⟨by rw [HE.out], O.below⟩
theorem map_any (v p : Nat → Int) (w : World) : Calls Try.prog 8 #[arr 8 v, arr 4 p] w (RetMap w (V.map v p)) := by
  cases h : V.good v p
  · exact map_bad_any v p h w
  · exact map_good_any v p h w
end Go.Proofs.Ytbmigbmeadgopaa
