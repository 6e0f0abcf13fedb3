/- The document: Map. -/
import Derived.Test.YtbmigbmeadgopaaVf
namespace Go.Proofs.Ytbmigbmeadgopaa
open Go.ChangeShapes Go.WideShapes Go.ChangeAt Go.RowKit
set_option linter.unusedVariables false
set_option linter.unusedSimpArgs false

theorem rspot_any (u : Int) (w : World) : Calls Try.prog 19 #[.int .i64 u, .int .i64 (-268435456), .int .i64 268435456] w fun e w' => e = .returned (.bool (V.spot u)) ∧ w' = w := within_any u (-268435456) 268435456 w
set_option maxHeartbeats 8000000 in
theorem rmap_first (v p : Nat → Int) (h : V.first v p = true) (w : World) : Calls Try.prog 9 #[arr 8 v, arr 4 p] w (RetMap w (V.map v p)) := by
  have O := Own.start w
  have CP := fun w => rright_any p w
  have C3 := fun w => within_any (v 3) 1 68719476736 w
  have C0 := fun w => far_any (v 0) w
  have C1 := fun w => far_any (v 1) w
  have C2 := fun w => far_any (v 2) w
  have G0 : Hid (V.gk v p 0 = true) := Lib.hid h
  unfold V.first at h
  simp only [Bool.and_eq_true] at h
  obtain ⟨h0, h1, h2, h3, h4⟩ := h
  rw [h0] at CP
  rw [h1] at C3
  rw [h2] at C0
  rw [h3] at C1
  rw [h4] at C2
  clear h0 h1 h2 h3 h4
  go_enter Try.func9, Try.ntmps9
  go_wp2_with (first | ((with_reducible refine at_box 2 ?_); refine wpList_box_own O (M.mat 8 (v)) rfl ?_; clear O; intro g2 w1 O) | ((with_reducible refine at_box 3 ?_); refine wpList_box_own O (M.mat 4 (p)) rfl ?_; clear O; intro g3 w2 O) | ((with_reducible refine at_alloc 4 ?_); refine wpList_alloc_own O (M.mat 7 M.zero) zeroW ?_; clear O; intro g4 w3 O) | ((with_reducible refine at_load 11 ?_); refine wpList_whole rfl O 1 rfl rfl Try.underlying27 rfl (sP _) ?_) | (go_at_call 12; refine (CP _).mono ?_; rintro e w4 ⟨rfl, hb⟩; replace O := O.call hb; clear hb) | ((with_reducible refine at_load 15 ?_); refine wpList_cell_h (v := .int .i64 ((v) (3))) rfl O.held 2 rfl (M.mat_get (by omega)) rfl agg3 rfl ?_) | ((with_reducible refine at_load 20 ?_); refine wpList_cell_h (v := .int .i64 ((v) (0))) rfl O.held 2 rfl (M.mat_get (by omega)) rfl agg3 rfl ?_) | ((with_reducible refine at_load 25 ?_); refine wpList_cell_h (v := .int .i64 ((v) (1))) rfl O.held 2 rfl (M.mat_get (by omega)) rfl agg3 rfl ?_) | ((with_reducible refine at_load 30 ?_); refine wpList_cell_h (v := .int .i64 ((v) (2))) rfl O.held 2 rfl (M.mat_get (by omega)) rfl agg3 rfl ?_) | (go_at_call_of 19 (Value.int IntKind.i64 (v 3)); refine (C3 _).mono ?_; rintro e w' ⟨rfl, hw⟩; obtain rfl := hw.symm; clear hw) | (go_at_call_of 19 (Value.int IntKind.i64 (v 0)); refine (C0 _).mono ?_; rintro e w' ⟨rfl, hw⟩; obtain rfl := hw.symm; clear hw) | (go_at_call_of 19 (Value.int IntKind.i64 (v 1)); refine (C1 _).mono ?_; rintro e w' ⟨rfl, hw⟩; obtain rfl := hw.symm; clear hw) | (go_at_call_of 19 (Value.int IntKind.i64 (v 2)); refine (C2 _).mono ?_; rintro e w' ⟨rfl, hw⟩; obtain rfl := hw.symm; clear hw))
  clear CP C3 C0 C1 C2
  go_loopw [6, 7] (fun t u wr => ∃ (k : Nat) (b : Bool), k ≤ 4 ∧ t = .bool b ∧ u = .int .i64 k ∧ Hid (V.gk v p k = b) ∧ w4 = wr) (fun _ v _ => 4 - (intOf v).toNat)
  case atStart => exact ⟨0, true, by omega, rfl, rfl, G0, rfl⟩
  case round =>
    clear G0
    obtain ⟨k, b, hk, rfl, rfl, HB, rfl⟩ := hrel
    have q0 : (0 : Int) ≤ k := by omega
    by_cases hlt : k < 4
    · have q1 : (k : Int) < 4 := by omega
      cases b
      · go_wp2_with fail
        go_roundw
        case rel => exact ⟨k + 1, false, by omega, rfl, by go_num, Lib.hid (by rw [V.gk, HB.out]; rfl), trivial⟩
        case measure => simp [intOf]; omega
      · have C := fun w => within_any (v (4 + k)) 0 255 w
        obtain ⟨c, hc⟩ : ∃ c, D.inB 0 255 (v (4 + k)) = c := ⟨_, rfl⟩
        rw [hc] at C
        have HN : Hid (V.gk v p (k + 1) = c) := Lib.hid (by rw [V.gk, HB.out, hc]; rfl)
        clear hc
        go_wp2_with (first | ((with_reducible refine at_index_ 41 ?_); refine wpList_ino rfl Try.underlying23 sizeOf3 (by decide) (k) rfl rfl (rfl) (by omega) ?_) | ((with_reducible refine at_load 42 ?_); refine wpList_cell_h (v := .int .i64 ((v) (4 + k))) rfl O.held 2 rfl (M.mat_get (by omega)) rfl agg3 rfl ?_) | (go_at_call 19; refine (C _).mono ?_; rintro e w' ⟨rfl, hw⟩; obtain rfl := hw.symm; clear hw))
        go_roundw
        case rel => exact ⟨k + 1, c, by omega, rfl, by go_num, HN, trivial⟩
        case measure => simp [intOf]; omega
    · have q1 : ¬ (k : Int) < 4 := by omega
      obtain rfl : k = 4 := by omega
      cases b
      · have HE := Lib.hid (V.map_bad (by rw [← V.gk_4]; exact HB.out))
        go_wp2_with (first | ((with_reducible refine at_build 47 ?_); refine wpList_build_g rfl ([]) ((M.mat 7 M.zero).toArray) ?_ (builtWz) ?_; (focus (simp only [List.map_toArray, List.map_cons, List.map_nil]; rfl))) | ((with_reducible refine at_store 4 ?_); refine wpList_put_own O 0 (M.mat 7 (M.zero)) rfl rfl rfl (sW _) (M.mat_len2 _ _ _) (M.mat_one _ _) ?_; clear O; intro w6 O))
        exact bodyPost_ret (v := .tuple #[arr 7 (M.zero), .int .i64 1]) (res_h2 rfl O.held 0 rfl rfl Try.underlying29 rfl (sW _) rfl) rfl ⟨by rw [HE.out], O.below⟩
      have hg : V.good v p = true := by rw [← V.gk_4]; exact HB.out
      clear HB
      obtain ⟨hv, h3, p0, p1, p2, p3⟩ := V.good_parts hg
      have hv0 := hv 0 (by omega)
      have hv1 := hv 1 (by omega)
      have hv2 := hv 2 (by omega)
      have nx := V.side_le p2 hv0 h3
      have ny := V.side_le p3 hv1 h3
      have lx := V.along_le p0 p2 hv0 h3
      have ly := V.along_le p1 p3 hv1 h3
      have CX := Lib.hid (fun w => rdown_any (128 * p 2 * (v 0 + v 3)) (v 3) (by omega) (by omega) (by omega) (by omega) w)
      have CY := Lib.hid (fun w => rdown_any (128 * p 3 * (v 1 + v 3)) (v 3) (by omega) (by omega) (by omega) (by omega) w)
      have CZ := Lib.hid (fun w => rdown_any (16777215 * (v 2 + v 3)) (2 * v 3) (by omega) (by omega) (by omega) (by omega) w)
      have X1 : Hid (IntKind.i64.wrap (256 * p 0) = 256 * p 0) := Lib.hid (IntWalk.i64_in _ (by omega))
      have X2 : Hid (IntKind.i64.wrap (128 * p 2) = 128 * p 2) := Lib.hid (IntWalk.i64_in _ (by omega))
      have X3 : Hid (IntKind.i64.wrap (v 0 + v 3) = v 0 + v 3) := Lib.hid (IntWalk.i64_in _ (by omega))
      have X4 : Hid (IntKind.i64.wrap (128 * p 2 * (v 0 + v 3)) = 128 * p 2 * (v 0 + v 3)) := Lib.hid (IntWalk.i64_in _ (by omega))
      have X5 : Hid (IntKind.i64.wrap (256 * p 0 + 128 * p 2 * (v 0 + v 3) / v 3) = V.along (p 0) (p 2) (v 0) (v 3)) := Lib.hid (IntWalk.i64_in _ (by unfold V.along at lx; omega))
      have Y1 : Hid (IntKind.i64.wrap (256 * p 1) = 256 * p 1) := Lib.hid (IntWalk.i64_in _ (by omega))
      have Y2 : Hid (IntKind.i64.wrap (128 * p 3) = 128 * p 3) := Lib.hid (IntWalk.i64_in _ (by omega))
      have Y3 : Hid (IntKind.i64.wrap (v 1 + v 3) = v 1 + v 3) := Lib.hid (IntWalk.i64_in _ (by omega))
      have Y4 : Hid (IntKind.i64.wrap (128 * p 3 * (v 1 + v 3)) = 128 * p 3 * (v 1 + v 3)) := Lib.hid (IntWalk.i64_in _ (by omega))
      have Y5 : Hid (IntKind.i64.wrap (256 * p 1 + 128 * p 3 * (v 1 + v 3) / v 3) = V.along (p 1) (p 3) (v 1) (v 3)) := Lib.hid (IntWalk.i64_in _ (by unfold V.along at ly; omega))
      have HZ : Hid (V.deep (v 2) (v 3) = max 0 (min (16777215 * (v 2 + v 3) / (2 * v 3)) 16777215)) := Lib.hid rfl
      have HF := Lib.hid (fun g => V.map_far hg g)
      have HG := Lib.hid (fun g => V.map_is hg g)
      clear nx ny lx ly hv hv0 hv1 p0 p1 p2 p3 hg
      generalize V.along (p 0) (p 2) (v 0) (v 3) = x at *
      generalize V.along (p 1) (p 3) (v 1) (v 3) = y at *
      generalize 128 * p 2 * (v 0 + v 3) / v 3 = qx at *
      generalize 128 * p 3 * (v 1 + v 3) / v 3 = qy at *
      generalize 16777215 * (v 2 + v 3) / (2 * v 3) = qz at *
      have HV := Lib.hid (And.intro hv2 h3)
      clear hv2 h3
      go_wp2_with fail
      refine region_T ((fun w2 => Own w w2 [(g4, 29, M.mat 7 M.zero), (g3, 27, M.mat 4 p), (g2, 25, M.mat 8 v)])) [0, 1, 2, 3, 4, 5, 6, 7, 8, 9, 10, 11, 12, 13, 14, 15] 12 [some 48, some 49, some 50, some 51, some 52, some 53, some 54, some 55, some 56, some 57, some 58, some 59, some 60, some 61, some 62, some 63] [.pointer (some ⟨g3, 0, none⟩), .int .i64 (p 0), .int .i64 (256 * p 0), .pointer (some ⟨g3, 2, none⟩), .int .i64 (p 2), .int .i64 (128 * p 2), .pointer (some ⟨g2, 0, none⟩), .int .i64 (v 0), .pointer (some ⟨g2, 3, none⟩), .int .i64 (v 3), .int .i64 (v 0 + v 3), .int .i64 (128 * p 2 * (v 0 + v 3)), .pointer (some ⟨g2, 3, none⟩), .int .i64 (v 3), .int .i64 (qx), .int .i64 (x)] 1 (by kernel_rfl) (by rfl) (by kernel_rfl) (by rfl) (by rfl) (O.drew) (fun F hF => ?_)
      simp only [fillD, Act.put, List.setIfInBounds_toArray, List.set_cons_zero, List.set_cons_succ] at hF
      subst hF
      refine ⟨⟨does_want rfl (by rfl) (fun w' O K hK => ?_), does_want rfl (by rfl) (fun w' O K hK => ?_), does_want rfl (by rfl) (fun w' O K hK => ?_), does_want rfl (by rfl) (fun w' O K hK => ?_), does_want rfl (by rfl) (fun w' O K hK => ?_), does_want rfl (by rfl) (fun w' O K hK => ?_), does_want rfl (by rfl) (fun w' O K hK => ?_), does_want rfl (by rfl) (fun w' O K hK => ?_), does_want rfl (by rfl) (fun w' O K hK => ?_), does_want rfl (by rfl) (fun w' O K hK => ?_), does_want rfl (by rfl) (fun w' O K hK => ?_), does_want rfl (by rfl) (fun w' O K hK => ?_), does_want rfl (by rfl) (fun w' O K hK => ?_), does_want rfl (by rfl) (fun w' O K hK => ?_), does_want rfl (by rfl) (fun w' O K hK => ?_), does_want rfl (by rfl) (fun w' O K hK => ?_), trivial⟩, fun w' O => ?_⟩
      · go_simp
        exact hK _ O
      · exact wp_cell_h (v := .int .i64 ((p) (0))) O.held 1 rfl (M.mat_get (by omega)) rfl agg3 rfl (hK _ O)
      · have e := X1.out
        go_simp
        exact hK _ O
      · go_simp
        exact hK _ O
      · exact wp_cell_h (v := .int .i64 ((p) (2))) O.held 1 rfl (M.mat_get (by omega)) rfl agg3 rfl (hK _ O)
      · have e := X2.out
        go_simp
        exact hK _ O
      · go_simp
        exact hK _ O
      · exact wp_cell_h (v := .int .i64 ((v) (0))) O.held 2 rfl (M.mat_get (by omega)) rfl agg3 rfl (hK _ O)
      · go_simp
        exact hK _ O
      · exact wp_cell_h (v := .int .i64 ((v) (3))) O.held 2 rfl (M.mat_get (by omega)) rfl agg3 rfl (hK _ O)
      · have e := X3.out
        go_simp
        exact hK _ O
      · have e := X4.out
        go_simp
        exact hK _ O
      · go_simp
        exact hK _ O
      · exact wp_cell_h (v := .int .i64 ((v) (3))) O.held 2 rfl (M.mat_get (by omega)) rfl agg3 rfl (hK _ O)
      · go_simp
        go_at_call 20
        refine (CX.out _).mono ?_
        rintro e w2 ⟨rfl, rfl⟩
        exact hK _ O
      · have e := X5.out
        go_simp
        exact hK _ O
      refine wpAny_one (i := 16) (by kernel_rfl) rfl (fun K hK => ?_)
      go_simp
      refine hK _ _ ?_
      clear hK K
      try simp only [Act.put, List.setIfInBounds_toArray, List.set_cons_zero, List.set_cons_succ]
      refine wpAny_done (by kernel_rfl) ?_ _
      go_wp2_with fail
      refine region_T ((fun w2 => Own w w2 [(g4, 29, M.mat 7 M.zero), (g3, 27, M.mat 4 p), (g2, 25, M.mat 8 v)])) [0, 1, 2, 3, 4, 5, 6, 7, 8, 9, 10, 11, 12, 13, 14, 15] 12 [some 64, some 65, some 66, some 67, some 68, some 69, some 70, some 71, some 72, some 73, some 74, some 75, some 76, some 77, some 78, some 79] [.pointer (some ⟨g3, 1, none⟩), .int .i64 (p 1), .int .i64 (256 * p 1), .pointer (some ⟨g3, 3, none⟩), .int .i64 (p 3), .int .i64 (128 * p 3), .pointer (some ⟨g2, 1, none⟩), .int .i64 (v 1), .pointer (some ⟨g2, 3, none⟩), .int .i64 (v 3), .int .i64 (v 1 + v 3), .int .i64 (128 * p 3 * (v 1 + v 3)), .pointer (some ⟨g2, 3, none⟩), .int .i64 (v 3), .int .i64 (qy), .int .i64 (y)] 1 (by kernel_rfl) (by rfl) (by kernel_rfl) (by rfl) (by rfl) (O.drew) (fun F hF => ?_)
      simp only [fillD, Act.put, List.setIfInBounds_toArray, List.set_cons_zero, List.set_cons_succ] at hF
      subst hF
      refine ⟨⟨does_want rfl (by rfl) (fun w' O K hK => ?_), does_want rfl (by rfl) (fun w' O K hK => ?_), does_want rfl (by rfl) (fun w' O K hK => ?_), does_want rfl (by rfl) (fun w' O K hK => ?_), does_want rfl (by rfl) (fun w' O K hK => ?_), does_want rfl (by rfl) (fun w' O K hK => ?_), does_want rfl (by rfl) (fun w' O K hK => ?_), does_want rfl (by rfl) (fun w' O K hK => ?_), does_want rfl (by rfl) (fun w' O K hK => ?_), does_want rfl (by rfl) (fun w' O K hK => ?_), does_want rfl (by rfl) (fun w' O K hK => ?_), does_want rfl (by rfl) (fun w' O K hK => ?_), does_want rfl (by rfl) (fun w' O K hK => ?_), does_want rfl (by rfl) (fun w' O K hK => ?_), does_want rfl (by rfl) (fun w' O K hK => ?_), does_want rfl (by rfl) (fun w' O K hK => ?_), trivial⟩, fun w' O => ?_⟩
      · go_simp
        exact hK _ O
      · exact wp_cell_h (v := .int .i64 ((p) (1))) O.held 1 rfl (M.mat_get (by omega)) rfl agg3 rfl (hK _ O)
      · have e := Y1.out
        go_simp
        exact hK _ O
      · go_simp
        exact hK _ O
      · exact wp_cell_h (v := .int .i64 ((p) (3))) O.held 1 rfl (M.mat_get (by omega)) rfl agg3 rfl (hK _ O)
      · have e := Y2.out
        go_simp
        exact hK _ O
      · go_simp
        exact hK _ O
      · exact wp_cell_h (v := .int .i64 ((v) (1))) O.held 2 rfl (M.mat_get (by omega)) rfl agg3 rfl (hK _ O)
      · go_simp
        exact hK _ O
      · exact wp_cell_h (v := .int .i64 ((v) (3))) O.held 2 rfl (M.mat_get (by omega)) rfl agg3 rfl (hK _ O)
      · have e := Y3.out
        go_simp
        exact hK _ O
      · have e := Y4.out
        go_simp
        exact hK _ O
      · go_simp
        exact hK _ O
      · exact wp_cell_h (v := .int .i64 ((v) (3))) O.held 2 rfl (M.mat_get (by omega)) rfl agg3 rfl (hK _ O)
      · go_simp
        go_at_call 20
        refine (CY.out _).mono ?_
        rintro e w2 ⟨rfl, rfl⟩
        exact hK _ O
      · have e := Y5.out
        go_simp
        exact hK _ O
      refine wpAny_one (i := 16) (by kernel_rfl) rfl (fun K hK => ?_)
      go_simp
      refine hK _ _ ?_
      clear hK K
      try simp only [Act.put, List.setIfInBounds_toArray, List.set_cons_zero, List.set_cons_succ]
      refine wpAny_done (by kernel_rfl) ?_ _
      obtain ⟨hv2, h3⟩ := HV.out
      obtain ⟨n, en⟩ : ∃ n, (if 16777215 < qz then 16777215 else qz) = n := ⟨_, rfl⟩
      obtain ⟨z, ez⟩ : ∃ z, (if 0 < n then n else 0) = z := ⟨_, rfl⟩
      have HD : V.deep (v 2) (v 3) = z := by
        rw [HZ.out, ← ez, ← en]
        omega
      rw [HD] at HG
      clear HD HZ HV
      have SX := fun w => rspot_any x w
      have SY := fun w => rspot_any y w
      have BW := fun (x y z : Int) => builtW x y z v
      cases hx : V.spot x
      · have HE := Lib.hid (HF.out (by rw [hx]; rfl))
        clear HF HG
        rw [hx] at SX
        clear hx
        go_wp2_with (first | ((with_reducible refine at_load 81 ?_); refine wpList_cell_h (v := .int .i64 ((v) (2))) rfl O.held 2 rfl (M.mat_get (by omega)) rfl agg3 rfl ?_) | ((with_reducible refine at_load 83 ?_); refine wpList_cell_h (v := .int .i64 ((v) (3))) rfl O.held 2 rfl (M.mat_get (by omega)) rfl agg3 rfl ?_) | ((with_reducible refine at_load 87 ?_); refine wpList_cell_h (v := .int .i64 ((v) (3))) rfl O.held 2 rfl (M.mat_get (by omega)) rfl agg3 rfl ?_) | (go_at_call 20; refine (CZ.out _).mono ?_; rintro e w' ⟨rfl, hw⟩; obtain rfl := hw.symm; clear hw) | (go_at_call_of 19 (Value.int IntKind.i64 (x)); refine (SX _).mono ?_; rintro e w' ⟨rfl, hw⟩; obtain rfl := hw.symm; clear hw) | (go_at_call_of 19 (Value.int IntKind.i64 (y)); refine (SY _).mono ?_; rintro e w' ⟨rfl, hw⟩; obtain rfl := hw.symm; clear hw) | ((with_reducible refine at_build 100 ?_); refine wpList_build_g rfl ([]) ((M.mat 7 M.zero).toArray) ?_ (builtWz) ?_; (focus (simp only [List.map_toArray, List.map_cons, List.map_nil]; rfl))) | ((with_reducible refine at_store 4 ?_); refine wpList_put_own O 0 (M.mat 7 (M.zero)) rfl rfl rfl (sW _) (M.mat_len2 _ _ _) (M.mat_one _ _) ?_; clear O; intro w6 O))
        exact bodyPost_ret (v := .tuple #[arr 7 (M.zero), .int .i64 9]) (res_h2 rfl O.held 0 rfl rfl Try.underlying29 rfl (sW _) rfl) rfl ⟨by rw [HE.out], O.below⟩
      cases hy : V.spot y
      · have HE := Lib.hid (HF.out (by rw [hx, hy]; rfl))
        clear HF HG
        rw [hx] at SX
        rw [hy] at SY
        clear hx hy
        go_wp2_with (first | ((with_reducible refine at_load 81 ?_); refine wpList_cell_h (v := .int .i64 ((v) (2))) rfl O.held 2 rfl (M.mat_get (by omega)) rfl agg3 rfl ?_) | ((with_reducible refine at_load 83 ?_); refine wpList_cell_h (v := .int .i64 ((v) (3))) rfl O.held 2 rfl (M.mat_get (by omega)) rfl agg3 rfl ?_) | ((with_reducible refine at_load 87 ?_); refine wpList_cell_h (v := .int .i64 ((v) (3))) rfl O.held 2 rfl (M.mat_get (by omega)) rfl agg3 rfl ?_) | (go_at_call 20; refine (CZ.out _).mono ?_; rintro e w' ⟨rfl, hw⟩; obtain rfl := hw.symm; clear hw) | (go_at_call_of 19 (Value.int IntKind.i64 (x)); refine (SX _).mono ?_; rintro e w' ⟨rfl, hw⟩; obtain rfl := hw.symm; clear hw) | (go_at_call_of 19 (Value.int IntKind.i64 (y)); refine (SY _).mono ?_; rintro e w' ⟨rfl, hw⟩; obtain rfl := hw.symm; clear hw) | ((with_reducible refine at_build 100 ?_); refine wpList_build_g rfl ([]) ((M.mat 7 M.zero).toArray) ?_ (builtWz) ?_; (focus (simp only [List.map_toArray, List.map_cons, List.map_nil]; rfl))) | ((with_reducible refine at_store 4 ?_); refine wpList_put_own O 0 (M.mat 7 (M.zero)) rfl rfl rfl (sW _) (M.mat_len2 _ _ _) (M.mat_one _ _) ?_; clear O; intro w6 O))
        exact bodyPost_ret (v := .tuple #[arr 7 (M.zero), .int .i64 9]) (res_h2 rfl O.held 0 rfl rfl Try.underlying29 rfl (sW _) rfl) rfl ⟨by rw [HE.out], O.below⟩
      have HE := Lib.hid (HG.out (by rw [hx, hy]; rfl))
      clear HF HG
      rw [hx] at SX
      rw [hy] at SY
      clear hx hy
      go_wp2_with (first | ((with_reducible refine at_load 81 ?_); refine wpList_cell_h (v := .int .i64 ((v) (2))) rfl O.held 2 rfl (M.mat_get (by omega)) rfl agg3 rfl ?_) | ((with_reducible refine at_load 83 ?_); refine wpList_cell_h (v := .int .i64 ((v) (3))) rfl O.held 2 rfl (M.mat_get (by omega)) rfl agg3 rfl ?_) | ((with_reducible refine at_load 87 ?_); refine wpList_cell_h (v := .int .i64 ((v) (3))) rfl O.held 2 rfl (M.mat_get (by omega)) rfl agg3 rfl ?_) | (go_at_call 20; refine (CZ.out _).mono ?_; rintro e w' ⟨rfl, hw⟩; obtain rfl := hw.symm; clear hw) | (go_at_call_of 19 (Value.int IntKind.i64 (x)); refine (SX _).mono ?_; rintro e w' ⟨rfl, hw⟩; obtain rfl := hw.symm; clear hw) | (go_at_call_of 19 (Value.int IntKind.i64 (y)); refine (SY _).mono ?_; rintro e w' ⟨rfl, hw⟩; obtain rfl := hw.symm; clear hw) | ((with_reducible refine at_load 105 ?_); refine wpList_mid_h rfl O.held 2 rfl (M.mat 4 (D.sub 4 v)) (mat_sub v (by omega)) rfl Try.underlying23 rfl (s25 _) ?_) | ((with_reducible refine at_build 106 ?_); refine wpList_build_g rfl ([(0, .int .i64 x), (1, .int .i64 y), (2, .int .i64 z), (3, arr 4 (D.sub 4 v))]) ((M.mat 7 (V.win x y z v)).toArray) ?_ (BW x y z) ?_; (focus (simp only [List.map_toArray, List.map_cons, List.map_nil]; rfl))) | ((with_reducible refine at_store 4 ?_); refine wpList_put_own O 0 (M.mat 7 (V.win x y z v)) rfl rfl rfl (sW _) (M.mat_len2 _ _ _) (M.mat_one _ _) ?_; clear O; intro w6 O))
      exact bodyPost_ret (v := .tuple #[arr 7 (V.win x y z v), .int .i64 0]) (res_h2 rfl O.held 0 rfl rfl Try.underlying29 rfl (sW _) rfl) rfl ⟨by rw [HE.out], O.below⟩
theorem rmap_any (v p : Nat → Int) (w : World) : Calls Try.prog 9 #[arr 8 v, arr 4 p] w (RetMap w (V.map v p)) := by
  cases h : V.first v p
  · exact rmap_bad1 v p h w
  · exact rmap_first v p h w
end Go.Proofs.Ytbmigbmeadgopaa
