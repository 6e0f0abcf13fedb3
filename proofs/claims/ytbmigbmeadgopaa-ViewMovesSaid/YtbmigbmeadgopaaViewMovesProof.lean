/-
  ViewMoves: for every vertex and every port, where the port is moved, places move as far.
-/
import Derived.Test.YtbmigbmeadgopaaVj
import Derived.Deep.DeepCutAuto
namespace Go.Proofs.Ytbmigbmeadgopaa.viewMoves
open Go.ChangeShapes Go.WideShapes Go.ChangeAt Go.RowKit
set_option linter.unusedVariables false
set_option linter.unusedSimpArgs false

theorem own : ownKnob Try.prog.godebug = none := by kernel_rfl

set_option maxRecDepth 100000 in
set_option maxHeartbeats 16000000 in
theorem walk (w : World) (v p : Nat → Int) (i j : Int) (hi : -32768 ≤ i ∧ i ≤ 32767) (hj : -32768 ≤ j ∧ j ≤ 32767) :
    Calls Try.prog 6 #[.agg (V.mv v p i j).toArray] w fun e w' => e = .returned (.bool true) ∧ Below w.heap.size w w' := by
  have O := Own.start w
  obtain ⟨x, hx⟩ : ∃ x, i.tmod 8193 = x := ⟨_, rfl⟩
  obtain ⟨y, hy⟩ : ∃ y, j.tmod 8193 = y := ⟨_, rfl⟩
  have rx := rest_in i
  have ry := rest_in j
  rw [hx] at rx
  rw [hy] at ry
  have X := Lib.hid hx
  have Y := Lib.hid hy
  have X2 : Hid (IntKind.i64.wrap x = x) := Lib.hid (IntWalk.i64_in _ (by omega))
  have Y2 : Hid (IntKind.i64.wrap y = y) := Lib.hid (IntWalk.i64_in _ (by omega))
  have I2 : Hid (IntKind.i64.wrap i = i) := Lib.hid (IntWalk.i64_in _ (by omega))
  have J2 : Hid (IntKind.i64.wrap j = j) := Lib.hid (IntWalk.i64_in _ (by omega))
  have CM := fun w => map_any v p w
  have CN := fun w => map_any v (q2 p x y true true) w
  unfold RetMap at CM CN
  obtain ⟨r, hr⟩ : ∃ r, V.map v p = r := ⟨_, rfl⟩
  obtain ⟨s, hs⟩ : ∃ r, V.map v (q2 p x y true true) = r := ⟨_, rfl⟩
  rw [hr] at CM
  rw [hs] at CN
  obtain ⟨m, e⟩ := r
  obtain ⟨n, f⟩ := s
  simp only at CM CN
  have HU := fun h1 h2 => moved (m := m) (n := n) rx ry (hr.trans h1) (hs.trans h2)
  clear hr hs hx hy hi hj
  have RX := Lib.hid rx
  have RY := Lib.hid ry
  clear rx ry
  have tok0 : True := trivial
  go_enter Try.func6, Try.ntmps6
  go_wp2_with ((with_reducible refine at_box 1 ?_); refine wpList_box_own O (V.mv v p i j) rfl ?_; clear O; intro g1 w1 O)
  refine region_S (fun st w2 => Nb w [(g1, 41, V.mv v p i j)] (M.mat 8 v) (M.mat 4 p) (st 6) (st 7) (st 8) (st 9) (st 10) w2) [6, 7, 8, 9, 10] 12 11 [some 10, some 11, some 12, some 13, some 14, some 15, some 3, some 4, some 5, none, none] (fun g => [.pointer (some ⟨g1, 0, none⟩), arr 8 v, .pointer (some ⟨g1, 8, none⟩), arr 4 p, .pointer (some ⟨g1, 8, none⟩), arr 4 p, g 6, g 7, g 8, g 9, g 10]) 1 (by kernel_rfl) (by kernel_rfl) (by rfl) (by rfl) (fun _ => rfl) (by decide) ?_ (Nb.start O.drew) (fun F hF => ?_)
  · intro i hi
    simp only [List.mem_cons, List.not_mem_nil, or_false] at hi
    rcases hi with rfl | rfl | rfl | rfl | rfl
    · exact ⟨fun _ => rfl, [0, 1, 2, 3, 4, 5, 7, 8, 9, 10], by kernel_rfl, fun g v => ⟨rfl, rfl, rfl, rfl, rfl, rfl, rfl, rfl, rfl, rfl, trivial⟩⟩
    · exact ⟨fun _ => rfl, [0, 1, 2, 3, 4, 5, 6, 8, 9, 10], by kernel_rfl, fun g v => ⟨rfl, rfl, rfl, rfl, rfl, rfl, rfl, rfl, rfl, rfl, trivial⟩⟩
    · exact ⟨fun _ => rfl, [0, 1, 2, 3, 4, 5, 6, 7, 9, 10], by kernel_rfl, fun g v => ⟨rfl, rfl, rfl, rfl, rfl, rfl, rfl, rfl, rfl, rfl, trivial⟩⟩
    · exact ⟨fun _ => rfl, [0, 1, 2, 3, 4, 5, 6, 7, 8, 10], by kernel_rfl, fun g v => ⟨rfl, rfl, rfl, rfl, rfl, rfl, rfl, rfl, rfl, rfl, trivial⟩⟩
    · exact ⟨fun _ => rfl, [0, 1, 2, 3, 4, 5, 6, 7, 8, 9], by kernel_rfl, fun g v => ⟨rfl, rfl, rfl, rfl, rfl, rfl, rfl, rfl, rfl, rfl, trivial⟩⟩
  simp only [fillD, Act.put, List.setIfInBounds_toArray, List.set_cons_zero, List.set_cons_succ] at hF
  have hF2 := funext hF
  clear hF
  subst hF2
  refine ⟨⟨doesN_want (by decide) rfl (fun g => rfl) (fun st w' hS hp K hK => ?_), doesN_want (by decide) rfl (fun g => rfl) (fun st w' hS hp K hK => ?_), doesN_want (by decide) rfl (fun g => rfl) (fun st w' hS hp K hK => ?_), doesN_want (by decide) rfl (fun g => rfl) (fun st w' hS hp K hK => ?_), doesN_want (by decide) rfl (fun g => rfl) (fun st w' hS hp K hK => ?_), doesN_want (by decide) rfl (fun g => rfl) (fun st w' hS hp K hK => ?_), doesC_want (by decide) rfl (fun g => rfl) (fun st w' hS hn hp K hK => ?_), doesC_want (by decide) rfl (fun g => rfl) (fun st w' hS hn hp K hK => ?_), doesC_want (by decide) rfl (fun g => rfl) (fun st w' hS hn hp K hK => ?_), doesC_want (by decide) rfl (fun g => rfl) (fun st w' hS hn hp K hK => ?_), doesC_want (by decide) rfl (fun g => rfl) (fun st w' hS hn hp K hK => ?_), trivial⟩, fun st w' hS hall => ?_⟩
  · try dsimp only
    go_simp
    exact hK _ hS
  · try dsimp only
    exact wp_mid_h hS.own.held 0 rfl (M.mat 8 v) (mv_v v p i j) rfl Try.underlying25 rfl (s27 _) (hK _ hS)
  · try dsimp only
    go_simp
    exact hK _ hS
  · try dsimp only
    exact wp_mid_h hS.own.held 0 rfl (M.mat 4 p) (mv_p v p i j) rfl Try.underlying27 rfl (sP _) (hK _ hS)
  · try dsimp only
    go_simp
    exact hK _ hS
  · try dsimp only
    exact wp_mid_h hS.own.held 0 rfl (M.mat 4 p) (mv_p v p i j) rfl Try.underlying27 rfl (sP _) (hK _ hS)
  · try dsimp only
    rw [hn] at hS
    exact hS.alloc_a hK
  · try dsimp only
    rw [hn] at hS
    exact hS.alloc_b hK
  · try dsimp only
    rw [hn] at hS
    exact hS.alloc_c hK
  · try dsimp only
    rw [hn] at hS
    exact hS.put_a (hp 6 (by decide) (by kernel_rfl)) v rfl rfl rfl hK
  · try dsimp only
    rw [hn] at hS
    exact hS.put_b (hp 7 (by decide) (by kernel_rfl)) p rfl rfl rfl hK
  try dsimp only
  obtain ⟨g3, g4, g5, e3, e4, e5, O3⟩ := hS.done (hall 6 (by decide)) (hall 7 (by decide)) (hall 8 (by decide)) (hall 9 (by decide)) (hall 10 (by decide))
  clear hS O
  have O := O3
  clear O3
  simp only [seen, e3, e4, e5, Option.getD_some]
  generalize (st 9).getD undef = u9
  generalize (st 10).getD undef = u10
  clear hall e3 e4 e5
  refine wpAny_want (i := 11) (by kernel_rfl) rfl (by rfl) (fun K hK => ?_)
  refine wp_put_own O 2 (M.mat 4 (q2 p x y false false)) rfl rfl (by rw [q2_0]; rfl) (sP _) (M.mat_len2 _ _ _) (M.mat_one _ _) fun w9 O9 => hK _ _ ?_
  clear O
  have O := O9
  clear O9
  clear hK K
  try simp only [Act.put, List.setIfInBounds_toArray, List.set_cons_zero, List.set_cons_succ]
  refine wpAny_done (by kernel_rfl) ?_ _
  go_wp2_with fail
  refine region_S (fun st w2 => Own w w2 [(g3, 25, M.mat 8 v), (g4, 27, M.mat 4 p), (g5, 27, M.mat 4 (q2 p x y (st 9).isSome false)), (g1, 41, V.mv v p i j)]) [9] 12 11 [some 16, some 17, some 18, some 19, some 20, some 21, some 22, some 23, some 24, none, some 25] (fun g => [.pointer (some ⟨g1, 12, none⟩), .int .i16 i, .int .i64 i, .int .i64 x, .pointer (some ⟨g1, 13, none⟩), .int .i16 j, .int .i64 j, .int .i64 y, .pointer (some ⟨g5, 0, none⟩), g 9, .pointer (some ⟨g5, 1, none⟩)]) 1 (by kernel_rfl) (by kernel_rfl) (by rfl) (by rfl) (fun _ => rfl) (by decide) ?_ (O.drew) (fun F hF => ?_)
  · intro i hi
    simp only [List.mem_cons, List.not_mem_nil, or_false] at hi
    rcases hi with rfl
    · exact ⟨fun _ => rfl, [0, 1, 2, 3, 4, 5, 6, 7, 8, 10], by kernel_rfl, fun g v => ⟨rfl, rfl, rfl, rfl, rfl, rfl, rfl, rfl, rfl, rfl, trivial⟩⟩
  simp only [fillD, Act.put, List.setIfInBounds_toArray, List.set_cons_zero, List.set_cons_succ] at hF
  have hF2 := funext hF
  clear hF
  subst hF2
  refine ⟨⟨doesN_want (by decide) rfl (fun g => rfl) (fun st w' hS hp K hK => ?_), doesN_want (by decide) rfl (fun g => rfl) (fun st w' hS hp K hK => ?_), doesN_want (by decide) rfl (fun g => rfl) (fun st w' hS hp K hK => ?_), doesN_want (by decide) rfl (fun g => rfl) (fun st w' hS hp K hK => ?_), doesN_want (by decide) rfl (fun g => rfl) (fun st w' hS hp K hK => ?_), doesN_want (by decide) rfl (fun g => rfl) (fun st w' hS hp K hK => ?_), doesN_want (by decide) rfl (fun g => rfl) (fun st w' hS hp K hK => ?_), doesN_want (by decide) rfl (fun g => rfl) (fun st w' hS hp K hK => ?_), doesN_want (by decide) rfl (fun g => rfl) (fun st w' hS hp K hK => ?_), doesC_want (by decide) rfl (fun g => rfl) (fun st w' hS hn hp K hK => ?_), doesN_want (by decide) rfl (fun g => rfl) (fun st w' hS hp K hK => ?_), trivial⟩, fun st w' hS hall => ?_⟩
  · try dsimp only
    go_simp
    exact hK _ hS
  · try dsimp only
    exact wp_cell_h (v := .int .i16 i) hS.held 3 rfl rfl rfl agg39 rfl (hK _ hS)
  · try dsimp only
    have e0 := I2.out
    go_simp
    exact hK _ hS
  · try dsimp only
    have e0 := X.out
    have e1 := X2.out
    go_simp
    exact hK _ hS
  · try dsimp only
    go_simp
    exact hK _ hS
  · try dsimp only
    exact wp_cell_h (v := .int .i16 j) hS.held 3 rfl rfl rfl agg39 rfl (hK _ hS)
  · try dsimp only
    have e0 := J2.out
    go_simp
    exact hK _ hS
  · try dsimp only
    have e0 := Y.out
    have e1 := Y2.out
    go_simp
    exact hK _ hS
  · try dsimp only
    go_simp
    exact hK _ hS
  · try dsimp only
    rw [hn] at hS
    refine wp_set_own hS 2 (.int .i64 x) rfl (by rw [M.mat_len]; omega) rfl rfl size3 rfl rfl fun w1 O1 => hK _ _ ?_
    have O2 : Own w w1 [(g3, 25, M.mat 8 v), (g4, 27, M.mat 4 p), (g5, 27, M.mat 4 (q2 p x y true false)), (g1, 41, V.mv v p i j)] := by
      rw [← q2_a]
      exact O1
    exact O2
  · try dsimp only
    go_simp
    exact hK _ hS
  try dsimp only
  have O3 : Own w w' [(g3, 25, M.mat 8 v), (g4, 27, M.mat 4 p), (g5, 27, M.mat 4 (q2 p x y true false)), (g1, 41, V.mv v p i j)] := by
    have h1 := hall 9 (by decide)
    rw [h1] at hS
    exact hS
  clear hS O
  have O := O3
  clear O3
  try simp only [seen]
  try generalize (st 9).getD undef = u16
  clear hall
  refine wpAny_want (i := 11) (by kernel_rfl) rfl (by rfl) (fun K hK => ?_)
  refine wp_set_own O 2 (.int .i64 y) rfl (by rw [M.mat_len]; omega) rfl rfl size3 rfl rfl fun w9 O9 => hK _ _ ?_
  have O8 : Own w w9 [(g3, 25, M.mat 8 v), (g4, 27, M.mat 4 p), (g5, 27, M.mat 4 (q2 p x y true true)), (g1, 41, V.mv v p i j)] := by
    rw [← q2_b]
    exact O9
  clear O O9
  have O := O8
  clear O8
  clear hK K
  try simp only [Act.put, List.setIfInBounds_toArray, List.set_cons_zero, List.set_cons_succ]
  refine wpAny_done (by kernel_rfl) ?_ _
  clear X Y X2 Y2 I2 J2
  by_cases he : e = 0
  · subst he
    by_cases hf : f = 0
    · subst hf
      obtain ⟨s0, s1, t0, t1, u0, u1, u2, u3, u4⟩ := HU rfl rfl
      have KM : Hid (∀ j u, (M.mat 4 (D.sub 4 v))[j]? = some u → (M.mat 7 m)[3 + j]? = some u) := Lib.hid (by rw [← u3]; exact mat_sub m (by omega))
      have KN : Hid (∀ j u, (M.mat 4 (D.sub 4 v))[j]? = some u → (M.mat 7 n)[3 + j]? = some u) := Lib.hid (by rw [← u4]; exact mat_sub n (by omega))
      have Q0 := cell_is (n := 4) (a := q2 p x y true true) (i := 0) (z := x) rfl (by decide)
      have Q1 := cell_is (n := 4) (a := q2 p x y true true) (i := 1) (z := y) rfl (by decide)
      obtain ⟨m0, em0⟩ : ∃ z, m 0 = z := ⟨_, rfl⟩
      obtain ⟨m1, em1⟩ : ∃ z, m 1 = z := ⟨_, rfl⟩
      obtain ⟨m2, em2⟩ : ∃ z, m 2 = z := ⟨_, rfl⟩
      obtain ⟨n0, en0⟩ : ∃ z, n 0 = z := ⟨_, rfl⟩
      obtain ⟨n1, en1⟩ : ∃ z, n 1 = z := ⟨_, rfl⟩
      obtain ⟨p0, ep0⟩ : ∃ z, p 0 = z := ⟨_, rfl⟩
      obtain ⟨p1, ep1⟩ : ∃ z, p 1 = z := ⟨_, rfl⟩
      rw [em0] at t0
      rw [em1] at t1
      rw [ep0] at s0
      rw [ep1] at s1
      rw [en0, em0, ep0] at u0
      rw [en1, em1, ep1] at u1
      rw [em2] at u2
      have N2 := cell_is (n := 7) u2 (by decide)
      have M0 := cell_is (n := 7) em0 (by decide)
      have M1 := cell_is (n := 7) em1 (by decide)
      have M2 := cell_is (n := 7) em2 (by decide)
      have N0 := cell_is (n := 7) en0 (by decide)
      have N1 := cell_is (n := 7) en1 (by decide)
      have P0 := cell_is (n := 4) ep0 (by decide)
      have P1 := cell_is (n := 4) ep1 (by decide)
      obtain ⟨rx1, rx2⟩ := RX.out
      obtain ⟨ry1, ry2⟩ := RY.out
      have W1 : wrap64 (n0 - m0) = n0 - m0 := IntWalk.wrap64_in _ (by omega)
      have W2 : wrap64 (n1 - m1) = n1 - m1 := IntWalk.wrap64_in _ (by omega)
      have W3 : wrap64 (x - p0) = x - p0 := IntWalk.wrap64_in _ (by omega)
      have W4 : wrap64 (y - p1) = y - p1 := IntWalk.wrap64_in _ (by omega)
      have W5 : wrap64 (256 * (x - p0)) = 256 * (x - p0) := IntWalk.wrap64_in _ (by omega)
      have W6 : wrap64 (256 * (y - p1)) = 256 * (y - p1) := IntWalk.wrap64_in _ (by omega)
      have G0 : ((n0 - m0 : Int) == 256 * (x - p0)) = true := beq_iff_eq.2 u0
      have G1 : ((n1 - m1 : Int) == 256 * (y - p1)) = true := beq_iff_eq.2 u1
      clear HU em0 em1 em2 en0 en1 ep0 ep1 u0 u1 u2 u3 u4 s0 s1 t0 t1 rx1 rx2 ry1 ry2 RX RY
      go_wp2_with (first | ((with_reducible refine at_load 27 ?_); refine wpList_whole rfl O 0 rfl rfl Try.underlying25 rfl (s27 _) ?_) | ((with_reducible refine at_load 28 ?_); refine wpList_whole rfl O 1 rfl rfl Try.underlying27 rfl (sP _) ?_) | (go_at_call 8; clear tok0; have tok1 : True := trivial; refine (CM _).mono ?_; rintro e w5 ⟨rfl, hb⟩; replace O := O.call hb; clear hb) | ((with_reducible refine at_alloc 6 ?_); refine wpList_alloc_own O (M.mat 7 M.zero) zeroW ?_; clear O; intro g6 w6 O) | ((with_reducible refine at_store 6 ?_); refine wpList_put_own O 0 (M.mat 7 (m)) rfl rfl rfl (sW _) (M.mat_len2 _ _ _) (M.mat_one _ _) ?_; clear O; intro w7 O) | ((with_reducible refine at_load 33 ?_); refine wpList_whole rfl O 1 rfl rfl Try.underlying25 rfl (s27 _) ?_) | ((with_reducible refine at_load 34 ?_); refine wpList_whole rfl O 3 rfl rfl Try.underlying27 rfl (sP _) ?_) | (go_at_call 8; clear tok1; have tok2 : True := trivial; refine (CN _).mono ?_; rintro e w8 ⟨rfl, hb⟩; replace O := O.call hb; clear hb) | ((with_reducible refine at_alloc 8 ?_); refine wpList_alloc_own O (M.mat 7 M.zero) zeroW ?_; clear O; intro g8 w10 O) | ((with_reducible refine at_store 8 ?_); refine wpList_put_own O 0 (M.mat 7 (n)) rfl rfl rfl (sW _) (M.mat_len2 _ _ _) (M.mat_one _ _) ?_; clear O; intro w11 O) | (go_at_call 10; refine (awake_any _).mono ?_; rintro e w21 ⟨rfl, hb⟩; replace O := O.call hb; clear hb) | ((with_reducible refine at_load 48 ?_); refine wpList_cell_h (v := .int .i64 (n0)) rfl O.held 0 rfl N0.out rfl agg3 rfl ?_) | ((with_reducible refine at_load 50 ?_); refine wpList_cell_h (v := .int .i64 (m0)) rfl O.held 1 rfl M0.out rfl agg3 rfl ?_) | ((with_reducible refine at_load 53 ?_); refine wpList_cell_h (v := .int .i64 (x)) rfl O.held 4 rfl Q0.out rfl agg3 rfl ?_) | ((with_reducible refine at_load 55 ?_); refine wpList_cell_h (v := .int .i64 (p0)) rfl O.held 3 rfl P0.out rfl agg3 rfl ?_) | ((with_reducible refine at_load 62 ?_); refine wpList_cell_h (v := .int .i64 (n1)) rfl O.held 0 rfl N1.out rfl agg3 rfl ?_) | ((with_reducible refine at_load 64 ?_); refine wpList_cell_h (v := .int .i64 (m1)) rfl O.held 1 rfl M1.out rfl agg3 rfl ?_) | ((with_reducible refine at_load 67 ?_); refine wpList_cell_h (v := .int .i64 (y)) rfl O.held 4 rfl Q1.out rfl agg3 rfl ?_) | ((with_reducible refine at_load 69 ?_); refine wpList_cell_h (v := .int .i64 (p1)) rfl O.held 3 rfl P1.out rfl agg3 rfl ?_) | ((with_reducible refine at_load 76 ?_); refine wpList_cell_h (v := .int .i64 (m2)) rfl O.held 1 rfl M2.out rfl agg3 rfl ?_) | ((with_reducible refine at_load 78 ?_); refine wpList_cell_h (v := .int .i64 (m2)) rfl O.held 0 rfl N2.out rfl agg3 rfl ?_) | ((with_reducible refine at_load 83 ?_); refine wpList_mid_h rfl O.held 1 rfl (M.mat 4 (D.sub 4 v)) (KM.out) rfl Try.underlying23 rfl (s25 _) ?_) | ((with_reducible refine at_load 85 ?_); refine wpList_mid_h rfl O.held 0 rfl (M.mat 4 (D.sub 4 v)) (KN.out) rfl Try.underlying23 rfl (s25 _) ?_) | ((with_reducible refine at_binOp 86 ?_); refine wpList_eq25 rfl (D.sub 4 v) (D.sub 4 v) rfl rfl ?_; rw [M.eqB_refl]) | ((with_reducible refine at_load 90 ?_); refine wpList_mid_h rfl O.held 1 rfl (M.mat 4 (D.sub 4 v)) (KM.out) rfl Try.underlying23 rfl (s25 _) ?_) | ((with_reducible refine at_load 92 ?_); refine wpList_mid_h rfl O.held 2 rfl (M.mat 4 (D.sub 4 v)) (mat_sub v (by omega)) rfl Try.underlying23 rfl (s25 _) ?_) | ((with_reducible refine at_binOp 93 ?_); refine wpList_eq25 rfl (D.sub 4 v) (D.sub 4 v) rfl rfl ?_; rw [M.eqB_refl]))
      go_ret
      exact ⟨rfl, O.below⟩
    · have E : (f == 0) = false := beq_eq_false_iff_ne.2 hf
      clear hf HU
      go_wp2_with (first | ((with_reducible refine at_load 27 ?_); refine wpList_whole rfl O 0 rfl rfl Try.underlying25 rfl (s27 _) ?_) | ((with_reducible refine at_load 28 ?_); refine wpList_whole rfl O 1 rfl rfl Try.underlying27 rfl (sP _) ?_) | (go_at_call 8; clear tok0; have tok1 : True := trivial; refine (CM _).mono ?_; rintro e w5 ⟨rfl, hb⟩; replace O := O.call hb; clear hb) | ((with_reducible refine at_alloc 6 ?_); refine wpList_alloc_own O (M.mat 7 M.zero) zeroW ?_; clear O; intro g6 w6 O) | ((with_reducible refine at_store 6 ?_); refine wpList_put_own O 0 (M.mat 7 (m)) rfl rfl rfl (sW _) (M.mat_len2 _ _ _) (M.mat_one _ _) ?_; clear O; intro w7 O) | ((with_reducible refine at_load 33 ?_); refine wpList_whole rfl O 1 rfl rfl Try.underlying25 rfl (s27 _) ?_) | ((with_reducible refine at_load 34 ?_); refine wpList_whole rfl O 3 rfl rfl Try.underlying27 rfl (sP _) ?_) | (go_at_call 8; clear tok1; have tok2 : True := trivial; refine (CN _).mono ?_; rintro e w8 ⟨rfl, hb⟩; replace O := O.call hb; clear hb) | ((with_reducible refine at_alloc 8 ?_); refine wpList_alloc_own O (M.mat 7 M.zero) zeroW ?_; clear O; intro g8 w10 O) | ((with_reducible refine at_store 8 ?_); refine wpList_put_own O 0 (M.mat 7 (n)) rfl rfl rfl (sW _) (M.mat_len2 _ _ _) (M.mat_one _ _) ?_; clear O; intro w11 O) | (go_at_call 10; refine (awake_any _).mono ?_; rintro e w21 ⟨rfl, hb⟩; replace O := O.call hb; clear hb))
      go_ret
      exact ⟨rfl, O.below⟩
  · have E : (e == 0) = false := beq_eq_false_iff_ne.2 he
    clear he HU
    go_wp2_with (first | ((with_reducible refine at_load 27 ?_); refine wpList_whole rfl O 0 rfl rfl Try.underlying25 rfl (s27 _) ?_) | ((with_reducible refine at_load 28 ?_); refine wpList_whole rfl O 1 rfl rfl Try.underlying27 rfl (sP _) ?_) | (go_at_call 8; clear tok0; have tok1 : True := trivial; refine (CM _).mono ?_; rintro e w5 ⟨rfl, hb⟩; replace O := O.call hb; clear hb) | ((with_reducible refine at_alloc 6 ?_); refine wpList_alloc_own O (M.mat 7 M.zero) zeroW ?_; clear O; intro g6 w6 O) | ((with_reducible refine at_store 6 ?_); refine wpList_put_own O 0 (M.mat 7 (m)) rfl rfl rfl (sW _) (M.mat_len2 _ _ _) (M.mat_one _ _) ?_; clear O; intro w7 O) | ((with_reducible refine at_load 33 ?_); refine wpList_whole rfl O 1 rfl rfl Try.underlying25 rfl (s27 _) ?_) | ((with_reducible refine at_load 34 ?_); refine wpList_whole rfl O 3 rfl rfl Try.underlying27 rfl (sP _) ?_) | (go_at_call 8; clear tok1; have tok2 : True := trivial; refine (CN _).mono ?_; rintro e w8 ⟨rfl, hb⟩; replace O := O.call hb; clear hb) | ((with_reducible refine at_alloc 8 ?_); refine wpList_alloc_own O (M.mat 7 M.zero) zeroW ?_; clear O; intro g8 w10 O) | ((with_reducible refine at_store 8 ?_); refine wpList_put_own O 0 (M.mat 7 (n)) rfl rfl rfl (sW _) (M.mat_len2 _ _ _) (M.mat_one _ _) ?_; clear O; intro w11 O) | (go_at_call 10; refine (awake_any _).mono ?_; rintro e w21 ⟨rfl, hb⟩; replace O := O.call hb; clear hb))
    go_ret
    exact ⟨rfl, O.below⟩

theorem readable : ∀ t ∈ Try.f6.params.toList, Try.prog.readableRec t = true ∧ t < Try.prog.types.size := by
  intro t ht
  rw [Try.params6] at ht
  simp only [List.mem_cons, List.not_mem_nil, or_false] at ht
  repeat (first | (rcases ht with rfl | ht; exact ⟨by kernel_rfl, of_decide_eq_true (by kernel_rfl)⟩) | (subst ht; exact ⟨by kernel_rfl, of_decide_eq_true (by kernel_rfl)⟩))
set_option maxRecDepth 100000 in
theorem lifted (os : Os) (started : os.Started) (H : Type) (enc : TypeId × Value → H) :
    ReturnsInHanded {} Try.checked os 6 .any (Rows.viewMovesSpec.pre6 enc Try.prog Try.f6 Rows.viewMovesRow.domain false) (Rows.viewMovesSpec.post enc Try.prog Try.f6 false true false false) := by
  refine returnsInHanded_of_change (C := Try.checked) own started (by kernel_rfl) Try.func6
    (ChangeSpec.witness6 (enc := enc) (C := Try.checked) false ⟨#[], #[.agg #[.int .i64 0, .int .i64 0, .int .i64 0, .int .i64 0, .int .i64 0, .int .i64 0, .int .i64 0, .int .i64 0, .int .i64 0, .int .i64 0, .int .i64 0, .int .i64 0, .int .i16 0, .int .i16 0]], []⟩ 8 (by kernel_rfl) (by kernel_rfl) (by kernel_rfl) (by kernel_rfl)) ?_
  intro W base args ds gs before hval0 hW hcnd _
  have hval : ∀ (j : Nat) t v, Try.f6.params[j]? = some t → args[j]? = some v → Value.okWide Try.prog W .any base t v := hval0
  have hW' := hW
  obtain ⟨p, q, hA0, hV, rfl, hfz, hnd⟩ := hW
  have hA : DataW.TrodAll enc Try.prog W 0 (fun _ => true) true Try.f6.params.toList args.toList ds p := hA0
  rw [Try.params6] at hA hval
  have hlt : ∀ x ∈ p ++ q, x.block < W.heap.size := fun x hx => hW'.lt x hx
  obtain ⟨v0, vs0, d0, ds0, p0, q0, hargs, rfl, rfl, h0, rr0⟩ := trodAll_cons hA
  obtain ⟨rfl, rfl, rfl⟩ := trodAll_nil rr0
  obtain rfl : args = #[v0] := by cases args; simp_all
  obtain ⟨rfl, rfl⟩ := trodVars_none hV
  obtain ⟨a0, b0, x0, y0, rfl, e0, f0⟩ := openMoved (hval 0 41 v0 rfl rfl) h0
  clear hA0 hval0
  refine (walk W a0 b0 x0 y0 e0 f0).mono fun e W' ⟨he, hg⟩ => ?_
  subst he
  exact ⟨_, rfl, post_true (tb := 4) laid readable (by kernel_rfl) Try.underlying4 rfl (fun l hl => by
    match l, hl with
    | [_], _ => exact ⟨rfl, rfl, rfl⟩) hW' hg⟩

theorem over : Rows.viewMovesRow.holds Try.pinned (OpenSpec.ofChange Rows.viewMovesSpec) :=
  OpenClaim.holds_of_wide 6 Try.f6 rfl rfl rfl rfl rfl rfl rfl ⟨rfl, rfl, rfl, rfl, rfl⟩ rfl rfl rfl rfl rfl (by kernel_rfl) Try.func6 (by kernel_rfl)
    (of_decide_eq_true (by kernel_rfl)) (by unfold Func.isWrapper; first | (rw [if_pos (by decide +kernel)]; kernel_rfl) | (rw [if_neg (by decide +kernel)]; exact ⟨rfl, rfl⟩))
    (fun os started H enc _ => lifted os started H enc)

theorem proved : Rows.ViewMovesSaid :=
  over
#print axioms proved
end Go.Proofs.Ytbmigbmeadgopaa.viewMoves
