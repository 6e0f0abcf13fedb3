/- LerpRises: a pixel further on. -/
import Derived.Test.YtjhefgfnecdcoaaRa
namespace Go.Proofs.Ytjhefgfnecdcoaa
open Go.ChangeShapes Go.WideShapes Go.ChangeAt Go.RowKit
set_option linter.unusedVariables false
set_option linter.unusedSimpArgs false

set_option maxRecDepth 100000 in
set_option maxHeartbeats 16000000 in
theorem rises_111 (a b p q : Nat → Int) (h1 : VM.fit a = true) (h2 : VM.fit b = true) (h3 : VM.near p = true) (k0 : ¬ q 0 < 0) (k1 : ¬ 1048576 < q 0) (k2 : ¬ q 1 < 0) (k3 : ¬ 1048576 < q 1) (sw : b 0 - a 0 < 0) (sh : b 1 - a 1 < 0) (h5 : VM.near (VM.t2 (p 0 - q 0) (p 1 - q 1)) = true) (hs : a 2 ≤ b 2) (w : World) : Calls Try.prog 6 #[.agg (VM.fu a b p q).toArray] w fun e w' => e = .returned (.bool true) ∧ Below w.heap.size w w' := by
  have O := Own.start w
  have FA := fun w => fits_any a w
  have FB := fun w => fits_any b w
  have FN := fun w => near_any p w
  have tok0 : True := trivial
  have HD : apart [⟨8, 12, 30, M.mat 7 M.zero, M.mat 7 a⟩, ⟨9, 13, 30, M.mat 7 M.zero, M.mat 7 b⟩, ⟨10, 14, 22, M.mat 2 M.zero, M.mat 2 p⟩, ⟨11, 99, 22, M.mat 2 M.zero, M.mat 2 M.zero⟩] := (by decide : [8, 12, 9, 13, 10, 14, 11, 99].Nodup)
  obtain ⟨X, eX⟩ : ∃ z, p 0 = z := ⟨_, rfl⟩
  have CX := cell_is (n := 2) eX (by decide)
  obtain ⟨Y, eY⟩ : ∃ z, p 1 = z := ⟨_, rfl⟩
  have CY := cell_is (n := 2) eY (by decide)
  obtain ⟨u, eu⟩ : ∃ z, q 0 = z := ⟨_, rfl⟩
  have Cu := cell_is (n := 2) eu (by decide)
  obtain ⟨v, ev⟩ : ∃ z, q 1 = z := ⟨_, rfl⟩
  have Cv := cell_is (n := 2) ev (by decide)
  obtain ⟨n0, n1⟩ := VM.near_lim h3
  have CA : ∀ (x y : Int) (hx : -4194304 ≤ x ∧ x ≤ 4194304) (hy : -4194304 ≤ y ∧ y ≤ 4194304) w, _ := fun x y hx hy w => palong_any a b x y h1 h2 hx hy w
  have CC : ∀ (x y : Int) (hx : -4194304 ≤ x ∧ x ≤ 4194304) (hy : -4194304 ≤ y ∧ y ≤ 4194304) w, _ := fun x y hx hy w => pacross_any a b x y h1 h2 hx hy w
  obtain ⟨la0, la1, -, -⟩ := VM.fit_lim h1
  obtain ⟨lb0, lb1, -, -⟩ := VM.fit_lim h2
  rw [h1] at FA
  rw [h2] at FB
  rw [h3] at FN
  rw [eX] at n0
  rw [eY] at n1
  rw [eu] at k0 k1
  rw [ev] at k2 k3
  rw [eX, eu, eY, ev] at h5
  clear h1 h2 h3 eX eY eu ev
  have K0 : decide (u < 0) = false := decide_eq_false (by omega)
  have K1 : decide (1048576 < u) = false := decide_eq_false (by omega)
  have K2 : decide (v < 0) = false := decide_eq_false (by omega)
  have K3 : decide (1048576 < v) = false := decide_eq_false (by omega)
  obtain ⟨p0, ep0⟩ : ∃ z, a 0 = z := ⟨_, rfl⟩
  have Cp0 := cell_is (n := 7) ep0 (by decide)
  obtain ⟨p1, ep1⟩ : ∃ z, a 1 = z := ⟨_, rfl⟩
  have Cp1 := cell_is (n := 7) ep1 (by decide)
  obtain ⟨s, es⟩ : ∃ z, a 2 = z := ⟨_, rfl⟩
  have Cs := cell_is (n := 7) es (by decide)
  obtain ⟨q0, eq0⟩ : ∃ z, b 0 = z := ⟨_, rfl⟩
  have Cq0 := cell_is (n := 7) eq0 (by decide)
  obtain ⟨q1, eq1⟩ : ∃ z, b 1 = z := ⟨_, rfl⟩
  have Cq1 := cell_is (n := 7) eq1 (by decide)
  obtain ⟨t, et⟩ : ∃ z, b 2 = z := ⟨_, rfl⟩
  have Ct := cell_is (n := 7) et (by decide)
  rw [ep0, eq0] at sw
  rw [ep1, eq1] at sh
  rw [ep0] at la0
  rw [ep1] at la1
  rw [eq0] at lb0
  rw [eq1] at lb1
  obtain ⟨W, hW⟩ : ∃ z, q0 - p0 = z := ⟨_, rfl⟩
  obtain ⟨H, hH⟩ : ∃ z, q1 - p1 = z := ⟨_, rfl⟩
  rw [hW] at sw
  rw [hH] at sh
  have DW : Hid (IntKind.i64.wrap (q0 - p0) = W) := Lib.hid ((IntWalk.i64_in _ (by omega)).trans hW)
  have DH : Hid (IntKind.i64.wrap (q1 - p1) = H) := Lib.hid ((IntWalk.i64_in _ (by omega)).trans hH)
  obtain ⟨X1, hX1⟩ : ∃ z, X - u = z := ⟨_, rfl⟩
  obtain ⟨Y1, hY1⟩ : ∃ z, Y - v = z := ⟨_, rfl⟩
  rw [hX1, hY1] at h5
  have FP := fun w => near_any (VM.t2 X1 Y1) w
  have CX1 := cell_is (n := 2) (i := 0) (a := VM.t2 X1 Y1) (z := X1) rfl (by decide)
  have CY1 := cell_is (n := 2) (i := 1) (a := VM.t2 X1 Y1) (z := Y1) rfl (by decide)
  obtain ⟨l0, l1⟩ := VM.near_lim h5
  change -4194304 ≤ X1 ∧ X1 ≤ 4194304 at l0
  change -4194304 ≤ Y1 ∧ Y1 ≤ 4194304 at l1
  rw [es, et] at hs
  have KW : decide (W < 0) = true := decide_eq_true (by omega)
  have KH : decide (H < 0) = true := decide_eq_true (by omega)
  have W1 : wrap64 (X - u) = X1 := (IntWalk.wrap64_in _ (by omega)).trans hX1
  have W2 : wrap64 (Y - v) = Y1 := (IntWalk.wrap64_in _ (by omega)).trans hY1
  have C1 := fun w => CA X Y n0 n1 w
  have C2 := fun w => CA X1 Y1 l0 l1 w
  have C3 := fun w => CC X Y n0 n1 w
  have C4 := fun w => CC X1 Y1 l0 l1 w
  have eW : X1 = if b 0 - a 0 < 0 then X - u else X + u := by rw [ep0, eq0, ← hX1]; split <;> omega
  have eH : Y1 = if b 1 - a 1 < 0 then Y - v else Y + v := by rw [ep1, eq1, ← hY1]; split <;> omega
  have u1 := VM.along_up (ax := a 0) (ay := a 1) (bx := b 0) (by_ := b 1) (u := u) (v := v) (by omega) (by omega) eW eH
  have u2 := VM.across_up (ax := a 0) (ay := a 1) (bx := b 0) (by_ := b 1) (u := u) (v := v) (by omega) (by omega) eW eH
  have m1 := VM.mid_up (p := a 2) (q := b 2) (d := (VM.dA (a 0) (a 1) (b 0) (b 1))) (by omega) u1
  have m2 := VM.mid_up (p := a 2) (q := b 2) (d := (VM.dC (a 0) (a 1) (b 0) (b 1))) (by omega) u2
  have KS : decide (s ≤ t) = true := decide_eq_true (by omega)
  generalize VM.mid (a 2) (b 2) (VM.nA (a 0) (a 1) (b 0) (b 1) X Y) (VM.dA (a 0) (a 1) (b 0) (b 1)) = z1 at *
  generalize VM.col a b (VM.nA (a 0) (a 1) (b 0) (b 1) X Y) (VM.dA (a 0) (a 1) (b 0) (b 1)) = c1 at *
  have D1 := Lib.hid C1
  generalize VM.mid (a 2) (b 2) (VM.nA (a 0) (a 1) (b 0) (b 1) X1 Y1) (VM.dA (a 0) (a 1) (b 0) (b 1)) = z2 at *
  generalize VM.col a b (VM.nA (a 0) (a 1) (b 0) (b 1) X1 Y1) (VM.dA (a 0) (a 1) (b 0) (b 1)) = c2 at *
  have D2 := Lib.hid C2
  generalize VM.mid (a 2) (b 2) (VM.nC (a 0) (a 1) (b 0) (b 1) X Y) (VM.dC (a 0) (a 1) (b 0) (b 1)) = z3 at *
  generalize VM.col a b (VM.nC (a 0) (a 1) (b 0) (b 1) X Y) (VM.dC (a 0) (a 1) (b 0) (b 1)) = c3 at *
  have D3 := Lib.hid C3
  generalize VM.mid (a 2) (b 2) (VM.nC (a 0) (a 1) (b 0) (b 1) X1 Y1) (VM.dC (a 0) (a 1) (b 0) (b 1)) = z4 at *
  generalize VM.col a b (VM.nC (a 0) (a 1) (b 0) (b 1) X1 Y1) (VM.dC (a 0) (a 1) (b 0) (b 1)) = c4 at *
  have D4 := Lib.hid C4
  have M1 : decide (z1 ≤ z2) = true := decide_eq_true m1
  have M2 : decide (z3 ≤ z4) = true := decide_eq_true m2
  rw [h5] at FP
  clear h5 l0 l1 C1 C2 C3 C4 CA CC u1 u2 m1 m2 eW eH hs
  clear hW hH sw sh hX1 hY1 la0 la1 lb0 lb1 n0 n1 k0 k1 k2 k3 ep0 ep1 es eq0 eq1 et
  go_enter Try.func6, Try.ntmps6
  go_wp2_with ((with_reducible refine at_box 1 ?_); refine wpList_box_own O (VM.fu a b p q) rfl ?_; clear O; intro g1 w1 O)
  refine region_S (fun st w2 => NB w [(g1, 37, VM.fu a b p q)] [⟨8, 12, 30, M.mat 7 M.zero, M.mat 7 a⟩, ⟨9, 13, 30, M.mat 7 M.zero, M.mat 7 b⟩, ⟨10, 14, 22, M.mat 2 M.zero, M.mat 2 p⟩, ⟨11, 99, 22, M.mat 2 M.zero, M.mat 2 M.zero⟩] st w2) [8, 9, 10, 11, 12, 13, 14] 12 15 [some 18, some 19, some 20, some 21, some 22, some 23, some 24, some 25, some 3, some 4, some 5, some 6, none, none, none] (fun g => [.pointer (some ⟨g1, 0, none⟩), arr 7 a, .pointer (some ⟨g1, 7, none⟩), arr 7 b, .pointer (some ⟨g1, 14, none⟩), arr 2 p, .pointer (some ⟨g1, 16, none⟩), arr 2 q, g 8, g 9, g 10, g 11, g 12, g 13, g 14]) 1 (by kernel_rfl) (by kernel_rfl) (by rfl) (by rfl) (fun _ => rfl) (by decide) ?_ (NB.start O.drew) (fun F hF => ?_)
  · intro i hi
    simp only [List.mem_cons, List.not_mem_nil, or_false] at hi
    rcases hi with rfl | rfl | rfl | rfl | rfl | rfl | rfl
    · exact ⟨fun _ => rfl, [0, 1, 2, 3, 4, 5, 6, 7, 9, 10, 11, 12, 13, 14], by kernel_rfl, fun g v => ⟨rfl, rfl, rfl, rfl, rfl, rfl, rfl, rfl, rfl, rfl, rfl, rfl, rfl, rfl, trivial⟩⟩
    · exact ⟨fun _ => rfl, [0, 1, 2, 3, 4, 5, 6, 7, 8, 10, 11, 12, 13, 14], by kernel_rfl, fun g v => ⟨rfl, rfl, rfl, rfl, rfl, rfl, rfl, rfl, rfl, rfl, rfl, rfl, rfl, rfl, trivial⟩⟩
    · exact ⟨fun _ => rfl, [0, 1, 2, 3, 4, 5, 6, 7, 8, 9, 11, 12, 13, 14], by kernel_rfl, fun g v => ⟨rfl, rfl, rfl, rfl, rfl, rfl, rfl, rfl, rfl, rfl, rfl, rfl, rfl, rfl, trivial⟩⟩
    · exact ⟨fun _ => rfl, [0, 1, 2, 3, 4, 5, 6, 7, 8, 9, 10, 12, 13, 14], by kernel_rfl, fun g v => ⟨rfl, rfl, rfl, rfl, rfl, rfl, rfl, rfl, rfl, rfl, rfl, rfl, rfl, rfl, trivial⟩⟩
    · exact ⟨fun _ => rfl, [0, 1, 2, 3, 4, 5, 6, 7, 8, 9, 10, 11, 13, 14], by kernel_rfl, fun g v => ⟨rfl, rfl, rfl, rfl, rfl, rfl, rfl, rfl, rfl, rfl, rfl, rfl, rfl, rfl, trivial⟩⟩
    · exact ⟨fun _ => rfl, [0, 1, 2, 3, 4, 5, 6, 7, 8, 9, 10, 11, 12, 14], by kernel_rfl, fun g v => ⟨rfl, rfl, rfl, rfl, rfl, rfl, rfl, rfl, rfl, rfl, rfl, rfl, rfl, rfl, trivial⟩⟩
    · exact ⟨fun _ => rfl, [0, 1, 2, 3, 4, 5, 6, 7, 8, 9, 10, 11, 12, 13], by kernel_rfl, fun g v => ⟨rfl, rfl, rfl, rfl, rfl, rfl, rfl, rfl, rfl, rfl, rfl, rfl, rfl, rfl, trivial⟩⟩
  simp only [fillD, Act.put, List.setIfInBounds_toArray, List.set_cons_zero, List.set_cons_succ] at hF
  have hF2 := funext hF
  clear hF
  subst hF2
  refine ⟨⟨doesN_want (by decide) rfl (fun g => rfl) (fun st w' hS hp K hK => ?_), doesN_want (by decide) rfl (fun g => rfl) (fun st w' hS hp K hK => ?_), doesN_want (by decide) rfl (fun g => rfl) (fun st w' hS hp K hK => ?_), doesN_want (by decide) rfl (fun g => rfl) (fun st w' hS hp K hK => ?_), doesN_want (by decide) rfl (fun g => rfl) (fun st w' hS hp K hK => ?_), doesN_want (by decide) rfl (fun g => rfl) (fun st w' hS hp K hK => ?_), doesN_want (by decide) rfl (fun g => rfl) (fun st w' hS hp K hK => ?_), doesN_want (by decide) rfl (fun g => rfl) (fun st w' hS hp K hK => ?_), doesC_want (by decide) rfl (fun g => rfl) (fun st w' hS hn hp K hK => ?_), doesC_want (by decide) rfl (fun g => rfl) (fun st w' hS hn hp K hK => ?_), doesC_want (by decide) rfl (fun g => rfl) (fun st w' hS hn hp K hK => ?_), doesC_want (by decide) rfl (fun g => rfl) (fun st w' hS hn hp K hK => ?_), doesC_want (by decide) rfl (fun g => rfl) (fun st w' hS hn hp K hK => ?_), doesC_want (by decide) rfl (fun g => rfl) (fun st w' hS hn hp K hK => ?_), doesC_want (by decide) rfl (fun g => rfl) (fun st w' hS hn hp K hK => ?_), trivial⟩, fun st w' hS hall => ?_⟩
  · try dsimp only
    go_simp
    exact hK _ hS
  · try dsimp only
    exact wp_mid_h hS.own.held 0 rfl (M.mat 7 a) (VM.fu_a a b p q) rfl Try.underlying30 rfl (sW _) (hK _ hS)
  · try dsimp only
    go_simp
    exact hK _ hS
  · try dsimp only
    exact wp_mid_h hS.own.held 0 rfl (M.mat 7 b) (VM.fu_b a b p q) rfl Try.underlying30 rfl (sW _) (hK _ hS)
  · try dsimp only
    go_simp
    exact hK _ hS
  · try dsimp only
    exact wp_mid_h hS.own.held 0 rfl (M.mat 2 p) (VM.fu_t a b p q) rfl Try.underlying22 rfl (sD _) (hK _ hS)
  · try dsimp only
    go_simp
    exact hK _ hS
  · try dsimp only
    exact wp_mid_h hS.own.held 0 rfl (M.mat 2 q) (VM.fu_p a b p q) rfl Try.underlying22 rfl (sD _) (hK _ hS)
  · try dsimp only
    exact hS.alloc HD 0 rfl hn zeroW hK
  · try dsimp only
    exact hS.alloc HD 1 rfl hn zeroW hK
  · try dsimp only
    exact hS.alloc HD 2 rfl hn zeroD hK
  · try dsimp only
    exact hS.alloc HD 3 rfl hn zeroD hK
  · try dsimp only
    exact hS.put HD 0 rfl (hp 8 (by decide) (by kernel_rfl)) hn rfl rfl (sW _) (M.mat_len2 _ _ _) (M.mat_one _ _) hK
  · try dsimp only
    exact hS.put HD 1 rfl (hp 9 (by decide) (by kernel_rfl)) hn rfl rfl (sW _) (M.mat_len2 _ _ _) (M.mat_one _ _) hK
  · try dsimp only
    exact hS.put HD 2 rfl (hp 10 (by decide) (by kernel_rfl)) hn rfl rfl (sD _) (M.mat_len2 _ _ _) (M.mat_one _ _) hK
  try dsimp only
  obtain ⟨g3, e3⟩ := hS.ptr 0 rfl (hall 8 (by decide))
  obtain ⟨g4, e4⟩ := hS.ptr 1 rfl (hall 9 (by decide))
  obtain ⟨g5, e5⟩ := hS.ptr 2 rfl (hall 10 (by decide))
  obtain ⟨g6, e6⟩ := hS.ptr 3 rfl (hall 11 (by decide))
  have O3 : Own w w' [(g3, 30, M.mat 7 a), (g4, 30, M.mat 7 b), (g5, 22, M.mat 2 p), (g6, 22, M.mat 2 M.zero), (g1, 37, VM.fu a b p q)] := by
    have h3 := hS.2.2
    rw [nows_cons, nows_cons, nows_cons, nows_cons, NbS.now_is e3 true (hall 12 (by decide)), NbS.now_is e4 true (hall 13 (by decide)), NbS.now_is e5 true (hall 14 (by decide)), NbS.now_same e6 rfl] at h3
    exact h3
  clear hS O
  have O := O3
  clear O3
  simp only [seen, e3, e4, e5, e6, Option.getD_some]
  try generalize (st 12).getD undef = x12'
  try generalize (st 13).getD undef = x13'
  try generalize (st 14).getD undef = x14'
  clear hall e3 e4 e5 e6
  refine wpAny_want (i := 15) (by kernel_rfl) rfl (by rfl) (fun K hK => ?_)
  refine wp_put_own O 3 (M.mat 2 (q)) rfl rfl rfl (sD _) (M.mat_len2 _ _ _) (M.mat_one _ _) fun w9 O9 => hK _ _ ?_
  clear O
  have O := O9
  clear O9
  clear hK K
  try simp only [Act.put, List.setIfInBounds_toArray, List.set_cons_zero, List.set_cons_succ]
  refine wpAny_done (by kernel_rfl) ?_ _
  have O9 := Own.as O (l' := [(g3, 30, M.mat 7 a), (g4, 30, M.mat 7 b), (g5, 22, M.mat 2 p), (g6, 22, M.mat 2 q), (g1, 37, VM.fu a b p q)]) rfl
  clear O HD
  have O := O9
  clear O9
  go_wp2_with (first | ((with_reducible refine at_load 26 ?_); refine wpList_whole rfl O 0 rfl rfl Try.underlying30 rfl (sW _) ?_) | (go_at_call 11; clear tok0; have tok1 : True := trivial; refine (FA _).mono ?_; rintro e w4 ⟨rfl, hb⟩; replace O := O.call hb; clear hb) | ((with_reducible refine at_load 30 ?_); refine wpList_whole rfl O 1 rfl rfl Try.underlying30 rfl (sW _) ?_) | (go_at_call 11; clear tok1; have tok2 : True := trivial; refine (FB _).mono ?_; rintro e w5 ⟨rfl, hb⟩; replace O := O.call hb; clear hb) | ((with_reducible refine at_load 35 ?_); refine wpList_whole rfl O 2 rfl rfl Try.underlying22 rfl (sD _) ?_) | (go_at_call 12; clear tok2; have tok3 : True := trivial; refine (FN _).mono ?_; rintro e w6 ⟨rfl, hb⟩; replace O := O.call hb; clear hb) | ((with_reducible refine at_load 41 ?_); refine wpList_cell_h (v := .int .i64 (u)) rfl O.held 3 rfl Cu.out rfl agg3 rfl ?_) | ((with_reducible refine at_load 46 ?_); refine wpList_cell_h (v := .int .i64 (u)) rfl O.held 3 rfl Cu.out rfl agg3 rfl ?_) | ((with_reducible refine at_load 51 ?_); refine wpList_cell_h (v := .int .i64 (v)) rfl O.held 3 rfl Cv.out rfl agg3 rfl ?_) | ((with_reducible refine at_load 56 ?_); refine wpList_cell_h (v := .int .i64 (v)) rfl O.held 3 rfl Cv.out rfl agg3 rfl ?_))
  have OO := O
  clear O
  have O := OO
  clear OO
  refine region_T ((fun w2 => Own w w2 [(g3, 30, M.mat 7 a), (g4, 30, M.mat 7 b), (g5, 22, M.mat 2 p), (g6, 22, M.mat 2 q), (g1, 37, VM.fu a b p q)])) [0, 1, 2, 3, 4, 5, 6, 7, 8, 9, 10] 12 [some 60, some 61, some 62, some 63, some 64, some 65, some 66, some 67, some 68, some 69, some 7] [.pointer (some ⟨g4, 0, none⟩), .int .i64 q0, .pointer (some ⟨g3, 0, none⟩), .int .i64 p0, .int .i64 W, .pointer (some ⟨g4, 1, none⟩), .int .i64 q1, .pointer (some ⟨g3, 1, none⟩), .int .i64 p1, .int .i64 H, .int .i64 W] 1 (by kernel_rfl) (by rfl) (by kernel_rfl) (by rfl) (by rfl) (O.drew) (fun F hF => ?_)
  simp only [fillD, Act.put, List.setIfInBounds_toArray, List.set_cons_zero, List.set_cons_succ] at hF
  subst hF
  refine ⟨⟨does_want rfl (by rfl) (fun w' O K hK => ?_), does_want rfl (by rfl) (fun w' O K hK => ?_), does_want rfl (by rfl) (fun w' O K hK => ?_), does_want rfl (by rfl) (fun w' O K hK => ?_), does_want rfl (by rfl) (fun w' O K hK => ?_), does_want rfl (by rfl) (fun w' O K hK => ?_), does_want rfl (by rfl) (fun w' O K hK => ?_), does_want rfl (by rfl) (fun w' O K hK => ?_), does_want rfl (by rfl) (fun w' O K hK => ?_), does_want rfl (by rfl) (fun w' O K hK => ?_), does_want rfl (by rfl) (fun w' O K hK => ?_), trivial⟩, fun w' O => ?_⟩
  · go_simp
    exact hK _ O
  · exact wp_cell_h (v := .int .i64 (q0)) O.held 1 rfl Cq0.out rfl agg3 rfl (hK _ O)
  · go_simp
    exact hK _ O
  · exact wp_cell_h (v := .int .i64 (p0)) O.held 0 rfl Cp0.out rfl agg3 rfl (hK _ O)
  · go_simp
    simp only [DW.out]
    exact hK _ O
  · go_simp
    exact hK _ O
  · exact wp_cell_h (v := .int .i64 (q1)) O.held 1 rfl Cq1.out rfl agg3 rfl (hK _ O)
  · go_simp
    exact hK _ O
  · exact wp_cell_h (v := .int .i64 (p1)) O.held 0 rfl Cp1.out rfl agg3 rfl (hK _ O)
  · go_simp
    simp only [DH.out]
    exact hK _ O
  · go_simp
    exact hK _ O
  refine wpAny_one (i := 11) (by kernel_rfl) rfl (fun K hK => ?_)
  go_simp
  refine hK _ _ ?_
  clear hK K
  try simp only [Act.put, List.setIfInBounds_toArray, List.set_cons_zero, List.set_cons_succ]
  refine wpAny_done (by kernel_rfl) ?_ _
  go_wp2_with (first | ((with_reducible refine at_load 70 ?_); refine wpList_whole rfl O 2 rfl rfl Try.underlying22 rfl (sD _) ?_) | ((with_reducible refine at_alloc 9 ?_); refine wpList_alloc_own O (M.mat 2 M.zero) zeroD ?_; clear O; intro g9 w10 O) | ((with_reducible refine at_store 9 ?_); refine wpList_put_own O 0 (M.mat 2 (p)) rfl rfl rfl (sD _) (M.mat_len2 _ _ _) (M.mat_one _ _) ?_; clear O; intro w11 O) | ((with_reducible refine at_load 74 ?_); refine wpList_cell_h (v := .int .i64 (X)) rfl O.held 3 rfl CX.out rfl agg3 rfl ?_) | ((with_reducible refine at_load 76 ?_); refine wpList_cell_h (v := .int .i64 (u)) rfl O.held 4 rfl Cu.out rfl agg3 rfl ?_) | ((with_reducible refine at_store 78 ?_); refine wpList_set_own O 0 (.int .i64 X1) rfl (by rw [M.mat_len]; omega) rfl (by first | exact congrArg (Value.int IntKind.i64) W1 | rfl) size3 rfl rfl ?_; intro w12 O9; clear O; have O := Own.as O9 (l' := [(g9, 22, M.mat 2 (VM.t2 X1 (p 1))), (g3, 30, M.mat 7 a), (g4, 30, M.mat 7 b), (g5, 22, M.mat 2 p), (g6, 22, M.mat 2 q), (g1, 37, VM.fu a b p q)]) rfl; clear O9) | ((with_reducible refine at_load 88 ?_); refine wpList_cell_h (v := .int .i64 (Y)) rfl O.held 3 rfl CY.out rfl agg3 rfl ?_) | ((with_reducible refine at_load 90 ?_); refine wpList_cell_h (v := .int .i64 (v)) rfl O.held 4 rfl Cv.out rfl agg3 rfl ?_) | ((with_reducible refine at_store 92 ?_); refine wpList_set_own O 0 (.int .i64 Y1) rfl (by rw [M.mat_len]; omega) rfl (by first | exact congrArg (Value.int IntKind.i64) W2 | rfl) size3 rfl rfl ?_; intro w13 O9; clear O; have O := Own.as O9 (l' := [(g9, 22, M.mat 2 (VM.t2 X1 Y1)), (g3, 30, M.mat 7 a), (g4, 30, M.mat 7 b), (g5, 22, M.mat 2 p), (g6, 22, M.mat 2 q), (g1, 37, VM.fu a b p q)]) rfl; clear O9) | ((with_reducible refine at_load 99 ?_); refine wpList_whole rfl O 0 rfl rfl Try.underlying22 rfl (sD _) ?_) | (go_at_call 12; refine (FP _).mono ?_; rintro e w14 ⟨rfl, hb⟩; replace O := O.call hb; clear hb) | ((with_reducible refine at_load 104 ?_); refine wpList_whole rfl O 1 rfl rfl Try.underlying30 rfl (sW _) ?_) | ((with_reducible refine at_load 105 ?_); refine wpList_whole rfl O 2 rfl rfl Try.underlying30 rfl (sW _) ?_) | ((with_reducible refine at_load 107 ?_); refine wpList_cell_h (v := .int .i64 (X)) rfl O.held 3 rfl CX.out rfl agg3 rfl ?_) | ((with_reducible refine at_load 109 ?_); refine wpList_cell_h (v := .int .i64 (Y)) rfl O.held 3 rfl CY.out rfl agg3 rfl ?_) | (go_at_call 13; clear tok3; have tok4 : True := trivial; refine (D1.out _).mono ?_; rintro e w15 ⟨rfl, hb⟩; replace O := O.call hb; clear hb) | ((with_reducible refine at_alloc 11 ?_); refine wpList_alloc_own O (M.mat 4 M.zero) zeroC ?_; clear O; intro g11 w16 O) | ((with_reducible refine at_store 11 ?_); refine wpList_put_own O 0 (M.mat 4 (c1)) rfl rfl rfl (sC _) (M.mat_len2 _ _ _) (M.mat_one _ _) ?_; clear O; intro w17 O) | ((with_reducible refine at_load 114 ?_); refine wpList_whole rfl O 2 rfl rfl Try.underlying30 rfl (sW _) ?_) | ((with_reducible refine at_load 115 ?_); refine wpList_whole rfl O 3 rfl rfl Try.underlying30 rfl (sW _) ?_) | ((with_reducible refine at_load 117 ?_); refine wpList_cell_h (v := .int .i64 (X1)) rfl O.held 1 rfl CX1.out rfl agg3 rfl ?_) | ((with_reducible refine at_load 119 ?_); refine wpList_cell_h (v := .int .i64 (Y1)) rfl O.held 1 rfl CY1.out rfl agg3 rfl ?_) | (go_at_call 13; clear tok4; have tok5 : True := trivial; refine (D2.out _).mono ?_; rintro e w18 ⟨rfl, hb⟩; replace O := O.call hb; clear hb) | ((with_reducible refine at_alloc 13 ?_); refine wpList_alloc_own O (M.mat 4 M.zero) zeroC ?_; clear O; intro g13 w19 O) | ((with_reducible refine at_store 13 ?_); refine wpList_put_own O 0 (M.mat 4 (c2)) rfl rfl rfl (sC _) (M.mat_len2 _ _ _) (M.mat_one _ _) ?_; clear O; intro w20 O) | ((with_reducible refine at_load 124 ?_); refine wpList_whole rfl O 3 rfl rfl Try.underlying30 rfl (sW _) ?_) | ((with_reducible refine at_load 125 ?_); refine wpList_whole rfl O 4 rfl rfl Try.underlying30 rfl (sW _) ?_) | ((with_reducible refine at_load 127 ?_); refine wpList_cell_h (v := .int .i64 (X)) rfl O.held 5 rfl CX.out rfl agg3 rfl ?_) | ((with_reducible refine at_load 129 ?_); refine wpList_cell_h (v := .int .i64 (Y)) rfl O.held 5 rfl CY.out rfl agg3 rfl ?_) | (go_at_call 15; clear tok5; have tok6 : True := trivial; refine (D3.out _).mono ?_; rintro e w21 ⟨rfl, hb⟩; replace O := O.call hb; clear hb) | ((with_reducible refine at_alloc 15 ?_); refine wpList_alloc_own O (M.mat 4 M.zero) zeroC ?_; clear O; intro g15 w22 O) | ((with_reducible refine at_store 15 ?_); refine wpList_put_own O 0 (M.mat 4 (c3)) rfl rfl rfl (sC _) (M.mat_len2 _ _ _) (M.mat_one _ _) ?_; clear O; intro w23 O) | ((with_reducible refine at_load 134 ?_); refine wpList_whole rfl O 4 rfl rfl Try.underlying30 rfl (sW _) ?_) | ((with_reducible refine at_load 135 ?_); refine wpList_whole rfl O 5 rfl rfl Try.underlying30 rfl (sW _) ?_) | ((with_reducible refine at_load 137 ?_); refine wpList_cell_h (v := .int .i64 (X1)) rfl O.held 3 rfl CX1.out rfl agg3 rfl ?_) | ((with_reducible refine at_load 139 ?_); refine wpList_cell_h (v := .int .i64 (Y1)) rfl O.held 3 rfl CY1.out rfl agg3 rfl ?_) | (go_at_call 15; clear tok6; have tok7 : True := trivial; refine (D4.out _).mono ?_; rintro e w24 ⟨rfl, hb⟩; replace O := O.call hb; clear hb) | ((with_reducible refine at_alloc 17 ?_); refine wpList_alloc_own O (M.mat 4 M.zero) zeroC ?_; clear O; intro g17 w25 O) | ((with_reducible refine at_store 17 ?_); refine wpList_put_own O 0 (M.mat 4 (c4)) rfl rfl rfl (sC _) (M.mat_len2 _ _ _) (M.mat_one _ _) ?_; clear O; intro w26 O) | ((with_reducible refine at_load 144 ?_); refine wpList_cell_h (v := .int .i64 (s)) rfl O.held 5 rfl Cs.out rfl agg3 rfl ?_) | ((with_reducible refine at_load 146 ?_); refine wpList_cell_h (v := .int .i64 (t)) rfl O.held 6 rfl Ct.out rfl agg3 rfl ?_) | (go_at_call 8; refine (awake_any _).mono ?_; rintro e w40 ⟨rfl, hb⟩; replace O := O.call hb; clear hb))
  go_ret
  exact ⟨rfl, O.below⟩
end Go.Proofs.Ytjhefgfnecdcoaa
