/-
  SmoothMoves: a line that is moved by whole pixels has the same fragments, moved; a line that is wider by one covers no less.
-/
import Derived.Test.YtdkppkdoconfhaaSs
import Derived.Deep.DeepCutAuto
namespace Go.Proofs.Ytdkppkdoconfhaa.smoothMoves
open Go.ChangeShapes Go.WideShapes Go.ChangeAt Go.RowKit
set_option linter.unusedVariables false
set_option linter.unusedSimpArgs false

theorem own : ownKnob Try.prog.godebug = none := by kernel_rfl

set_option maxRecDepth 100000 in
set_option maxHeartbeats 16000000 in
theorem walk (w : World) (a b : Nat → Int) (n : Int) (r : Nat → Int) (u v : Int) (huv : (-128 ≤ u ∧ u ≤ 127) ∧ (-128 ≤ v ∧ v ≤ 127)) :
    Calls Try.prog 6 #[.agg (sl a b n r).toArray, .agg (two .i8 u v).toArray] w fun e w' => e = .returned (.bool true) ∧ Below w.heap.size w w' := by
  have O := Held.start w [] (by simp)
  obtain ⟨⟨u1, u2⟩, v1, v2⟩ := huv
  have CR := fun w => rright_any r w
  have CA := fun w => rarea_any r w
  cases hr : RC.right r
  · rw [hr] at CR
    clear hr CA u1 u2 v1 v2
    go_enter Try.func6, Try.ntmps6
    go_wp2_with (first | ((with_reducible refine at_box 2 ?_); refine wpList_box_h O (sl a b n r) rfl ?_; clear O; intro g2 w1 O) | ((with_reducible refine at_box 3 ?_); refine wpList_box_h O (two .i8 u v) rfl ?_; clear O; intro g3 w2 O) | ((with_reducible refine at_load 15 ?_); refine wpList_mid_h rfl O 1 rfl (M.mat 4 r) (sl_r a b n r) rfl Try.underlying27 rfl (sR _) ?_) | (go_at_call 17; refine (CR _).mono ?_; rintro e w3 ⟨rfl, hb⟩; replace O := O.call hb; clear hb) | (go_at_call 9; refine (awake_any _).mono ?_; rintro e w9 ⟨rfl, hb⟩; replace O := O.call hb; clear hb))
    go_ret
    exact ⟨rfl, O.below⟩
  rw [hr] at CR
  obtain ⟨A, hA⟩ : ∃ A, RC.area r = A := ⟨_, rfl⟩
  rw [hA] at CA
  cases k2 : decide (600 < A)
  rotate_left
  · clear hr hA u1 u2 v1 v2
    go_enter Try.func6, Try.ntmps6
    go_wp2_with (first | ((with_reducible refine at_box 2 ?_); refine wpList_box_h O (sl a b n r) rfl ?_; clear O; intro g2 w1 O) | ((with_reducible refine at_box 3 ?_); refine wpList_box_h O (two .i8 u v) rfl ?_; clear O; intro g3 w2 O) | ((with_reducible refine at_load 15 ?_); refine wpList_mid_h rfl O 1 rfl (M.mat 4 r) (sl_r a b n r) rfl Try.underlying27 rfl (sR _) ?_) | (go_at_call 17; refine (CR _).mono ?_; rintro e w3 ⟨rfl, hb⟩; replace O := O.call hb; clear hb) | ((with_reducible refine at_load 20 ?_); refine wpList_mid_h rfl O 1 rfl (M.mat 4 r) (sl_r a b n r) rfl Try.underlying27 rfl (sR _) ?_) | (go_at_call 18; refine (CA _).mono ?_; rintro e w4 ⟨rfl, hb⟩; replace O := O.call hb; clear hb) | (go_at_call 9; refine (awake_any _).mono ?_; rintro e w9 ⟨rfl, hb⟩; replace O := O.call hb; clear hb))
    go_ret
    exact ⟨rfl, O.below⟩
  cases k3 : decide (63 < n)
  rotate_left
  · clear hr hA u1 u2 v1 v2
    go_enter Try.func6, Try.ntmps6
    go_wp2_with (first | ((with_reducible refine at_box 2 ?_); refine wpList_box_h O (sl a b n r) rfl ?_; clear O; intro g2 w1 O) | ((with_reducible refine at_box 3 ?_); refine wpList_box_h O (two .i8 u v) rfl ?_; clear O; intro g3 w2 O) | ((with_reducible refine at_load 15 ?_); refine wpList_mid_h rfl O 1 rfl (M.mat 4 r) (sl_r a b n r) rfl Try.underlying27 rfl (sR _) ?_) | (go_at_call 17; refine (CR _).mono ?_; rintro e w3 ⟨rfl, hb⟩; replace O := O.call hb; clear hb) | ((with_reducible refine at_load 20 ?_); refine wpList_mid_h rfl O 1 rfl (M.mat 4 r) (sl_r a b n r) rfl Try.underlying27 rfl (sR _) ?_) | (go_at_call 18; refine (CA _).mono ?_; rintro e w4 ⟨rfl, hb⟩; replace O := O.call hb; clear hb) | ((with_reducible refine at_load 26 ?_); refine wpList_cell_h (v := .int .i64 n) rfl O 1 rfl (sl_n a b n r) rfl agg3 rfl ?_) | (go_at_call 9; refine (awake_any _).mono ?_; rintro e w9 ⟨rfl, hb⟩; replace O := O.call hb; clear hb))
    go_ret
    exact ⟨rfl, O.below⟩
  have hA9 : A ≤ 600 := by
    have := of_decide_eq_false k2
    omega
  have hn9 : n ≤ 63 := by
    have := of_decide_eq_false k3
    omega
  have Hu : Hid (IntKind.i64.wrap u = u) := Lib.hid (IntWalk.i64_in _ (by omega))
  have Hv : Hid (IntKind.i64.wrap v = v) := Lib.hid (IntWalk.i64_in _ (by omega))
  have hl := RC.right_iff.1 hr
  obtain ⟨U, hU⟩ : ∃ z, 256 * u = z := ⟨_, rfl⟩
  obtain ⟨V, hV⟩ : ∃ z, 256 * v = z := ⟨_, rfl⟩
  have HU : Hid (IntKind.i64.wrap (256 * u) = U) := Lib.hid ((IntWalk.i64_in _ (by omega)).trans hU)
  have HV : Hid (IntKind.i64.wrap (256 * v) = V) := Lib.hid ((IntWalk.i64_in _ (by omega)).trans hV)
  obtain ⟨a0, ea0⟩ : ∃ z, a 0 = z := ⟨_, rfl⟩
  have Ca0 := cell_is (n := 7) ea0 (by decide)
  obtain ⟨a1, ea1⟩ : ∃ z, a 1 = z := ⟨_, rfl⟩
  have Ca1 := cell_is (n := 7) ea1 (by decide)
  obtain ⟨b0, eb0⟩ : ∃ z, b 0 = z := ⟨_, rfl⟩
  have Cb0 := cell_is (n := 7) eb0 (by decide)
  obtain ⟨b1, eb1⟩ : ∃ z, b 1 = z := ⟨_, rfl⟩
  have Cb1 := cell_is (n := 7) eb1 (by decide)
  obtain ⟨p0, hp0⟩ : ∃ z, IntKind.i64.wrap (a0 + U) = z := ⟨_, rfl⟩
  have HP0 := Lib.hid hp0
  obtain ⟨p1, hp1⟩ : ∃ z, IntKind.i64.wrap (a1 + V) = z := ⟨_, rfl⟩
  have HP1 := Lib.hid hp1
  obtain ⟨q0, hq0⟩ : ∃ z, IntKind.i64.wrap (b0 + U) = z := ⟨_, rfl⟩
  have HQ0 := Lib.hid hq0
  obtain ⟨q1, hq1⟩ : ∃ z, IntKind.i64.wrap (b1 + V) = z := ⟨_, rfl⟩
  have HQ1 := Lib.hid hq1
  obtain ⟨a', ha'⟩ : ∃ f : Nat → Int, (fun i => if i = 0 then p0 else if i = 1 then p1 else a i) = f := ⟨_, rfl⟩
  obtain ⟨b', hb'⟩ : ∃ f : Nat → Int, (fun i => if i = 0 then q0 else if i = 1 then q1 else b i) = f := ⟨_, rfl⟩
  have HA1 : Hid (((M.mat 7 a).set 0 (.int .i64 p0)).set 1 (.int .i64 p1) = M.mat 7 a') := Lib.hid (by rw [← ha']; rfl)
  have HB1 : Hid (((M.mat 7 b).set 0 (.int .i64 q0)).set 1 (.int .i64 q1) = M.mat 7 b') := Lib.hid (by rw [← hb']; rfl)
  have Ca9 : Hid (((M.mat 7 a).set 0 (.int .i64 p0))[1]? = some (.int .i64 a1)) := Lib.hid (by rw [← ea1]; rfl)
  have Cb9 : Hid (((M.mat 7 b).set 0 (.int .i64 q0))[1]? = some (.int .i64 b1)) := Lib.hid (by rw [← eb1]; rfl)
  have HMV : SM.right a b n = true → SM.right a' b' n = true → a' = SM.mvw a u v ∧ b' = SM.mvw b u v := fun h _ => by
    obtain ⟨⟨fa, fb⟩, _⟩ := SM.right_iff.1 h
    obtain ⟨la0, la1, -, -⟩ := VM.fit_lim fa
    obtain ⟨lb0, lb1, -, -⟩ := VM.fit_lim fb
    rw [ea0] at la0
    rw [ea1] at la1
    rw [eb0] at lb0
    rw [eb1] at lb1
    have c1 := (IntWalk.i64_in (a0 + U) (by omega)).symm.trans hp0
    have c2 := (IntWalk.i64_in (a1 + V) (by omega)).symm.trans hp1
    have c3 := (IntWalk.i64_in (b0 + U) (by omega)).symm.trans hq0
    have c4 := (IntWalk.i64_in (b1 + V) (by omega)).symm.trans hq1
    rw [← ha', ← hb', ← c1, ← c2, ← c3, ← c4, ← hU, ← hV, ← ea0, ← ea1, ← eb0, ← eb1]
    exact ⟨rfl, rfl⟩
  obtain ⟨x0, ex0⟩ : ∃ z, r 0 = z := ⟨_, rfl⟩
  obtain ⟨y0, ey0⟩ : ∃ z, r 1 = z := ⟨_, rfl⟩
  obtain ⟨x1, ex1⟩ : ∃ z, r 2 = z := ⟨_, rfl⟩
  obtain ⟨y1, ey1⟩ : ∃ z, r 3 = z := ⟨_, rfl⟩
  have D0 := cell_is (n := 4) ex0 (by decide)
  have D1 := cell_is (n := 4) ey0 (by decide)
  have D2 := cell_is (n := 4) ex1 (by decide)
  have D3 := cell_is (n := 4) ey1 (by decide)
  rw [ex0, ey0, ex1, ey1] at hl
  have hrr : SM.mvr r u v = RC.mk (x0 + u) (y0 + v) (x1 + u) (y1 + v) := by unfold SM.mvr; rw [ex0, ey0, ex1, ey1]
  obtain ⟨r0, hr0⟩ : ∃ z, x0 + u = z := ⟨_, rfl⟩
  have W1 : wrap64 (x0 + u) = r0 := (IntWalk.wrap64_in _ (by omega)).trans hr0
  obtain ⟨r1, hr1⟩ : ∃ z, y0 + v = z := ⟨_, rfl⟩
  have W2 : wrap64 (y0 + v) = r1 := (IntWalk.wrap64_in _ (by omega)).trans hr1
  obtain ⟨r2, hr2⟩ : ∃ z, x1 + u = z := ⟨_, rfl⟩
  have W3 : wrap64 (x1 + u) = r2 := (IntWalk.wrap64_in _ (by omega)).trans hr2
  obtain ⟨r3, hr3⟩ : ∃ z, y1 + v = z := ⟨_, rfl⟩
  have W4 : wrap64 (y1 + v) = r3 := (IntWalk.wrap64_in _ (by omega)).trans hr3
  rw [hr0, hr1, hr2, hr3] at hrr
  have C1 := fun w => rright18_any a b n w
  have C2 := fun w => rright18_any a' b' n w
  have C3 := fun w => rright_any (RC.mk r0 r1 r2 r3) w
  have HLN := fun (h1 : SM.right a b n = true) (h2 : SM.right a' b' n = true) (h3 : RC.right (RC.mk r0 r1 r2 r3) = true) => (show SM.line a' b' n (RC.mk r0 r1 r2 r3) = (SM.line a b n r).map fun f => SM.mvf f u v by
    obtain ⟨m1, m2⟩ := HMV h1 h2
    rw [m1, m2, ← hrr]
    exact SM.mv_line h1 (by rw [← m1, ← m2]; exact h2) hr (by rw [hrr]; exact h3))
  have HAR := fun (h3 : RC.right (RC.mk r0 r1 r2 r3) = true) => (show RC.area (RC.mk r0 r1 r2 r3) ≤ 100000 by
    rw [← hrr, SM.mv_area hr (by rw [hrr]; exact h3), hA]
    omega)
  have CL := fun w => pline18_any a b n r (by rw [hA]; omega) w
  have CM := fun h3 w => pline18_any a' b' n (RC.mk r0 r1 r2 r3) (HAR h3) w
  have hlen : (SM.line a b n r).length ≤ 1000000 := Nat.le_trans (SM.line_len (n := 600) (by rw [hA]; omega)) (by decide)
  have hhas := fun f => @SM.line_has a b n r f
  have hcov := fun f => @SM.line_cov a b n r f
  have hwid := fun h x y => @SM.cvr_wider a b n h hn9 x y
  have hn1 := fun h => (SM.right_iff.1 (show SM.right a b n = true from h)).2
  obtain ⟨z1, hz1⟩ : ∃ z, SM.right a b n = z := ⟨_, rfl⟩
  obtain ⟨z2, hz2⟩ : ∃ z, SM.right a' b' n = z := ⟨_, rfl⟩
  obtain ⟨z3, hz3⟩ : ∃ z, RC.right (RC.mk r0 r1 r2 r3) = z := ⟨_, rfl⟩
  rw [hz1] at C1 HLN hwid hn1
  rw [hz2] at C2 HLN
  rw [hz3] at C3 HLN CM
  obtain ⟨LA, hLA⟩ : ∃ l, SM.line a b n r = l := ⟨_, rfl⟩
  obtain ⟨LB, hLB⟩ : ∃ l, SM.line a' b' n (RC.mk r0 r1 r2 r3) = l := ⟨_, rfl⟩
  rw [hLA] at CL HLN hlen hhas hcov
  rw [hLB] at CM HLN
  have HHAS := Lib.hid (fun f h => RC.has_iff.1 (hhas f h))
  have HCOV := Lib.hid hcov
  have HWID := Lib.hid hwid
  have HN1 := Lib.hid hn1
  have HLEN := Lib.hid hlen
  have HLL := Lib.hid HLN
  have CMM := Lib.hid CM
  have HUV := Lib.hid (show (-128 ≤ u ∧ u ≤ 127) ∧ (-128 ≤ v ∧ v ≤ 127) ∧ n ≤ 63 from ⟨⟨u1, u2⟩, ⟨v1, v2⟩, hn9⟩)
  have HRB := Lib.hid hl
  have HEX := Lib.hid (show r 0 = x0 ∧ r 1 = y0 ∧ r 2 = x1 ∧ r 3 = y1 from ⟨ex0, ey0, ex1, ey1⟩)
  have FW := Lib.hid (And.intro W1 (And.intro W2 (And.intro W3 W4)))
  have BR := builtR17 r0 r1 r2 r3
  clear W1 W2 W3 W4 CM HLN HAR HMV hlen hhas hcov hwid hn1 hz1 hz2 hz3 hLA hLB hr hA hA9 hn9 hl hU hV hp0 hp1 hq0 hq1 ha' hb' ea0 ea1 eb0 eb1 ex0 ey0 ex1 ey1 hrr hr0 hr1 hr2 hr3 u1 u2 v1 v2
  have T0 : True := trivial
  go_enter Try.func6, Try.ntmps6
  go_wp2_with (first | ((with_reducible refine at_box 2 ?_); refine wpList_box_h O (sl a b n r) rfl ?_; clear O; intro g2 w1 O) | ((with_reducible refine at_box 3 ?_); refine wpList_box_h O (two .i8 u v) rfl ?_; clear O; intro g3 w2 O) | ((with_reducible refine at_load 15 ?_); refine wpList_mid_h rfl O 1 rfl (M.mat 4 r) (sl_r a b n r) rfl Try.underlying27 rfl (sR _) ?_) | (go_at_call 17; refine (CR _).mono ?_; rintro e w3 ⟨rfl, hb⟩; replace O := O.call hb; clear hb) | ((with_reducible refine at_load 20 ?_); refine wpList_mid_h rfl O 1 rfl (M.mat 4 r) (sl_r a b n r) rfl Try.underlying27 rfl (sR _) ?_) | (go_at_call 18; refine (CA _).mono ?_; rintro e w4 ⟨rfl, hb⟩; replace O := O.call hb; clear hb) | ((with_reducible refine at_load 26 ?_); refine wpList_cell_h (v := .int .i64 n) rfl O 1 rfl (sl_n a b n r) rfl agg3 rfl ?_))
  clear CR CA k2 k3
  have OO := O
  clear O
  have O := OO
  clear OO
  refine region_T ((fun w2 => Held w w2 [(g3, 45, two .i8 u v), (g2, 29, sl a b n r)] nilRow [])) [0, 1, 2, 3, 4, 5, 6] 12 [some 30, some 31, some 32, some 33, some 34, some 35, some 5] [.pointer (some ⟨g3, 0, none⟩), .int .i8 u, .int .i64 (u), .pointer (some ⟨g3, 1, none⟩), .int .i8 v, .int .i64 (v), .int .i64 (u)] 1 (by kernel_rfl) (by rfl) (by kernel_rfl) (by rfl) (by rfl) (O.drew) (fun F hF => ?_)
  simp only [fillD, Act.put, List.setIfInBounds_toArray, List.set_cons_zero, List.set_cons_succ] at hF
  subst hF
  refine ⟨⟨does_want rfl (by rfl) (fun w' O K hK => ?_), does_want rfl (by rfl) (fun w' O K hK => ?_), does_want rfl (by rfl) (fun w' O K hK => ?_), does_want rfl (by rfl) (fun w' O K hK => ?_), does_want rfl (by rfl) (fun w' O K hK => ?_), does_want rfl (by rfl) (fun w' O K hK => ?_), does_want rfl (by rfl) (fun w' O K hK => ?_), trivial⟩, fun w' O => ?_⟩
  · exact wp_ino Try.underlying45 sizeOfi8 (by decide) (0) rfl rfl (by rfl) (by omega) (hK _ O)
  · exact wp_cell_h (v := .int .i8 u) O 0 (i := 0) rfl rfl rfl aggi8 rfl (hK _ O)
  · go_simp
    first | exact hK _ O | (simp only [Hu.out]; exact hK _ O)
  · exact wp_ino Try.underlying45 sizeOfi8 (by decide) (1) rfl rfl (by rfl) (by omega) (hK _ O)
  · exact wp_cell_h (v := .int .i8 v) O 0 (i := 1) rfl rfl rfl aggi8 rfl (hK _ O)
  · go_simp
    first | exact hK _ O | (simp only [Hv.out]; exact hK _ O)
  · go_simp
    exact hK _ O
  refine wpAny_one (i := 7) (by kernel_rfl) rfl (fun K hK => ?_)
  go_simp
  refine hK _ _ ?_
  clear hK K
  try simp only [Act.put, List.setIfInBounds_toArray, List.set_cons_zero, List.set_cons_succ]
  refine wpAny_done (by kernel_rfl) ?_ _
  go_wp2_with fail
  have OX := O.1
  clear O
  have O : Own w _ [(g3, 45, two .i8 u v), (g2, 29, sl a b n r)] := OX
  clear OX Hu Hv
  have HD1 : apart [⟨6, 9, 25, M.mat 7 M.zero, M.mat 7 a⟩, ⟨7, 10, 25, M.mat 7 M.zero, M.mat 7 b⟩, ⟨8, 99, 27, M.mat 4 M.zero, M.mat 4 M.zero⟩] := (by decide : [6, 9, 7, 10, 8, 99].Nodup)
  have OO := O
  clear O
  have O := OO
  clear OO
  refine region_S (fun st w2 => NB w [(g3, 45, two .i8 u v), (g2, 29, sl a b n r)] [⟨6, 9, 25, M.mat 7 M.zero, M.mat 7 a⟩, ⟨7, 10, 25, M.mat 7 M.zero, M.mat 7 b⟩, ⟨8, 99, 27, M.mat 4 M.zero, M.mat 4 M.zero⟩] st w2) [6, 7, 8, 9, 10] 12 11 [some 36, some 37, some 38, some 39, some 40, some 41, some 7, some 8, some 9, none, none] (fun g => [.pointer (some ⟨g2, 0, none⟩), arr 7 a, .pointer (some ⟨g2, 7, none⟩), arr 7 b, .pointer (some ⟨g2, 15, none⟩), arr 4 r, g 6, g 7, g 8, g 9, g 10]) 1 (by kernel_rfl) (by kernel_rfl) (by rfl) (by rfl) (fun _ => rfl) (by decide) ?_ (NB.start O.drew) (fun F hF => ?_)
  · intro i hi
    simp only [List.mem_cons, List.not_mem_nil, or_false] at hi
    rcases hi with rfl | rfl | rfl | rfl | rfl
    · exact ⟨fun _ => rfl, [0, 1, 2, 3, 4, 5, 7, 8, 9, 10], by kernel_rfl, fun g v => ⟨rfl, rfl, rfl, rfl, rfl, rfl, rfl, rfl, rfl, rfl, trivial⟩⟩
    · exact ⟨fun _ => rfl, [0, 1, 2, 3, 4, 5, 6, 8, 9, 10], by kernel_rfl, fun g v => ⟨rfl, rfl, rfl, rfl, rfl, rfl, rfl, rfl, rfl, rfl, trivial⟩⟩
    · exact ⟨fun _ => rfl, [0, 1, 2, 3, 4, 5, 6, 7, 9, 10], by kernel_rfl, fun g v => ⟨rfl, rfl, rfl, rfl, rfl, rfl, rfl, rfl, rfl, rfl, trivial⟩⟩
    · exact ⟨fun _ => rfl, [0, 1, 2, 3, 4, 5, 6, 7, 8, 10], by kernel_rfl, fun g v => ⟨rfl, rfl, rfl, rfl, rfl, rfl, rfl, rfl, rfl, rfl, trivial⟩⟩
    · exact ⟨fun _ => rfl, [0, 1, 2, 3, 4, 5, 6, 7, 8, 9], by kernel_rfl, fun g v => ⟨rfl, rfl, rfl, rfl, rfl, rfl, rfl, rfl, rfl, rfl, trivial⟩⟩
  simp only [fillD, Act.put, List.setIfInBounds_toArray, List.set_cons_zero, List.set_cons_succ] at hF
  have hF2 := funext hF
  clear hF
  subst hF2
  refine ⟨⟨doesN_want (by decide) rfl (fun g => rfl) (fun st w' hS hp K hK => ?_), doesN_want (by decide) rfl (fun g => rfl) (fun st w' hS hp K hK => ?_), doesN_want (by decide) rfl (fun g => rfl) (fun st w' hS hp K hK => ?_), doesN_want (by decide) rfl (fun g => rfl) (fun st w' hS hp K hK => ?_), doesN_want (by decide) rfl (fun g => rfl) (fun st w' hS hp K hK => ?_), doesN_want (by decide) rfl (fun g => rfl) (fun st w' hS hp K hK => ?_), doesC_want (by decide) rfl (fun g => rfl) (fun st w' hS hn hp K hK => ?_), doesC_want (by decide) rfl (fun g => rfl) (fun st w' hS hn hp K hK => ?_), doesC_want (by decide) rfl (fun g => rfl) (fun st w' hS hn hp K hK => ?_), doesC_want (by decide) rfl (fun g => rfl) (fun st w' hS hn hp K hK => ?_), doesC_want (by decide) rfl (fun g => rfl) (fun st w' hS hn hp K hK => ?_), trivial⟩, fun st w' hS hall => ?_⟩
  · try dsimp only
    go_simp
    exact hK _ hS
  · try dsimp only
    exact wp_mid_h hS.own.held 1 rfl (M.mat 7 a) (sl_a a b n r) rfl Try.underlying25 rfl (sW _) (hK _ hS)
  · try dsimp only
    go_simp
    exact hK _ hS
  · try dsimp only
    exact wp_mid_h hS.own.held 1 rfl (M.mat 7 b) (sl_b a b n r) rfl Try.underlying25 rfl (sW _) (hK _ hS)
  · try dsimp only
    go_simp
    exact hK _ hS
  · try dsimp only
    exact wp_mid_h hS.own.held 1 rfl (M.mat 4 r) (sl_r a b n r) rfl Try.underlying27 rfl (sR _) (hK _ hS)
  · try dsimp only
    exact hS.alloc HD1 0 rfl hn zeroW17 hK
  · try dsimp only
    exact hS.alloc HD1 1 rfl hn zeroW17 hK
  · try dsimp only
    exact hS.alloc HD1 2 rfl hn zeroR hK
  · try dsimp only
    exact hS.put HD1 0 rfl (hp 6 (by decide) (by kernel_rfl)) hn rfl rfl (sW _) (M.mat_len2 _ _ _) (M.mat_one _ _) hK
  · try dsimp only
    exact hS.put HD1 1 rfl (hp 7 (by decide) (by kernel_rfl)) hn rfl rfl (sW _) (M.mat_len2 _ _ _) (M.mat_one _ _) hK
  try dsimp only
  obtain ⟨g7, e7⟩ := hS.ptr 0 rfl (hall 6 (by decide))
  obtain ⟨g8, e8⟩ := hS.ptr 1 rfl (hall 7 (by decide))
  obtain ⟨g9, e9⟩ := hS.ptr 2 rfl (hall 8 (by decide))
  have O3 : Own w w' ((g7, 25, M.mat 7 a) :: (g8, 25, M.mat 7 b) :: (g9, 27, M.mat 4 M.zero) :: [(g3, 45, two .i8 u v), (g2, 29, sl a b n r)]) := by
    have h3 := hS.2.2
    rw [nows_cons, nows_cons, nows_cons, NbS.now_same e9 rfl, NbS.now_is e8 true (hall 10 (by decide)), NbS.now_is e7 true (hall 9 (by decide))] at h3
    exact h3
  clear hS O
  have O := O3
  clear O3
  simp only [seen, e7, e8, e9, Option.getD_some]
  clear hall e7 e8 e9
  refine wpAny_want (i := 11) (by kernel_rfl) rfl (by rfl) (fun K hK => ?_)
  refine wp_put_own O 2 (M.mat 4 (r)) rfl rfl rfl (sR _) (M.mat_len2 _ _ _) (M.mat_one _ _) fun w9 O9 => hK _ _ ?_
  clear O
  have O := O9
  clear O9
  clear hK K
  try simp only [Act.put, List.setIfInBounds_toArray, List.set_cons_zero, List.set_cons_succ]
  refine wpAny_done (by kernel_rfl) ?_ _
  clear HD1
  go_wp2_with fail
  have OO := O
  clear O
  have O := OO
  clear OO
  refine region_S (fun st w2 => MS w [(g7, 25, M.mat 7 a), (g8, 25, M.mat 7 b), (g9, 27, M.mat 4 r), (g3, 45, two .i8 u v), (g2, 29, sl a b n r)] [(g7, 25, (M.mat 7 a).set 0 (.int .i64 p0)), (g8, 25, M.mat 7 b), (g9, 27, M.mat 4 r), (g3, 45, two .i8 u v), (g2, 29, sl a b n r)] [(g7, 25, ((M.mat 7 a).set 0 (.int .i64 p0)).set 1 (.int .i64 p1)), (g8, 25, M.mat 7 b), (g9, 27, M.mat 4 r), (g3, 45, two .i8 u v), (g2, 29, sl a b n r)] [(g7, 25, ((M.mat 7 a).set 0 (.int .i64 p0)).set 1 (.int .i64 p1)), (g8, 25, (M.mat 7 b).set 0 (.int .i64 q0)), (g9, 27, M.mat 4 r), (g3, 45, two .i8 u v), (g2, 29, sl a b n r)] (.int .i64 a0) (.int .i64 a1) (.int .i64 b0) st w2) [1, 6, 11, 21, 23, 25] 12 27 [some 42, some 43, some 44, some 45, some 46, some 47, some 48, some 49, some 50, some 51, some 52, some 53, some 54, some 55, some 56, some 57, some 58, some 59, some 60, some 61, some 62, none, some 63, none, some 64, none, some 65] (fun g => [.pointer (some ⟨g7, 0, none⟩), g 1, .int .i64 (u), .int .i64 (U), .int .i64 (p0), .pointer (some ⟨g7, 1, none⟩), g 6, .int .i64 (v), .int .i64 (V), .int .i64 (p1), .pointer (some ⟨g8, 0, none⟩), g 11, .int .i64 (u), .int .i64 (U), .int .i64 (q0), .pointer (some ⟨g8, 1, none⟩), .int .i64 (b1), .int .i64 (v), .int .i64 (V), .int .i64 (q1), .pointer (some ⟨g7, 0, none⟩), g 21, .pointer (some ⟨g7, 1, none⟩), g 23, .pointer (some ⟨g8, 0, none⟩), g 25, .pointer (some ⟨g8, 1, none⟩)]) 1 (by kernel_rfl) (by kernel_rfl) (by rfl) (by rfl) (fun _ => rfl) (by decide) ?_ (MS.start O.drew) (fun F hF => ?_)
  · intro i hi
    simp only [List.mem_cons, List.not_mem_nil, or_false] at hi
    rcases hi with rfl | rfl | rfl | rfl | rfl | rfl
    · exact ⟨fun _ => rfl, [0, 2, 3, 4, 5, 6, 7, 8, 9, 10, 11, 12, 13, 14, 15, 16, 17, 18, 19, 20, 21, 22, 23, 24, 25, 26], by kernel_rfl, fun g v => ⟨rfl, rfl, rfl, rfl, rfl, rfl, rfl, rfl, rfl, rfl, rfl, rfl, rfl, rfl, rfl, rfl, rfl, rfl, rfl, rfl, rfl, rfl, rfl, rfl, rfl, rfl, trivial⟩⟩
    · exact ⟨fun _ => rfl, [0, 1, 2, 3, 4, 5, 7, 8, 9, 10, 11, 12, 13, 14, 15, 16, 17, 18, 19, 20, 21, 22, 23, 24, 25, 26], by kernel_rfl, fun g v => ⟨rfl, rfl, rfl, rfl, rfl, rfl, rfl, rfl, rfl, rfl, rfl, rfl, rfl, rfl, rfl, rfl, rfl, rfl, rfl, rfl, rfl, rfl, rfl, rfl, rfl, rfl, trivial⟩⟩
    · exact ⟨fun _ => rfl, [0, 1, 2, 3, 4, 5, 6, 7, 8, 9, 10, 12, 13, 14, 15, 16, 17, 18, 19, 20, 21, 22, 23, 24, 25, 26], by kernel_rfl, fun g v => ⟨rfl, rfl, rfl, rfl, rfl, rfl, rfl, rfl, rfl, rfl, rfl, rfl, rfl, rfl, rfl, rfl, rfl, rfl, rfl, rfl, rfl, rfl, rfl, rfl, rfl, rfl, trivial⟩⟩
    · exact ⟨fun _ => rfl, [0, 1, 2, 3, 4, 5, 6, 7, 8, 9, 10, 11, 12, 13, 14, 15, 16, 17, 18, 19, 20, 22, 23, 24, 25, 26], by kernel_rfl, fun g v => ⟨rfl, rfl, rfl, rfl, rfl, rfl, rfl, rfl, rfl, rfl, rfl, rfl, rfl, rfl, rfl, rfl, rfl, rfl, rfl, rfl, rfl, rfl, rfl, rfl, rfl, rfl, trivial⟩⟩
    · exact ⟨fun _ => rfl, [0, 1, 2, 3, 4, 5, 6, 7, 8, 9, 10, 11, 12, 13, 14, 15, 16, 17, 18, 19, 20, 21, 22, 24, 25, 26], by kernel_rfl, fun g v => ⟨rfl, rfl, rfl, rfl, rfl, rfl, rfl, rfl, rfl, rfl, rfl, rfl, rfl, rfl, rfl, rfl, rfl, rfl, rfl, rfl, rfl, rfl, rfl, rfl, rfl, rfl, trivial⟩⟩
    · exact ⟨fun _ => rfl, [0, 1, 2, 3, 4, 5, 6, 7, 8, 9, 10, 11, 12, 13, 14, 15, 16, 17, 18, 19, 20, 21, 22, 23, 24, 26], by kernel_rfl, fun g v => ⟨rfl, rfl, rfl, rfl, rfl, rfl, rfl, rfl, rfl, rfl, rfl, rfl, rfl, rfl, rfl, rfl, rfl, rfl, rfl, rfl, rfl, rfl, rfl, rfl, rfl, rfl, trivial⟩⟩
  simp only [fillD, Act.put, List.setIfInBounds_toArray, List.set_cons_zero, List.set_cons_succ] at hF
  have hF2 := funext hF
  clear hF
  subst hF2
  refine ⟨⟨doesN_want (by decide) rfl (fun g => rfl) (fun st w' hS hp K hK => ?_), doesC_want (by decide) rfl (fun g => rfl) (fun st w' hS hn hp K hK => ?_), doesN_want (by decide) rfl (fun g => rfl) (fun st w' hS hp K hK => ?_), doesN_want (by decide) rfl (fun g => rfl) (fun st w' hS hp K hK => ?_), doesN_want (by decide) rfl (fun g => rfl) (fun st w' hS hp K hK => ?_), doesN_want (by decide) rfl (fun g => rfl) (fun st w' hS hp K hK => ?_), doesC_want (by decide) rfl (fun g => rfl) (fun st w' hS hn hp K hK => ?_), doesN_want (by decide) rfl (fun g => rfl) (fun st w' hS hp K hK => ?_), doesN_want (by decide) rfl (fun g => rfl) (fun st w' hS hp K hK => ?_), doesN_want (by decide) rfl (fun g => rfl) (fun st w' hS hp K hK => ?_), doesN_want (by decide) rfl (fun g => rfl) (fun st w' hS hp K hK => ?_), doesC_want (by decide) rfl (fun g => rfl) (fun st w' hS hn hp K hK => ?_), doesN_want (by decide) rfl (fun g => rfl) (fun st w' hS hp K hK => ?_), doesN_want (by decide) rfl (fun g => rfl) (fun st w' hS hp K hK => ?_), doesN_want (by decide) rfl (fun g => rfl) (fun st w' hS hp K hK => ?_), doesN_want (by decide) rfl (fun g => rfl) (fun st w' hS hp K hK => ?_), doesN_want (by decide) rfl (fun g => rfl) (fun st w' hS hp K hK => ?_), doesN_want (by decide) rfl (fun g => rfl) (fun st w' hS hp K hK => ?_), doesN_want (by decide) rfl (fun g => rfl) (fun st w' hS hp K hK => ?_), doesN_want (by decide) rfl (fun g => rfl) (fun st w' hS hp K hK => ?_), doesN_want (by decide) rfl (fun g => rfl) (fun st w' hS hp K hK => ?_), doesC_want (by decide) rfl (fun g => rfl) (fun st w' hS hn hp K hK => ?_), doesN_want (by decide) rfl (fun g => rfl) (fun st w' hS hp K hK => ?_), doesC_want (by decide) rfl (fun g => rfl) (fun st w' hS hn hp K hK => ?_), doesN_want (by decide) rfl (fun g => rfl) (fun st w' hS hp K hK => ?_), doesC_want (by decide) rfl (fun g => rfl) (fun st w' hS hn hp K hK => ?_), doesN_want (by decide) rfl (fun g => rfl) (fun st w' hS hp K hK => ?_), trivial⟩, fun st w' hS hall => ?_⟩
  · try dsimp only
    go_simp
    exact hK _ hS
  · try dsimp only
    have O := hS.at1 hn
    exact wp_cell_h (v := .int .i64 a0) O.held 0 rfl Ca0.out rfl agg3 rfl (hK _ _ hS.read1)
  · try dsimp only
    go_simp
    exact hK _ hS
  · try dsimp only
    go_simp
    simp only [HU.out]
    exact hK _ hS
  · try dsimp only
    have e1 := hS.val1 (hp 1 (by decide) (by kernel_rfl))
    simp only [seen, e1, Option.getD_some] at hK ⊢
    go_simp
    simp only [HP0.out]
    exact hK _ hS
  · try dsimp only
    go_simp
    exact hK _ hS
  · try dsimp only
    rcases hS.at6 hn with O | O
    · exact wp_cell_h (v := .int .i64 a1) O.held 0 rfl Ca1.out rfl agg3 rfl (hK _ _ hS.read6)
    · exact wp_cell_h (v := .int .i64 a1) O.held 0 rfl Ca9.out rfl agg3 rfl (hK _ _ hS.read6)
  · try dsimp only
    go_simp
    exact hK _ hS
  · try dsimp only
    go_simp
    simp only [HV.out]
    exact hK _ hS
  · try dsimp only
    have e1 := hS.val6 (hp 6 (by decide) (by kernel_rfl))
    simp only [seen, e1, Option.getD_some] at hK ⊢
    go_simp
    simp only [HP1.out]
    exact hK _ hS
  · try dsimp only
    go_simp
    exact hK _ hS
  · try dsimp only
    rcases hS.at11 hn with O | O | O <;> exact wp_cell_h (v := .int .i64 b0) O.held 1 rfl Cb0.out rfl agg3 rfl (hK _ _ hS.read11)
  · try dsimp only
    go_simp
    exact hK _ hS
  · try dsimp only
    go_simp
    simp only [HU.out]
    exact hK _ hS
  · try dsimp only
    have e1 := hS.val11 (hp 11 (by decide) (by kernel_rfl))
    simp only [seen, e1, Option.getD_some] at hK ⊢
    go_simp
    simp only [HQ0.out]
    exact hK _ hS
  · try dsimp only
    go_simp
    exact hK _ hS
  · try dsimp only
    rcases hS.any with O | O | O | O
    · exact wp_cell_h (v := .int .i64 b1) O.held 1 rfl Cb1.out rfl agg3 rfl (hK _ hS)
    · exact wp_cell_h (v := .int .i64 b1) O.held 1 rfl Cb1.out rfl agg3 rfl (hK _ hS)
    · exact wp_cell_h (v := .int .i64 b1) O.held 1 rfl Cb1.out rfl agg3 rfl (hK _ hS)
    · exact wp_cell_h (v := .int .i64 b1) O.held 1 rfl Cb9.out rfl agg3 rfl (hK _ hS)
  · try dsimp only
    go_simp
    exact hK _ hS
  · try dsimp only
    go_simp
    simp only [HV.out]
    exact hK _ hS
  · try dsimp only
    go_simp
    simp only [HQ1.out]
    exact hK _ hS
  · try dsimp only
    go_simp
    exact hK _ hS
  · try dsimp only
    have O := hS.at21 hn
    refine wp_set_own O 0 (i := 0) (.int .i64 p0) rfl (by first | (rw [M.mat_len]; omega) | (rw [List.length_set, M.mat_len]; omega)) rfl rfl size3 rfl rfl fun w9 O9 => hK _ _ (hS.put21 hn (hp 1 (by decide) (by kernel_rfl)) _ (Own.as O9 (l' := [(g7, 25, (M.mat 7 a).set 0 (.int .i64 p0)), (g8, 25, M.mat 7 b), (g9, 27, M.mat 4 r), (g3, 45, two .i8 u v), (g2, 29, sl a b n r)]) rfl))
  · try dsimp only
    go_simp
    exact hK _ hS
  · try dsimp only
    have O := hS.at23 hn (hp 21 (by decide) (by kernel_rfl))
    refine wp_set_own O 0 (i := 1) (.int .i64 p1) rfl (by first | (rw [M.mat_len]; omega) | (rw [List.length_set, M.mat_len]; omega)) rfl rfl size3 rfl rfl fun w9 O9 => hK _ _ (hS.put23 hn (hp 6 (by decide) (by kernel_rfl)) (hp 21 (by decide) (by kernel_rfl)) _ (Own.as O9 (l' := [(g7, 25, ((M.mat 7 a).set 0 (.int .i64 p0)).set 1 (.int .i64 p1)), (g8, 25, M.mat 7 b), (g9, 27, M.mat 4 r), (g3, 45, two .i8 u v), (g2, 29, sl a b n r)]) rfl))
  · try dsimp only
    go_simp
    exact hK _ hS
  · try dsimp only
    have O := hS.at25 hn (hp 23 (by decide) (by kernel_rfl))
    refine wp_set_own O 1 (i := 0) (.int .i64 q0) rfl (by first | (rw [M.mat_len]; omega) | (rw [List.length_set, M.mat_len]; omega)) rfl rfl size3 rfl rfl fun w9 O9 => hK _ _ (hS.put25 (hp 11 (by decide) (by kernel_rfl)) (hp 23 (by decide) (by kernel_rfl)) _ (Own.as O9 (l' := [(g7, 25, ((M.mat 7 a).set 0 (.int .i64 p0)).set 1 (.int .i64 p1)), (g8, 25, (M.mat 7 b).set 0 (.int .i64 q0)), (g9, 27, M.mat 4 r), (g3, 45, two .i8 u v), (g2, 29, sl a b n r)]) rfl))
  · try dsimp only
    go_simp
    exact hK _ hS
  try dsimp only
  have e1 := hS.val1 (hall 1 (by decide))
  have e6 := hS.val6 (hall 6 (by decide))
  have e11 := hS.val11 (hall 11 (by decide))
  have O3 := hS.done (hall 25 (by decide))
  clear hS O
  have O := O3
  clear O3
  simp only [seen, e1, e6, e11, Option.getD_some]
  clear hall e1 e6 e11
  refine wpAny_want (i := 27) (by kernel_rfl) rfl (by rfl) (fun K hK => ?_)
  refine wp_set_own O 1 (i := 1) (.int .i64 q1) rfl (by rw [List.length_set, M.mat_len]; omega) rfl rfl size3 rfl rfl fun w9 O9 => hK _ _ ?_
  clear O
  have O : Own w w9 [(g7, 25, M.mat 7 a'), (g8, 25, M.mat 7 b'), (g9, 27, M.mat 4 r), (g3, 45, two .i8 u v), (g2, 29, sl a b n r)] := by
    have e1 := HA1.out
    have e2 := HB1.out
    have O8 := O9
    simp only [List.set_cons_zero, List.set_cons_succ] at O8
    rw [e1, e2] at O8
    exact O8
  clear O9
  clear hK K
  try simp only [Act.put, List.setIfInBounds_toArray, List.set_cons_zero, List.set_cons_succ]
  refine wpAny_done (by kernel_rfl) ?_ _
  clear HP0 HP1 HQ0 HQ1 HU HV HA1 HB1 Ca0 Ca1 Cb0 Cb1 Ca9 Cb9
  obtain ⟨W1, W2, W3, W4⟩ := FW.out
  clear FW
  have OX := O.held
  clear O
  have O := OX
  clear OX
  cases z1
  · clear C2 C3 CL
    go_wp2_with (first | ((with_reducible refine at_load 67 ?_); refine wpList_cell_h (v := .int .i64 (x0)) rfl O 2 rfl D0.out rfl agg3 rfl ?_) | ((with_reducible refine at_load 71 ?_); refine wpList_cell_h (v := .int .i64 (y0)) rfl O 2 rfl D1.out rfl agg3 rfl ?_) | ((with_reducible refine at_load 75 ?_); refine wpList_cell_h (v := .int .i64 (x1)) rfl O 2 rfl D2.out rfl agg3 rfl ?_) | ((with_reducible refine at_load 79 ?_); refine wpList_cell_h (v := .int .i64 (y1)) rfl O 2 rfl D3.out rfl agg3 rfl ?_) | ((with_reducible refine at_build 82 ?_); refine wpList_build_g rfl ([(0, .int .i64 r0), (1, .int .i64 r1), (2, .int .i64 r2), (3, .int .i64 r3)]) ((M.mat 4 (RC.mk r0 r1 r2 r3)).toArray) ?_ (BR) ?_; (focus (simp only [List.map_toArray, List.map_cons, List.map_nil]; rfl))) | ((with_reducible refine at_store 9 ?_); refine wpList_put_h O 2 (M.mat 4 (RC.mk r0 r1 r2 r3)) rfl rfl rfl (sR _) (M.mat_len2 _ _ _) (M.mat_one _ _) ?_; clear O; intro x1w O) | ((with_reducible refine at_load 84 ?_); refine wpList_mid_h rfl O 4 rfl (M.mat 7 a) (sl_a a b n r) rfl Try.underlying25 rfl (sW _) ?_) | ((with_reducible refine at_load 86 ?_); refine wpList_mid_h rfl O 4 rfl (M.mat 7 b) (sl_b a b n r) rfl Try.underlying25 rfl (sW _) ?_) | ((with_reducible refine at_load 88 ?_); refine wpList_cell_h (v := .int .i64 n) rfl O 4 rfl (sl_n a b n r) rfl agg3 rfl ?_) | (go_at_call 11; clear T0; have T1 : True := trivial; refine (C1 _).mono ?_; rintro e x2w ⟨rfl, hb⟩; replace O := O.call hb; clear hb) | (go_at_call 9; refine (awake_any _).mono ?_; rintro e x9w ⟨rfl, hb⟩; replace O := O.call hb; clear hb))
    go_ret
    exact ⟨rfl, O.below⟩
  cases z2
  · clear C3 CL
    go_wp2_with (first | ((with_reducible refine at_load 67 ?_); refine wpList_cell_h (v := .int .i64 (x0)) rfl O 2 rfl D0.out rfl agg3 rfl ?_) | ((with_reducible refine at_load 71 ?_); refine wpList_cell_h (v := .int .i64 (y0)) rfl O 2 rfl D1.out rfl agg3 rfl ?_) | ((with_reducible refine at_load 75 ?_); refine wpList_cell_h (v := .int .i64 (x1)) rfl O 2 rfl D2.out rfl agg3 rfl ?_) | ((with_reducible refine at_load 79 ?_); refine wpList_cell_h (v := .int .i64 (y1)) rfl O 2 rfl D3.out rfl agg3 rfl ?_) | ((with_reducible refine at_build 82 ?_); refine wpList_build_g rfl ([(0, .int .i64 r0), (1, .int .i64 r1), (2, .int .i64 r2), (3, .int .i64 r3)]) ((M.mat 4 (RC.mk r0 r1 r2 r3)).toArray) ?_ (BR) ?_; (focus (simp only [List.map_toArray, List.map_cons, List.map_nil]; rfl))) | ((with_reducible refine at_store 9 ?_); refine wpList_put_h O 2 (M.mat 4 (RC.mk r0 r1 r2 r3)) rfl rfl rfl (sR _) (M.mat_len2 _ _ _) (M.mat_one _ _) ?_; clear O; intro x1w O) | ((with_reducible refine at_load 84 ?_); refine wpList_mid_h rfl O 4 rfl (M.mat 7 a) (sl_a a b n r) rfl Try.underlying25 rfl (sW _) ?_) | ((with_reducible refine at_load 86 ?_); refine wpList_mid_h rfl O 4 rfl (M.mat 7 b) (sl_b a b n r) rfl Try.underlying25 rfl (sW _) ?_) | ((with_reducible refine at_load 88 ?_); refine wpList_cell_h (v := .int .i64 n) rfl O 4 rfl (sl_n a b n r) rfl agg3 rfl ?_) | (go_at_call 11; clear T0; have T1 : True := trivial; refine (C1 _).mono ?_; rintro e x2w ⟨rfl, hb⟩; replace O := O.call hb; clear hb) | ((with_reducible refine at_load 92 ?_); refine wpList_rowg_h rfl O 0 rfl rfl Try.underlying25 rfl (sW _) ?_) | ((with_reducible refine at_load 93 ?_); refine wpList_rowg_h rfl O 1 rfl rfl Try.underlying25 rfl (sW _) ?_) | ((with_reducible refine at_load 95 ?_); refine wpList_cell_h (v := .int .i64 n) rfl O 4 rfl (sl_n a b n r) rfl agg3 rfl ?_) | (go_at_call 11; clear T1; have T2 : True := trivial; refine (C2 _).mono ?_; rintro e x3w ⟨rfl, hb⟩; replace O := O.call hb; clear hb) | (go_at_call 9; refine (awake_any _).mono ?_; rintro e x9w ⟨rfl, hb⟩; replace O := O.call hb; clear hb))
    go_ret
    exact ⟨rfl, O.below⟩
  cases z3
  · clear CL
    go_wp2_with (first | ((with_reducible refine at_load 67 ?_); refine wpList_cell_h (v := .int .i64 (x0)) rfl O 2 rfl D0.out rfl agg3 rfl ?_) | ((with_reducible refine at_load 71 ?_); refine wpList_cell_h (v := .int .i64 (y0)) rfl O 2 rfl D1.out rfl agg3 rfl ?_) | ((with_reducible refine at_load 75 ?_); refine wpList_cell_h (v := .int .i64 (x1)) rfl O 2 rfl D2.out rfl agg3 rfl ?_) | ((with_reducible refine at_load 79 ?_); refine wpList_cell_h (v := .int .i64 (y1)) rfl O 2 rfl D3.out rfl agg3 rfl ?_) | ((with_reducible refine at_build 82 ?_); refine wpList_build_g rfl ([(0, .int .i64 r0), (1, .int .i64 r1), (2, .int .i64 r2), (3, .int .i64 r3)]) ((M.mat 4 (RC.mk r0 r1 r2 r3)).toArray) ?_ (BR) ?_; (focus (simp only [List.map_toArray, List.map_cons, List.map_nil]; rfl))) | ((with_reducible refine at_store 9 ?_); refine wpList_put_h O 2 (M.mat 4 (RC.mk r0 r1 r2 r3)) rfl rfl rfl (sR _) (M.mat_len2 _ _ _) (M.mat_one _ _) ?_; clear O; intro x1w O) | ((with_reducible refine at_load 84 ?_); refine wpList_mid_h rfl O 4 rfl (M.mat 7 a) (sl_a a b n r) rfl Try.underlying25 rfl (sW _) ?_) | ((with_reducible refine at_load 86 ?_); refine wpList_mid_h rfl O 4 rfl (M.mat 7 b) (sl_b a b n r) rfl Try.underlying25 rfl (sW _) ?_) | ((with_reducible refine at_load 88 ?_); refine wpList_cell_h (v := .int .i64 n) rfl O 4 rfl (sl_n a b n r) rfl agg3 rfl ?_) | (go_at_call 11; clear T0; have T1 : True := trivial; refine (C1 _).mono ?_; rintro e x2w ⟨rfl, hb⟩; replace O := O.call hb; clear hb) | ((with_reducible refine at_load 92 ?_); refine wpList_rowg_h rfl O 0 rfl rfl Try.underlying25 rfl (sW _) ?_) | ((with_reducible refine at_load 93 ?_); refine wpList_rowg_h rfl O 1 rfl rfl Try.underlying25 rfl (sW _) ?_) | ((with_reducible refine at_load 95 ?_); refine wpList_cell_h (v := .int .i64 n) rfl O 4 rfl (sl_n a b n r) rfl agg3 rfl ?_) | (go_at_call 11; clear T1; have T2 : True := trivial; refine (C2 _).mono ?_; rintro e x3w ⟨rfl, hb⟩; replace O := O.call hb; clear hb) | ((with_reducible refine at_load 100 ?_); refine wpList_rowg_h rfl O 2 rfl rfl Try.underlying27 rfl (sR _) ?_) | (go_at_call 17; clear T2; have T3 : True := trivial; refine (C3 _).mono ?_; rintro e x4w ⟨rfl, hb⟩; replace O := O.call hb; clear hb) | (go_at_call 9; refine (awake_any _).mono ?_; rintro e x9w ⟨rfl, hb⟩; replace O := O.call hb; clear hb))
    go_ret
    exact ⟨rfl, O.below⟩
  have hLL := HLL.out rfl rfl rfl
  have CM := fun w => CMM.out rfl w
  have HWI := Lib.hid (HWID.out rfl)
  have HN2 := Lib.hid (HN1.out rfl)
  clear HLL CMM HWID HN1
  go_wp2_with (first | ((with_reducible refine at_load 67 ?_); refine wpList_cell_h (v := .int .i64 (x0)) rfl O 2 rfl D0.out rfl agg3 rfl ?_) | ((with_reducible refine at_load 71 ?_); refine wpList_cell_h (v := .int .i64 (y0)) rfl O 2 rfl D1.out rfl agg3 rfl ?_) | ((with_reducible refine at_load 75 ?_); refine wpList_cell_h (v := .int .i64 (x1)) rfl O 2 rfl D2.out rfl agg3 rfl ?_) | ((with_reducible refine at_load 79 ?_); refine wpList_cell_h (v := .int .i64 (y1)) rfl O 2 rfl D3.out rfl agg3 rfl ?_) | ((with_reducible refine at_build 82 ?_); refine wpList_build_g rfl ([(0, .int .i64 r0), (1, .int .i64 r1), (2, .int .i64 r2), (3, .int .i64 r3)]) ((M.mat 4 (RC.mk r0 r1 r2 r3)).toArray) ?_ (BR) ?_; (focus (simp only [List.map_toArray, List.map_cons, List.map_nil]; rfl))) | ((with_reducible refine at_store 9 ?_); refine wpList_put_h O 2 (M.mat 4 (RC.mk r0 r1 r2 r3)) rfl rfl rfl (sR _) (M.mat_len2 _ _ _) (M.mat_one _ _) ?_; clear O; intro x1w O) | ((with_reducible refine at_load 84 ?_); refine wpList_mid_h rfl O 4 rfl (M.mat 7 a) (sl_a a b n r) rfl Try.underlying25 rfl (sW _) ?_) | ((with_reducible refine at_load 86 ?_); refine wpList_mid_h rfl O 4 rfl (M.mat 7 b) (sl_b a b n r) rfl Try.underlying25 rfl (sW _) ?_) | ((with_reducible refine at_load 88 ?_); refine wpList_cell_h (v := .int .i64 n) rfl O 4 rfl (sl_n a b n r) rfl agg3 rfl ?_) | (go_at_call 11; clear T0; have T1 : True := trivial; refine (C1 _).mono ?_; rintro e x2w ⟨rfl, hb⟩; replace O := O.call hb; clear hb) | ((with_reducible refine at_load 92 ?_); refine wpList_rowg_h rfl O 0 rfl rfl Try.underlying25 rfl (sW _) ?_) | ((with_reducible refine at_load 93 ?_); refine wpList_rowg_h rfl O 1 rfl rfl Try.underlying25 rfl (sW _) ?_) | ((with_reducible refine at_load 95 ?_); refine wpList_cell_h (v := .int .i64 n) rfl O 4 rfl (sl_n a b n r) rfl agg3 rfl ?_) | (go_at_call 11; clear T1; have T2 : True := trivial; refine (C2 _).mono ?_; rintro e x3w ⟨rfl, hb⟩; replace O := O.call hb; clear hb) | ((with_reducible refine at_load 100 ?_); refine wpList_rowg_h rfl O 2 rfl rfl Try.underlying27 rfl (sR _) ?_) | (go_at_call 17; clear T2; have T3 : True := trivial; refine (C3 _).mono ?_; rintro e x4w ⟨rfl, hb⟩; replace O := O.call hb; clear hb))
  have OX := O.1
  clear O C1 C2 C3 W1 W2 W3 W4 BR D0 D1 D2 D3 T3
  have O : Own w x4w [(g7, 25, M.mat 7 a'), (g8, 25, M.mat 7 b'), (g9, 27, M.mat 4 (RC.mk r0 r1 r2 r3)), (g3, 45, two .i8 u v), (g2, 29, sl a b n r)] := OX
  clear OX
  refine region_S (fun st w2 => HS2 w [(g7, 25, M.mat 7 a'), (g8, 25, M.mat 7 b'), (g9, 27, M.mat 4 (RC.mk r0 r1 r2 r3)), (g3, 45, two .i8 u v), (g2, 29, sl a b n r)] 8 14 LA LB st w2) [8, 14] 12 16 [some 105, some 106, some 107, some 108, some 109, some 110, some 111, some 112, some 113, some 114, some 115, some 116, some 117, some 118, some 119, some 10] (fun g => [.pointer (some ⟨g2, 0, none⟩), arr 7 a, .pointer (some ⟨g2, 7, none⟩), arr 7 b, .pointer (some ⟨g2, 14, none⟩), .int .i64 (n), .pointer (some ⟨g2, 15, none⟩), arr 4 r, g 8, arr 7 a', arr 7 b', .pointer (some ⟨g2, 14, none⟩), .int .i64 (n), arr 4 (RC.mk r0 r1 r2 r3), g 14, g 8]) 1 (by kernel_rfl) (by kernel_rfl) (by rfl) (by rfl) (fun _ => rfl) (by decide) ?_ (HS2.start O.drew) (fun F hF => ?_)
  · intro i hi
    simp only [List.mem_cons, List.not_mem_nil, or_false] at hi
    rcases hi with rfl | rfl
    · exact ⟨fun _ => rfl, [0, 1, 2, 3, 4, 5, 6, 7, 9, 10, 11, 12, 13, 14], by kernel_rfl, fun g v => ⟨rfl, rfl, rfl, rfl, rfl, rfl, rfl, rfl, rfl, rfl, rfl, rfl, rfl, rfl, trivial⟩⟩
    · exact ⟨fun _ => rfl, [0, 1, 2, 3, 4, 5, 6, 7, 8, 9, 10, 11, 12, 13, 15], by kernel_rfl, fun g v => ⟨rfl, rfl, rfl, rfl, rfl, rfl, rfl, rfl, rfl, rfl, rfl, rfl, rfl, rfl, rfl, trivial⟩⟩
  simp only [fillD, Act.put, List.setIfInBounds_toArray, List.set_cons_zero, List.set_cons_succ] at hF
  have hF2 := funext hF
  clear hF
  subst hF2
  refine ⟨⟨doesN_want (by decide) rfl (fun g => rfl) (fun st w' hS hp K hK => ?_), doesN_want (by decide) rfl (fun g => rfl) (fun st w' hS hp K hK => ?_), doesN_want (by decide) rfl (fun g => rfl) (fun st w' hS hp K hK => ?_), doesN_want (by decide) rfl (fun g => rfl) (fun st w' hS hp K hK => ?_), doesN_want (by decide) rfl (fun g => rfl) (fun st w' hS hp K hK => ?_), doesN_want (by decide) rfl (fun g => rfl) (fun st w' hS hp K hK => ?_), doesN_want (by decide) rfl (fun g => rfl) (fun st w' hS hp K hK => ?_), doesN_want (by decide) rfl (fun g => rfl) (fun st w' hS hp K hK => ?_), doesC_want (by decide) rfl (fun g => rfl) (fun st w' hS hn hp K hK => ?_), doesN_want (by decide) rfl (fun g => rfl) (fun st w' hS hp K hK => ?_), doesN_want (by decide) rfl (fun g => rfl) (fun st w' hS hp K hK => ?_), doesN_want (by decide) rfl (fun g => rfl) (fun st w' hS hp K hK => ?_), doesN_want (by decide) rfl (fun g => rfl) (fun st w' hS hp K hK => ?_), doesN_want (by decide) rfl (fun g => rfl) (fun st w' hS hp K hK => ?_), doesC_want (by decide) rfl (fun g => rfl) (fun st w' hS hn hp K hK => ?_), doesN_want (by decide) rfl (fun g => rfl) (fun st w' hS hp K hK => ?_), trivial⟩, fun st w' hS hall => ?_⟩
  · try dsimp only
    go_simp
    exact hK _ hS
  · try dsimp only
    exact wp_mid_h hS.1.held 4 rfl (M.mat 7 a) (sl_a a b n r) rfl Try.underlying25 rfl (sW _) (hK _ hS)
  · try dsimp only
    go_simp
    exact hK _ hS
  · try dsimp only
    exact wp_mid_h hS.1.held 4 rfl (M.mat 7 b) (sl_b a b n r) rfl Try.underlying25 rfl (sW _) (hK _ hS)
  · try dsimp only
    go_simp
    exact hK _ hS
  · try dsimp only
    exact wp_cell_h (v := .int .i64 n) hS.1.held 4 rfl (sl_n a b n r) rfl agg3 rfl (hK _ hS)
  · try dsimp only
    go_simp
    exact hK _ hS
  · try dsimp only
    exact wp_mid_h hS.1.held 4 rfl (M.mat 4 r) (sl_r a b n r) rfl Try.underlying27 rfl (sR _) (hK _ hS)
  · try dsimp only
    go_simp
    go_at_call 13
    refine (CL _).mono ?_
    rintro e w2 ⟨VA, vc, rfl, hL, hb⟩
    exact hK _ _ (hS.gain1 (by decide) hL hb)
  · try dsimp only
    exact wp_row_h hS.1.held 0 rfl rfl Try.underlying25 rfl (sW _) (hK _ hS)
  · try dsimp only
    exact wp_row_h hS.1.held 1 rfl rfl Try.underlying25 rfl (sW _) (hK _ hS)
  · try dsimp only
    go_simp
    exact hK _ hS
  · try dsimp only
    exact wp_cell_h (v := .int .i64 n) hS.1.held 4 rfl (sl_n a b n r) rfl agg3 rfl (hK _ hS)
  · try dsimp only
    exact wp_row_h hS.1.held 2 rfl rfl Try.underlying27 rfl (sR _) (hK _ hS)
  · try dsimp only
    go_simp
    go_at_call 13
    refine (CM _).mono ?_
    rintro e w2 ⟨VA, vc, rfl, hL, hb⟩
    exact hK _ _ (hS.gain2 (by decide) hL hb)
  · try dsimp only
    go_simp
    exact hK _ hS
  try dsimp only
  clear O
  obtain ⟨XA, xc, e1, h1⟩ := hS.get1 (hall 8 (by decide))
  obtain ⟨YA, yc, e2, h2⟩ := hS.get2 (hall 14 (by decide))
  have O := h2.two h1
  clear h1 h2 hS
  simp only [seen, e1, e2, Option.getD_some]
  clear hall e1 e2
  refine wpAny_one (i := 16) (by kernel_rfl) rfl (fun K hK => ?_)
  go_simp
  refine hK _ _ ?_
  clear hK K
  try simp only [Act.put, List.setIfInBounds_toArray, List.set_cons_zero, List.set_cons_succ]
  refine wpAny_done (by kernel_rfl) ?_ _
  have hlab : LB.length = LA.length := by rw [hLL, List.length_map]
  have K1 : ((LA.length : Int) != (LB.length : Int)) = false := by rw [hlab]; simp
  have HAB := Lib.hid hlab
  have HM := Lib.hid hLL
  clear hlab hLL CL CM
  go_wp2_with fail
  have OX : Held w _ [(g7, 25, M.mat 7 a'), (g8, 25, M.mat 7 b'), (g9, 27, M.mat 4 (RC.mk r0 r1 r2 r3)), (g3, 45, two .i8 u v), (g2, 29, sl a b n r)] nilRow [gE w.heap.size YA yc LB, gE w.heap.size XA xc LA] := O
  clear O K1
  have O := OX
  clear OX
  go_loopw [12] (fun t10 wr => ∃ i : Nat, i ≤ LA.length ∧ t10 = .int .i64 (i : Int) ∧ Held w wr [(g7, 25, M.mat 7 a'), (g8, 25, M.mat 7 b'), (g9, 27, M.mat 4 (RC.mk r0 r1 r2 r3)), (g3, 45, two .i8 u v), (g2, 29, sl a b n r)] nilRow [gE w.heap.size YA yc LB, gE w.heap.size XA xc LA]) (fun t10 _ => LA.length - (intOf t10).toNat)
  case atStart => exact ⟨0, Nat.zero_le _, rfl, O⟩
  case round =>
    clear O
    obtain ⟨i, hi, rfl, O⟩ := hrel
    have q0 : (0 : Int) ≤ i := by omega
    by_cases hlt : i < LA.length
    · have q1 : (i : Int) < LA.length := by omega
      obtain ⟨f, hf⟩ : ∃ f, LA[i]? = some f := ⟨_, List.getElem?_eq_getElem hlt⟩
      have hg : LB[i]? = some (SM.mvf f u v) := by rw [HM.out, List.getElem?_map, hf]; rfl
      have hltB : i < LB.length := by rw [HAB.out]; exact hlt
      have Wi : wrap64 ((i : Int) + 1) = (i : Int) + 1 := IntWalk.wrap64_in _ (by have := HLEN.out; omega)
      have hmem := List.mem_of_getElem? hf
      obtain ⟨-, bx1, bx2, by1, by2⟩ := HHAS.out f hmem
      have hcv := HCOV.out f hmem
      have hw := HWI.out (f 0) (f 1)
      obtain ⟨X, hX⟩ : ∃ X, f 0 = X := ⟨_, rfl⟩
      obtain ⟨Y, hY⟩ : ∃ Y, f 1 = Y := ⟨_, rfl⟩
      obtain ⟨e0, e1, e2, e3⟩ := HEX.out
      rw [hX, e0] at bx1
      rw [hX, e2] at bx2
      rw [hY, e1] at by1
      rw [hY, e3] at by2
      rw [hX, hY] at hcv hw
      have hrb := HRB.out
      have huv := HUV.out
      have hn2 := HN2.out
      have CK := fun w => pcover_any a b (n + 1) X Y (by omega) (by omega) w
      obtain ⟨cw, hcw⟩ : ∃ z, SM.cvr a b (n + 1) X Y = z := ⟨_, rfl⟩
      obtain ⟨cc, hcc⟩ : ∃ z, SM.cvr a b n X Y = z := ⟨_, rfl⟩
      rw [hcw] at CK hw
      rw [hcc] at hw hcv
      have k1 : decide (cw < cc) = false := decide_eq_false (by omega)
      have k1' : ¬ cw < cc := by omega
      obtain ⟨m, hm⟩ : ∃ z, n + 1 = z := ⟨_, rfl⟩
      have Wn : Hid (IntKind.i64.wrap (n + 1) = m) := Lib.hid ((IntWalk.i64_in _ (by omega)).trans hm)
      rw [hm] at CK
      obtain ⟨X', hX'⟩ : ∃ z, X + u = z := ⟨_, rfl⟩
      obtain ⟨Y', hY'⟩ : ∃ z, Y + v = z := ⟨_, rfl⟩
      have V1 : wrap64 (X' - u) = X := by rw [← hX', show X + u - u = X by omega]; exact IntWalk.wrap64_in _ (by omega)
      have V2 : wrap64 (Y' - v) = Y := by rw [← hY', show Y + v - v = Y by omega]; exact IntWalk.wrap64_in _ (by omega)
      have GX : Hid ((M.mat 8 (SM.mvf f u v))[0]? = some (.int .i64 X')) := Lib.hid (by rw [← hX', ← hX]; rfl)
      have GY : Hid (((M.mat 8 (SM.mvf f u v)))[1]? = some (.int .i64 Y')) := Lib.hid (by rw [← hY', ← hY]; rfl)
      have HBK : Hid (((M.mat 8 (SM.mvf f u v)).set 0 (.int .i64 X)).set 1 (.int .i64 Y) = M.mat 8 f) := Lib.hid (mat8_back hX hY fun j hj => by unfold SM.mvf; rw [if_neg (by omega), if_neg (by omega)])
      have FX : Hid ((gC LA)[i * 8]? = some (.int .i64 X)) := Lib.hid (by rw [← hX]; exact gC_at hf 0 _ rfl)
      have FY : Hid ((gC LA)[i * 8 + 1]? = some (.int .i64 Y)) := Lib.hid (by rw [← hY]; exact gC_at hf 1 _ rfl)
      have FC : Hid ((gC LA)[i * 8 + 7]? = some (.int .i64 cc)) := Lib.hid (by rw [← hcv]; exact gC_at hf 7 _ rfl)
      have HF := Lib.hid hf
      have HG := Lib.hid hg
      clear hf hg hmem bx1 bx2 by1 by2 hcv hw hX hY e0 e1 e2 e3 hrb huv hn2 hcw hcc hm hX' hY' k1
      generalize SM.mvf f u v = g at *
      go_wp2_with (first | ((with_reducible refine at_index_ 133 ?_); refine wpList_at_h rfl Try.underlying34 sizeOfG ((gE w.heap.size YA yc LB)) (O.mem List.mem_cons_self) rfl i rfl (by first | rfl | omega) (by first | exact hlt | exact hltB) (by first | rfl | exact HAB.out.symm) ?_) | ((with_reducible refine at_load 134 ?_); refine wpList_elem_h rfl _ (O.mem List.mem_cons_self) (i * 8) (M.mat 8 g) (gC_at HG.out) (by rw [M.mat_len]; decide) rfl Try.underlying40 rfl (sG _) ?_) | ((with_reducible refine at_alloc 13 ?_); refine wpList_alloc_h O (M.mat 8 M.zero) zeroG ?_; clear O; intro g13 y1w O) | ((with_reducible refine at_store 13 ?_); refine wpList_put_h O 0 (M.mat 8 (g)) rfl rfl rfl (sG _) (M.mat_len2 _ _ _) (M.mat_one _ _) ?_; clear O; intro y2w O) | ((with_reducible refine at_load 136 ?_); refine wpList_cell_h (v := .int .i64 X') rfl O 0 rfl GX.out rfl agg3 rfl ?_) | ((with_reducible refine at_load 140 ?_); refine wpList_cell_h (v := .int .i64 Y') rfl O 0 rfl GY.out rfl agg3 rfl ?_) | ((with_reducible refine at_store 143 ?_); refine wpList_set_h O 0 (i := 0) (.int .i64 X) rfl (by first | (rw [M.mat_len]; omega) | (rw [List.length_set, M.mat_len]; omega)) rfl (by first | rfl | exact congrArg (Value.int IntKind.i64) V1 | exact congrArg (Value.int IntKind.i64) V2) size3 rfl rfl ?_; clear O; intro y3w O) | ((with_reducible refine at_store 144 ?_); refine wpList_set_h O 0 (i := 1) (.int .i64 Y) rfl (by first | (rw [M.mat_len]; omega) | (rw [List.length_set, M.mat_len]; omega)) rfl (by first | rfl | exact congrArg (Value.int IntKind.i64) V1 | exact congrArg (Value.int IntKind.i64) V2) size3 rfl rfl ?_; clear O; intro y4w O))
      have OX : Held w y4w ((g13, 40, M.mat 8 f) :: [(g7, 25, M.mat 7 a'), (g8, 25, M.mat 7 b'), (g9, 27, M.mat 4 (RC.mk r0 r1 r2 r3)), (g3, 45, two .i8 u v), (g2, 29, sl a b n r)]) nilRow [gE w.heap.size YA yc LB, gE w.heap.size XA xc LA] := by
        have e1 := HBK.out
        have O8 := O
        simp only [List.set_cons_zero, List.set_cons_succ] at O8
        rw [e1] at O8
        exact O8
      clear O V1 V2 GX GY HBK HG hltB
      have O := OX
      clear OX
      have k1 : decide (cw < cc) = false := decide_eq_false (by omega)
      refine region_T ((fun w2 => Held w w2 ((g13, 40, M.mat 8 f) :: [(g7, 25, M.mat 7 a'), (g8, 25, M.mat 7 b'), (g9, 27, M.mat 4 (RC.mk r0 r1 r2 r3)), (g3, 45, two .i8 u v), (g2, 29, sl a b n r)]) nilRow [gE w.heap.size YA yc LB, gE w.heap.size XA xc LA])) [0, 1, 2, 3, 4, 5, 6, 7, 8, 9, 10, 11, 12, 13, 14, 15, 16, 17, 18, 19, 20, 21, 22, 23, 24, 25, 26, 27, 28, 29, 30] 12 [some 145, some 146, some 147, some 148, some 149, some 150, some 151, some 152, some 153, some 154, some 155, some 156, some 157, some 158, some 159, some 160, some 161, some 162, some 163, some 164, some 165, some 166, some 167, some 168, some 169, some 170, some 171, some 172, some 173, some 174, some 175] [arr 8 f, .slice XA LA.length xc, .int .i64 (i : Int), .pointer (some ((adr XA).add (i * 8))), arr 8 f, .bool false, .bool false, .pointer (some ⟨g2, 0, none⟩), arr 7 a, .pointer (some ⟨g2, 7, none⟩), arr 7 b, .pointer (some ⟨g2, 14, none⟩), .int .i64 (n), .int .i64 (m), .slice XA LA.length xc, .int .i64 (i : Int), .pointer (some ((adr XA).add (i * 8))), .pointer (some ((adr XA).add (i * 8))), .int .i64 (X), .slice XA LA.length xc, .int .i64 (i : Int), .pointer (some ((adr XA).add (i * 8))), .pointer (some ⟨((adr XA).add (i * 8)).block, ((adr XA).add (i * 8)).off + 1, none⟩), .int .i64 (Y), .int .i64 (cw), .slice XA LA.length xc, .int .i64 (i : Int), .pointer (some ((adr XA).add (i * 8))), .pointer (some ⟨((adr XA).add (i * 8)).block, ((adr XA).add (i * 8)).off + 7, none⟩), .int .i64 (cc), .bool false] 1 (by kernel_rfl) (by rfl) (by kernel_rfl) (by rfl) (by rfl) (O.drew) (fun F hF => ?_)
      simp only [fillD, Act.put, List.setIfInBounds_toArray, List.set_cons_zero, List.set_cons_succ] at hF
      subst hF
      refine ⟨⟨does_want rfl (by rfl) (fun w' O K hK => ?_), does_want rfl (by rfl) (fun w' O K hK => ?_), does_want rfl (by rfl) (fun w' O K hK => ?_), does_want rfl (by rfl) (fun w' O K hK => ?_), does_want rfl (by rfl) (fun w' O K hK => ?_), does_want rfl (by rfl) (fun w' O K hK => ?_), does_want rfl (by rfl) (fun w' O K hK => ?_), does_want rfl (by rfl) (fun w' O K hK => ?_), does_want rfl (by rfl) (fun w' O K hK => ?_), does_want rfl (by rfl) (fun w' O K hK => ?_), does_want rfl (by rfl) (fun w' O K hK => ?_), does_want rfl (by rfl) (fun w' O K hK => ?_), does_want rfl (by rfl) (fun w' O K hK => ?_), does_want rfl (by rfl) (fun w' O K hK => ?_), does_want rfl (by rfl) (fun w' O K hK => ?_), does_want rfl (by rfl) (fun w' O K hK => ?_), does_want rfl (by rfl) (fun w' O K hK => ?_), does_want rfl (by rfl) (fun w' O K hK => ?_), does_want rfl (by rfl) (fun w' O K hK => ?_), does_want rfl (by rfl) (fun w' O K hK => ?_), does_want rfl (by rfl) (fun w' O K hK => ?_), does_want rfl (by rfl) (fun w' O K hK => ?_), does_want rfl (by rfl) (fun w' O K hK => ?_), does_want rfl (by rfl) (fun w' O K hK => ?_), does_want rfl (by rfl) (fun w' O K hK => ?_), does_want rfl (by rfl) (fun w' O K hK => ?_), does_want rfl (by rfl) (fun w' O K hK => ?_), does_want rfl (by rfl) (fun w' O K hK => ?_), does_want rfl (by rfl) (fun w' O K hK => ?_), does_want rfl (by rfl) (fun w' O K hK => ?_), does_want rfl (by rfl) (fun w' O K hK => ?_), trivial⟩, fun w' O => ?_⟩
      · exact wp_row_h O 0 rfl rfl Try.underlying40 rfl (sG _) (hK _ O)
      · go_simp
        exact hK _ O
      · go_simp
        exact hK _ O
      · exact wp_at_h Try.underlying34 sizeOfG (gE w.heap.size XA xc LA) (O.mem (List.mem_cons_of_mem _ List.mem_cons_self)) rfl i rfl rfl (by omega) rfl (hK _ O)
      · exact wp_elem_h (gE w.heap.size XA xc LA) (O.mem (List.mem_cons_of_mem _ List.mem_cons_self)) (i * 8) (M.mat 8 f) (gC_at HF.out) (by rw [M.mat_len]; decide) rfl Try.underlying40 rfl (sG _) (hK _ O)
      · refine wp_neqG f f rfl rfl ?_
        rw [M.eqB_refl]
        exact hK _ O
      · go_simp
        exact hK _ O
      · go_simp
        exact hK _ O
      · exact wp_mid_h O 5 rfl (M.mat 7 a) (sl_a a b n r) rfl Try.underlying25 rfl (sW _) (hK _ O)
      · go_simp
        exact hK _ O
      · exact wp_mid_h O 5 rfl (M.mat 7 b) (sl_b a b n r) rfl Try.underlying25 rfl (sW _) (hK _ O)
      · go_simp
        exact hK _ O
      · exact wp_cell_h (v := .int .i64 n) O 5 rfl (sl_n a b n r) rfl agg3 rfl (hK _ O)
      · go_simp
        simp only [Wn.out]
        exact hK _ O
      · go_simp
        exact hK _ O
      · go_simp
        exact hK _ O
      · exact wp_at_h Try.underlying34 sizeOfG (gE w.heap.size XA xc LA) (O.mem (List.mem_cons_of_mem _ List.mem_cons_self)) rfl i rfl rfl (by omega) rfl (hK _ O)
      · go_simp
        exact hK _ O
      · exact wp_ecell_h (gE w.heap.size XA xc LA) (O.mem (List.mem_cons_of_mem _ List.mem_cons_self)) (i * 8) (v := .int .i64 X) FX.out rfl agg3 rfl (hK _ O)
      · go_simp
        exact hK _ O
      · go_simp
        exact hK _ O
      · exact wp_at_h Try.underlying34 sizeOfG (gE w.heap.size XA xc LA) (O.mem (List.mem_cons_of_mem _ List.mem_cons_self)) rfl i rfl rfl (by omega) rfl (hK _ O)
      · go_simp
        exact hK _ O
      · exact wp_ecell_h (gE w.heap.size XA xc LA) (O.mem (List.mem_cons_of_mem _ List.mem_cons_self)) (i * 8 + 1) (v := .int .i64 Y) FY.out (congrArg (fun z => Value.pointer (some z)) (add_fld _ (i * 8) 1 (by decide))) agg3 rfl (hK _ O)
      · go_simp
        go_at_call 15
        refine (CK _).mono ?_
        rintro e w2 ⟨rfl, hb⟩
        exact hK _ (O.call hb)
      · go_simp
        exact hK _ O
      · go_simp
        exact hK _ O
      · exact wp_at_h Try.underlying34 sizeOfG (gE w.heap.size XA xc LA) (O.mem (List.mem_cons_of_mem _ List.mem_cons_self)) rfl i rfl rfl (by omega) rfl (hK _ O)
      · go_simp
        exact hK _ O
      · exact wp_ecell_h (gE w.heap.size XA xc LA) (O.mem (List.mem_cons_of_mem _ List.mem_cons_self)) (i * 8 + 7) (v := .int .i64 cc) FC.out (congrArg (fun z => Value.pointer (some z)) (add_fld _ (i * 8) 7 (by decide))) agg3 rfl (hK _ O)
      · go_simp
        first | exact hK _ O | (simp only [k1]; exact hK _ O) | (simp only [k1']; exact hK _ O) | (rw [k1]; exact hK _ O) | (rw [k1']; exact hK _ O)
      refine wpAny_one (i := 31) (by kernel_rfl) rfl (fun K hK => ?_)
      go_simp
      refine hK _ _ ?_
      clear hK K
      try simp only [Act.put, List.setIfInBounds_toArray, List.set_cons_zero, List.set_cons_succ]
      refine wpAny_done (by kernel_rfl) ?_ _
      clear k1 k1'
      go_wp2_with fail
      go_roundw
      case rel => exact ⟨i + 1, by omega, by go_num, O.tail⟩
      case measure => first | exact meas_lt Wi hlt | exact meas_lt2 hlt
    · have q1 : ¬ (i : Int) < LA.length := by omega
      go_wp2_with (go_at_call 9; refine (awake_any _).mono ?_; rintro e x20w ⟨rfl, hb⟩; replace O := O.call hb; clear hb)
      go_ret
      exact ⟨rfl, O.below⟩

theorem readable : ∀ t ∈ Try.f6.params.toList, Try.prog.readableRec t = true ∧ t < Try.prog.types.size := by
  intro t ht
  rw [Try.params6] at ht
  simp only [List.mem_cons, List.not_mem_nil, or_false] at ht
  repeat (first | (rcases ht with rfl | ht; exact ⟨by kernel_rfl, of_decide_eq_true (by kernel_rfl)⟩) | (subst ht; exact ⟨by kernel_rfl, of_decide_eq_true (by kernel_rfl)⟩))
set_option maxRecDepth 100000 in
theorem lifted (os : Os) (started : os.Started) (H : Type) (enc : TypeId × Value → H) :
    ReturnsInHanded {} Try.checked os 6 .any (Rows.smoothMovesSpec.pre6 enc Try.prog Try.f6 Rows.smoothMovesRow.domain false) (Rows.smoothMovesSpec.post enc Try.prog Try.f6 false true false false) := by
  refine returnsInHanded_of_change (C := Try.checked) own started (by kernel_rfl) Try.func6
    (ChangeSpec.witness6 (enc := enc) (C := Try.checked) false ⟨#[], #[.agg #[.int .i64 0, .int .i64 0, .int .i64 0, .int .i64 0, .int .i64 0, .int .i64 0, .int .i64 0, .int .i64 0, .int .i64 0, .int .i64 0, .int .i64 0, .int .i64 0, .int .i64 0, .int .i64 0, .int .i64 0, .int .i64 0, .int .i64 0, .int .i64 0, .int .i64 0], .agg #[.int .i8 0, .int .i8 0]], []⟩ 8 (by kernel_rfl) (by kernel_rfl) (by kernel_rfl) (by kernel_rfl)) ?_
  intro W base args ds gs before hval0 hW hcnd _
  have hval : ∀ (j : Nat) t v, Try.f6.params[j]? = some t → args[j]? = some v → Value.okWide Try.prog W .any base t v := hval0
  have hW' := hW
  obtain ⟨p, q, hA0, hV, rfl, hfz, hnd⟩ := hW
  have hA : DataW.TrodAll enc Try.prog W 0 (fun _ => true) true Try.f6.params.toList args.toList ds p := hA0
  rw [Try.params6] at hA hval
  have hlt : ∀ x ∈ p ++ q, x.block < W.heap.size := fun x hx => hW'.lt x hx
  obtain ⟨v0, vs0, d0, ds0, p0, q0, hargs, rfl, rfl, h0, rr0⟩ := trodAll_cons hA
  obtain ⟨v1, vs1, d1, ds1, p1, q1, rfl, rfl, rfl, h1, rr1⟩ := trodAll_cons rr0
  obtain ⟨rfl, rfl, rfl⟩ := trodAll_nil rr1
  obtain rfl : args = #[v0, v1] := by cases args; simp_all
  obtain ⟨rfl, rfl⟩ := trodVars_none hV
  obtain ⟨a0, b0, n0, r0, rfl⟩ := openSLine (hval 0 29 v0 rfl rfl) h0
  obtain ⟨x1, y1, rfl, z1⟩ := openTwo8 (hval 1 45 v1 rfl rfl) h1
  clear hA0 hval0
  refine (walk W a0 b0 n0 r0 x1 y1 z1).mono fun e W' ⟨he, hg⟩ => ?_
  subst he
  exact ⟨_, rfl, post_true (tb := 4) laid readable (by kernel_rfl) Try.underlying4 rfl (fun l hl => by
    match l, hl with
    | [_, _], _ => exact ⟨rfl, rfl, rfl⟩) hW' hg⟩

theorem over : Rows.smoothMovesRow.holds Try.pinned (OpenSpec.ofChange Rows.smoothMovesSpec) :=
  OpenClaim.holds_of_wide 6 Try.f6 rfl rfl rfl rfl rfl rfl rfl ⟨rfl, rfl, rfl, rfl, rfl⟩ rfl rfl rfl rfl rfl (by kernel_rfl) Try.func6 (by kernel_rfl)
    (of_decide_eq_true (by kernel_rfl)) (by unfold Func.isWrapper; first | (rw [if_pos (by decide +kernel)]; kernel_rfl) | (rw [if_neg (by decide +kernel)]; exact ⟨rfl, rfl⟩))
    (fun os started H enc _ => lifted os started H enc)

theorem proved : Rows.SmoothMovesSaid :=
  over
#print axioms proved
end Go.Proofs.Ytdkppkdoconfhaa.smoothMoves
