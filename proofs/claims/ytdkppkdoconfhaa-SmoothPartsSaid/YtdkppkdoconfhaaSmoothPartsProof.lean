/-
  SmoothParts: the covers of a line's two parts, before and behind a point of it, add up to the line's own cover, at any pixel.
-/
import Derived.Test.YtdkppkdoconfhaaSq
import Derived.Deep.DeepCutAuto
namespace Go.Proofs.Ytdkppkdoconfhaa.smoothParts
open Go.ChangeShapes Go.WideShapes Go.ChangeAt Go.RowKit
set_option linter.unusedVariables false
set_option linter.unusedSimpArgs false

theorem own : ownKnob Try.prog.godebug = none := by kernel_rfl
theorem mul_lim18 {x y : Int} (hx : 0 ≤ x ∧ x < 32) (hy : -128 ≤ y ∧ y ≤ 127) : -4096 ≤ x * y ∧ x * y ≤ 4096 := by
  have := SM.mul_lim (x := x) (y := y) (A := 32) (B := 128) (by omega) (by omega)
  omega
theorem wn_fit18 {x y : Int} (hx : -268435456 ≤ x ∧ x ≤ 268435456) (hy : -268435456 ≤ y ∧ y ≤ 268435456) : VM.fit (WD.wn x y) = true := by
  unfold VM.fit VM.okc VM.okv WD.wn
  simp
  omega
theorem cvr_parts {a b c u : Nat → Int} {n m k : Int} (ha : VM.fit a = true) (hb : VM.fit b = true) (hc : VM.fit c = true) (hn : 1 ≤ n ∧ n ≤ 64) (hm : 0 ≤ m) (hk : 0 ≤ k) (c0 : c 0 = a 0 + m * u 0) (c1 : c 1 = a 1 + m * u 1) (b0 : b 0 = c 0 + k * u 0) (b1 : b 1 = c 1 + k * u 1) (x y : Int) : SM.cvr a b n x y = SM.cvr a c n x y + SM.cvr c b n x y := by
  unfold SM.cvr
  rw [SM.right_iff.2 ⟨⟨ha, hb⟩, hn⟩, SM.right_iff.2 ⟨⟨ha, hc⟩, hn⟩, SM.right_iff.2 ⟨⟨hc, hb⟩, hn⟩, if_pos rfl, if_pos rfl, if_pos rfl, SM.cov_parts hm hk c0 c1 b0 b1]
  omega

set_option maxRecDepth 100000 in
set_option maxHeartbeats 16000000 in
theorem walk (w : World) (x y d0 d1 m k u p q : Int) (hlim : ((-32768 ≤ x ∧ x ≤ 32767) ∧ (-32768 ≤ y ∧ y ≤ 32767)) ∧ ((-128 ≤ d0 ∧ d0 ≤ 127) ∧ (-128 ≤ d1 ∧ d1 ≤ 127)) ∧ ((0 ≤ m ∧ m ≤ 255) ∧ (0 ≤ k ∧ k ≤ 255)) ∧ (0 ≤ u ∧ u ≤ 255) ∧ ((-128 ≤ p ∧ p ≤ 127) ∧ (-128 ≤ q ∧ q ≤ 127))) :
    Calls Try.prog 5 #[.agg (pk x y d0 d1 m k u p q).toArray] w fun e w' => e = .returned (.bool true) ∧ Below w.heap.size w w' := by
  have O := Held.start w [] (by simp)
  obtain ⟨⟨⟨x1, x2⟩, y1, y2⟩, ⟨⟨d1', d2'⟩, d3', d4'⟩, ⟨⟨m1, m2⟩, k1, k2⟩, ⟨u1, u2⟩, ⟨p1, p2⟩, q1, q2⟩ := hlim
  obtain ⟨mm, hmm⟩ : ∃ z, m.tmod 32 = z := ⟨_, rfl⟩
  obtain ⟨kk, hkk⟩ : ∃ z, k.tmod 32 = z := ⟨_, rfl⟩
  obtain ⟨uu, huu⟩ : ∃ z, u.tmod 64 = z := ⟨_, rfl⟩
  have mb : 0 ≤ mm ∧ mm < 32 := by rw [← hmm]; exact ⟨Int.tmod_nonneg _ m1, Int.tmod_lt_of_pos _ (by decide)⟩
  have kb : 0 ≤ kk ∧ kk < 32 := by rw [← hkk]; exact ⟨Int.tmod_nonneg _ k1, Int.tmod_lt_of_pos _ (by decide)⟩
  have ub : 0 ≤ uu ∧ uu < 64 := by rw [← huu]; exact ⟨Int.tmod_nonneg _ u1, Int.tmod_lt_of_pos _ (by decide)⟩
  have Hm : Hid (m.tmod 32 = mm ∧ IntKind.u8.wrap mm = mm ∧ IntKind.i64.wrap mm = mm ∧ m % 32 = mm) := Lib.hid ⟨hmm, IntWalk.u8_in _ (by omega), IntWalk.i64_in _ (by omega), by rw [← hmm, Int.tmod_eq_emod_of_nonneg m1]⟩
  have Hk : Hid (k.tmod 32 = kk ∧ IntKind.u8.wrap kk = kk ∧ IntKind.i64.wrap kk = kk ∧ k % 32 = kk) := Lib.hid ⟨hkk, IntWalk.u8_in _ (by omega), IntWalk.i64_in _ (by omega), by rw [← hkk, Int.tmod_eq_emod_of_nonneg k1]⟩
  have Hu : Hid (u.tmod 64 = uu ∧ IntKind.u8.wrap uu = uu ∧ IntKind.i64.wrap uu = uu ∧ u % 64 = uu) := Lib.hid ⟨huu, IntWalk.u8_in _ (by omega), IntWalk.i64_in _ (by omega), by rw [← huu, Int.tmod_eq_emod_of_nonneg u1]⟩
  have Hp : Hid (IntKind.i64.wrap p = p) := Lib.hid (IntWalk.i64_in _ (by omega))
  have Hq : Hid (IntKind.i64.wrap q = q) := Lib.hid (IntWalk.i64_in _ (by omega))
  obtain ⟨n, hnn⟩ : ∃ z, 1 + uu = z := ⟨_, rfl⟩
  have Hn : Hid (1 + uu = n ∧ IntKind.i64.wrap n = n) := Lib.hid ⟨hnn, IntWalk.i64_in _ (by omega)⟩
  have hn : 1 ≤ n ∧ n ≤ 64 := by omega
  obtain ⟨e0, he0⟩ : ∃ z, mm * d0 = z := ⟨_, rfl⟩
  have be0 : -4096 ≤ e0 ∧ e0 ≤ 4096 := by rw [← he0]; exact mul_lim18 mb (by omega)
  obtain ⟨e1, he1⟩ : ∃ z, mm * d1 = z := ⟨_, rfl⟩
  have be1 : -4096 ≤ e1 ∧ e1 ≤ 4096 := by rw [← he1]; exact mul_lim18 mb (by omega)
  obtain ⟨f0, hf0⟩ : ∃ z, kk * d0 = z := ⟨_, rfl⟩
  have bf0 : -4096 ≤ f0 ∧ f0 ≤ 4096 := by rw [← hf0]; exact mul_lim18 kb (by omega)
  obtain ⟨f1, hf1⟩ : ∃ z, kk * d1 = z := ⟨_, rfl⟩
  have bf1 : -4096 ≤ f1 ∧ f1 ≤ 4096 := by rw [← hf1]; exact mul_lim18 kb (by omega)
  obtain ⟨c0, hc0⟩ : ∃ z, x + e0 = z := ⟨_, rfl⟩
  obtain ⟨c1, hc1⟩ : ∃ z, y + e1 = z := ⟨_, rfl⟩
  obtain ⟨b0, hb0⟩ : ∃ z, c0 + f0 = z := ⟨_, rfl⟩
  obtain ⟨b1, hb1⟩ : ∃ z, c1 + f1 = z := ⟨_, rfl⟩
  have W1 : wrap64 (x) = x := by exact IntWalk.wrap64_in _ (by omega)
  have W2 : wrap64 (y) = y := by exact IntWalk.wrap64_in _ (by omega)
  have W3 : wrap64 (d0) = d0 := by exact IntWalk.wrap64_in _ (by omega)
  have W4 : wrap64 (d1) = d1 := by exact IntWalk.wrap64_in _ (by omega)
  have W5 : wrap64 (mm * d0) = e0 := by rw [he0]; exact IntWalk.wrap64_in _ (by omega)
  have W6 : wrap64 (mm * d1) = e1 := by rw [he1]; exact IntWalk.wrap64_in _ (by omega)
  have W7 : wrap64 (kk * d0) = f0 := by rw [hf0]; exact IntWalk.wrap64_in _ (by omega)
  have W8 : wrap64 (kk * d1) = f1 := by rw [hf1]; exact IntWalk.wrap64_in _ (by omega)
  have W9 : wrap64 (x + e0) = c0 := by rw [hc0]; exact IntWalk.wrap64_in _ (by omega)
  have W10 : wrap64 (y + e1) = c1 := by rw [hc1]; exact IntWalk.wrap64_in _ (by omega)
  have W11 : wrap64 (c0 + f0) = b0 := by rw [hb0]; exact IntWalk.wrap64_in _ (by omega)
  have W12 : wrap64 (c1 + f1) = b1 := by rw [hb1]; exact IntWalk.wrap64_in _ (by omega)
  have hfa := wn_fit18 (x := x) (y := y) (by omega) (by omega)
  have hfb := wn_fit18 (x := b0) (y := b1) (by omega) (by omega)
  have hfc := wn_fit18 (x := c0) (y := c1) (by omega) (by omega)
  have hP := cvr_parts (a := WD.wn x y) (b := WD.wn b0 b1) (c := WD.wn c0 c1) (u := fun i => if i = 0 then d0 else d1) (n := n) hfa hfb hfc hn mb.1 kb.1 (show c0 = x + mm * d0 by rw [he0]; exact hc0.symm) (show c1 = y + mm * d1 by rw [he1]; exact hc1.symm) (show b0 = c0 + kk * d0 by rw [hf0]; exact hb0.symm) (show b1 = c1 + kk * d1 by rw [hf1]; exact hb1.symm) p q
  have C1 := fun w => pcover_any (WD.wn x y) (WD.wn b0 b1) n p q (by omega) (by omega) w
  have C2 := fun w => pcover_any (WD.wn x y) (WD.wn c0 c1) n p q (by omega) (by omega) w
  have C3 := fun w => pcover_any (WD.wn c0 c1) (WD.wn b0 b1) n p q (by omega) (by omega) w
  have l1 := @SM.cvr_lim (WD.wn x y) (WD.wn c0 c1) n p q
  have l2 := @SM.cvr_lim (WD.wn c0 c1) (WD.wn b0 b1) n p q
  generalize SM.cvr (WD.wn x y) (WD.wn b0 b1) n p q = V at *
  generalize SM.cvr (WD.wn x y) (WD.wn c0 c1) n p q = V2 at *
  generalize SM.cvr (WD.wn c0 c1) (WD.wn b0 b1) n p q = V3 at *
  have HV : Hid (IntKind.i64.wrap (V2 + V3) = V) := Lib.hid ((IntWalk.i64_in _ (by omega)).trans hP.symm)
  clear hP l1 l2 hfa hfb hfc hmm hkk huu hnn he0 he1 hf0 hf1 hc0 hc1 hb0 hb1 be0 be1 bf0 bf1 x1 x2 y1 y2 d1' d2' d3' d4' m1 m2 k1 k2 u1 u2 p1 p2 q1 q2
  have FW := Lib.hid (And.intro W1 (And.intro W2 (And.intro W3 (And.intro W4 (And.intro W5 (And.intro W6 (And.intro W7 (And.intro W8 (And.intro W9 (And.intro W10 (And.intro W11 (W12))))))))))))
  clear W1 W2 W3 W4 W5 W6 W7 W8 W9 W10 W11 W12
  go_enter Try.func5, Try.ntmps5
  go_wp2_with ((with_reducible refine at_box 1 ?_); refine wpList_box_h O (pk x y d0 d1 m k u p q) rfl ?_; clear O; intro g1 w1 O)
  have OO := O
  clear O
  have O := OO
  clear OO
  refine region_T ((fun w2 => Held w w2 [(g1, 48, pk x y d0 d1 m k u p q)] nilRow [])) [0, 1, 2, 3, 4, 5, 6, 7, 8, 9, 10, 11, 12, 13, 14, 15, 16] 12 [some 11, some 12, some 13, some 14, some 15, some 16, some 17, some 18, some 19, some 20, some 21, some 22, some 23, some 24, some 25, some 3, some 4] [.pointer (some ⟨g1, 4, none⟩), .pointer (some ⟨g1, 4, none⟩), .int .u8 m, .int .u8 mm, .int .i64 (mm), .pointer (some ⟨g1, 4, none⟩), .pointer (some ⟨g1, 5, none⟩), .int .u8 k, .int .u8 kk, .int .i64 (kk), .pointer (some ⟨g1, 6, none⟩), .int .u8 u, .int .u8 uu, .int .i64 (uu), .int .i64 (n), .int .i64 (mm), .int .i64 (kk)] 1 (by kernel_rfl) (by rfl) (by kernel_rfl) (by rfl) (by rfl) (O.drew) (fun F hF => ?_)
  simp only [fillD, Act.put, List.setIfInBounds_toArray, List.set_cons_zero, List.set_cons_succ] at hF
  subst hF
  refine ⟨⟨does_want rfl (by rfl) (fun w' O K hK => ?_), does_want rfl (by rfl) (fun w' O K hK => ?_), does_want rfl (by rfl) (fun w' O K hK => ?_), does_want rfl (by rfl) (fun w' O K hK => ?_), does_want rfl (by rfl) (fun w' O K hK => ?_), does_want rfl (by rfl) (fun w' O K hK => ?_), does_want rfl (by rfl) (fun w' O K hK => ?_), does_want rfl (by rfl) (fun w' O K hK => ?_), does_want rfl (by rfl) (fun w' O K hK => ?_), does_want rfl (by rfl) (fun w' O K hK => ?_), does_want rfl (by rfl) (fun w' O K hK => ?_), does_want rfl (by rfl) (fun w' O K hK => ?_), does_want rfl (by rfl) (fun w' O K hK => ?_), does_want rfl (by rfl) (fun w' O K hK => ?_), does_want rfl (by rfl) (fun w' O K hK => ?_), does_want rfl (by rfl) (fun w' O K hK => ?_), does_want rfl (by rfl) (fun w' O K hK => ?_), trivial⟩, fun w' O => ?_⟩
  · go_simp
    exact hK _ O
  · first | (go_simp; exact hK _ O) | exact wp_ino Try.underlying46 sizeOf5 (by decide) 0 rfl rfl (by omega) (by omega) (hK _ O)
  · exact wp_cell_h (v := .int .u8 m) O 0 (i := 4) rfl rfl rfl agg5 rfl (hK _ O)
  · obtain ⟨e1, e2, e3, e4⟩ := Hm.out
    go_simp
    first | exact hK _ O | (rw [e4]; exact hK _ O) | (rw [e4, e2]; exact hK _ O) | (rw [e1]; exact hK _ O) | (rw [e1, e2]; exact hK _ O) | (simp only [e1, e2, e3]; exact hK _ O) | (rw [e3]; exact hK _ O)
  · obtain ⟨e1, e2, e3, e4⟩ := Hm.out
    go_simp
    first | exact hK _ O | (rw [e4]; exact hK _ O) | (rw [e4, e2]; exact hK _ O) | (rw [e1]; exact hK _ O) | (rw [e1, e2]; exact hK _ O) | (simp only [e1, e2, e3]; exact hK _ O) | (rw [e3]; exact hK _ O)
  · go_simp
    exact hK _ O
  · first | (go_simp; exact hK _ O) | exact wp_ino Try.underlying46 sizeOf5 (by decide) 1 rfl rfl (by omega) (by omega) (hK _ O)
  · exact wp_cell_h (v := .int .u8 k) O 0 (i := 5) rfl rfl rfl agg5 rfl (hK _ O)
  · obtain ⟨e1, e2, e3, e4⟩ := Hk.out
    go_simp
    first | exact hK _ O | (rw [e4]; exact hK _ O) | (rw [e4, e2]; exact hK _ O) | (rw [e1]; exact hK _ O) | (rw [e1, e2]; exact hK _ O) | (simp only [e1, e2, e3]; exact hK _ O) | (rw [e3]; exact hK _ O)
  · obtain ⟨e1, e2, e3, e4⟩ := Hk.out
    go_simp
    first | exact hK _ O | (rw [e4]; exact hK _ O) | (rw [e4, e2]; exact hK _ O) | (rw [e1]; exact hK _ O) | (rw [e1, e2]; exact hK _ O) | (simp only [e1, e2, e3]; exact hK _ O) | (rw [e3]; exact hK _ O)
  · go_simp
    exact hK _ O
  · exact wp_cell_h (v := .int .u8 u) O 0 (i := 6) rfl rfl rfl agg5 rfl (hK _ O)
  · obtain ⟨e1, e2, e3, e4⟩ := Hu.out
    go_simp
    first | exact hK _ O | (rw [e4]; exact hK _ O) | (rw [e4, e2]; exact hK _ O) | (rw [e1]; exact hK _ O) | (rw [e1, e2]; exact hK _ O) | (simp only [e1, e2, e3]; exact hK _ O) | (rw [e3]; exact hK _ O)
  · obtain ⟨e1, e2, e3, e4⟩ := Hu.out
    go_simp
    first | exact hK _ O | (rw [e4]; exact hK _ O) | (rw [e4, e2]; exact hK _ O) | (rw [e1]; exact hK _ O) | (rw [e1, e2]; exact hK _ O) | (simp only [e1, e2, e3]; exact hK _ O) | (rw [e3]; exact hK _ O)
  · obtain ⟨e1, e2⟩ := Hn.out
    go_simp
    first | exact hK _ O | (rw [e1]; exact hK _ O) | (rw [e1, e2]; exact hK _ O) | (simp only [e1, e2]; exact hK _ O)
  · go_simp
    exact hK _ O
  · go_simp
    exact hK _ O
  refine wpAny_one (i := 17) (by kernel_rfl) rfl (fun K hK => ?_)
  go_simp
  refine hK _ _ ?_
  clear hK K
  try simp only [Act.put, List.setIfInBounds_toArray, List.set_cons_zero, List.set_cons_succ]
  refine wpAny_done (by kernel_rfl) ?_ _
  clear Hm Hk Hu Hn
  have W1 := FW.out.1
  have W2 := FW.out.2.1
  have W3 := FW.out.2.2.1
  have W4 := FW.out.2.2.2.1
  have W5 := FW.out.2.2.2.2.1
  have W6 := FW.out.2.2.2.2.2.1
  have W7 := FW.out.2.2.2.2.2.2.1
  have W8 := FW.out.2.2.2.2.2.2.2.1
  have W9 := FW.out.2.2.2.2.2.2.2.2.1
  have W10 := FW.out.2.2.2.2.2.2.2.2.2.1
  have W11 := FW.out.2.2.2.2.2.2.2.2.2.2.1
  have W12 := FW.out.2.2.2.2.2.2.2.2.2.2.2
  go_wp2_with (first | ((with_reducible refine at_index_ 27 ?_); refine wpList_ino rfl Try.underlying43 sizeOfi16 (by decide) (0) rfl rfl (by rfl) (by omega) ?_) | ((with_reducible refine at_load 28 ?_); refine wpList_cell_h (v := .int .i16 x) rfl O 0 rfl (i := 0) rfl rfl aggi16 rfl ?_) | ((with_reducible refine at_index_ 31 ?_); refine wpList_ino rfl Try.underlying43 sizeOfi16 (by decide) (1) rfl rfl (by rfl) (by omega) ?_) | ((with_reducible refine at_load 32 ?_); refine wpList_cell_h (v := .int .i16 y) rfl O 0 rfl (i := 1) rfl rfl aggi16 rfl ?_) | ((with_reducible refine at_build 34 ?_); refine wpList_build_g rfl ([(0, .int .i64 x), (1, .int .i64 y)]) ((M.mat 7 (WD.wn x y)).toArray) ?_ (builtW17 _ _) ?_; (focus (simp only [List.map_toArray, List.map_cons, List.map_nil]; rfl))) | ((with_reducible refine at_alloc 6 ?_); refine wpList_alloc_h O (M.mat 7 M.zero) zeroW17 ?_; clear O; intro g6 w4 O) | ((with_reducible refine at_store 6 ?_); refine wpList_put_h O 0 (M.mat 7 (WD.wn x y)) rfl rfl rfl (sW _) (M.mat_len2 _ _ _) (M.mat_one _ _) ?_; clear O; intro w5 O) | ((with_reducible refine at_load 36 ?_); refine wpList_cell_h (v := .int .i64 x) rfl O 0 rfl (show (M.mat 7 (WD.wn x y))[0]? = _ from rfl) rfl agg3 rfl ?_) | ((with_reducible refine at_index_ 39 ?_); refine wpList_ino rfl Try.underlying45 sizeOfi8 (by decide) (0) rfl rfl (by rfl) (by omega) ?_) | ((with_reducible refine at_load 40 ?_); refine wpList_cell_h (v := .int .i8 d0) rfl O 1 rfl (i := 2) rfl rfl aggi8 rfl ?_) | ((with_reducible refine at_load 45 ?_); refine wpList_cell_h (v := .int .i64 y) rfl O 0 rfl (show (M.mat 7 (WD.wn x y))[1]? = _ from rfl) rfl agg3 rfl ?_) | ((with_reducible refine at_index_ 48 ?_); refine wpList_ino rfl Try.underlying45 sizeOfi8 (by decide) (1) rfl rfl (by rfl) (by omega) ?_) | ((with_reducible refine at_load 49 ?_); refine wpList_cell_h (v := .int .i8 d1) rfl O 1 rfl (i := 3) rfl rfl aggi8 rfl ?_) | ((with_reducible refine at_build 53 ?_); refine wpList_build_g rfl ([(0, .int .i64 c0), (1, .int .i64 c1)]) ((M.mat 7 (WD.wn c0 c1)).toArray) ?_ (builtW17 _ _) ?_; (focus (simp only [List.map_toArray, List.map_cons, List.map_nil]; rfl))) | ((with_reducible refine at_alloc 7 ?_); refine wpList_alloc_h O (M.mat 7 M.zero) zeroW17 ?_; clear O; intro g7 w6 O) | ((with_reducible refine at_store 7 ?_); refine wpList_put_h O 0 (M.mat 7 (WD.wn c0 c1)) rfl rfl rfl (sW _) (M.mat_len2 _ _ _) (M.mat_one _ _) ?_; clear O; intro w7 O) | ((with_reducible refine at_load 55 ?_); refine wpList_cell_h (v := .int .i64 c0) rfl O 0 rfl (show (M.mat 7 (WD.wn c0 c1))[0]? = _ from rfl) rfl agg3 rfl ?_) | ((with_reducible refine at_index_ 58 ?_); refine wpList_ino rfl Try.underlying45 sizeOfi8 (by decide) (0) rfl rfl (by rfl) (by omega) ?_) | ((with_reducible refine at_load 59 ?_); refine wpList_cell_h (v := .int .i8 d0) rfl O 2 rfl (i := 2) rfl rfl aggi8 rfl ?_) | ((with_reducible refine at_load 64 ?_); refine wpList_cell_h (v := .int .i64 c1) rfl O 0 rfl (show (M.mat 7 (WD.wn c0 c1))[1]? = _ from rfl) rfl agg3 rfl ?_) | ((with_reducible refine at_index_ 67 ?_); refine wpList_ino rfl Try.underlying45 sizeOfi8 (by decide) (1) rfl rfl (by rfl) (by omega) ?_) | ((with_reducible refine at_load 68 ?_); refine wpList_cell_h (v := .int .i8 d1) rfl O 2 rfl (i := 3) rfl rfl aggi8 rfl ?_) | ((with_reducible refine at_build 72 ?_); refine wpList_build_g rfl ([(0, .int .i64 b0), (1, .int .i64 b1)]) ((M.mat 7 (WD.wn b0 b1)).toArray) ?_ (builtW17 _ _) ?_; (focus (simp only [List.map_toArray, List.map_cons, List.map_nil]; rfl))) | ((with_reducible refine at_alloc 8 ?_); refine wpList_alloc_h O (M.mat 7 M.zero) zeroW17 ?_; clear O; intro g8 w8 O) | ((with_reducible refine at_store 8 ?_); refine wpList_put_h O 0 (M.mat 7 (WD.wn b0 b1)) rfl rfl rfl (sW _) (M.mat_len2 _ _ _) (M.mat_one _ _) ?_; clear O; intro w9 O))
  clear W1 W2 W3 W4 W5 W6 W7 W8 W9 W10 W11 W12
  have OX : Held w w9 [(g8, 25, M.mat 7 (WD.wn b0 b1)), (g7, 25, M.mat 7 (WD.wn c0 c1)), (g6, 25, M.mat 7 (WD.wn x y)), (g1, 48, pk x y d0 d1 m k u p q)] nilRow [] := O
  clear O
  have O := OX
  clear OX
  refine region_T ((fun w2 => Held w w2 [(g8, 25, M.mat 7 (WD.wn b0 b1)), (g7, 25, M.mat 7 (WD.wn c0 c1)), (g6, 25, M.mat 7 (WD.wn x y)), (g1, 48, pk x y d0 d1 m k u p q)] nilRow [])) [0, 1, 2, 3, 4, 5, 6, 7, 8] 12 [some 73, some 74, some 75, some 76, some 77, some 78, some 79, some 80, some 9] [.pointer (some ⟨g1, 7, none⟩), .pointer (some ⟨g1, 7, none⟩), .int .i8 p, .int .i64 (p), .pointer (some ⟨g1, 7, none⟩), .pointer (some ⟨g1, 8, none⟩), .int .i8 q, .int .i64 (q), .int .i64 (p)] 1 (by kernel_rfl) (by rfl) (by kernel_rfl) (by rfl) (by rfl) (O.drew) (fun F hF => ?_)
  simp only [fillD, Act.put, List.setIfInBounds_toArray, List.set_cons_zero, List.set_cons_succ] at hF
  subst hF
  refine ⟨⟨does_want rfl (by rfl) (fun w' O K hK => ?_), does_want rfl (by rfl) (fun w' O K hK => ?_), does_want rfl (by rfl) (fun w' O K hK => ?_), does_want rfl (by rfl) (fun w' O K hK => ?_), does_want rfl (by rfl) (fun w' O K hK => ?_), does_want rfl (by rfl) (fun w' O K hK => ?_), does_want rfl (by rfl) (fun w' O K hK => ?_), does_want rfl (by rfl) (fun w' O K hK => ?_), does_want rfl (by rfl) (fun w' O K hK => ?_), trivial⟩, fun w' O => ?_⟩
  · go_simp
    exact hK _ O
  · first | (go_simp; exact hK _ O) | exact wp_ino Try.underlying45 sizeOfi8 (by decide) 0 rfl rfl (by omega) (by omega) (hK _ O)
  · exact wp_cell_h (v := .int .i8 p) O 3 (i := 7) rfl rfl rfl aggi8 rfl (hK _ O)
  · go_simp
    first | exact hK _ O | (simp only [Hp.out]; exact hK _ O)
  · go_simp
    exact hK _ O
  · first | (go_simp; exact hK _ O) | exact wp_ino Try.underlying45 sizeOfi8 (by decide) 1 rfl rfl (by omega) (by omega) (hK _ O)
  · exact wp_cell_h (v := .int .i8 q) O 3 (i := 8) rfl rfl rfl aggi8 rfl (hK _ O)
  · go_simp
    first | exact hK _ O | (simp only [Hq.out]; exact hK _ O)
  · go_simp
    exact hK _ O
  refine wpAny_one (i := 9) (by kernel_rfl) rfl (fun K hK => ?_)
  go_simp
  refine hK _ _ ?_
  clear hK K
  try simp only [Act.put, List.setIfInBounds_toArray, List.set_cons_zero, List.set_cons_succ]
  refine wpAny_done (by kernel_rfl) ?_ _
  go_wp2_with fail
  have OO := O
  clear O
  have O := OO
  clear OO
  refine region_T ((fun w2 => Held w w2 [(g8, 25, M.mat 7 (WD.wn b0 b1)), (g7, 25, M.mat 7 (WD.wn c0 c1)), (g6, 25, M.mat 7 (WD.wn x y)), (g1, 48, pk x y d0 d1 m k u p q)] nilRow [])) [0, 1, 2, 3, 4, 5, 6, 7, 8, 9, 10, 11, 12, 13, 14, 15, 16, 17, 18, 19, 20, 21, 22] 12 [some 81, some 82, some 83, some 84, some 85, some 86, some 87, some 88, some 89, some 90, some 91, some 92, some 93, some 94, some 95, some 96, some 97, some 98, some 99, some 100, some 101, some 102, some 103] [.bool true, .bool true, arr 7 (WD.wn x y), arr 7 (WD.wn b0 b1), .int .i64 (n), .int .i64 (p), .int .i64 (q), .int .i64 (V), arr 7 (WD.wn x y), arr 7 (WD.wn c0 c1), .int .i64 (n), .int .i64 (p), .int .i64 (q), .int .i64 (V2), arr 7 (WD.wn c0 c1), arr 7 (WD.wn b0 b1), .int .i64 (n), .int .i64 (p), .int .i64 (q), .int .i64 (V3), .int .i64 (V), .bool true, .bool true] 1 (by kernel_rfl) (by rfl) (by kernel_rfl) (by rfl) (by rfl) (O.drew) (fun F hF => ?_)
  simp only [fillD, Act.put, List.setIfInBounds_toArray, List.set_cons_zero, List.set_cons_succ] at hF
  subst hF
  refine ⟨⟨does_want rfl (by rfl) (fun w' O K hK => ?_), does_want rfl (by rfl) (fun w' O K hK => ?_), does_want rfl (by rfl) (fun w' O K hK => ?_), does_want rfl (by rfl) (fun w' O K hK => ?_), does_want rfl (by rfl) (fun w' O K hK => ?_), does_want rfl (by rfl) (fun w' O K hK => ?_), does_want rfl (by rfl) (fun w' O K hK => ?_), does_want rfl (by rfl) (fun w' O K hK => ?_), does_want rfl (by rfl) (fun w' O K hK => ?_), does_want rfl (by rfl) (fun w' O K hK => ?_), does_want rfl (by rfl) (fun w' O K hK => ?_), does_want rfl (by rfl) (fun w' O K hK => ?_), does_want rfl (by rfl) (fun w' O K hK => ?_), does_want rfl (by rfl) (fun w' O K hK => ?_), does_want rfl (by rfl) (fun w' O K hK => ?_), does_want rfl (by rfl) (fun w' O K hK => ?_), does_want rfl (by rfl) (fun w' O K hK => ?_), does_want rfl (by rfl) (fun w' O K hK => ?_), does_want rfl (by rfl) (fun w' O K hK => ?_), does_want rfl (by rfl) (fun w' O K hK => ?_), does_want rfl (by rfl) (fun w' O K hK => ?_), does_want rfl (by rfl) (fun w' O K hK => ?_), does_want rfl (by rfl) (fun w' O K hK => ?_), trivial⟩, fun w' O => ?_⟩
  · go_simp
    go_at_call 9
    refine (awake_any _).mono ?_
    rintro e w2 ⟨rfl, hb⟩
    exact hK _ (O.call hb)
  · go_simp
    exact hK _ O
  · exact wp_row_h O 2 rfl rfl Try.underlying25 rfl (sW _) (hK _ O)
  · exact wp_row_h O 0 rfl rfl Try.underlying25 rfl (sW _) (hK _ O)
  · go_simp
    exact hK _ O
  · go_simp
    exact hK _ O
  · go_simp
    exact hK _ O
  · go_simp
    go_at_call 15
    refine (C1 _).mono ?_
    rintro e w2 ⟨rfl, hb⟩
    exact hK _ (O.call hb)
  · exact wp_row_h O 2 rfl rfl Try.underlying25 rfl (sW _) (hK _ O)
  · exact wp_row_h O 1 rfl rfl Try.underlying25 rfl (sW _) (hK _ O)
  · go_simp
    exact hK _ O
  · go_simp
    exact hK _ O
  · go_simp
    exact hK _ O
  · go_simp
    go_at_call 15
    refine (C2 _).mono ?_
    rintro e w2 ⟨rfl, hb⟩
    exact hK _ (O.call hb)
  · exact wp_row_h O 1 rfl rfl Try.underlying25 rfl (sW _) (hK _ O)
  · exact wp_row_h O 0 rfl rfl Try.underlying25 rfl (sW _) (hK _ O)
  · go_simp
    exact hK _ O
  · go_simp
    exact hK _ O
  · go_simp
    exact hK _ O
  · go_simp
    go_at_call 15
    refine (C3 _).mono ?_
    rintro e w2 ⟨rfl, hb⟩
    exact hK _ (O.call hb)
  · go_simp
    simp only [HV.out]
    exact hK _ O
  · go_simp
    first | exact hK _ O | (simp only [beq_self_eq_true]; exact hK _ O) | (simp; exact hK _ O)
  · go_simp
    exact hK _ O
  refine wpAny_one (i := 23) (by kernel_rfl) rfl (fun K hK => ?_)
  go_simp
  refine hK _ _ ?_
  clear hK K
  try simp only [Act.put, List.setIfInBounds_toArray, List.set_cons_zero, List.set_cons_succ]
  refine wpAny_done (by kernel_rfl) ?_ _
  go_wp2_with fail
  go_ret
  exact ⟨rfl, O.below⟩

theorem readable : ∀ t ∈ Try.f5.params.toList, Try.prog.readableRec t = true ∧ t < Try.prog.types.size := by
  intro t ht
  rw [Try.params5] at ht
  simp only [List.mem_cons, List.not_mem_nil, or_false] at ht
  repeat (first | (rcases ht with rfl | ht; exact ⟨by kernel_rfl, of_decide_eq_true (by kernel_rfl)⟩) | (subst ht; exact ⟨by kernel_rfl, of_decide_eq_true (by kernel_rfl)⟩))
set_option maxRecDepth 100000 in
theorem lifted (os : Os) (started : os.Started) (H : Type) (enc : TypeId × Value → H) :
    ReturnsInHanded {} Try.checked os 5 .any (Rows.smoothPartsSpec.pre6 enc Try.prog Try.f5 Rows.smoothPartsRow.domain false) (Rows.smoothPartsSpec.post enc Try.prog Try.f5 false true false false) := by
  refine returnsInHanded_of_change (C := Try.checked) own started (by kernel_rfl) Try.func5
    (ChangeSpec.witness6 (enc := enc) (C := Try.checked) false ⟨#[], #[.agg #[.int .i16 0, .int .i16 0, .int .i8 0, .int .i8 0, .int .u8 0, .int .u8 0, .int .u8 0, .int .i8 0, .int .i8 0]], []⟩ 8 (by kernel_rfl) (by kernel_rfl) (by kernel_rfl) (by kernel_rfl)) ?_
  intro W base args ds gs before hval0 hW hcnd _
  have hval : ∀ (j : Nat) t v, Try.f5.params[j]? = some t → args[j]? = some v → Value.okWide Try.prog W .any base t v := hval0
  have hW' := hW
  obtain ⟨p, q, hA0, hV, rfl, hfz, hnd⟩ := hW
  have hA : DataW.TrodAll enc Try.prog W 0 (fun _ => true) true Try.f5.params.toList args.toList ds p := hA0
  rw [Try.params5] at hA hval
  have hlt : ∀ x ∈ p ++ q, x.block < W.heap.size := fun x hx => hW'.lt x hx
  obtain ⟨v0, vs0, d0, ds0, p0, q0, hargs, rfl, rfl, h0, rr0⟩ := trodAll_cons hA
  obtain ⟨rfl, rfl, rfl⟩ := trodAll_nil rr0
  obtain rfl : args = #[v0] := by cases args; simp_all
  obtain ⟨rfl, rfl⟩ := trodVars_none hV
  obtain ⟨x0, y0, f0, g0, m0, k0, u0, e0, s0, rfl, z0⟩ := openSParts (hval 0 48 v0 rfl rfl) h0
  clear hA0 hval0
  refine (walk W x0 y0 f0 g0 m0 k0 u0 e0 s0 z0).mono fun e W' ⟨he, hg⟩ => ?_
  subst he
  exact ⟨_, rfl, post_true (tb := 4) laid readable (by kernel_rfl) Try.underlying4 rfl (fun l hl => by
    match l, hl with
    | [_], _ => exact ⟨rfl, rfl, rfl⟩) hW' hg⟩

theorem over : Rows.smoothPartsRow.holds Try.pinned (OpenSpec.ofChange Rows.smoothPartsSpec) :=
  OpenClaim.holds_of_wide 5 Try.f5 rfl rfl rfl rfl rfl rfl rfl ⟨rfl, rfl, rfl, rfl, rfl⟩ rfl rfl rfl rfl rfl (by kernel_rfl) Try.func5 (by kernel_rfl)
    (of_decide_eq_true (by kernel_rfl)) (by unfold Func.isWrapper; first | (rw [if_pos (by decide +kernel)]; kernel_rfl) | (rw [if_neg (by decide +kernel)]; exact ⟨rfl, rfl⟩))
    (fun os started H enc _ => lifted os started H enc)

theorem proved : Rows.SmoothPartsSaid :=
  over
#print axioms proved
end Go.Proofs.Ytdkppkdoconfhaa.smoothParts
