/- Contracts: the document's Area, left, Has. -/
import Derived.Test.YtndaijcgjhmiaaaJs
import Derived.Test.YtndaijcgjhmiaaaTy
namespace Go.Proofs.Ytndaijcgjhmiaaa
open Go.ChangeShapes Go.WideShapes Go.ChangeAt Go.RowKit
set_option linter.unusedVariables false
set_option linter.unusedSimpArgs false

theorem TR.mul_lim {x y A B : Int} (hx : -A ≤ x ∧ x ≤ A) (hy : -B ≤ y ∧ y ≤ B) : -(A * B) ≤ x * y ∧ x * y ≤ A * B := M.mul_hi hx.1 hx.2 hy.1 hy.2
/-- Corners so near that nothing runs over. -/
def TR.Near (a b c : Nat → Int) : Prop := ((-2000000000 ≤ b 0 - a 0 ∧ b 0 - a 0 ≤ 2000000000) ∧ (-2000000000 ≤ c 1 - a 1 ∧ c 1 - a 1 ≤ 2000000000)) ∧ ((-2000000000 ≤ b 1 - a 1 ∧ b 1 - a 1 ≤ 2000000000) ∧ (-2000000000 ≤ c 0 - a 0 ∧ c 0 - a 0 ≤ 2000000000))
theorem TR.near_may {a b c : Nat → Int} (ha : TR.May a) (hb : TR.May b) (hc : TR.May c) : TR.Near a b c := by
  obtain ⟨⟨h1, h2⟩, h3, h4⟩ := ha
  obtain ⟨⟨h5, h6⟩, h7, h8⟩ := hb
  obtain ⟨⟨h9, h10⟩, h11, h12⟩ := hc
  unfold TR.Near
  omega
theorem TR.near_mid {p q : Nat → Int} (hp : TR.May p) (hq : TR.May q) {x y : Int} (hx : -4194304 ≤ x ∧ x ≤ 4194304) (hy : -4194304 ≤ y ∧ y ≤ 4194304) : TR.Near p q (TR.mid x y) := by
  obtain ⟨⟨h1, h2⟩, h3, h4⟩ := hp
  obtain ⟨⟨h5, h6⟩, h7, h8⟩ := hq
  show ((-2000000000 ≤ q 0 - p 0 ∧ q 0 - p 0 ≤ 2000000000) ∧ (-2000000000 ≤ (256 * y + 128) - p 1 ∧ (256 * y + 128) - p 1 ≤ 2000000000)) ∧ ((-2000000000 ≤ q 1 - p 1 ∧ q 1 - p 1 ≤ 2000000000) ∧ (-2000000000 ≤ (256 * x + 128) - p 0 ∧ (256 * x + 128) - p 0 ≤ 2000000000))
  omega
set_option maxHeartbeats 4000000 in
theorem rarea20 (a b c : Nat → Int) (h : TR.Near a b c) (w : World) : Calls Try.prog 16 #[arr 7 a, arr 7 b, arr 7 c] w fun e w' => e = .returned (.int .i64 (TR.ar a b c)) ∧ Below w.heap.size w w' := by
  have O := Own.start w
  obtain ⟨⟨h1, h2⟩, h3, h4⟩ := h
  have HE : TR.ar a b c = (b 0 - a 0) * (c 1 - a 1) - (b 1 - a 1) * (c 0 - a 0) := rfl
  obtain ⟨a0, ea0⟩ : ∃ z, a 0 = z := ⟨_, rfl⟩
  have Ca0 := cell_is (n := 7) ea0 (by decide)
  obtain ⟨a1, ea1⟩ : ∃ z, a 1 = z := ⟨_, rfl⟩
  have Ca1 := cell_is (n := 7) ea1 (by decide)
  obtain ⟨b0, eb0⟩ : ∃ z, b 0 = z := ⟨_, rfl⟩
  have Cb0 := cell_is (n := 7) eb0 (by decide)
  obtain ⟨b1, eb1⟩ : ∃ z, b 1 = z := ⟨_, rfl⟩
  have Cb1 := cell_is (n := 7) eb1 (by decide)
  obtain ⟨c0, ec0⟩ : ∃ z, c 0 = z := ⟨_, rfl⟩
  have Cc0 := cell_is (n := 7) ec0 (by decide)
  obtain ⟨c1, ec1⟩ : ∃ z, c 1 = z := ⟨_, rfl⟩
  have Cc1 := cell_is (n := 7) ec1 (by decide)
  rw [ea0, ea1, eb0, eb1, ec0, ec1] at HE
  rw [ea0, eb0] at h1
  rw [ea1, ec1] at h2
  rw [ea1, eb1] at h3
  rw [ea0, ec0] at h4
  obtain ⟨d0, hd0⟩ : ∃ z, b0 - a0 = z := ⟨_, rfl⟩
  obtain ⟨d1, hd1⟩ : ∃ z, c1 - a1 = z := ⟨_, rfl⟩
  obtain ⟨d2, hd2⟩ : ∃ z, b1 - a1 = z := ⟨_, rfl⟩
  obtain ⟨d3, hd3⟩ : ∃ z, c0 - a0 = z := ⟨_, rfl⟩
  rw [hd0, hd1, hd2, hd3] at HE
  rw [hd0] at h1
  rw [hd1] at h2
  rw [hd2] at h3
  rw [hd3] at h4
  have m1 := TR.mul_lim h1 h2
  have m2 := TR.mul_lim h3 h4
  obtain ⟨m, hm⟩ : ∃ z, d0 * d1 = z := ⟨_, rfl⟩
  obtain ⟨n, hn⟩ : ∃ z, d2 * d3 = z := ⟨_, rfl⟩
  obtain ⟨r, hr⟩ : ∃ z, m - n = z := ⟨_, rfl⟩
  rw [hm, hn, hr] at HE
  rw [hm] at m1
  rw [hn] at m2
  have W0 : wrap64 (b0 - a0) = d0 := (IntWalk.wrap64_in _ (by omega)).trans hd0
  have W1 : wrap64 (c1 - a1) = d1 := (IntWalk.wrap64_in _ (by omega)).trans hd1
  have W2 : wrap64 (b1 - a1) = d2 := (IntWalk.wrap64_in _ (by omega)).trans hd2
  have W3 : wrap64 (c0 - a0) = d3 := (IntWalk.wrap64_in _ (by omega)).trans hd3
  have W4 : wrap64 (d0 * d1) = m := (IntWalk.wrap64_in _ (by omega)).trans hm
  have W5 : wrap64 (d2 * d3) = n := (IntWalk.wrap64_in _ (by omega)).trans hn
  have W6 : wrap64 (m - n) = r := (IntWalk.wrap64_in _ (by omega)).trans hr
  replace HE := Lib.hid HE
  clear ea0 ea1 eb0 eb1 ec0 ec1 hd0 hd1 hd2 hd3 hm hn hr h1 h2 h3 h4 m1 m2
  go_enter Try.func16, Try.ntmps16
  go_wp2_with (first | ((with_reducible refine at_box 3 ?_); refine wpList_box_own O (M.mat 7 (a)) rfl ?_; clear O; intro g3 w1 O) | ((with_reducible refine at_box 4 ?_); refine wpList_box_own O (M.mat 7 (b)) rfl ?_; clear O; intro g4 w2 O) | ((with_reducible refine at_box 5 ?_); refine wpList_box_own O (M.mat 7 (c)) rfl ?_; clear O; intro g5 w3 O) | ((with_reducible refine at_load 8 ?_); refine wpList_cell_h (v := .int .i64 (b0)) rfl O.held 1 rfl Cb0.out rfl agg3 rfl ?_) | ((with_reducible refine at_load 10 ?_); refine wpList_cell_h (v := .int .i64 (a0)) rfl O.held 2 rfl Ca0.out rfl agg3 rfl ?_) | ((with_reducible refine at_load 13 ?_); refine wpList_cell_h (v := .int .i64 (c1)) rfl O.held 0 rfl Cc1.out rfl agg3 rfl ?_) | ((with_reducible refine at_load 15 ?_); refine wpList_cell_h (v := .int .i64 (a1)) rfl O.held 2 rfl Ca1.out rfl agg3 rfl ?_) | ((with_reducible refine at_load 19 ?_); refine wpList_cell_h (v := .int .i64 (b1)) rfl O.held 1 rfl Cb1.out rfl agg3 rfl ?_) | ((with_reducible refine at_load 21 ?_); refine wpList_cell_h (v := .int .i64 (a1)) rfl O.held 2 rfl Ca1.out rfl agg3 rfl ?_) | ((with_reducible refine at_load 24 ?_); refine wpList_cell_h (v := .int .i64 (c0)) rfl O.held 0 rfl Cc0.out rfl agg3 rfl ?_) | ((with_reducible refine at_load 26 ?_); refine wpList_cell_h (v := .int .i64 (a0)) rfl O.held 2 rfl Ca0.out rfl agg3 rfl ?_))
  go_ret
  exact ⟨by rw [HE.out]; first | rfl | exact congrArg (fun z => Ending.returned (Value.int IntKind.i64 z)) W6, O.below⟩
set_option maxHeartbeats 8000000 in
theorem rleft20 (p q : Nat → Int) (hp : TR.May p) (hq : TR.May q) (x y : Int) (hx : -4194304 ≤ x ∧ x ≤ 4194304) (hy : -4194304 ≤ y ∧ y ≤ 4194304) (w : World) : Calls Try.prog 26 #[arr 7 p, arr 7 q, .int .i64 x, .int .i64 y] w fun e w' => e = .returned (.bool (TR.left p q x y)) ∧ Below w.heap.size w w' := by
  have O := Own.start w
  have CA := fun w => rarea20 p q (TR.mid x y) (TR.near_mid hp hq hx hy) w
  have HE : TR.left p q x y = (decide (0 < TR.ar p q (TR.mid x y)) || (decide (TR.ar p q (TR.mid x y) = 0) && (decide (q 1 < p 1) || (decide (q 1 = p 1) && decide (q 0 < p 0))))) := rfl
  have HM : TR.mid x y = TR.wn (256 * x + 128) (256 * y + 128) := rfl
  obtain ⟨n, hn⟩ : ∃ z, TR.ar p q (TR.mid x y) = z := ⟨_, rfl⟩
  rw [hn] at CA HE
  rw [HM] at CA
  clear HM hn hp hq
  obtain ⟨p0, ep0⟩ : ∃ z, p 0 = z := ⟨_, rfl⟩
  have Cp0 := cell_is (n := 7) ep0 (by decide)
  obtain ⟨p1, ep1⟩ : ∃ z, p 1 = z := ⟨_, rfl⟩
  have Cp1 := cell_is (n := 7) ep1 (by decide)
  obtain ⟨q0, eq0⟩ : ∃ z, q 0 = z := ⟨_, rfl⟩
  have Cq0 := cell_is (n := 7) eq0 (by decide)
  obtain ⟨q1, eq1⟩ : ∃ z, q 1 = z := ⟨_, rfl⟩
  have Cq1 := cell_is (n := 7) eq1 (by decide)
  rw [ep0, ep1, eq0, eq1] at HE
  obtain ⟨x1, hx1⟩ : ∃ z, 256 * x = z := ⟨_, rfl⟩
  obtain ⟨x2, hx2⟩ : ∃ z, x1 + 128 = z := ⟨_, rfl⟩
  obtain ⟨y1, hy1⟩ : ∃ z, 256 * y = z := ⟨_, rfl⟩
  obtain ⟨y2, hy2⟩ : ∃ z, y1 + 128 = z := ⟨_, rfl⟩
  rw [hx1, hx2, hy1, hy2] at CA
  have W1 : wrap64 (256 * x) = x1 := (IntWalk.wrap64_in _ (by omega)).trans hx1
  have W2 : wrap64 (x1 + 128) = x2 := (IntWalk.wrap64_in _ (by omega)).trans hx2
  have W3 : wrap64 (256 * y) = y1 := (IntWalk.wrap64_in _ (by omega)).trans hy1
  have W4 : wrap64 (y1 + 128) = y2 := (IntWalk.wrap64_in _ (by omega)).trans hy2
  clear ep0 ep1 eq0 eq1 hx1 hx2 hy1 hy2 hx hy
  have g1 : decide (n > 0) = decide (0 < n) := rfl
  have g2 : (n == 0) = decide (n = 0) := rfl
  have g4 : (q1 == p1) = decide (q1 = p1) := rfl
  cases z1 : decide (0 < n)
  · rw [z1] at HE g1
    cases z2 : decide (n = 0)
    · rw [z2] at HE g2
      replace HE := Lib.hid HE
      go_enter Try.func26, Try.ntmps26
      go_wp2_with (first | ((with_reducible refine at_box 4 ?_); refine wpList_box_own O (M.mat 7 (p)) rfl ?_; clear O; intro g4 w1 O) | ((with_reducible refine at_box 5 ?_); refine wpList_box_own O (M.mat 7 (q)) rfl ?_; clear O; intro g5 w2 O) | ((with_reducible refine at_load 10 ?_); refine wpList_whole rfl O 1 rfl rfl Try.underlying34 rfl (sW _) ?_) | ((with_reducible refine at_load 11 ?_); refine wpList_whole rfl O 0 rfl rfl Try.underlying34 rfl (sW _) ?_) | ((with_reducible refine at_build 18 ?_); refine wpList_build_g rfl ([(0, .int .i64 x2), (1, .int .i64 y2)]) ((M.mat 7 (TR.wn x2 y2)).toArray) ?_ (builtW20 _ _) ?_; (focus (simp only [List.map_toArray, List.map_cons, List.map_nil]; rfl))) | (go_at_call 16; refine (CA _).mono ?_; rintro e w3 ⟨rfl, hb⟩; replace O := O.call hb; clear hb))
      go_ret
      exact ⟨by rw [HE.out]; rfl, O.below⟩
    · rw [z2] at HE g2
      cases z3 : decide (q1 < p1)
      · rw [z3] at HE
        cases z4 : decide (q1 = p1)
        · rw [z4] at HE g4
          replace HE := Lib.hid HE
          go_enter Try.func26, Try.ntmps26
          go_wp2_with (first | ((with_reducible refine at_box 4 ?_); refine wpList_box_own O (M.mat 7 (p)) rfl ?_; clear O; intro g4 w1 O) | ((with_reducible refine at_box 5 ?_); refine wpList_box_own O (M.mat 7 (q)) rfl ?_; clear O; intro g5 w2 O) | ((with_reducible refine at_load 10 ?_); refine wpList_whole rfl O 1 rfl rfl Try.underlying34 rfl (sW _) ?_) | ((with_reducible refine at_load 11 ?_); refine wpList_whole rfl O 0 rfl rfl Try.underlying34 rfl (sW _) ?_) | ((with_reducible refine at_build 18 ?_); refine wpList_build_g rfl ([(0, .int .i64 x2), (1, .int .i64 y2)]) ((M.mat 7 (TR.wn x2 y2)).toArray) ?_ (builtW20 _ _) ?_; (focus (simp only [List.map_toArray, List.map_cons, List.map_nil]; rfl))) | (go_at_call 16; refine (CA _).mono ?_; rintro e w3 ⟨rfl, hb⟩; replace O := O.call hb; clear hb) | ((with_reducible refine at_load 27 ?_); refine wpList_cell_h (v := .int .i64 (q1)) rfl O.held 0 rfl Cq1.out rfl agg3 rfl ?_) | ((with_reducible refine at_load 29 ?_); refine wpList_cell_h (v := .int .i64 (p1)) rfl O.held 1 rfl Cp1.out rfl agg3 rfl ?_) | ((with_reducible refine at_load 33 ?_); refine wpList_cell_h (v := .int .i64 (q1)) rfl O.held 0 rfl Cq1.out rfl agg3 rfl ?_) | ((with_reducible refine at_load 35 ?_); refine wpList_cell_h (v := .int .i64 (p1)) rfl O.held 1 rfl Cp1.out rfl agg3 rfl ?_))
          go_ret
          exact ⟨by rw [HE.out]; rfl, O.below⟩
        · rw [z4] at HE g4
          cases z5 : decide (q0 < p0)
          all_goals
            rw [z5] at HE
            replace HE := Lib.hid HE
            go_enter Try.func26, Try.ntmps26
            go_wp2_with (first | ((with_reducible refine at_box 4 ?_); refine wpList_box_own O (M.mat 7 (p)) rfl ?_; clear O; intro g4 w1 O) | ((with_reducible refine at_box 5 ?_); refine wpList_box_own O (M.mat 7 (q)) rfl ?_; clear O; intro g5 w2 O) | ((with_reducible refine at_load 10 ?_); refine wpList_whole rfl O 1 rfl rfl Try.underlying34 rfl (sW _) ?_) | ((with_reducible refine at_load 11 ?_); refine wpList_whole rfl O 0 rfl rfl Try.underlying34 rfl (sW _) ?_) | ((with_reducible refine at_build 18 ?_); refine wpList_build_g rfl ([(0, .int .i64 x2), (1, .int .i64 y2)]) ((M.mat 7 (TR.wn x2 y2)).toArray) ?_ (builtW20 _ _) ?_; (focus (simp only [List.map_toArray, List.map_cons, List.map_nil]; rfl))) | (go_at_call 16; refine (CA _).mono ?_; rintro e w3 ⟨rfl, hb⟩; replace O := O.call hb; clear hb) | ((with_reducible refine at_load 27 ?_); refine wpList_cell_h (v := .int .i64 (q1)) rfl O.held 0 rfl Cq1.out rfl agg3 rfl ?_) | ((with_reducible refine at_load 29 ?_); refine wpList_cell_h (v := .int .i64 (p1)) rfl O.held 1 rfl Cp1.out rfl agg3 rfl ?_) | ((with_reducible refine at_load 33 ?_); refine wpList_cell_h (v := .int .i64 (q1)) rfl O.held 0 rfl Cq1.out rfl agg3 rfl ?_) | ((with_reducible refine at_load 35 ?_); refine wpList_cell_h (v := .int .i64 (p1)) rfl O.held 1 rfl Cp1.out rfl agg3 rfl ?_) | ((with_reducible refine at_load 39 ?_); refine wpList_cell_h (v := .int .i64 (q0)) rfl O.held 0 rfl Cq0.out rfl agg3 rfl ?_) | ((with_reducible refine at_load 41 ?_); refine wpList_cell_h (v := .int .i64 (p0)) rfl O.held 1 rfl Cp0.out rfl agg3 rfl ?_))
            go_ret
            exact ⟨by rw [HE.out]; rfl, O.below⟩
      · rw [z3] at HE
        replace HE := Lib.hid HE
        go_enter Try.func26, Try.ntmps26
        go_wp2_with (first | ((with_reducible refine at_box 4 ?_); refine wpList_box_own O (M.mat 7 (p)) rfl ?_; clear O; intro g4 w1 O) | ((with_reducible refine at_box 5 ?_); refine wpList_box_own O (M.mat 7 (q)) rfl ?_; clear O; intro g5 w2 O) | ((with_reducible refine at_load 10 ?_); refine wpList_whole rfl O 1 rfl rfl Try.underlying34 rfl (sW _) ?_) | ((with_reducible refine at_load 11 ?_); refine wpList_whole rfl O 0 rfl rfl Try.underlying34 rfl (sW _) ?_) | ((with_reducible refine at_build 18 ?_); refine wpList_build_g rfl ([(0, .int .i64 x2), (1, .int .i64 y2)]) ((M.mat 7 (TR.wn x2 y2)).toArray) ?_ (builtW20 _ _) ?_; (focus (simp only [List.map_toArray, List.map_cons, List.map_nil]; rfl))) | (go_at_call 16; refine (CA _).mono ?_; rintro e w3 ⟨rfl, hb⟩; replace O := O.call hb; clear hb) | ((with_reducible refine at_load 27 ?_); refine wpList_cell_h (v := .int .i64 (q1)) rfl O.held 0 rfl Cq1.out rfl agg3 rfl ?_) | ((with_reducible refine at_load 29 ?_); refine wpList_cell_h (v := .int .i64 (p1)) rfl O.held 1 rfl Cp1.out rfl agg3 rfl ?_))
        go_ret
        exact ⟨by rw [HE.out]; rfl, O.below⟩
  · rw [z1] at HE g1
    replace HE := Lib.hid HE
    go_enter Try.func26, Try.ntmps26
    go_wp2_with (first | ((with_reducible refine at_box 4 ?_); refine wpList_box_own O (M.mat 7 (p)) rfl ?_; clear O; intro g4 w1 O) | ((with_reducible refine at_box 5 ?_); refine wpList_box_own O (M.mat 7 (q)) rfl ?_; clear O; intro g5 w2 O) | ((with_reducible refine at_load 10 ?_); refine wpList_whole rfl O 1 rfl rfl Try.underlying34 rfl (sW _) ?_) | ((with_reducible refine at_load 11 ?_); refine wpList_whole rfl O 0 rfl rfl Try.underlying34 rfl (sW _) ?_) | ((with_reducible refine at_build 18 ?_); refine wpList_build_g rfl ([(0, .int .i64 x2), (1, .int .i64 y2)]) ((M.mat 7 (TR.wn x2 y2)).toArray) ?_ (builtW20 _ _) ?_; (focus (simp only [List.map_toArray, List.map_cons, List.map_nil]; rfl))) | (go_at_call 16; refine (CA _).mono ?_; rintro e w3 ⟨rfl, hb⟩; replace O := O.call hb; clear hb))
    go_ret
    exact ⟨by rw [HE.out]; rfl, O.below⟩
set_option maxHeartbeats 16000000 in
theorem rhas20 (a b c : Nat → Int) (ha : TR.May a) (hb : TR.May b) (hc : TR.May c) (x y : Int) (hx : -4194304 ≤ x ∧ x ≤ 4194304) (hy : -4194304 ≤ y ∧ y ≤ 4194304) (w : World) : Calls Try.prog 18 #[arr 7 a, arr 7 b, arr 7 c, .int .i64 x, .int .i64 y] w fun e w' => e = .returned (.bool (TR.has a b c x y)) ∧ Below w.heap.size w w' := by
  have O := Own.start w
  have CA := fun w => rarea20 a b c (TR.near_may ha hb hc) w
  have HE : TR.has a b c x y = if TR.ar a b c < 0 then (TR.left a c x y && (TR.left c b x y && TR.left b a x y)) else (decide (TR.ar a b c ≠ 0) && (TR.left a b x y && (TR.left b c x y && TR.left c a x y))) := rfl
  by_cases hneg : TR.ar a b c < 0
  · rw [if_pos hneg] at HE
    have C1 := fun w => rleft20 a c ha hc x y hx hy w
    have C2 := fun w => rleft20 c b hc hb x y hx hy w
    have C3 := fun w => rleft20 b a hb ha x y hx hy w
    clear ha hb hc hx hy
    generalize TR.ar a b c = n at *
    have K1 : decide (n < 0) = true := decide_eq_true hneg
    have K2 : (n != 0) = true := by simp; omega
    clear hneg
    generalize TR.left a c x y = l1 at *
    generalize TR.left c b x y = l2 at *
    generalize TR.left b a x y = l3 at *
    replace HE := Lib.hid HE
    have t0 : True := trivial
    cases l1
    · go_enter Try.func18, Try.ntmps18
      go_wp2_with (first | ((with_reducible refine at_box 5 ?_); refine wpList_box_own O (M.mat 7 (a)) rfl ?_; clear O; intro g5 w1 O) | ((with_reducible refine at_box 6 ?_); refine wpList_box_own O (M.mat 7 (b)) rfl ?_; clear O; intro g6 w2 O) | ((with_reducible refine at_box 7 ?_); refine wpList_box_own O (M.mat 7 (c)) rfl ?_; clear O; intro g7 w3 O) | ((with_reducible refine at_load 12 ?_); refine wpList_whole rfl O 2 rfl rfl Try.underlying34 rfl (sW _) ?_) | ((with_reducible refine at_load 13 ?_); refine wpList_whole rfl O 1 rfl rfl Try.underlying34 rfl (sW _) ?_) | ((with_reducible refine at_load 14 ?_); refine wpList_whole rfl O 0 rfl rfl Try.underlying34 rfl (sW _) ?_) | (go_at_call 16; refine (CA _).mono ?_; rintro e w4 ⟨rfl, hb⟩; replace O := O.call hb; clear hb) | ((with_reducible refine at_load 18 ?_); refine wpList_whole rfl O 0 rfl rfl Try.underlying34 rfl (sW _) ?_) | ((with_reducible refine at_load 19 ?_); refine wpList_whole rfl O 1 rfl rfl Try.underlying34 rfl (sW _) ?_) | ((with_reducible refine at_store 6 ?_); refine wpList_put_own O 1 (M.mat 7 (c)) rfl rfl rfl (sW _) (M.mat_len2 _ _ _) (M.mat_one _ _) ?_; clear O; intro w5 O) | ((with_reducible refine at_store 7 ?_); refine wpList_put_own O 0 (M.mat 7 (b)) rfl rfl rfl (sW _) (M.mat_len2 _ _ _) (M.mat_one _ _) ?_; clear O; intro w6 O) | ((with_reducible refine at_load 23 ?_); refine wpList_whole rfl O 2 rfl rfl Try.underlying34 rfl (sW _) ?_) | ((with_reducible refine at_load 24 ?_); refine wpList_whole rfl O 1 rfl rfl Try.underlying34 rfl (sW _) ?_) | (go_at_call 26; clear t0; have t1 : True := trivial; refine (C1 _).mono ?_; rintro e w7 ⟨rfl, hb⟩; replace O := O.call hb; clear hb))
      go_ret
      exact ⟨by rw [HE.out]; first | done | rfl, O.below⟩
    cases l2
    · go_enter Try.func18, Try.ntmps18
      go_wp2_with (first | ((with_reducible refine at_box 5 ?_); refine wpList_box_own O (M.mat 7 (a)) rfl ?_; clear O; intro g5 w1 O) | ((with_reducible refine at_box 6 ?_); refine wpList_box_own O (M.mat 7 (b)) rfl ?_; clear O; intro g6 w2 O) | ((with_reducible refine at_box 7 ?_); refine wpList_box_own O (M.mat 7 (c)) rfl ?_; clear O; intro g7 w3 O) | ((with_reducible refine at_load 12 ?_); refine wpList_whole rfl O 2 rfl rfl Try.underlying34 rfl (sW _) ?_) | ((with_reducible refine at_load 13 ?_); refine wpList_whole rfl O 1 rfl rfl Try.underlying34 rfl (sW _) ?_) | ((with_reducible refine at_load 14 ?_); refine wpList_whole rfl O 0 rfl rfl Try.underlying34 rfl (sW _) ?_) | (go_at_call 16; refine (CA _).mono ?_; rintro e w4 ⟨rfl, hb⟩; replace O := O.call hb; clear hb) | ((with_reducible refine at_load 18 ?_); refine wpList_whole rfl O 0 rfl rfl Try.underlying34 rfl (sW _) ?_) | ((with_reducible refine at_load 19 ?_); refine wpList_whole rfl O 1 rfl rfl Try.underlying34 rfl (sW _) ?_) | ((with_reducible refine at_store 6 ?_); refine wpList_put_own O 1 (M.mat 7 (c)) rfl rfl rfl (sW _) (M.mat_len2 _ _ _) (M.mat_one _ _) ?_; clear O; intro w5 O) | ((with_reducible refine at_store 7 ?_); refine wpList_put_own O 0 (M.mat 7 (b)) rfl rfl rfl (sW _) (M.mat_len2 _ _ _) (M.mat_one _ _) ?_; clear O; intro w6 O) | ((with_reducible refine at_load 23 ?_); refine wpList_whole rfl O 2 rfl rfl Try.underlying34 rfl (sW _) ?_) | ((with_reducible refine at_load 24 ?_); refine wpList_whole rfl O 1 rfl rfl Try.underlying34 rfl (sW _) ?_) | (go_at_call 26; clear t0; have t1 : True := trivial; refine (C1 _).mono ?_; rintro e w7 ⟨rfl, hb⟩; replace O := O.call hb; clear hb) | ((with_reducible refine at_load 30 ?_); refine wpList_whole rfl O 1 rfl rfl Try.underlying34 rfl (sW _) ?_) | ((with_reducible refine at_load 31 ?_); refine wpList_whole rfl O 0 rfl rfl Try.underlying34 rfl (sW _) ?_) | (go_at_call 26; clear t1; have t2 : True := trivial; refine (C2 _).mono ?_; rintro e w8 ⟨rfl, hb⟩; replace O := O.call hb; clear hb))
      go_ret
      exact ⟨by rw [HE.out]; first | done | rfl, O.below⟩
    cases l3
    all_goals
      go_enter Try.func18, Try.ntmps18
      go_wp2_with (first | ((with_reducible refine at_box 5 ?_); refine wpList_box_own O (M.mat 7 (a)) rfl ?_; clear O; intro g5 w1 O) | ((with_reducible refine at_box 6 ?_); refine wpList_box_own O (M.mat 7 (b)) rfl ?_; clear O; intro g6 w2 O) | ((with_reducible refine at_box 7 ?_); refine wpList_box_own O (M.mat 7 (c)) rfl ?_; clear O; intro g7 w3 O) | ((with_reducible refine at_load 12 ?_); refine wpList_whole rfl O 2 rfl rfl Try.underlying34 rfl (sW _) ?_) | ((with_reducible refine at_load 13 ?_); refine wpList_whole rfl O 1 rfl rfl Try.underlying34 rfl (sW _) ?_) | ((with_reducible refine at_load 14 ?_); refine wpList_whole rfl O 0 rfl rfl Try.underlying34 rfl (sW _) ?_) | (go_at_call 16; refine (CA _).mono ?_; rintro e w4 ⟨rfl, hb⟩; replace O := O.call hb; clear hb) | ((with_reducible refine at_load 18 ?_); refine wpList_whole rfl O 0 rfl rfl Try.underlying34 rfl (sW _) ?_) | ((with_reducible refine at_load 19 ?_); refine wpList_whole rfl O 1 rfl rfl Try.underlying34 rfl (sW _) ?_) | ((with_reducible refine at_store 6 ?_); refine wpList_put_own O 1 (M.mat 7 (c)) rfl rfl rfl (sW _) (M.mat_len2 _ _ _) (M.mat_one _ _) ?_; clear O; intro w5 O) | ((with_reducible refine at_store 7 ?_); refine wpList_put_own O 0 (M.mat 7 (b)) rfl rfl rfl (sW _) (M.mat_len2 _ _ _) (M.mat_one _ _) ?_; clear O; intro w6 O) | ((with_reducible refine at_load 23 ?_); refine wpList_whole rfl O 2 rfl rfl Try.underlying34 rfl (sW _) ?_) | ((with_reducible refine at_load 24 ?_); refine wpList_whole rfl O 1 rfl rfl Try.underlying34 rfl (sW _) ?_) | (go_at_call 26; clear t0; have t1 : True := trivial; refine (C1 _).mono ?_; rintro e w7 ⟨rfl, hb⟩; replace O := O.call hb; clear hb) | ((with_reducible refine at_load 30 ?_); refine wpList_whole rfl O 1 rfl rfl Try.underlying34 rfl (sW _) ?_) | ((with_reducible refine at_load 31 ?_); refine wpList_whole rfl O 0 rfl rfl Try.underlying34 rfl (sW _) ?_) | (go_at_call 26; clear t1; have t2 : True := trivial; refine (C2 _).mono ?_; rintro e w8 ⟨rfl, hb⟩; replace O := O.call hb; clear hb) | ((with_reducible refine at_load 37 ?_); refine wpList_whole rfl O 0 rfl rfl Try.underlying34 rfl (sW _) ?_) | ((with_reducible refine at_load 38 ?_); refine wpList_whole rfl O 2 rfl rfl Try.underlying34 rfl (sW _) ?_) | (go_at_call 26; clear t2; have t3 : True := trivial; refine (C3 _).mono ?_; rintro e w9 ⟨rfl, hb⟩; replace O := O.call hb; clear hb))
      go_ret
      exact ⟨by rw [HE.out]; first | done | rfl, O.below⟩
  · rw [if_neg hneg] at HE
    by_cases hz : TR.ar a b c = 0
    · rw [decide_eq_false (show ¬ TR.ar a b c ≠ 0 by omega), Bool.false_and] at HE
      clear ha hb hc hx hy
      generalize TR.ar a b c = n at *
      have K1 : decide (n < 0) = false := decide_eq_false hneg
      have K2 : (n != 0) = false := by simp; omega
      clear hneg hz
      replace HE := Lib.hid HE
      go_enter Try.func18, Try.ntmps18
      go_wp2_with (first | ((with_reducible refine at_box 5 ?_); refine wpList_box_own O (M.mat 7 (a)) rfl ?_; clear O; intro g5 w1 O) | ((with_reducible refine at_box 6 ?_); refine wpList_box_own O (M.mat 7 (b)) rfl ?_; clear O; intro g6 w2 O) | ((with_reducible refine at_box 7 ?_); refine wpList_box_own O (M.mat 7 (c)) rfl ?_; clear O; intro g7 w3 O) | ((with_reducible refine at_load 12 ?_); refine wpList_whole rfl O 2 rfl rfl Try.underlying34 rfl (sW _) ?_) | ((with_reducible refine at_load 13 ?_); refine wpList_whole rfl O 1 rfl rfl Try.underlying34 rfl (sW _) ?_) | ((with_reducible refine at_load 14 ?_); refine wpList_whole rfl O 0 rfl rfl Try.underlying34 rfl (sW _) ?_) | (go_at_call 16; refine (CA _).mono ?_; rintro e w4 ⟨rfl, hb⟩; replace O := O.call hb; clear hb))
      go_ret
      exact ⟨by rw [HE.out]; first | done | rfl, O.below⟩
    · rw [decide_eq_true hz, Bool.true_and] at HE
      have C1 := fun w => rleft20 a b ha hb x y hx hy w
      have C2 := fun w => rleft20 b c hb hc x y hx hy w
      have C3 := fun w => rleft20 c a hc ha x y hx hy w
      clear ha hb hc hx hy
      generalize TR.ar a b c = n at *
      have K1 : decide (n < 0) = false := decide_eq_false hneg
      have K2 : (n != 0) = true := by simp; omega
      clear hneg hz
      generalize TR.left a b x y = l1 at *
      generalize TR.left b c x y = l2 at *
      generalize TR.left c a x y = l3 at *
      replace HE := Lib.hid HE
      have t0 : True := trivial
      cases l1
      · go_enter Try.func18, Try.ntmps18
        go_wp2_with (first | ((with_reducible refine at_box 5 ?_); refine wpList_box_own O (M.mat 7 (a)) rfl ?_; clear O; intro g5 w1 O) | ((with_reducible refine at_box 6 ?_); refine wpList_box_own O (M.mat 7 (b)) rfl ?_; clear O; intro g6 w2 O) | ((with_reducible refine at_box 7 ?_); refine wpList_box_own O (M.mat 7 (c)) rfl ?_; clear O; intro g7 w3 O) | ((with_reducible refine at_load 12 ?_); refine wpList_whole rfl O 2 rfl rfl Try.underlying34 rfl (sW _) ?_) | ((with_reducible refine at_load 13 ?_); refine wpList_whole rfl O 1 rfl rfl Try.underlying34 rfl (sW _) ?_) | ((with_reducible refine at_load 14 ?_); refine wpList_whole rfl O 0 rfl rfl Try.underlying34 rfl (sW _) ?_) | (go_at_call 16; refine (CA _).mono ?_; rintro e w4 ⟨rfl, hb⟩; replace O := O.call hb; clear hb) | ((with_reducible refine at_load 23 ?_); refine wpList_whole rfl O 2 rfl rfl Try.underlying34 rfl (sW _) ?_) | ((with_reducible refine at_load 24 ?_); refine wpList_whole rfl O 1 rfl rfl Try.underlying34 rfl (sW _) ?_) | (go_at_call 26; clear t0; have t1 : True := trivial; refine (C1 _).mono ?_; rintro e w7 ⟨rfl, hb⟩; replace O := O.call hb; clear hb))
        go_ret
        exact ⟨by rw [HE.out]; first | done | rfl, O.below⟩
      cases l2
      · go_enter Try.func18, Try.ntmps18
        go_wp2_with (first | ((with_reducible refine at_box 5 ?_); refine wpList_box_own O (M.mat 7 (a)) rfl ?_; clear O; intro g5 w1 O) | ((with_reducible refine at_box 6 ?_); refine wpList_box_own O (M.mat 7 (b)) rfl ?_; clear O; intro g6 w2 O) | ((with_reducible refine at_box 7 ?_); refine wpList_box_own O (M.mat 7 (c)) rfl ?_; clear O; intro g7 w3 O) | ((with_reducible refine at_load 12 ?_); refine wpList_whole rfl O 2 rfl rfl Try.underlying34 rfl (sW _) ?_) | ((with_reducible refine at_load 13 ?_); refine wpList_whole rfl O 1 rfl rfl Try.underlying34 rfl (sW _) ?_) | ((with_reducible refine at_load 14 ?_); refine wpList_whole rfl O 0 rfl rfl Try.underlying34 rfl (sW _) ?_) | (go_at_call 16; refine (CA _).mono ?_; rintro e w4 ⟨rfl, hb⟩; replace O := O.call hb; clear hb) | ((with_reducible refine at_load 23 ?_); refine wpList_whole rfl O 2 rfl rfl Try.underlying34 rfl (sW _) ?_) | ((with_reducible refine at_load 24 ?_); refine wpList_whole rfl O 1 rfl rfl Try.underlying34 rfl (sW _) ?_) | (go_at_call 26; clear t0; have t1 : True := trivial; refine (C1 _).mono ?_; rintro e w7 ⟨rfl, hb⟩; replace O := O.call hb; clear hb) | ((with_reducible refine at_load 30 ?_); refine wpList_whole rfl O 1 rfl rfl Try.underlying34 rfl (sW _) ?_) | ((with_reducible refine at_load 31 ?_); refine wpList_whole rfl O 0 rfl rfl Try.underlying34 rfl (sW _) ?_) | (go_at_call 26; clear t1; have t2 : True := trivial; refine (C2 _).mono ?_; rintro e w8 ⟨rfl, hb⟩; replace O := O.call hb; clear hb))
        go_ret
        exact ⟨by rw [HE.out]; first | done | rfl, O.below⟩
      cases l3
      all_goals
        go_enter Try.func18, Try.ntmps18
        go_wp2_with (first | ((with_reducible refine at_box 5 ?_); refine wpList_box_own O (M.mat 7 (a)) rfl ?_; clear O; intro g5 w1 O) | ((with_reducible refine at_box 6 ?_); refine wpList_box_own O (M.mat 7 (b)) rfl ?_; clear O; intro g6 w2 O) | ((with_reducible refine at_box 7 ?_); refine wpList_box_own O (M.mat 7 (c)) rfl ?_; clear O; intro g7 w3 O) | ((with_reducible refine at_load 12 ?_); refine wpList_whole rfl O 2 rfl rfl Try.underlying34 rfl (sW _) ?_) | ((with_reducible refine at_load 13 ?_); refine wpList_whole rfl O 1 rfl rfl Try.underlying34 rfl (sW _) ?_) | ((with_reducible refine at_load 14 ?_); refine wpList_whole rfl O 0 rfl rfl Try.underlying34 rfl (sW _) ?_) | (go_at_call 16; refine (CA _).mono ?_; rintro e w4 ⟨rfl, hb⟩; replace O := O.call hb; clear hb) | ((with_reducible refine at_load 23 ?_); refine wpList_whole rfl O 2 rfl rfl Try.underlying34 rfl (sW _) ?_) | ((with_reducible refine at_load 24 ?_); refine wpList_whole rfl O 1 rfl rfl Try.underlying34 rfl (sW _) ?_) | (go_at_call 26; clear t0; have t1 : True := trivial; refine (C1 _).mono ?_; rintro e w7 ⟨rfl, hb⟩; replace O := O.call hb; clear hb) | ((with_reducible refine at_load 30 ?_); refine wpList_whole rfl O 1 rfl rfl Try.underlying34 rfl (sW _) ?_) | ((with_reducible refine at_load 31 ?_); refine wpList_whole rfl O 0 rfl rfl Try.underlying34 rfl (sW _) ?_) | (go_at_call 26; clear t1; have t2 : True := trivial; refine (C2 _).mono ?_; rintro e w8 ⟨rfl, hb⟩; replace O := O.call hb; clear hb) | ((with_reducible refine at_load 37 ?_); refine wpList_whole rfl O 0 rfl rfl Try.underlying34 rfl (sW _) ?_) | ((with_reducible refine at_load 38 ?_); refine wpList_whole rfl O 2 rfl rfl Try.underlying34 rfl (sW _) ?_) | (go_at_call 26; clear t2; have t3 : True := trivial; refine (C3 _).mono ?_; rintro e w9 ⟨rfl, hb⟩; replace O := O.call hb; clear hb))
        go_ret
        exact ⟨by rw [HE.out]; first | done | rfl, O.below⟩
end Go.Proofs.Ytndaijcgjhmiaaa
