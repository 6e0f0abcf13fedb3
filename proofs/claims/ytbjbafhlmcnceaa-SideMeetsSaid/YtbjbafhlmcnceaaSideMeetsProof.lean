/-
  For every side and two vertices the law SideMeets returns true: where the way from inside to outside meets the side it is on it, as near as rounding lets. No condition.
-/
import Derived.Test.YtbjbafhlmcnceaaRow
import Derived.Test.YtbjbafhlmcnceaaW3
import Derived.Test.YtbjbafhlmcnceaaW6
import Derived.Test.YtbjbafhlmcnceaaOpen8
import Derived.Test.YtbjbafhlmcnceaaW9
import Derived.Deep.DeepCutAuto
namespace Go.Proofs.Ytbjbafhlmcnceaa.sideMeets
open Go.ChangeShapes Go.WideShapes Go.ChangeAt Go.RowKit
set_option linter.unusedVariables false
set_option linter.unusedSimpArgs false

theorem own : ownKnob Try.prog.godebug = none := by kernel_rfl
theorem slack_step (s : Nat → Int) (k : Nat) : D.slack s (k + 1) = D.slack s k + max (s (1 + k)) (-(s (1 + k))) := by
  rw [D.slack, Int.zero_sub]
theorem max_if (x y : Int) : (if x < y then y else x) = max x y := by
  split <;> omega

set_option maxRecDepth 100000 in
set_option maxHeartbeats 16000000 in
theorem walk (w : World) (s a b : Nat → Int) :
    Calls Try.prog 7 #[arr 5 s, arr 8 a, arr 8 b] w fun e w' => e = .returned (.bool true) ∧ Below w.heap.size w w' := by
  have O := Own.start w
  cases hs : D.right s
  · go_enter Try.func7, Try.ntmps7
    go_wp2_with (first | ((with_reducible refine at_box 3 ?_); refine wpList_box_own O (M.mat 5 (s)) rfl ?_; clear O; intro g3 w1 O) | ((with_reducible refine at_box 4 ?_); refine wpList_box_own O (M.mat 8 (a)) rfl ?_; clear O; intro g4 w2 O) | ((with_reducible refine at_box 5 ?_); refine wpList_box_own O (M.mat 8 (b)) rfl ?_; clear O; intro g5 w3 O) | ((with_reducible refine at_load 14 ?_); refine wpList_whole rfl O 2 rfl rfl Try.underlying24 rfl (s24 _) ?_) | (go_at_call 9; refine (rright_any _ _).mono ?_; rintro e w4 ⟨rfl, hb⟩; replace O := O.call hb; clear hb) | ((with_reducible refine at_load 18 ?_); refine wpList_whole rfl O 1 rfl rfl Try.underlying27 rfl (s27 _) ?_) | (go_at_call 11; refine (rfits_any _ _).mono ?_; rintro e w5 ⟨rfl, hb⟩; replace O := O.call hb; clear hb) | ((with_reducible refine at_load 23 ?_); refine wpList_whole rfl O 0 rfl rfl Try.underlying27 rfl (s27 _) ?_) | (go_at_call 12; refine (awake_any _).mono ?_; rintro e w9 ⟨rfl, hb⟩; replace O := O.call hb; clear hb))
    go_ret
    exact ⟨rfl, O.below⟩
  cases ha : D.fits a
  · go_enter Try.func7, Try.ntmps7
    go_wp2_with (first | ((with_reducible refine at_box 3 ?_); refine wpList_box_own O (M.mat 5 (s)) rfl ?_; clear O; intro g3 w1 O) | ((with_reducible refine at_box 4 ?_); refine wpList_box_own O (M.mat 8 (a)) rfl ?_; clear O; intro g4 w2 O) | ((with_reducible refine at_box 5 ?_); refine wpList_box_own O (M.mat 8 (b)) rfl ?_; clear O; intro g5 w3 O) | ((with_reducible refine at_load 14 ?_); refine wpList_whole rfl O 2 rfl rfl Try.underlying24 rfl (s24 _) ?_) | (go_at_call 9; refine (rright_any _ _).mono ?_; rintro e w4 ⟨rfl, hb⟩; replace O := O.call hb; clear hb) | ((with_reducible refine at_load 18 ?_); refine wpList_whole rfl O 1 rfl rfl Try.underlying27 rfl (s27 _) ?_) | (go_at_call 11; refine (rfits_any _ _).mono ?_; rintro e w5 ⟨rfl, hb⟩; replace O := O.call hb; clear hb) | ((with_reducible refine at_load 23 ?_); refine wpList_whole rfl O 0 rfl rfl Try.underlying27 rfl (s27 _) ?_) | (go_at_call 12; refine (awake_any _).mono ?_; rintro e w9 ⟨rfl, hb⟩; replace O := O.call hb; clear hb))
    go_ret
    exact ⟨rfl, O.below⟩
  cases hb : D.fits b
  · go_enter Try.func7, Try.ntmps7
    go_wp2_with (first | ((with_reducible refine at_box 3 ?_); refine wpList_box_own O (M.mat 5 (s)) rfl ?_; clear O; intro g3 w1 O) | ((with_reducible refine at_box 4 ?_); refine wpList_box_own O (M.mat 8 (a)) rfl ?_; clear O; intro g4 w2 O) | ((with_reducible refine at_box 5 ?_); refine wpList_box_own O (M.mat 8 (b)) rfl ?_; clear O; intro g5 w3 O) | ((with_reducible refine at_load 14 ?_); refine wpList_whole rfl O 2 rfl rfl Try.underlying24 rfl (s24 _) ?_) | (go_at_call 9; refine (rright_any _ _).mono ?_; rintro e w4 ⟨rfl, hb⟩; replace O := O.call hb; clear hb) | ((with_reducible refine at_load 18 ?_); refine wpList_whole rfl O 1 rfl rfl Try.underlying27 rfl (s27 _) ?_) | (go_at_call 11; refine (rfits_any _ _).mono ?_; rintro e w5 ⟨rfl, hb⟩; replace O := O.call hb; clear hb) | ((with_reducible refine at_load 23 ?_); refine wpList_whole rfl O 0 rfl rfl Try.underlying27 rfl (s27 _) ?_) | (go_at_call 12; refine (awake_any _).mono ?_; rintro e w9 ⟨rfl, hb⟩; replace O := O.call hb; clear hb))
    go_ret
    exact ⟨rfl, O.below⟩
  have cp := fun w => dist_any s a hs ha w
  have cq := fun w => dist_any s b hs hb w
  have hp := D.dist_le hs ha
  have hq := D.dist_le hs hb
  have MT := Lib.hid (fun p q (h1 : D.dist s a = p) (h2 : D.dist s b = q) (h3 : 0 ≤ p) (h4 : q < 0) => D.meets hs h1 h2 h3 h4)
  have HS := Lib.hid hs
  have HA := Lib.hid ha
  have HB := Lib.hid hb
  obtain ⟨p, ep⟩ : ∃ p, D.dist s a = p := ⟨_, rfl⟩
  obtain ⟨q, eq⟩ : ∃ q, D.dist s b = q := ⟨_, rfl⟩
  rw [ep] at cp hp
  rw [eq] at cq hq
  have EP := Lib.hid ep
  have EQ := Lib.hid eq
  clear ep eq
  go_enter Try.func7, Try.ntmps7
  go_wp2_with (first | ((with_reducible refine at_box 3 ?_); refine wpList_box_own O (M.mat 5 (s)) rfl ?_; clear O; intro g3 w1 O) | ((with_reducible refine at_box 4 ?_); refine wpList_box_own O (M.mat 8 (a)) rfl ?_; clear O; intro g4 w2 O) | ((with_reducible refine at_box 5 ?_); refine wpList_box_own O (M.mat 8 (b)) rfl ?_; clear O; intro g5 w3 O) | ((with_reducible refine at_load 14 ?_); refine wpList_whole rfl O 2 rfl rfl Try.underlying24 rfl (s24 _) ?_) | (go_at_call 9; refine (rright_any _ _).mono ?_; rintro e w4 ⟨rfl, hb⟩; replace O := O.call hb; clear hb) | ((with_reducible refine at_load 18 ?_); refine wpList_whole rfl O 1 rfl rfl Try.underlying27 rfl (s27 _) ?_) | (go_at_call 11; refine (rfits_any _ _).mono ?_; rintro e w5 ⟨rfl, hb⟩; replace O := O.call hb; clear hb) | ((with_reducible refine at_load 23 ?_); refine wpList_whole rfl O 0 rfl rfl Try.underlying27 rfl (s27 _) ?_))
  clear hs ha hb
  refine region_T ((fun w2 => Own w w2 [(g5, 27, M.mat 8 b), (g4, 27, M.mat 8 a), (g3, 24, M.mat 5 s)])) [0, 1, 2, 3, 4, 5, 6] 12 [some 28, some 29, some 30, some 31, some 32, some 33, some 7] [arr 5 s, arr 8 a, .int .i64 p, arr 5 s, arr 8 b, .int .i64 q, .int .i64 p] 1 (by kernel_rfl) (by rfl) (by kernel_rfl) (by rfl) (by rfl) (O.drew) (fun F hF => ?_)
  simp only [fillD, Act.put, List.setIfInBounds_toArray, List.set_cons_zero, List.set_cons_succ] at hF
  subst hF
  refine ⟨⟨does_want rfl (by rfl) (fun w' O K hK => ?_), does_want rfl (by rfl) (fun w' O K hK => ?_), does_want rfl (by rfl) (fun w' O K hK => ?_), does_want rfl (by rfl) (fun w' O K hK => ?_), does_want rfl (by rfl) (fun w' O K hK => ?_), does_want rfl (by rfl) (fun w' O K hK => ?_), does_want rfl (by rfl) (fun w' O K hK => ?_), trivial⟩, fun w' O => ?_⟩
  · exact wp_whole O 2 rfl rfl Try.underlying24 rfl (s24 _) (hK _ O)
  · exact wp_whole O 1 rfl rfl Try.underlying27 rfl (s27 _) (hK _ O)
  · go_simp
    go_at_call 13
    refine (cp _).mono ?_
    rintro e w2 ⟨rfl, hb⟩
    exact hK _ (O.call hb)
  · exact wp_whole O 2 rfl rfl Try.underlying24 rfl (s24 _) (hK _ O)
  · exact wp_whole O 0 rfl rfl Try.underlying27 rfl (s27 _) (hK _ O)
  · go_simp
    go_at_call 13
    refine (cq _).mono ?_
    rintro e w2 ⟨rfl, hb⟩
    exact hK _ (O.call hb)
  · go_simp
    exact hK _ O
  refine wpAny_one (i := 7) (by kernel_rfl) rfl (fun K hK => ?_)
  go_simp
  refine hK _ _ ?_
  clear hK K
  try simp only [Act.put, List.setIfInBounds_toArray, List.set_cons_zero, List.set_cons_succ]
  refine wpAny_done (by kernel_rfl) ?_ _
  by_cases h0 : p < 0
  · go_wp2_with (go_at_call 12; refine (awake_any _).mono ?_; rintro e w9 ⟨rfl, hb⟩; replace O := O.call hb; clear hb)
    go_ret
    exact ⟨rfl, O.below⟩
  by_cases h1 : 0 ≤ q
  · go_wp2_with (go_at_call 12; refine (awake_any _).mono ?_; rintro e w9 ⟨rfl, hb⟩; replace O := O.call hb; clear hb)
    go_ret
    exact ⟨rfl, O.below⟩
  have ok : D.okAt a b p (p - q) = true := D.okAt_iff.2 ⟨HA.out, HB.out, by omega, by omega, by omega⟩
  have ca := fun w => at_any a b p (p - q) (by omega) w
  have hm := MT.out p q EP.out EQ.out (by omega) (by omega)
  have cx := fun w => dist_any s (D.way a b p (p - q)) HS.out (D.way_fits ok) w
  have hx := D.dist_le HS.out (D.way_fits ok)
  rw [D.at_yes ok] at ca
  unfold RetAt at ca
  dsimp only at ca
  generalize D.way a b p (p - q) = v at *
  obtain ⟨x, ex⟩ : ∃ x, D.dist s v = x := ⟨_, rfl⟩
  rw [ex] at cx hm hx
  have HK := D.kinds HS.out
  have HM := Lib.hid hm
  clear ex ok MT hm EP EQ cp cq
  have h0' : ¬ p < 0 := h0
  have q3 : decide (0 ≤ q) = false := by simpa using h1
  have C2 := Lib.hid (D.coef_of HS.out)
  have SL := Lib.hid (D.slack_le HS.out)
  have rs := fun k (h : s 0 = k) => h
  rcases HK with hk | hk | hk | hk
  · obtain rfl : x = 0 := HM.out.1 (by omega)
    have k0 : (s 0 == 0) = true := by simp [hk]
    have k1 : (s 0 == 1) = false := by simp [hk]
    have k2 : (s 0 == 2) = false := by simp [hk]
    clear hk HM rs
    go_wp2_with (first | ((with_reducible refine at_load 42 ?_); refine wpList_whole rfl O 1 rfl rfl Try.underlying27 rfl (s27 _) ?_) | ((with_reducible refine at_load 43 ?_); refine wpList_whole rfl O 0 rfl rfl Try.underlying27 rfl (s27 _) ?_) | (go_at_call 17; refine (ca _).mono ?_; rintro e w10 ⟨rfl, hb⟩; replace O := O.call hb; clear hb) | ((with_reducible refine at_alloc 9 ?_); refine wpList_alloc_own O (M.mat 8 M.zero) zero27 ?_; clear O; intro g9 w11 O) | ((with_reducible refine at_store 9 ?_); refine wpList_put_own O 0 (M.mat 8 (v)) rfl rfl rfl (s27 _) (M.mat_len2 _ _ _) (M.mat_one _ _) ?_; clear O; intro w12 O) | ((with_reducible refine at_load 53 ?_); refine wpList_whole rfl O 3 rfl rfl Try.underlying24 rfl (s24 _) ?_) | ((with_reducible refine at_load 54 ?_); refine wpList_whole rfl O 0 rfl rfl Try.underlying27 rfl (s27 _) ?_) | (go_at_call 13; refine (cx _).mono ?_; rintro e w13 ⟨rfl, hb⟩; replace O := O.call hb; clear hb) | ((with_reducible refine at_load 57 ?_); refine wpList_cell_h (v := .int .i64 ((s) (0))) rfl O.held 3 rfl (M.mat_get (by omega)) rfl agg3 rfl ?_) | (go_at_call 12; refine (awake_any _).mono ?_; rintro e w9 ⟨rfl, hb⟩; replace O := O.call hb; clear hb))
    go_ret
    exact ⟨rfl, O.below⟩
  · have hx1 := HM.out.2.1 hk
    have k0 : (s 0 == 0) = false := by simp [hk]
    have k1 : (s 0 == 1) = true := by simp [hk]
    have k2 : (s 0 == 2) = false := by simp [hk]
    clear hk HM rs
    rcases hx1 with rfl | rfl
    all_goals
      go_wp2_with (first | ((with_reducible refine at_load 42 ?_); refine wpList_whole rfl O 1 rfl rfl Try.underlying27 rfl (s27 _) ?_) | ((with_reducible refine at_load 43 ?_); refine wpList_whole rfl O 0 rfl rfl Try.underlying27 rfl (s27 _) ?_) | (go_at_call 17; refine (ca _).mono ?_; rintro e w10 ⟨rfl, hb⟩; replace O := O.call hb; clear hb) | ((with_reducible refine at_alloc 9 ?_); refine wpList_alloc_own O (M.mat 8 M.zero) zero27 ?_; clear O; intro g9 w11 O) | ((with_reducible refine at_store 9 ?_); refine wpList_put_own O 0 (M.mat 8 (v)) rfl rfl rfl (s27 _) (M.mat_len2 _ _ _) (M.mat_one _ _) ?_; clear O; intro w12 O) | ((with_reducible refine at_load 53 ?_); refine wpList_whole rfl O 3 rfl rfl Try.underlying24 rfl (s24 _) ?_) | ((with_reducible refine at_load 54 ?_); refine wpList_whole rfl O 0 rfl rfl Try.underlying27 rfl (s27 _) ?_) | (go_at_call 13; refine (cx _).mono ?_; rintro e w13 ⟨rfl, hb⟩; replace O := O.call hb; clear hb) | ((with_reducible refine at_load 57 ?_); refine wpList_cell_h (v := .int .i64 ((s) (0))) rfl O.held 3 rfl (M.mat_get (by omega)) rfl agg3 rfl ?_) | (go_at_call 12; refine (awake_any _).mono ?_; rintro e w9 ⟨rfl, hb⟩; replace O := O.call hb; clear hb))
      go_ret
      exact ⟨rfl, O.below⟩
  · obtain rfl : x = 0 := HM.out.1 (by omega)
    have k0 : (s 0 == 0) = false := by simp [hk]
    have k1 : (s 0 == 1) = false := by simp [hk]
    have k2 : (s 0 == 2) = true := by simp [hk]
    clear hk HM rs
    go_wp2_with (first | ((with_reducible refine at_load 42 ?_); refine wpList_whole rfl O 1 rfl rfl Try.underlying27 rfl (s27 _) ?_) | ((with_reducible refine at_load 43 ?_); refine wpList_whole rfl O 0 rfl rfl Try.underlying27 rfl (s27 _) ?_) | (go_at_call 17; refine (ca _).mono ?_; rintro e w10 ⟨rfl, hb⟩; replace O := O.call hb; clear hb) | ((with_reducible refine at_alloc 9 ?_); refine wpList_alloc_own O (M.mat 8 M.zero) zero27 ?_; clear O; intro g9 w11 O) | ((with_reducible refine at_store 9 ?_); refine wpList_put_own O 0 (M.mat 8 (v)) rfl rfl rfl (s27 _) (M.mat_len2 _ _ _) (M.mat_one _ _) ?_; clear O; intro w12 O) | ((with_reducible refine at_load 53 ?_); refine wpList_whole rfl O 3 rfl rfl Try.underlying24 rfl (s24 _) ?_) | ((with_reducible refine at_load 54 ?_); refine wpList_whole rfl O 0 rfl rfl Try.underlying27 rfl (s27 _) ?_) | (go_at_call 13; refine (cx _).mono ?_; rintro e w13 ⟨rfl, hb⟩; replace O := O.call hb; clear hb) | ((with_reducible refine at_load 57 ?_); refine wpList_cell_h (v := .int .i64 ((s) (0))) rfl O.held 3 rfl (M.mat_get (by omega)) rfl agg3 rfl ?_) | (go_at_call 12; refine (awake_any _).mono ?_; rintro e w9 ⟨rfl, hb⟩; replace O := O.call hb; clear hb))
    go_ret
    exact ⟨rfl, O.below⟩
  · obtain ⟨hx1, hx2⟩ := HM.out.2.2 hk
    have k0 : (s 0 == 0) = false := by simp [hk]
    have k1 : (s 0 == 1) = false := by simp [hk]
    have k2 : (s 0 == 2) = false := by simp [hk]
    clear hk HM rs
    go_wp2_with (first | ((with_reducible refine at_load 42 ?_); refine wpList_whole rfl O 1 rfl rfl Try.underlying27 rfl (s27 _) ?_) | ((with_reducible refine at_load 43 ?_); refine wpList_whole rfl O 0 rfl rfl Try.underlying27 rfl (s27 _) ?_) | (go_at_call 17; refine (ca _).mono ?_; rintro e w10 ⟨rfl, hb⟩; replace O := O.call hb; clear hb) | ((with_reducible refine at_alloc 9 ?_); refine wpList_alloc_own O (M.mat 8 M.zero) zero27 ?_; clear O; intro g9 w11 O) | ((with_reducible refine at_store 9 ?_); refine wpList_put_own O 0 (M.mat 8 (v)) rfl rfl rfl (s27 _) (M.mat_len2 _ _ _) (M.mat_one _ _) ?_; clear O; intro w12 O) | ((with_reducible refine at_load 53 ?_); refine wpList_whole rfl O 3 rfl rfl Try.underlying24 rfl (s24 _) ?_) | ((with_reducible refine at_load 54 ?_); refine wpList_whole rfl O 0 rfl rfl Try.underlying27 rfl (s27 _) ?_) | (go_at_call 13; refine (cx _).mono ?_; rintro e w13 ⟨rfl, hb⟩; replace O := O.call hb; clear hb) | ((with_reducible refine at_load 57 ?_); refine wpList_cell_h (v := .int .i64 ((s) (0))) rfl O.held 3 rfl (M.mat_get (by omega)) rfl agg3 rfl ?_))
    go_loopw [12, 13] (fun u t wr => ∃ k : Nat, k ≤ 4 ∧ t = .int .i64 k ∧ u = .int .i64 (D.slack s k) ∧ Own w wr [(g9, 27, M.mat 8 v), (g5, 27, M.mat 8 b), (g4, 27, M.mat 8 a), (g3, 24, M.mat 5 s)]) (fun _ t _ => 4 - (intOf t).toNat)
    case atStart => exact ⟨0, by omega, rfl, rfl, O⟩
    case round =>
      clear O
      obtain ⟨k, hk, rfl, rfl, O⟩ := hrel
      have q4 : (0 : Int) ≤ k := by omega
      by_cases hlt : k < 4
      · have q5 : (k : Int) < 4 := by omega
        have hc := C2.out k hlt
        have hS := SL.out k (by omega)
        have HT := Lib.hid (slack_step s k)
        go_wp2_with fail
        refine region_T ((fun w2 => Own w w2 [(g9, 27, M.mat 8 v), (g5, 27, M.mat 8 b), (g4, 27, M.mat 8 a), (g3, 24, M.mat 5 s)])) [0, 1, 2, 3, 4, 5, 6, 7, 8, 9, 10, 11] 12 [some 81, some 82, some 83, some 84, some 85, some 86, some 87, some 88, some 89, some 90, some 91, some 92] [.int .i64 (D.slack s k), .int .i64 k, .pointer (some ⟨g3, 1, none⟩), .pointer (some ⟨g3, 1 + k, none⟩), .int .i64 (s (1 + k)), .int .i64 k, .pointer (some ⟨g3, 1, none⟩), .pointer (some ⟨g3, 1 + k, none⟩), .int .i64 (s (1 + k)), .int .i64 (-(s (1 + k))), .int .i64 (max (s (1 + k)) (-(s (1 + k)))), .int .i64 (D.slack s (k + 1))] 1 (by kernel_rfl) (by rfl) (by kernel_rfl) (by rfl) (by rfl) (O.drew) (fun F hF => ?_)
        simp only [fillD, Act.put, List.setIfInBounds_toArray, List.set_cons_zero, List.set_cons_succ] at hF
        subst hF
        refine ⟨⟨does_want rfl (by rfl) (fun w' O K hK => ?_), does_want rfl (by rfl) (fun w' O K hK => ?_), does_want rfl (by rfl) (fun w' O K hK => ?_), does_want rfl (by rfl) (fun w' O K hK => ?_), does_want rfl (by rfl) (fun w' O K hK => ?_), does_want rfl (by rfl) (fun w' O K hK => ?_), does_want rfl (by rfl) (fun w' O K hK => ?_), does_want rfl (by rfl) (fun w' O K hK => ?_), does_want rfl (by rfl) (fun w' O K hK => ?_), does_want rfl (by rfl) (fun w' O K hK => ?_), does_want rfl (by rfl) (fun w' O K hK => ?_), does_want rfl (by rfl) (fun w' O K hK => ?_), trivial⟩, fun w' O => ?_⟩
        · go_simp
          exact hK _ O
        · go_simp
          exact hK _ O
        · go_simp
          exact hK _ O
        · exact wp_ino Try.underlying22 sizeOf3 (by decide) (k) rfl rfl (by omega) (by omega) (hK _ O)
        · exact wp_cell_h (v := .int .i64 ((s) (1 + k))) O.held 3 rfl (M.mat_get (by omega)) rfl agg3 rfl (hK _ O)
        · go_simp
          exact hK _ O
        · go_simp
          exact hK _ O
        · exact wp_ino Try.underlying22 sizeOf3 (by decide) (k) rfl rfl (by omega) (by omega) (hK _ O)
        · exact wp_cell_h (v := .int .i64 ((s) (1 + k))) O.held 3 rfl (M.mat_get (by omega)) rfl agg3 rfl (hK _ O)
        · have e : IntKind.i64.wrap (-(s (1 + k))) = -(s (1 + k)) := IntWalk.i64_in _ (by omega)
          go_simp
          exact hK _ O
        · have e := max_if (s (1 + k)) (-(s (1 + k)))
          go_simp
          exact hK _ O
        · have e : IntKind.i64.wrap (D.slack s k + max (s (1 + k)) (-(s (1 + k)))) = D.slack s (k + 1) := by rw [HT.out]; exact IntWalk.i64_in _ (by omega)
          go_simp
          exact hK _ O
        refine wpAny_one (i := 12) (by kernel_rfl) rfl (fun K hK => ?_)
        go_simp
        refine hK _ _ ?_
        clear hK K
        try simp only [Act.put, List.setIfInBounds_toArray, List.set_cons_zero, List.set_cons_succ]
        refine wpAny_done (by kernel_rfl) ?_ _
        go_wp2_with fail
        go_roundw
        case rel => exact ⟨k + 1, by omega, by go_num, rfl, O⟩
        case measure => simp [intOf]; omega
      · have q5 : ¬ (k : Int) < 4 := by omega
        obtain rfl : k = 4 := by omega
        have hS := SL.out 4 (by omega)
        generalize D.slack s 4 = S at *
        have d1 : decide (x ≤ S) = true := by simpa using hx1
        have d2 : decide (-S ≤ x) = true := by simp; omega
        have e2 : wrap64 (-S) = -S := IntWalk.wrap64_in _ (by omega)
        clear hx1 hx2
        go_wp2_with (go_at_call 12; refine (awake_any _).mono ?_; rintro e w9 ⟨rfl, hb⟩; replace O := O.call hb; clear hb)
        go_ret
        exact ⟨rfl, O.below⟩
theorem readable : ∀ t ∈ Try.f7.params.toList, Try.prog.readableRec t = true ∧ t < Try.prog.types.size := by
  intro t ht
  rw [Try.params7] at ht
  simp only [List.mem_cons, List.not_mem_nil, or_false] at ht
  repeat (first | (rcases ht with rfl | ht; exact ⟨by kernel_rfl, of_decide_eq_true (by kernel_rfl)⟩) | (subst ht; exact ⟨by kernel_rfl, of_decide_eq_true (by kernel_rfl)⟩))
set_option maxRecDepth 100000 in
theorem lifted (os : Os) (started : os.Started) (H : Type) (enc : TypeId × Value → H) :
    ReturnsInHanded {} Try.checked os 7 .any (Rows.sideMeetsSpec.pre6 enc Try.prog Try.f7 Rows.sideMeetsRow.domain false) (Rows.sideMeetsSpec.post enc Try.prog Try.f7 false true false false) := by
  refine returnsInHanded_of_change (C := Try.checked) own started (by kernel_rfl) Try.func7
    (ChangeSpec.witness6 (enc := enc) (C := Try.checked) false ⟨#[], #[.agg #[.int .i64 0, .int .i64 0, .int .i64 0, .int .i64 0, .int .i64 0], .agg #[.int .i64 0, .int .i64 0, .int .i64 0, .int .i64 0, .int .i64 0, .int .i64 0, .int .i64 0, .int .i64 0], .agg #[.int .i64 0, .int .i64 0, .int .i64 0, .int .i64 0, .int .i64 0, .int .i64 0, .int .i64 0, .int .i64 0]], []⟩ 8 (by kernel_rfl) (by kernel_rfl) (by kernel_rfl) (by kernel_rfl)) ?_
  intro W base args ds gs before hval0 hW hcnd _
  have hval : ∀ (j : Nat) t v, Try.f7.params[j]? = some t → args[j]? = some v → Value.okWide Try.prog W .any base t v := hval0
  have hW' := hW
  obtain ⟨p, q, hA0, hV, rfl, hfz, hnd⟩ := hW
  have hA : DataW.TrodAll enc Try.prog W 0 (fun _ => true) true Try.f7.params.toList args.toList ds p := hA0
  rw [Try.params7] at hA hval
  have hlt : ∀ x ∈ p ++ q, x.block < W.heap.size := fun x hx => hW'.lt x hx
  obtain ⟨v0, vs0, d0, ds0, p0, q0, hargs, rfl, rfl, h0, rr0⟩ := trodAll_cons hA
  obtain ⟨v1, vs1, d1, ds1, p1, q1, rfl, rfl, rfl, h1, rr1⟩ := trodAll_cons rr0
  obtain ⟨v2, vs2, d2, ds2, p2, q2, rfl, rfl, rfl, h2, rr2⟩ := trodAll_cons rr1
  obtain ⟨rfl, rfl, rfl⟩ := trodAll_nil rr2
  obtain rfl : args = #[v0, v1, v2] := by cases args; simp_all
  obtain ⟨rfl, rfl⟩ := trodVars_none hV
  obtain ⟨a0, rfl⟩ := openSide (hval 0 24 v0 rfl rfl) h0
  obtain ⟨a1, rfl⟩ := openVert (hval 1 27 v1 rfl rfl) h1
  obtain ⟨a2, rfl⟩ := openVert (hval 2 27 v2 rfl rfl) h2
  clear hA0 hval0
  refine (walk W a0 a1 a2).mono fun e W' ⟨he, hg⟩ => ?_
  subst he
  exact ⟨_, rfl, post_true (tb := 4) laid readable (by kernel_rfl) Try.underlying4 rfl (fun l hl => by
    match l, hl with
    | [_, _, _], _ => exact ⟨rfl, rfl, rfl⟩) hW' hg⟩

theorem over : Rows.sideMeetsRow.holds Try.pinned (OpenSpec.ofChange Rows.sideMeetsSpec) :=
  OpenClaim.holds_of_wide 7 Try.f7 rfl rfl rfl rfl rfl rfl rfl ⟨rfl, rfl, rfl, rfl, rfl⟩ rfl rfl rfl rfl rfl (by kernel_rfl) Try.func7 (by kernel_rfl)
    (of_decide_eq_true (by kernel_rfl)) (by unfold Func.isWrapper; first | (rw [if_pos (by decide +kernel)]; kernel_rfl) | (rw [if_neg (by decide +kernel)]; exact ⟨rfl, rfl⟩))
    (fun os started H enc _ => lifted os started H enc)

theorem proved : Rows.SideMeetsSaid :=
  over
#print axioms proved
end Go.Proofs.Ytbjbafhlmcnceaa.sideMeets
