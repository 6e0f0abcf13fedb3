/-
  ViewScales: for every vertex and every port, a vertex all of whose coordinates are multiplied by one number has the same place.
-/
import Derived.Test.YtbmigbmeadgopaaVh
import Derived.Test.YtbmigbmeadgopaaVi
import Derived.Deep.DeepCutAuto
namespace Go.Proofs.Ytbmigbmeadgopaa.viewScales
open Go.ChangeShapes Go.WideShapes Go.ChangeAt Go.RowKit
set_option linter.unusedVariables false
set_option linter.unusedSimpArgs false

theorem own : ownKnob Try.prog.godebug = none := by kernel_rfl
theorem cell_is {n i : Nat} {a : Nat → Int} {z : Int} (h : a i = z) (hi : i < n) : Hid ((M.mat n a)[i]? = some (.int .i64 z)) := Lib.hid (by rw [← h]; exact M.mat_get hi)
theorem built_sc (n : Int) (v : Nat → Int) : Try.prog.built 25 [(0, .int .i64 (n * v 0)), (1, .int .i64 (n * v 1)), (2, .int .i64 (n * v 2)), (3, .int .i64 (n * v 3)), (4, arr 4 (D.sub 4 v))] = some (M.mat 8 (V.sc n v)).toArray := by kernel_rfl
theorem built_sx {n x y z u : Int} {v : Nat → Int} (hx : n * v 0 = x) (hy : n * v 1 = y) (hz : n * v 2 = z) (hu : n * v 3 = u) : Try.prog.built 25 [(0, .int .i64 x), (1, .int .i64 y), (2, .int .i64 z), (3, .int .i64 u), (4, arr 4 (D.sub 4 v))] = some (M.mat 8 (V.sc n v)).toArray := by
  subst hx hy hz hu
  exact built_sc n v
theorem quo_up {n : Int} (hn : 1 ≤ n ∧ n ≤ 256) : IntKind.i64.wrap ((68719476736 : Int).tdiv n) = 68719476736 / n := by
  rw [Int.tdiv_eq_ediv_of_nonneg (by decide)]
  have h1 : 68719476736 / n ≤ 68719476736 := Int.ediv_le_self n (by omega)
  have h2 : 0 ≤ 68719476736 / n := Int.ediv_nonneg (by omega) (by omega)
  exact IntWalk.i64_in _ (by omega)
theorem quo_down {n : Int} (hn : 1 ≤ n ∧ n ≤ 256) : IntKind.i64.wrap (-(68719476736 : Int).tdiv n) = -(68719476736 / n) := by
  rw [Int.tdiv_eq_ediv_of_nonneg (by decide)]
  have h1 : 68719476736 / n ≤ 68719476736 := Int.ediv_le_self n (by omega)
  have h2 : 0 ≤ 68719476736 / n := Int.ediv_nonneg (by omega) (by omega)
  exact IntWalk.i64_in _ (by omega)

set_option maxRecDepth 100000 in
set_option maxHeartbeats 16000000 in
theorem walk (w : World) (v p : Nat → Int) (k : Int) (hk : 0 ≤ k ∧ k ≤ 255) :
    Calls Try.prog 5 #[arr 8 v, arr 4 p, .int .u8 k] w fun e w' => e = .returned (.bool true) ∧ Below w.heap.size w w' := by
  have O := Own.start w
  obtain ⟨n, hn⟩ : ∃ n, 1 + k = n := ⟨_, rfl⟩
  have hr : 1 ≤ n ∧ n ≤ 256 := by omega
  have HQ := Lib.hid (quo_up hr)
  have HR := Lib.hid (quo_down hr)
  have HS := fun (h : ∀ i, i < 3 → v i ≤ 68719476736 / n ∧ -(68719476736 / n) ≤ v i) => V.map_sc (v := v) (p := p) hr.1 h
  have HP := fun x => V.part_le (k := n) (x := x) hr.1
  have qp : 0 ≤ 68719476736 / n := Int.ediv_nonneg (by omega) (by omega)
  obtain ⟨q, hq⟩ : ∃ q, 68719476736 / n = q := ⟨_, rfl⟩
  obtain ⟨r, er⟩ : ∃ r, -q = r := ⟨_, rfl⟩
  rw [hq] at HQ HR HS qp
  simp only [hq] at HP
  simp only [er] at HR HS HP
  clear hq
  have W1 : wrap64 k = k := IntWalk.wrap64_in _ (by omega)
  have W2 : wrap64 (1 + k) = n := by rw [hn]; exact IntWalk.wrap64_in _ (by omega)
  clear hn
  have HN : Hid (¬ n = 0) := Lib.hid (by omega)
  have CM := fun w => map_any v p w
  have CN := fun w => map_any (V.sc n v) p w
  unfold RetMap at CM CN
  obtain ⟨s, hs⟩ : ∃ r, V.map v p = r := ⟨_, rfl⟩
  rw [hs] at CM HS
  obtain ⟨v0, c0⟩ : ∃ z, v 0 = z := ⟨_, rfl⟩
  obtain ⟨v1, c1⟩ : ∃ z, v 1 = z := ⟨_, rfl⟩
  obtain ⟨v2, c2⟩ : ∃ z, v 2 = z := ⟨_, rfl⟩
  obtain ⟨v3, c3⟩ : ∃ z, v 3 = z := ⟨_, rfl⟩
  have C0 := cell_is (n := 8) c0 (by decide)
  have C1 := cell_is (n := 8) c1 (by decide)
  have C2 := cell_is (n := 8) c2 (by decide)
  have C3 := cell_is (n := 8) c3 (by decide)
  have tok0 : True := trivial
  by_cases k0 : q < v0
  · have F0 : decide (q < v0) = true := decide_eq_true (by omega)
    clear k0 HS HP er qp c0 c1 c2 c3 hk hr
    go_enter Try.func5, Try.ntmps5
    go_wp2_with (first | ((with_reducible refine at_box 3 ?_); refine wpList_box_own O (M.mat 8 (v)) rfl ?_; clear O; intro g3 w1 O) | ((with_reducible refine at_box 4 ?_); refine wpList_box_own O (M.mat 4 (p)) rfl ?_; clear O; intro g4 w2 O))
    simp only [W1, W2]
    clear W1 W2
    refine region_T ((fun w2 => Own w w2 [(g4, 27, M.mat 4 p), (g3, 25, M.mat 8 v)])) [0, 1, 2, 3, 4, 5, 6, 7, 8, 9, 10, 11, 12, 13, 14, 15, 16, 17, 18, 19, 20, 21, 22, 23, 24, 25, 26, 27, 28, 29, 30, 31, 32, 33, 34, 35, 36, 37, 38, 39, 40, 41, 42, 43, 44, 45, 46, 47, 48, 49, 50, 51] 12 [some 15, some 16, some 17, some 18, some 19, some 20, some 21, some 22, some 23, some 24, some 25, some 26, some 27, some 28, some 29, some 30, some 31, some 32, some 33, some 34, some 35, some 36, some 37, some 38, some 39, some 40, some 41, some 42, some 43, some 44, some 45, some 46, some 47, some 48, some 49, some 50, some 51, some 52, some 53, some 54, some 55, some 56, some 57, some 58, some 59, some 60, some 61, some 62, some 63, some 64, some 65, some 66] [.pointer (some ⟨g3, 0, none⟩), .int .i64 v0, .int .i64 n, .int .i64 q, .bool true, .bool true, undef, undef, undef, undef, undef, .bool true, .bool true, undef, undef, undef, undef, undef, .bool true, .bool true, undef, undef, undef, undef, undef, .bool true, .bool true, undef, undef, undef, undef, undef, .bool true, .bool true, undef, undef, undef, undef, undef, .bool true, .bool true, undef, undef, undef, undef, undef, .bool true, .bool true, undef, undef, undef, .bool true] 0 (by kernel_rfl) (by rfl) (by kernel_rfl) (by rfl) (by rfl) (O.drew) (fun F hF => ?_)
    simp only [fillD, Act.put, List.setIfInBounds_toArray, List.set_cons_zero, List.set_cons_succ] at hF
    subst hF
    refine ⟨⟨does_want rfl (by rfl) (fun w' O K hK => ?_), does_want rfl (by rfl) (fun w' O K hK => ?_), does_want rfl (by rfl) (fun w' O K hK => ?_), does_want rfl (by rfl) (fun w' O K hK => ?_), does_want rfl (by rfl) (fun w' O K hK => ?_), does_want rfl (by rfl) (fun w' O K hK => ?_), does_skip rfl (by rfl), does_skip rfl (by rfl), does_skip rfl (by rfl), does_skip rfl (by rfl), does_skip rfl (by rfl), does_want rfl (by rfl) (fun w' O K hK => ?_), does_want rfl (by rfl) (fun w' O K hK => ?_), does_skip rfl (by rfl), does_skip rfl (by rfl), does_skip rfl (by rfl), does_skip rfl (by rfl), does_skip rfl (by rfl), does_want rfl (by rfl) (fun w' O K hK => ?_), does_want rfl (by rfl) (fun w' O K hK => ?_), does_skip rfl (by rfl), does_skip rfl (by rfl), does_skip rfl (by rfl), does_skip rfl (by rfl), does_skip rfl (by rfl), does_want rfl (by rfl) (fun w' O K hK => ?_), does_want rfl (by rfl) (fun w' O K hK => ?_), does_skip rfl (by rfl), does_skip rfl (by rfl), does_skip rfl (by rfl), does_skip rfl (by rfl), does_skip rfl (by rfl), does_want rfl (by rfl) (fun w' O K hK => ?_), does_want rfl (by rfl) (fun w' O K hK => ?_), does_skip rfl (by rfl), does_skip rfl (by rfl), does_skip rfl (by rfl), does_skip rfl (by rfl), does_skip rfl (by rfl), does_want rfl (by rfl) (fun w' O K hK => ?_), does_want rfl (by rfl) (fun w' O K hK => ?_), does_skip rfl (by rfl), does_skip rfl (by rfl), does_skip rfl (by rfl), does_skip rfl (by rfl), does_skip rfl (by rfl), does_want rfl (by rfl) (fun w' O K hK => ?_), does_want rfl (by rfl) (fun w' O K hK => ?_), does_skip rfl (by rfl), does_skip rfl (by rfl), does_skip rfl (by rfl), does_want rfl (by rfl) (fun w' O K hK => ?_), trivial⟩, fun w' O => ?_⟩
    · go_simp
      exact hK _ O
    · exact wp_cell_h (v := .int .i64 v0) O.held 1 rfl C0.out rfl agg3 rfl (hK _ O)
    · go_simp
      exact hK _ O
    · have e := HQ.out
      have e0 := HN.out
      go_simp
      exact hK _ O
    · go_simp
      exact hK _ O
    · go_simp
      exact hK _ O
    · go_simp
      exact hK _ O
    · go_simp
      exact hK _ O
    · go_simp
      exact hK _ O
    · go_simp
      exact hK _ O
    · go_simp
      exact hK _ O
    · go_simp
      exact hK _ O
    · go_simp
      exact hK _ O
    · go_simp
      exact hK _ O
    · go_simp
      exact hK _ O
    · go_simp
      exact hK _ O
    · go_simp
      exact hK _ O
    · go_simp
      exact hK _ O
    · go_simp
      exact hK _ O
    refine wpAny_done (by kernel_rfl) ?_ _
    go_wp2_with (go_at_call 10; refine (awake_any _).mono ?_; rintro e w11 ⟨rfl, hb⟩; replace O := O.call hb; clear hb)
    go_ret
    exact ⟨rfl, O.below⟩
  by_cases k1 : v0 < r
  · have F0 : decide (q < v0) = false := decide_eq_false (by omega)
    have F1 : decide (v0 < r) = true := decide_eq_true (by omega)
    clear k0 k1 HS HP er qp c0 c1 c2 c3 hk hr
    go_enter Try.func5, Try.ntmps5
    go_wp2_with (first | ((with_reducible refine at_box 3 ?_); refine wpList_box_own O (M.mat 8 (v)) rfl ?_; clear O; intro g3 w1 O) | ((with_reducible refine at_box 4 ?_); refine wpList_box_own O (M.mat 4 (p)) rfl ?_; clear O; intro g4 w2 O))
    simp only [W1, W2]
    clear W1 W2
    refine region_T ((fun w2 => Own w w2 [(g4, 27, M.mat 4 p), (g3, 25, M.mat 8 v)])) [0, 1, 2, 3, 4, 5, 6, 7, 8, 9, 10, 11, 12, 13, 14, 15, 16, 17, 18, 19, 20, 21, 22, 23, 24, 25, 26, 27, 28, 29, 30, 31, 32, 33, 34, 35, 36, 37, 38, 39, 40, 41, 42, 43, 44, 45, 46, 47, 48, 49, 50, 51] 12 [some 15, some 16, some 17, some 18, some 19, some 20, some 21, some 22, some 23, some 24, some 25, some 26, some 27, some 28, some 29, some 30, some 31, some 32, some 33, some 34, some 35, some 36, some 37, some 38, some 39, some 40, some 41, some 42, some 43, some 44, some 45, some 46, some 47, some 48, some 49, some 50, some 51, some 52, some 53, some 54, some 55, some 56, some 57, some 58, some 59, some 60, some 61, some 62, some 63, some 64, some 65, some 66] [.pointer (some ⟨g3, 0, none⟩), .int .i64 v0, .int .i64 n, .int .i64 q, .bool false, .bool false, .pointer (some ⟨g3, 0, none⟩), .int .i64 v0, .int .i64 n, .int .i64 r, .bool true, .bool true, .bool true, undef, undef, undef, undef, undef, .bool true, .bool true, undef, undef, undef, undef, undef, .bool true, .bool true, undef, undef, undef, undef, undef, .bool true, .bool true, undef, undef, undef, undef, undef, .bool true, .bool true, undef, undef, undef, undef, undef, .bool true, .bool true, undef, undef, undef, .bool true] 0 (by kernel_rfl) (by rfl) (by kernel_rfl) (by rfl) (by rfl) (O.drew) (fun F hF => ?_)
    simp only [fillD, Act.put, List.setIfInBounds_toArray, List.set_cons_zero, List.set_cons_succ] at hF
    subst hF
    refine ⟨⟨does_want rfl (by rfl) (fun w' O K hK => ?_), does_want rfl (by rfl) (fun w' O K hK => ?_), does_want rfl (by rfl) (fun w' O K hK => ?_), does_want rfl (by rfl) (fun w' O K hK => ?_), does_want rfl (by rfl) (fun w' O K hK => ?_), does_want rfl (by rfl) (fun w' O K hK => ?_), does_want rfl (by rfl) (fun w' O K hK => ?_), does_want rfl (by rfl) (fun w' O K hK => ?_), does_want rfl (by rfl) (fun w' O K hK => ?_), does_want rfl (by rfl) (fun w' O K hK => ?_), does_want rfl (by rfl) (fun w' O K hK => ?_), does_want rfl (by rfl) (fun w' O K hK => ?_), does_want rfl (by rfl) (fun w' O K hK => ?_), does_skip rfl (by rfl), does_skip rfl (by rfl), does_skip rfl (by rfl), does_skip rfl (by rfl), does_skip rfl (by rfl), does_want rfl (by rfl) (fun w' O K hK => ?_), does_want rfl (by rfl) (fun w' O K hK => ?_), does_skip rfl (by rfl), does_skip rfl (by rfl), does_skip rfl (by rfl), does_skip rfl (by rfl), does_skip rfl (by rfl), does_want rfl (by rfl) (fun w' O K hK => ?_), does_want rfl (by rfl) (fun w' O K hK => ?_), does_skip rfl (by rfl), does_skip rfl (by rfl), does_skip rfl (by rfl), does_skip rfl (by rfl), does_skip rfl (by rfl), does_want rfl (by rfl) (fun w' O K hK => ?_), does_want rfl (by rfl) (fun w' O K hK => ?_), does_skip rfl (by rfl), does_skip rfl (by rfl), does_skip rfl (by rfl), does_skip rfl (by rfl), does_skip rfl (by rfl), does_want rfl (by rfl) (fun w' O K hK => ?_), does_want rfl (by rfl) (fun w' O K hK => ?_), does_skip rfl (by rfl), does_skip rfl (by rfl), does_skip rfl (by rfl), does_skip rfl (by rfl), does_skip rfl (by rfl), does_want rfl (by rfl) (fun w' O K hK => ?_), does_want rfl (by rfl) (fun w' O K hK => ?_), does_skip rfl (by rfl), does_skip rfl (by rfl), does_skip rfl (by rfl), does_want rfl (by rfl) (fun w' O K hK => ?_), trivial⟩, fun w' O => ?_⟩
    · go_simp
      exact hK _ O
    · exact wp_cell_h (v := .int .i64 v0) O.held 1 rfl C0.out rfl agg3 rfl (hK _ O)
    · go_simp
      exact hK _ O
    · have e := HQ.out
      have e0 := HN.out
      go_simp
      exact hK _ O
    · go_simp
      exact hK _ O
    · go_simp
      exact hK _ O
    · go_simp
      exact hK _ O
    · exact wp_cell_h (v := .int .i64 v0) O.held 1 rfl C0.out rfl agg3 rfl (hK _ O)
    · go_simp
      exact hK _ O
    · have e := HR.out
      have e0 := HN.out
      go_simp
      exact hK _ O
    · go_simp
      exact hK _ O
    · go_simp
      exact hK _ O
    · go_simp
      exact hK _ O
    · go_simp
      exact hK _ O
    · go_simp
      exact hK _ O
    · go_simp
      exact hK _ O
    · go_simp
      exact hK _ O
    · go_simp
      exact hK _ O
    · go_simp
      exact hK _ O
    · go_simp
      exact hK _ O
    · go_simp
      exact hK _ O
    · go_simp
      exact hK _ O
    · go_simp
      exact hK _ O
    · go_simp
      exact hK _ O
    refine wpAny_done (by kernel_rfl) ?_ _
    go_wp2_with (go_at_call 10; refine (awake_any _).mono ?_; rintro e w11 ⟨rfl, hb⟩; replace O := O.call hb; clear hb)
    go_ret
    exact ⟨rfl, O.below⟩
  by_cases k2 : q < v1
  · have F0 : decide (q < v0) = false := decide_eq_false (by omega)
    have F1 : decide (v0 < r) = false := decide_eq_false (by omega)
    have F2 : decide (q < v1) = true := decide_eq_true (by omega)
    clear k0 k1 k2 HS HP er qp c0 c1 c2 c3 hk hr
    go_enter Try.func5, Try.ntmps5
    go_wp2_with (first | ((with_reducible refine at_box 3 ?_); refine wpList_box_own O (M.mat 8 (v)) rfl ?_; clear O; intro g3 w1 O) | ((with_reducible refine at_box 4 ?_); refine wpList_box_own O (M.mat 4 (p)) rfl ?_; clear O; intro g4 w2 O))
    simp only [W1, W2]
    clear W1 W2
    refine region_T ((fun w2 => Own w w2 [(g4, 27, M.mat 4 p), (g3, 25, M.mat 8 v)])) [0, 1, 2, 3, 4, 5, 6, 7, 8, 9, 10, 11, 12, 13, 14, 15, 16, 17, 18, 19, 20, 21, 22, 23, 24, 25, 26, 27, 28, 29, 30, 31, 32, 33, 34, 35, 36, 37, 38, 39, 40, 41, 42, 43, 44, 45, 46, 47, 48, 49, 50, 51] 12 [some 15, some 16, some 17, some 18, some 19, some 20, some 21, some 22, some 23, some 24, some 25, some 26, some 27, some 28, some 29, some 30, some 31, some 32, some 33, some 34, some 35, some 36, some 37, some 38, some 39, some 40, some 41, some 42, some 43, some 44, some 45, some 46, some 47, some 48, some 49, some 50, some 51, some 52, some 53, some 54, some 55, some 56, some 57, some 58, some 59, some 60, some 61, some 62, some 63, some 64, some 65, some 66] [.pointer (some ⟨g3, 0, none⟩), .int .i64 v0, .int .i64 n, .int .i64 q, .bool false, .bool false, .pointer (some ⟨g3, 0, none⟩), .int .i64 v0, .int .i64 n, .int .i64 r, .bool false, .bool false, .bool false, .pointer (some ⟨g3, 1, none⟩), .int .i64 v1, .int .i64 n, .int .i64 q, .bool true, .bool true, .bool true, undef, undef, undef, undef, undef, .bool true, .bool true, undef, undef, undef, undef, undef, .bool true, .bool true, undef, undef, undef, undef, undef, .bool true, .bool true, undef, undef, undef, undef, undef, .bool true, .bool true, undef, undef, undef, .bool true] 0 (by kernel_rfl) (by rfl) (by kernel_rfl) (by rfl) (by rfl) (O.drew) (fun F hF => ?_)
    simp only [fillD, Act.put, List.setIfInBounds_toArray, List.set_cons_zero, List.set_cons_succ] at hF
    subst hF
    refine ⟨⟨does_want rfl (by rfl) (fun w' O K hK => ?_), does_want rfl (by rfl) (fun w' O K hK => ?_), does_want rfl (by rfl) (fun w' O K hK => ?_), does_want rfl (by rfl) (fun w' O K hK => ?_), does_want rfl (by rfl) (fun w' O K hK => ?_), does_want rfl (by rfl) (fun w' O K hK => ?_), does_want rfl (by rfl) (fun w' O K hK => ?_), does_want rfl (by rfl) (fun w' O K hK => ?_), does_want rfl (by rfl) (fun w' O K hK => ?_), does_want rfl (by rfl) (fun w' O K hK => ?_), does_want rfl (by rfl) (fun w' O K hK => ?_), does_want rfl (by rfl) (fun w' O K hK => ?_), does_want rfl (by rfl) (fun w' O K hK => ?_), does_want rfl (by rfl) (fun w' O K hK => ?_), does_want rfl (by rfl) (fun w' O K hK => ?_), does_want rfl (by rfl) (fun w' O K hK => ?_), does_want rfl (by rfl) (fun w' O K hK => ?_), does_want rfl (by rfl) (fun w' O K hK => ?_), does_want rfl (by rfl) (fun w' O K hK => ?_), does_want rfl (by rfl) (fun w' O K hK => ?_), does_skip rfl (by rfl), does_skip rfl (by rfl), does_skip rfl (by rfl), does_skip rfl (by rfl), does_skip rfl (by rfl), does_want rfl (by rfl) (fun w' O K hK => ?_), does_want rfl (by rfl) (fun w' O K hK => ?_), does_skip rfl (by rfl), does_skip rfl (by rfl), does_skip rfl (by rfl), does_skip rfl (by rfl), does_skip rfl (by rfl), does_want rfl (by rfl) (fun w' O K hK => ?_), does_want rfl (by rfl) (fun w' O K hK => ?_), does_skip rfl (by rfl), does_skip rfl (by rfl), does_skip rfl (by rfl), does_skip rfl (by rfl), does_skip rfl (by rfl), does_want rfl (by rfl) (fun w' O K hK => ?_), does_want rfl (by rfl) (fun w' O K hK => ?_), does_skip rfl (by rfl), does_skip rfl (by rfl), does_skip rfl (by rfl), does_skip rfl (by rfl), does_skip rfl (by rfl), does_want rfl (by rfl) (fun w' O K hK => ?_), does_want rfl (by rfl) (fun w' O K hK => ?_), does_skip rfl (by rfl), does_skip rfl (by rfl), does_skip rfl (by rfl), does_want rfl (by rfl) (fun w' O K hK => ?_), trivial⟩, fun w' O => ?_⟩
    · go_simp
      exact hK _ O
    · exact wp_cell_h (v := .int .i64 v0) O.held 1 rfl C0.out rfl agg3 rfl (hK _ O)
    · go_simp
      exact hK _ O
    · have e := HQ.out
      have e0 := HN.out
      go_simp
      exact hK _ O
    · go_simp
      exact hK _ O
    · go_simp
      exact hK _ O
    · go_simp
      exact hK _ O
    · exact wp_cell_h (v := .int .i64 v0) O.held 1 rfl C0.out rfl agg3 rfl (hK _ O)
    · go_simp
      exact hK _ O
    · have e := HR.out
      have e0 := HN.out
      go_simp
      exact hK _ O
    · go_simp
      exact hK _ O
    · go_simp
      exact hK _ O
    · go_simp
      exact hK _ O
    · go_simp
      exact hK _ O
    · exact wp_cell_h (v := .int .i64 v1) O.held 1 rfl C1.out rfl agg3 rfl (hK _ O)
    · go_simp
      exact hK _ O
    · have e := HQ.out
      have e0 := HN.out
      go_simp
      exact hK _ O
    · go_simp
      exact hK _ O
    · go_simp
      exact hK _ O
    · go_simp
      exact hK _ O
    · go_simp
      exact hK _ O
    · go_simp
      exact hK _ O
    · go_simp
      exact hK _ O
    · go_simp
      exact hK _ O
    · go_simp
      exact hK _ O
    · go_simp
      exact hK _ O
    · go_simp
      exact hK _ O
    · go_simp
      exact hK _ O
    · go_simp
      exact hK _ O
    refine wpAny_done (by kernel_rfl) ?_ _
    go_wp2_with (go_at_call 10; refine (awake_any _).mono ?_; rintro e w11 ⟨rfl, hb⟩; replace O := O.call hb; clear hb)
    go_ret
    exact ⟨rfl, O.below⟩
  by_cases k3 : v1 < r
  · have F0 : decide (q < v0) = false := decide_eq_false (by omega)
    have F1 : decide (v0 < r) = false := decide_eq_false (by omega)
    have F2 : decide (q < v1) = false := decide_eq_false (by omega)
    have F3 : decide (v1 < r) = true := decide_eq_true (by omega)
    clear k0 k1 k2 k3 HS HP er qp c0 c1 c2 c3 hk hr
    go_enter Try.func5, Try.ntmps5
    go_wp2_with (first | ((with_reducible refine at_box 3 ?_); refine wpList_box_own O (M.mat 8 (v)) rfl ?_; clear O; intro g3 w1 O) | ((with_reducible refine at_box 4 ?_); refine wpList_box_own O (M.mat 4 (p)) rfl ?_; clear O; intro g4 w2 O))
    simp only [W1, W2]
    clear W1 W2
    refine region_T ((fun w2 => Own w w2 [(g4, 27, M.mat 4 p), (g3, 25, M.mat 8 v)])) [0, 1, 2, 3, 4, 5, 6, 7, 8, 9, 10, 11, 12, 13, 14, 15, 16, 17, 18, 19, 20, 21, 22, 23, 24, 25, 26, 27, 28, 29, 30, 31, 32, 33, 34, 35, 36, 37, 38, 39, 40, 41, 42, 43, 44, 45, 46, 47, 48, 49, 50, 51] 12 [some 15, some 16, some 17, some 18, some 19, some 20, some 21, some 22, some 23, some 24, some 25, some 26, some 27, some 28, some 29, some 30, some 31, some 32, some 33, some 34, some 35, some 36, some 37, some 38, some 39, some 40, some 41, some 42, some 43, some 44, some 45, some 46, some 47, some 48, some 49, some 50, some 51, some 52, some 53, some 54, some 55, some 56, some 57, some 58, some 59, some 60, some 61, some 62, some 63, some 64, some 65, some 66] [.pointer (some ⟨g3, 0, none⟩), .int .i64 v0, .int .i64 n, .int .i64 q, .bool false, .bool false, .pointer (some ⟨g3, 0, none⟩), .int .i64 v0, .int .i64 n, .int .i64 r, .bool false, .bool false, .bool false, .pointer (some ⟨g3, 1, none⟩), .int .i64 v1, .int .i64 n, .int .i64 q, .bool false, .bool false, .bool false, .pointer (some ⟨g3, 1, none⟩), .int .i64 v1, .int .i64 n, .int .i64 r, .bool true, .bool true, .bool true, undef, undef, undef, undef, undef, .bool true, .bool true, undef, undef, undef, undef, undef, .bool true, .bool true, undef, undef, undef, undef, undef, .bool true, .bool true, undef, undef, undef, .bool true] 0 (by kernel_rfl) (by rfl) (by kernel_rfl) (by rfl) (by rfl) (O.drew) (fun F hF => ?_)
    simp only [fillD, Act.put, List.setIfInBounds_toArray, List.set_cons_zero, List.set_cons_succ] at hF
    subst hF
    refine ⟨⟨does_want rfl (by rfl) (fun w' O K hK => ?_), does_want rfl (by rfl) (fun w' O K hK => ?_), does_want rfl (by rfl) (fun w' O K hK => ?_), does_want rfl (by rfl) (fun w' O K hK => ?_), does_want rfl (by rfl) (fun w' O K hK => ?_), does_want rfl (by rfl) (fun w' O K hK => ?_), does_want rfl (by rfl) (fun w' O K hK => ?_), does_want rfl (by rfl) (fun w' O K hK => ?_), does_want rfl (by rfl) (fun w' O K hK => ?_), does_want rfl (by rfl) (fun w' O K hK => ?_), does_want rfl (by rfl) (fun w' O K hK => ?_), does_want rfl (by rfl) (fun w' O K hK => ?_), does_want rfl (by rfl) (fun w' O K hK => ?_), does_want rfl (by rfl) (fun w' O K hK => ?_), does_want rfl (by rfl) (fun w' O K hK => ?_), does_want rfl (by rfl) (fun w' O K hK => ?_), does_want rfl (by rfl) (fun w' O K hK => ?_), does_want rfl (by rfl) (fun w' O K hK => ?_), does_want rfl (by rfl) (fun w' O K hK => ?_), does_want rfl (by rfl) (fun w' O K hK => ?_), does_want rfl (by rfl) (fun w' O K hK => ?_), does_want rfl (by rfl) (fun w' O K hK => ?_), does_want rfl (by rfl) (fun w' O K hK => ?_), does_want rfl (by rfl) (fun w' O K hK => ?_), does_want rfl (by rfl) (fun w' O K hK => ?_), does_want rfl (by rfl) (fun w' O K hK => ?_), does_want rfl (by rfl) (fun w' O K hK => ?_), does_skip rfl (by rfl), does_skip rfl (by rfl), does_skip rfl (by rfl), does_skip rfl (by rfl), does_skip rfl (by rfl), does_want rfl (by rfl) (fun w' O K hK => ?_), does_want rfl (by rfl) (fun w' O K hK => ?_), does_skip rfl (by rfl), does_skip rfl (by rfl), does_skip rfl (by rfl), does_skip rfl (by rfl), does_skip rfl (by rfl), does_want rfl (by rfl) (fun w' O K hK => ?_), does_want rfl (by rfl) (fun w' O K hK => ?_), does_skip rfl (by rfl), does_skip rfl (by rfl), does_skip rfl (by rfl), does_skip rfl (by rfl), does_skip rfl (by rfl), does_want rfl (by rfl) (fun w' O K hK => ?_), does_want rfl (by rfl) (fun w' O K hK => ?_), does_skip rfl (by rfl), does_skip rfl (by rfl), does_skip rfl (by rfl), does_want rfl (by rfl) (fun w' O K hK => ?_), trivial⟩, fun w' O => ?_⟩
    · go_simp
      exact hK _ O
    · exact wp_cell_h (v := .int .i64 v0) O.held 1 rfl C0.out rfl agg3 rfl (hK _ O)
    · go_simp
      exact hK _ O
    · have e := HQ.out
      have e0 := HN.out
      go_simp
      exact hK _ O
    · go_simp
      exact hK _ O
    · go_simp
      exact hK _ O
    · go_simp
      exact hK _ O
    · exact wp_cell_h (v := .int .i64 v0) O.held 1 rfl C0.out rfl agg3 rfl (hK _ O)
    · go_simp
      exact hK _ O
    · have e := HR.out
      have e0 := HN.out
      go_simp
      exact hK _ O
    · go_simp
      exact hK _ O
    · go_simp
      exact hK _ O
    · go_simp
      exact hK _ O
    · go_simp
      exact hK _ O
    · exact wp_cell_h (v := .int .i64 v1) O.held 1 rfl C1.out rfl agg3 rfl (hK _ O)
    · go_simp
      exact hK _ O
    · have e := HQ.out
      have e0 := HN.out
      go_simp
      exact hK _ O
    · go_simp
      exact hK _ O
    · go_simp
      exact hK _ O
    · go_simp
      exact hK _ O
    · go_simp
      exact hK _ O
    · exact wp_cell_h (v := .int .i64 v1) O.held 1 rfl C1.out rfl agg3 rfl (hK _ O)
    · go_simp
      exact hK _ O
    · have e := HR.out
      have e0 := HN.out
      go_simp
      exact hK _ O
    · go_simp
      exact hK _ O
    · go_simp
      exact hK _ O
    · go_simp
      exact hK _ O
    · go_simp
      exact hK _ O
    · go_simp
      exact hK _ O
    · go_simp
      exact hK _ O
    · go_simp
      exact hK _ O
    · go_simp
      exact hK _ O
    · go_simp
      exact hK _ O
    · go_simp
      exact hK _ O
    refine wpAny_done (by kernel_rfl) ?_ _
    go_wp2_with (go_at_call 10; refine (awake_any _).mono ?_; rintro e w11 ⟨rfl, hb⟩; replace O := O.call hb; clear hb)
    go_ret
    exact ⟨rfl, O.below⟩
  by_cases k4 : q < v2
  · have F0 : decide (q < v0) = false := decide_eq_false (by omega)
    have F1 : decide (v0 < r) = false := decide_eq_false (by omega)
    have F2 : decide (q < v1) = false := decide_eq_false (by omega)
    have F3 : decide (v1 < r) = false := decide_eq_false (by omega)
    have F4 : decide (q < v2) = true := decide_eq_true (by omega)
    clear k0 k1 k2 k3 k4 HS HP er qp c0 c1 c2 c3 hk hr
    go_enter Try.func5, Try.ntmps5
    go_wp2_with (first | ((with_reducible refine at_box 3 ?_); refine wpList_box_own O (M.mat 8 (v)) rfl ?_; clear O; intro g3 w1 O) | ((with_reducible refine at_box 4 ?_); refine wpList_box_own O (M.mat 4 (p)) rfl ?_; clear O; intro g4 w2 O))
    simp only [W1, W2]
    clear W1 W2
    refine region_T ((fun w2 => Own w w2 [(g4, 27, M.mat 4 p), (g3, 25, M.mat 8 v)])) [0, 1, 2, 3, 4, 5, 6, 7, 8, 9, 10, 11, 12, 13, 14, 15, 16, 17, 18, 19, 20, 21, 22, 23, 24, 25, 26, 27, 28, 29, 30, 31, 32, 33, 34, 35, 36, 37, 38, 39, 40, 41, 42, 43, 44, 45, 46, 47, 48, 49, 50, 51] 12 [some 15, some 16, some 17, some 18, some 19, some 20, some 21, some 22, some 23, some 24, some 25, some 26, some 27, some 28, some 29, some 30, some 31, some 32, some 33, some 34, some 35, some 36, some 37, some 38, some 39, some 40, some 41, some 42, some 43, some 44, some 45, some 46, some 47, some 48, some 49, some 50, some 51, some 52, some 53, some 54, some 55, some 56, some 57, some 58, some 59, some 60, some 61, some 62, some 63, some 64, some 65, some 66] [.pointer (some ⟨g3, 0, none⟩), .int .i64 v0, .int .i64 n, .int .i64 q, .bool false, .bool false, .pointer (some ⟨g3, 0, none⟩), .int .i64 v0, .int .i64 n, .int .i64 r, .bool false, .bool false, .bool false, .pointer (some ⟨g3, 1, none⟩), .int .i64 v1, .int .i64 n, .int .i64 q, .bool false, .bool false, .bool false, .pointer (some ⟨g3, 1, none⟩), .int .i64 v1, .int .i64 n, .int .i64 r, .bool false, .bool false, .bool false, .pointer (some ⟨g3, 2, none⟩), .int .i64 v2, .int .i64 n, .int .i64 q, .bool true, .bool true, .bool true, undef, undef, undef, undef, undef, .bool true, .bool true, undef, undef, undef, undef, undef, .bool true, .bool true, undef, undef, undef, .bool true] 0 (by kernel_rfl) (by rfl) (by kernel_rfl) (by rfl) (by rfl) (O.drew) (fun F hF => ?_)
    simp only [fillD, Act.put, List.setIfInBounds_toArray, List.set_cons_zero, List.set_cons_succ] at hF
    subst hF
    refine ⟨⟨does_want rfl (by rfl) (fun w' O K hK => ?_), does_want rfl (by rfl) (fun w' O K hK => ?_), does_want rfl (by rfl) (fun w' O K hK => ?_), does_want rfl (by rfl) (fun w' O K hK => ?_), does_want rfl (by rfl) (fun w' O K hK => ?_), does_want rfl (by rfl) (fun w' O K hK => ?_), does_want rfl (by rfl) (fun w' O K hK => ?_), does_want rfl (by rfl) (fun w' O K hK => ?_), does_want rfl (by rfl) (fun w' O K hK => ?_), does_want rfl (by rfl) (fun w' O K hK => ?_), does_want rfl (by rfl) (fun w' O K hK => ?_), does_want rfl (by rfl) (fun w' O K hK => ?_), does_want rfl (by rfl) (fun w' O K hK => ?_), does_want rfl (by rfl) (fun w' O K hK => ?_), does_want rfl (by rfl) (fun w' O K hK => ?_), does_want rfl (by rfl) (fun w' O K hK => ?_), does_want rfl (by rfl) (fun w' O K hK => ?_), does_want rfl (by rfl) (fun w' O K hK => ?_), does_want rfl (by rfl) (fun w' O K hK => ?_), does_want rfl (by rfl) (fun w' O K hK => ?_), does_want rfl (by rfl) (fun w' O K hK => ?_), does_want rfl (by rfl) (fun w' O K hK => ?_), does_want rfl (by rfl) (fun w' O K hK => ?_), does_want rfl (by rfl) (fun w' O K hK => ?_), does_want rfl (by rfl) (fun w' O K hK => ?_), does_want rfl (by rfl) (fun w' O K hK => ?_), does_want rfl (by rfl) (fun w' O K hK => ?_), does_want rfl (by rfl) (fun w' O K hK => ?_), does_want rfl (by rfl) (fun w' O K hK => ?_), does_want rfl (by rfl) (fun w' O K hK => ?_), does_want rfl (by rfl) (fun w' O K hK => ?_), does_want rfl (by rfl) (fun w' O K hK => ?_), does_want rfl (by rfl) (fun w' O K hK => ?_), does_want rfl (by rfl) (fun w' O K hK => ?_), does_skip rfl (by rfl), does_skip rfl (by rfl), does_skip rfl (by rfl), does_skip rfl (by rfl), does_skip rfl (by rfl), does_want rfl (by rfl) (fun w' O K hK => ?_), does_want rfl (by rfl) (fun w' O K hK => ?_), does_skip rfl (by rfl), does_skip rfl (by rfl), does_skip rfl (by rfl), does_skip rfl (by rfl), does_skip rfl (by rfl), does_want rfl (by rfl) (fun w' O K hK => ?_), does_want rfl (by rfl) (fun w' O K hK => ?_), does_skip rfl (by rfl), does_skip rfl (by rfl), does_skip rfl (by rfl), does_want rfl (by rfl) (fun w' O K hK => ?_), trivial⟩, fun w' O => ?_⟩
    · go_simp
      exact hK _ O
    · exact wp_cell_h (v := .int .i64 v0) O.held 1 rfl C0.out rfl agg3 rfl (hK _ O)
    · go_simp
      exact hK _ O
    · have e := HQ.out
      have e0 := HN.out
      go_simp
      exact hK _ O
    · go_simp
      exact hK _ O
    · go_simp
      exact hK _ O
    · go_simp
      exact hK _ O
    · exact wp_cell_h (v := .int .i64 v0) O.held 1 rfl C0.out rfl agg3 rfl (hK _ O)
    · go_simp
      exact hK _ O
    · have e := HR.out
      have e0 := HN.out
      go_simp
      exact hK _ O
    · go_simp
      exact hK _ O
    · go_simp
      exact hK _ O
    · go_simp
      exact hK _ O
    · go_simp
      exact hK _ O
    · exact wp_cell_h (v := .int .i64 v1) O.held 1 rfl C1.out rfl agg3 rfl (hK _ O)
    · go_simp
      exact hK _ O
    · have e := HQ.out
      have e0 := HN.out
      go_simp
      exact hK _ O
    · go_simp
      exact hK _ O
    · go_simp
      exact hK _ O
    · go_simp
      exact hK _ O
    · go_simp
      exact hK _ O
    · exact wp_cell_h (v := .int .i64 v1) O.held 1 rfl C1.out rfl agg3 rfl (hK _ O)
    · go_simp
      exact hK _ O
    · have e := HR.out
      have e0 := HN.out
      go_simp
      exact hK _ O
    · go_simp
      exact hK _ O
    · go_simp
      exact hK _ O
    · go_simp
      exact hK _ O
    · go_simp
      exact hK _ O
    · exact wp_cell_h (v := .int .i64 v2) O.held 1 rfl C2.out rfl agg3 rfl (hK _ O)
    · go_simp
      exact hK _ O
    · have e := HQ.out
      have e0 := HN.out
      go_simp
      exact hK _ O
    · go_simp
      exact hK _ O
    · go_simp
      exact hK _ O
    · go_simp
      exact hK _ O
    · go_simp
      exact hK _ O
    · go_simp
      exact hK _ O
    · go_simp
      exact hK _ O
    · go_simp
      exact hK _ O
    · go_simp
      exact hK _ O
    refine wpAny_done (by kernel_rfl) ?_ _
    go_wp2_with (go_at_call 10; refine (awake_any _).mono ?_; rintro e w11 ⟨rfl, hb⟩; replace O := O.call hb; clear hb)
    go_ret
    exact ⟨rfl, O.below⟩
  by_cases k5 : v2 < r
  · have F0 : decide (q < v0) = false := decide_eq_false (by omega)
    have F1 : decide (v0 < r) = false := decide_eq_false (by omega)
    have F2 : decide (q < v1) = false := decide_eq_false (by omega)
    have F3 : decide (v1 < r) = false := decide_eq_false (by omega)
    have F4 : decide (q < v2) = false := decide_eq_false (by omega)
    have F5 : decide (v2 < r) = true := decide_eq_true (by omega)
    clear k0 k1 k2 k3 k4 k5 HS HP er qp c0 c1 c2 c3 hk hr
    go_enter Try.func5, Try.ntmps5
    go_wp2_with (first | ((with_reducible refine at_box 3 ?_); refine wpList_box_own O (M.mat 8 (v)) rfl ?_; clear O; intro g3 w1 O) | ((with_reducible refine at_box 4 ?_); refine wpList_box_own O (M.mat 4 (p)) rfl ?_; clear O; intro g4 w2 O))
    simp only [W1, W2]
    clear W1 W2
    refine region_T ((fun w2 => Own w w2 [(g4, 27, M.mat 4 p), (g3, 25, M.mat 8 v)])) [0, 1, 2, 3, 4, 5, 6, 7, 8, 9, 10, 11, 12, 13, 14, 15, 16, 17, 18, 19, 20, 21, 22, 23, 24, 25, 26, 27, 28, 29, 30, 31, 32, 33, 34, 35, 36, 37, 38, 39, 40, 41, 42, 43, 44, 45, 46, 47, 48, 49, 50, 51] 12 [some 15, some 16, some 17, some 18, some 19, some 20, some 21, some 22, some 23, some 24, some 25, some 26, some 27, some 28, some 29, some 30, some 31, some 32, some 33, some 34, some 35, some 36, some 37, some 38, some 39, some 40, some 41, some 42, some 43, some 44, some 45, some 46, some 47, some 48, some 49, some 50, some 51, some 52, some 53, some 54, some 55, some 56, some 57, some 58, some 59, some 60, some 61, some 62, some 63, some 64, some 65, some 66] [.pointer (some ⟨g3, 0, none⟩), .int .i64 v0, .int .i64 n, .int .i64 q, .bool false, .bool false, .pointer (some ⟨g3, 0, none⟩), .int .i64 v0, .int .i64 n, .int .i64 r, .bool false, .bool false, .bool false, .pointer (some ⟨g3, 1, none⟩), .int .i64 v1, .int .i64 n, .int .i64 q, .bool false, .bool false, .bool false, .pointer (some ⟨g3, 1, none⟩), .int .i64 v1, .int .i64 n, .int .i64 r, .bool false, .bool false, .bool false, .pointer (some ⟨g3, 2, none⟩), .int .i64 v2, .int .i64 n, .int .i64 q, .bool false, .bool false, .bool false, .pointer (some ⟨g3, 2, none⟩), .int .i64 v2, .int .i64 n, .int .i64 r, .bool true, .bool true, .bool true, undef, undef, undef, undef, undef, .bool true, .bool true, undef, undef, undef, .bool true] 0 (by kernel_rfl) (by rfl) (by kernel_rfl) (by rfl) (by rfl) (O.drew) (fun F hF => ?_)
    simp only [fillD, Act.put, List.setIfInBounds_toArray, List.set_cons_zero, List.set_cons_succ] at hF
    subst hF
    refine ⟨⟨does_want rfl (by rfl) (fun w' O K hK => ?_), does_want rfl (by rfl) (fun w' O K hK => ?_), does_want rfl (by rfl) (fun w' O K hK => ?_), does_want rfl (by rfl) (fun w' O K hK => ?_), does_want rfl (by rfl) (fun w' O K hK => ?_), does_want rfl (by rfl) (fun w' O K hK => ?_), does_want rfl (by rfl) (fun w' O K hK => ?_), does_want rfl (by rfl) (fun w' O K hK => ?_), does_want rfl (by rfl) (fun w' O K hK => ?_), does_want rfl (by rfl) (fun w' O K hK => ?_), does_want rfl (by rfl) (fun w' O K hK => ?_), does_want rfl (by rfl) (fun w' O K hK => ?_), does_want rfl (by rfl) (fun w' O K hK => ?_), does_want rfl (by rfl) (fun w' O K hK => ?_), does_want rfl (by rfl) (fun w' O K hK => ?_), does_want rfl (by rfl) (fun w' O K hK => ?_), does_want rfl (by rfl) (fun w' O K hK => ?_), does_want rfl (by rfl) (fun w' O K hK => ?_), does_want rfl (by rfl) (fun w' O K hK => ?_), does_want rfl (by rfl) (fun w' O K hK => ?_), does_want rfl (by rfl) (fun w' O K hK => ?_), does_want rfl (by rfl) (fun w' O K hK => ?_), does_want rfl (by rfl) (fun w' O K hK => ?_), does_want rfl (by rfl) (fun w' O K hK => ?_), does_want rfl (by rfl) (fun w' O K hK => ?_), does_want rfl (by rfl) (fun w' O K hK => ?_), does_want rfl (by rfl) (fun w' O K hK => ?_), does_want rfl (by rfl) (fun w' O K hK => ?_), does_want rfl (by rfl) (fun w' O K hK => ?_), does_want rfl (by rfl) (fun w' O K hK => ?_), does_want rfl (by rfl) (fun w' O K hK => ?_), does_want rfl (by rfl) (fun w' O K hK => ?_), does_want rfl (by rfl) (fun w' O K hK => ?_), does_want rfl (by rfl) (fun w' O K hK => ?_), does_want rfl (by rfl) (fun w' O K hK => ?_), does_want rfl (by rfl) (fun w' O K hK => ?_), does_want rfl (by rfl) (fun w' O K hK => ?_), does_want rfl (by rfl) (fun w' O K hK => ?_), does_want rfl (by rfl) (fun w' O K hK => ?_), does_want rfl (by rfl) (fun w' O K hK => ?_), does_want rfl (by rfl) (fun w' O K hK => ?_), does_skip rfl (by rfl), does_skip rfl (by rfl), does_skip rfl (by rfl), does_skip rfl (by rfl), does_skip rfl (by rfl), does_want rfl (by rfl) (fun w' O K hK => ?_), does_want rfl (by rfl) (fun w' O K hK => ?_), does_skip rfl (by rfl), does_skip rfl (by rfl), does_skip rfl (by rfl), does_want rfl (by rfl) (fun w' O K hK => ?_), trivial⟩, fun w' O => ?_⟩
    · go_simp
      exact hK _ O
    · exact wp_cell_h (v := .int .i64 v0) O.held 1 rfl C0.out rfl agg3 rfl (hK _ O)
    · go_simp
      exact hK _ O
    · have e := HQ.out
      have e0 := HN.out
      go_simp
      exact hK _ O
    · go_simp
      exact hK _ O
    · go_simp
      exact hK _ O
    · go_simp
      exact hK _ O
    · exact wp_cell_h (v := .int .i64 v0) O.held 1 rfl C0.out rfl agg3 rfl (hK _ O)
    · go_simp
      exact hK _ O
    · have e := HR.out
      have e0 := HN.out
      go_simp
      exact hK _ O
    · go_simp
      exact hK _ O
    · go_simp
      exact hK _ O
    · go_simp
      exact hK _ O
    · go_simp
      exact hK _ O
    · exact wp_cell_h (v := .int .i64 v1) O.held 1 rfl C1.out rfl agg3 rfl (hK _ O)
    · go_simp
      exact hK _ O
    · have e := HQ.out
      have e0 := HN.out
      go_simp
      exact hK _ O
    · go_simp
      exact hK _ O
    · go_simp
      exact hK _ O
    · go_simp
      exact hK _ O
    · go_simp
      exact hK _ O
    · exact wp_cell_h (v := .int .i64 v1) O.held 1 rfl C1.out rfl agg3 rfl (hK _ O)
    · go_simp
      exact hK _ O
    · have e := HR.out
      have e0 := HN.out
      go_simp
      exact hK _ O
    · go_simp
      exact hK _ O
    · go_simp
      exact hK _ O
    · go_simp
      exact hK _ O
    · go_simp
      exact hK _ O
    · exact wp_cell_h (v := .int .i64 v2) O.held 1 rfl C2.out rfl agg3 rfl (hK _ O)
    · go_simp
      exact hK _ O
    · have e := HQ.out
      have e0 := HN.out
      go_simp
      exact hK _ O
    · go_simp
      exact hK _ O
    · go_simp
      exact hK _ O
    · go_simp
      exact hK _ O
    · go_simp
      exact hK _ O
    · exact wp_cell_h (v := .int .i64 v2) O.held 1 rfl C2.out rfl agg3 rfl (hK _ O)
    · go_simp
      exact hK _ O
    · have e := HR.out
      have e0 := HN.out
      go_simp
      exact hK _ O
    · go_simp
      exact hK _ O
    · go_simp
      exact hK _ O
    · go_simp
      exact hK _ O
    · go_simp
      exact hK _ O
    · go_simp
      exact hK _ O
    · go_simp
      exact hK _ O
    refine wpAny_done (by kernel_rfl) ?_ _
    go_wp2_with (go_at_call 10; refine (awake_any _).mono ?_; rintro e w11 ⟨rfl, hb⟩; replace O := O.call hb; clear hb)
    go_ret
    exact ⟨rfl, O.below⟩
  by_cases k6 : q < v3
  · have F0 : decide (q < v0) = false := decide_eq_false (by omega)
    have F1 : decide (v0 < r) = false := decide_eq_false (by omega)
    have F2 : decide (q < v1) = false := decide_eq_false (by omega)
    have F3 : decide (v1 < r) = false := decide_eq_false (by omega)
    have F4 : decide (q < v2) = false := decide_eq_false (by omega)
    have F5 : decide (v2 < r) = false := decide_eq_false (by omega)
    have F6 : decide (q < v3) = true := decide_eq_true (by omega)
    clear k0 k1 k2 k3 k4 k5 k6 HS HP er qp c0 c1 c2 c3 hk hr
    go_enter Try.func5, Try.ntmps5
    go_wp2_with (first | ((with_reducible refine at_box 3 ?_); refine wpList_box_own O (M.mat 8 (v)) rfl ?_; clear O; intro g3 w1 O) | ((with_reducible refine at_box 4 ?_); refine wpList_box_own O (M.mat 4 (p)) rfl ?_; clear O; intro g4 w2 O))
    simp only [W1, W2]
    clear W1 W2
    refine region_T ((fun w2 => Own w w2 [(g4, 27, M.mat 4 p), (g3, 25, M.mat 8 v)])) [0, 1, 2, 3, 4, 5, 6, 7, 8, 9, 10, 11, 12, 13, 14, 15, 16, 17, 18, 19, 20, 21, 22, 23, 24, 25, 26, 27, 28, 29, 30, 31, 32, 33, 34, 35, 36, 37, 38, 39, 40, 41, 42, 43, 44, 45, 46, 47, 48, 49, 50, 51] 12 [some 15, some 16, some 17, some 18, some 19, some 20, some 21, some 22, some 23, some 24, some 25, some 26, some 27, some 28, some 29, some 30, some 31, some 32, some 33, some 34, some 35, some 36, some 37, some 38, some 39, some 40, some 41, some 42, some 43, some 44, some 45, some 46, some 47, some 48, some 49, some 50, some 51, some 52, some 53, some 54, some 55, some 56, some 57, some 58, some 59, some 60, some 61, some 62, some 63, some 64, some 65, some 66] [.pointer (some ⟨g3, 0, none⟩), .int .i64 v0, .int .i64 n, .int .i64 q, .bool false, .bool false, .pointer (some ⟨g3, 0, none⟩), .int .i64 v0, .int .i64 n, .int .i64 r, .bool false, .bool false, .bool false, .pointer (some ⟨g3, 1, none⟩), .int .i64 v1, .int .i64 n, .int .i64 q, .bool false, .bool false, .bool false, .pointer (some ⟨g3, 1, none⟩), .int .i64 v1, .int .i64 n, .int .i64 r, .bool false, .bool false, .bool false, .pointer (some ⟨g3, 2, none⟩), .int .i64 v2, .int .i64 n, .int .i64 q, .bool false, .bool false, .bool false, .pointer (some ⟨g3, 2, none⟩), .int .i64 v2, .int .i64 n, .int .i64 r, .bool false, .bool false, .bool false, .pointer (some ⟨g3, 3, none⟩), .int .i64 v3, .int .i64 n, .int .i64 q, .bool true, .bool true, .bool true, undef, undef, undef, .bool true] 0 (by kernel_rfl) (by rfl) (by kernel_rfl) (by rfl) (by rfl) (O.drew) (fun F hF => ?_)
    simp only [fillD, Act.put, List.setIfInBounds_toArray, List.set_cons_zero, List.set_cons_succ] at hF
    subst hF
    refine ⟨⟨does_want rfl (by rfl) (fun w' O K hK => ?_), does_want rfl (by rfl) (fun w' O K hK => ?_), does_want rfl (by rfl) (fun w' O K hK => ?_), does_want rfl (by rfl) (fun w' O K hK => ?_), does_want rfl (by rfl) (fun w' O K hK => ?_), does_want rfl (by rfl) (fun w' O K hK => ?_), does_want rfl (by rfl) (fun w' O K hK => ?_), does_want rfl (by rfl) (fun w' O K hK => ?_), does_want rfl (by rfl) (fun w' O K hK => ?_), does_want rfl (by rfl) (fun w' O K hK => ?_), does_want rfl (by rfl) (fun w' O K hK => ?_), does_want rfl (by rfl) (fun w' O K hK => ?_), does_want rfl (by rfl) (fun w' O K hK => ?_), does_want rfl (by rfl) (fun w' O K hK => ?_), does_want rfl (by rfl) (fun w' O K hK => ?_), does_want rfl (by rfl) (fun w' O K hK => ?_), does_want rfl (by rfl) (fun w' O K hK => ?_), does_want rfl (by rfl) (fun w' O K hK => ?_), does_want rfl (by rfl) (fun w' O K hK => ?_), does_want rfl (by rfl) (fun w' O K hK => ?_), does_want rfl (by rfl) (fun w' O K hK => ?_), does_want rfl (by rfl) (fun w' O K hK => ?_), does_want rfl (by rfl) (fun w' O K hK => ?_), does_want rfl (by rfl) (fun w' O K hK => ?_), does_want rfl (by rfl) (fun w' O K hK => ?_), does_want rfl (by rfl) (fun w' O K hK => ?_), does_want rfl (by rfl) (fun w' O K hK => ?_), does_want rfl (by rfl) (fun w' O K hK => ?_), does_want rfl (by rfl) (fun w' O K hK => ?_), does_want rfl (by rfl) (fun w' O K hK => ?_), does_want rfl (by rfl) (fun w' O K hK => ?_), does_want rfl (by rfl) (fun w' O K hK => ?_), does_want rfl (by rfl) (fun w' O K hK => ?_), does_want rfl (by rfl) (fun w' O K hK => ?_), does_want rfl (by rfl) (fun w' O K hK => ?_), does_want rfl (by rfl) (fun w' O K hK => ?_), does_want rfl (by rfl) (fun w' O K hK => ?_), does_want rfl (by rfl) (fun w' O K hK => ?_), does_want rfl (by rfl) (fun w' O K hK => ?_), does_want rfl (by rfl) (fun w' O K hK => ?_), does_want rfl (by rfl) (fun w' O K hK => ?_), does_want rfl (by rfl) (fun w' O K hK => ?_), does_want rfl (by rfl) (fun w' O K hK => ?_), does_want rfl (by rfl) (fun w' O K hK => ?_), does_want rfl (by rfl) (fun w' O K hK => ?_), does_want rfl (by rfl) (fun w' O K hK => ?_), does_want rfl (by rfl) (fun w' O K hK => ?_), does_want rfl (by rfl) (fun w' O K hK => ?_), does_skip rfl (by rfl), does_skip rfl (by rfl), does_skip rfl (by rfl), does_want rfl (by rfl) (fun w' O K hK => ?_), trivial⟩, fun w' O => ?_⟩
    · go_simp
      exact hK _ O
    · exact wp_cell_h (v := .int .i64 v0) O.held 1 rfl C0.out rfl agg3 rfl (hK _ O)
    · go_simp
      exact hK _ O
    · have e := HQ.out
      have e0 := HN.out
      go_simp
      exact hK _ O
    · go_simp
      exact hK _ O
    · go_simp
      exact hK _ O
    · go_simp
      exact hK _ O
    · exact wp_cell_h (v := .int .i64 v0) O.held 1 rfl C0.out rfl agg3 rfl (hK _ O)
    · go_simp
      exact hK _ O
    · have e := HR.out
      have e0 := HN.out
      go_simp
      exact hK _ O
    · go_simp
      exact hK _ O
    · go_simp
      exact hK _ O
    · go_simp
      exact hK _ O
    · go_simp
      exact hK _ O
    · exact wp_cell_h (v := .int .i64 v1) O.held 1 rfl C1.out rfl agg3 rfl (hK _ O)
    · go_simp
      exact hK _ O
    · have e := HQ.out
      have e0 := HN.out
      go_simp
      exact hK _ O
    · go_simp
      exact hK _ O
    · go_simp
      exact hK _ O
    · go_simp
      exact hK _ O
    · go_simp
      exact hK _ O
    · exact wp_cell_h (v := .int .i64 v1) O.held 1 rfl C1.out rfl agg3 rfl (hK _ O)
    · go_simp
      exact hK _ O
    · have e := HR.out
      have e0 := HN.out
      go_simp
      exact hK _ O
    · go_simp
      exact hK _ O
    · go_simp
      exact hK _ O
    · go_simp
      exact hK _ O
    · go_simp
      exact hK _ O
    · exact wp_cell_h (v := .int .i64 v2) O.held 1 rfl C2.out rfl agg3 rfl (hK _ O)
    · go_simp
      exact hK _ O
    · have e := HQ.out
      have e0 := HN.out
      go_simp
      exact hK _ O
    · go_simp
      exact hK _ O
    · go_simp
      exact hK _ O
    · go_simp
      exact hK _ O
    · go_simp
      exact hK _ O
    · exact wp_cell_h (v := .int .i64 v2) O.held 1 rfl C2.out rfl agg3 rfl (hK _ O)
    · go_simp
      exact hK _ O
    · have e := HR.out
      have e0 := HN.out
      go_simp
      exact hK _ O
    · go_simp
      exact hK _ O
    · go_simp
      exact hK _ O
    · go_simp
      exact hK _ O
    · go_simp
      exact hK _ O
    · exact wp_cell_h (v := .int .i64 v3) O.held 1 rfl C3.out rfl agg3 rfl (hK _ O)
    · go_simp
      exact hK _ O
    · have e := HQ.out
      have e0 := HN.out
      go_simp
      exact hK _ O
    · go_simp
      exact hK _ O
    · go_simp
      exact hK _ O
    · go_simp
      exact hK _ O
    · go_simp
      exact hK _ O
    refine wpAny_done (by kernel_rfl) ?_ _
    go_wp2_with (go_at_call 10; refine (awake_any _).mono ?_; rintro e w11 ⟨rfl, hb⟩; replace O := O.call hb; clear hb)
    go_ret
    exact ⟨rfl, O.below⟩
  by_cases k7 : v3 < 1
  · have F0 : decide (q < v0) = false := decide_eq_false (by omega)
    have F1 : decide (v0 < r) = false := decide_eq_false (by omega)
    have F2 : decide (q < v1) = false := decide_eq_false (by omega)
    have F3 : decide (v1 < r) = false := decide_eq_false (by omega)
    have F4 : decide (q < v2) = false := decide_eq_false (by omega)
    have F5 : decide (v2 < r) = false := decide_eq_false (by omega)
    have F6 : decide (q < v3) = false := decide_eq_false (by omega)
    have F7 : decide (v3 < 1) = true := decide_eq_true (by omega)
    clear k0 k1 k2 k3 k4 k5 k6 k7 HS HP er qp c0 c1 c2 c3 hk hr
    go_enter Try.func5, Try.ntmps5
    go_wp2_with (first | ((with_reducible refine at_box 3 ?_); refine wpList_box_own O (M.mat 8 (v)) rfl ?_; clear O; intro g3 w1 O) | ((with_reducible refine at_box 4 ?_); refine wpList_box_own O (M.mat 4 (p)) rfl ?_; clear O; intro g4 w2 O))
    simp only [W1, W2]
    clear W1 W2
    refine region_T ((fun w2 => Own w w2 [(g4, 27, M.mat 4 p), (g3, 25, M.mat 8 v)])) [0, 1, 2, 3, 4, 5, 6, 7, 8, 9, 10, 11, 12, 13, 14, 15, 16, 17, 18, 19, 20, 21, 22, 23, 24, 25, 26, 27, 28, 29, 30, 31, 32, 33, 34, 35, 36, 37, 38, 39, 40, 41, 42, 43, 44, 45, 46, 47, 48, 49, 50, 51] 12 [some 15, some 16, some 17, some 18, some 19, some 20, some 21, some 22, some 23, some 24, some 25, some 26, some 27, some 28, some 29, some 30, some 31, some 32, some 33, some 34, some 35, some 36, some 37, some 38, some 39, some 40, some 41, some 42, some 43, some 44, some 45, some 46, some 47, some 48, some 49, some 50, some 51, some 52, some 53, some 54, some 55, some 56, some 57, some 58, some 59, some 60, some 61, some 62, some 63, some 64, some 65, some 66] [.pointer (some ⟨g3, 0, none⟩), .int .i64 v0, .int .i64 n, .int .i64 q, .bool false, .bool false, .pointer (some ⟨g3, 0, none⟩), .int .i64 v0, .int .i64 n, .int .i64 r, .bool false, .bool false, .bool false, .pointer (some ⟨g3, 1, none⟩), .int .i64 v1, .int .i64 n, .int .i64 q, .bool false, .bool false, .bool false, .pointer (some ⟨g3, 1, none⟩), .int .i64 v1, .int .i64 n, .int .i64 r, .bool false, .bool false, .bool false, .pointer (some ⟨g3, 2, none⟩), .int .i64 v2, .int .i64 n, .int .i64 q, .bool false, .bool false, .bool false, .pointer (some ⟨g3, 2, none⟩), .int .i64 v2, .int .i64 n, .int .i64 r, .bool false, .bool false, .bool false, .pointer (some ⟨g3, 3, none⟩), .int .i64 v3, .int .i64 n, .int .i64 q, .bool false, .bool false, .bool false, .pointer (some ⟨g3, 3, none⟩), .int .i64 v3, .bool true, .bool true] 0 (by kernel_rfl) (by rfl) (by kernel_rfl) (by rfl) (by rfl) (O.drew) (fun F hF => ?_)
    simp only [fillD, Act.put, List.setIfInBounds_toArray, List.set_cons_zero, List.set_cons_succ] at hF
    subst hF
    refine ⟨⟨does_want rfl (by rfl) (fun w' O K hK => ?_), does_want rfl (by rfl) (fun w' O K hK => ?_), does_want rfl (by rfl) (fun w' O K hK => ?_), does_want rfl (by rfl) (fun w' O K hK => ?_), does_want rfl (by rfl) (fun w' O K hK => ?_), does_want rfl (by rfl) (fun w' O K hK => ?_), does_want rfl (by rfl) (fun w' O K hK => ?_), does_want rfl (by rfl) (fun w' O K hK => ?_), does_want rfl (by rfl) (fun w' O K hK => ?_), does_want rfl (by rfl) (fun w' O K hK => ?_), does_want rfl (by rfl) (fun w' O K hK => ?_), does_want rfl (by rfl) (fun w' O K hK => ?_), does_want rfl (by rfl) (fun w' O K hK => ?_), does_want rfl (by rfl) (fun w' O K hK => ?_), does_want rfl (by rfl) (fun w' O K hK => ?_), does_want rfl (by rfl) (fun w' O K hK => ?_), does_want rfl (by rfl) (fun w' O K hK => ?_), does_want rfl (by rfl) (fun w' O K hK => ?_), does_want rfl (by rfl) (fun w' O K hK => ?_), does_want rfl (by rfl) (fun w' O K hK => ?_), does_want rfl (by rfl) (fun w' O K hK => ?_), does_want rfl (by rfl) (fun w' O K hK => ?_), does_want rfl (by rfl) (fun w' O K hK => ?_), does_want rfl (by rfl) (fun w' O K hK => ?_), does_want rfl (by rfl) (fun w' O K hK => ?_), does_want rfl (by rfl) (fun w' O K hK => ?_), does_want rfl (by rfl) (fun w' O K hK => ?_), does_want rfl (by rfl) (fun w' O K hK => ?_), does_want rfl (by rfl) (fun w' O K hK => ?_), does_want rfl (by rfl) (fun w' O K hK => ?_), does_want rfl (by rfl) (fun w' O K hK => ?_), does_want rfl (by rfl) (fun w' O K hK => ?_), does_want rfl (by rfl) (fun w' O K hK => ?_), does_want rfl (by rfl) (fun w' O K hK => ?_), does_want rfl (by rfl) (fun w' O K hK => ?_), does_want rfl (by rfl) (fun w' O K hK => ?_), does_want rfl (by rfl) (fun w' O K hK => ?_), does_want rfl (by rfl) (fun w' O K hK => ?_), does_want rfl (by rfl) (fun w' O K hK => ?_), does_want rfl (by rfl) (fun w' O K hK => ?_), does_want rfl (by rfl) (fun w' O K hK => ?_), does_want rfl (by rfl) (fun w' O K hK => ?_), does_want rfl (by rfl) (fun w' O K hK => ?_), does_want rfl (by rfl) (fun w' O K hK => ?_), does_want rfl (by rfl) (fun w' O K hK => ?_), does_want rfl (by rfl) (fun w' O K hK => ?_), does_want rfl (by rfl) (fun w' O K hK => ?_), does_want rfl (by rfl) (fun w' O K hK => ?_), does_want rfl (by rfl) (fun w' O K hK => ?_), does_want rfl (by rfl) (fun w' O K hK => ?_), does_want rfl (by rfl) (fun w' O K hK => ?_), does_want rfl (by rfl) (fun w' O K hK => ?_), trivial⟩, fun w' O => ?_⟩
    · go_simp
      exact hK _ O
    · exact wp_cell_h (v := .int .i64 v0) O.held 1 rfl C0.out rfl agg3 rfl (hK _ O)
    · go_simp
      exact hK _ O
    · have e := HQ.out
      have e0 := HN.out
      go_simp
      exact hK _ O
    · go_simp
      exact hK _ O
    · go_simp
      exact hK _ O
    · go_simp
      exact hK _ O
    · exact wp_cell_h (v := .int .i64 v0) O.held 1 rfl C0.out rfl agg3 rfl (hK _ O)
    · go_simp
      exact hK _ O
    · have e := HR.out
      have e0 := HN.out
      go_simp
      exact hK _ O
    · go_simp
      exact hK _ O
    · go_simp
      exact hK _ O
    · go_simp
      exact hK _ O
    · go_simp
      exact hK _ O
    · exact wp_cell_h (v := .int .i64 v1) O.held 1 rfl C1.out rfl agg3 rfl (hK _ O)
    · go_simp
      exact hK _ O
    · have e := HQ.out
      have e0 := HN.out
      go_simp
      exact hK _ O
    · go_simp
      exact hK _ O
    · go_simp
      exact hK _ O
    · go_simp
      exact hK _ O
    · go_simp
      exact hK _ O
    · exact wp_cell_h (v := .int .i64 v1) O.held 1 rfl C1.out rfl agg3 rfl (hK _ O)
    · go_simp
      exact hK _ O
    · have e := HR.out
      have e0 := HN.out
      go_simp
      exact hK _ O
    · go_simp
      exact hK _ O
    · go_simp
      exact hK _ O
    · go_simp
      exact hK _ O
    · go_simp
      exact hK _ O
    · exact wp_cell_h (v := .int .i64 v2) O.held 1 rfl C2.out rfl agg3 rfl (hK _ O)
    · go_simp
      exact hK _ O
    · have e := HQ.out
      have e0 := HN.out
      go_simp
      exact hK _ O
    · go_simp
      exact hK _ O
    · go_simp
      exact hK _ O
    · go_simp
      exact hK _ O
    · go_simp
      exact hK _ O
    · exact wp_cell_h (v := .int .i64 v2) O.held 1 rfl C2.out rfl agg3 rfl (hK _ O)
    · go_simp
      exact hK _ O
    · have e := HR.out
      have e0 := HN.out
      go_simp
      exact hK _ O
    · go_simp
      exact hK _ O
    · go_simp
      exact hK _ O
    · go_simp
      exact hK _ O
    · go_simp
      exact hK _ O
    · exact wp_cell_h (v := .int .i64 v3) O.held 1 rfl C3.out rfl agg3 rfl (hK _ O)
    · go_simp
      exact hK _ O
    · have e := HQ.out
      have e0 := HN.out
      go_simp
      exact hK _ O
    · go_simp
      exact hK _ O
    · go_simp
      exact hK _ O
    · go_simp
      exact hK _ O
    · go_simp
      exact hK _ O
    · exact wp_cell_h (v := .int .i64 v3) O.held 1 rfl C3.out rfl agg3 rfl (hK _ O)
    · go_simp
      exact hK _ O
    · go_simp
      exact hK _ O
    refine wpAny_done (by kernel_rfl) ?_ _
    go_wp2_with (go_at_call 10; refine (awake_any _).mono ?_; rintro e w11 ⟨rfl, hb⟩; replace O := O.call hb; clear hb)
    go_ret
    exact ⟨rfl, O.below⟩
  have F0 : decide (q < v0) = false := decide_eq_false (by omega)
  have F1 : decide (v0 < r) = false := decide_eq_false (by omega)
  have F2 : decide (q < v1) = false := decide_eq_false (by omega)
  have F3 : decide (v1 < r) = false := decide_eq_false (by omega)
  have F4 : decide (q < v2) = false := decide_eq_false (by omega)
  have F5 : decide (v2 < r) = false := decide_eq_false (by omega)
  have F6 : decide (q < v3) = false := decide_eq_false (by omega)
  have F7 : decide (v3 < 1) = false := decide_eq_false (by omega)
  have e0 := HP v0 (by omega) (by omega)
  have e1 := HP v1 (by omega) (by omega)
  have e2 := HP v2 (by omega) (by omega)
  have e3 := HP v3 (by omega) (by omega)
  have HE := HS (fun i hi => by
    rcases (by omega : i = 0 ∨ i = 1 ∨ i = 2) with rfl | rfl | rfl
    · rw [c0]; omega
    · rw [c1]; omega
    · rw [c2]; omega) (by rw [c3]; omega) (by rw [c3]; omega)
  simp only [HE] at CN
  clear HE
  obtain ⟨m, e⟩ := s
  simp only at CM CN
  obtain ⟨x0, z0⟩ : ∃ z, n * v0 = z := ⟨_, rfl⟩
  obtain ⟨x1, z1⟩ : ∃ z, n * v1 = z := ⟨_, rfl⟩
  obtain ⟨x2, z2⟩ : ∃ z, n * v2 = z := ⟨_, rfl⟩
  obtain ⟨x3, z3⟩ : ∃ z, n * v3 = z := ⟨_, rfl⟩
  rw [z0] at e0
  rw [z1] at e1
  rw [z2] at e2
  rw [z3] at e3
  have BB := Lib.hid (built_sx (n := n) (v := v) (x := x0) (y := x1) (z := x2) (u := x3) (by rw [c0]; exact z0) (by rw [c1]; exact z1) (by rw [c2]; exact z2) (by rw [c3]; exact z3))
  have X0 := e0.1
  have X1 := e1.1
  have X2 := e2.1
  have X3 := e3.1
  clear k0 k1 k2 k3 k4 k5 k6 k7 HS HP er qp c0 c1 c2 c3 hk hr e0 e1 e2 e3 hs
  go_enter Try.func5, Try.ntmps5
  go_wp2_with (first | ((with_reducible refine at_box 3 ?_); refine wpList_box_own O (M.mat 8 (v)) rfl ?_; clear O; intro g3 w1 O) | ((with_reducible refine at_box 4 ?_); refine wpList_box_own O (M.mat 4 (p)) rfl ?_; clear O; intro g4 w2 O))
  simp only [W1, W2]
  clear W1 W2
  refine region_T ((fun w2 => Own w w2 [(g4, 27, M.mat 4 p), (g3, 25, M.mat 8 v)])) [0, 1, 2, 3, 4, 5, 6, 7, 8, 9, 10, 11, 12, 13, 14, 15, 16, 17, 18, 19, 20, 21, 22, 23, 24, 25, 26, 27, 28, 29, 30, 31, 32, 33, 34, 35, 36, 37, 38, 39, 40, 41, 42, 43, 44, 45, 46, 47, 48, 49, 50, 51] 12 [some 15, some 16, some 17, some 18, some 19, some 20, some 21, some 22, some 23, some 24, some 25, some 26, some 27, some 28, some 29, some 30, some 31, some 32, some 33, some 34, some 35, some 36, some 37, some 38, some 39, some 40, some 41, some 42, some 43, some 44, some 45, some 46, some 47, some 48, some 49, some 50, some 51, some 52, some 53, some 54, some 55, some 56, some 57, some 58, some 59, some 60, some 61, some 62, some 63, some 64, some 65, some 66] [.pointer (some ⟨g3, 0, none⟩), .int .i64 v0, .int .i64 n, .int .i64 q, .bool false, .bool false, .pointer (some ⟨g3, 0, none⟩), .int .i64 v0, .int .i64 n, .int .i64 r, .bool false, .bool false, .bool false, .pointer (some ⟨g3, 1, none⟩), .int .i64 v1, .int .i64 n, .int .i64 q, .bool false, .bool false, .bool false, .pointer (some ⟨g3, 1, none⟩), .int .i64 v1, .int .i64 n, .int .i64 r, .bool false, .bool false, .bool false, .pointer (some ⟨g3, 2, none⟩), .int .i64 v2, .int .i64 n, .int .i64 q, .bool false, .bool false, .bool false, .pointer (some ⟨g3, 2, none⟩), .int .i64 v2, .int .i64 n, .int .i64 r, .bool false, .bool false, .bool false, .pointer (some ⟨g3, 3, none⟩), .int .i64 v3, .int .i64 n, .int .i64 q, .bool false, .bool false, .bool false, .pointer (some ⟨g3, 3, none⟩), .int .i64 v3, .bool false, .bool false] 0 (by kernel_rfl) (by rfl) (by kernel_rfl) (by rfl) (by rfl) (O.drew) (fun F hF => ?_)
  simp only [fillD, Act.put, List.setIfInBounds_toArray, List.set_cons_zero, List.set_cons_succ] at hF
  subst hF
  refine ⟨⟨does_want rfl (by rfl) (fun w' O K hK => ?_), does_want rfl (by rfl) (fun w' O K hK => ?_), does_want rfl (by rfl) (fun w' O K hK => ?_), does_want rfl (by rfl) (fun w' O K hK => ?_), does_want rfl (by rfl) (fun w' O K hK => ?_), does_want rfl (by rfl) (fun w' O K hK => ?_), does_want rfl (by rfl) (fun w' O K hK => ?_), does_want rfl (by rfl) (fun w' O K hK => ?_), does_want rfl (by rfl) (fun w' O K hK => ?_), does_want rfl (by rfl) (fun w' O K hK => ?_), does_want rfl (by rfl) (fun w' O K hK => ?_), does_want rfl (by rfl) (fun w' O K hK => ?_), does_want rfl (by rfl) (fun w' O K hK => ?_), does_want rfl (by rfl) (fun w' O K hK => ?_), does_want rfl (by rfl) (fun w' O K hK => ?_), does_want rfl (by rfl) (fun w' O K hK => ?_), does_want rfl (by rfl) (fun w' O K hK => ?_), does_want rfl (by rfl) (fun w' O K hK => ?_), does_want rfl (by rfl) (fun w' O K hK => ?_), does_want rfl (by rfl) (fun w' O K hK => ?_), does_want rfl (by rfl) (fun w' O K hK => ?_), does_want rfl (by rfl) (fun w' O K hK => ?_), does_want rfl (by rfl) (fun w' O K hK => ?_), does_want rfl (by rfl) (fun w' O K hK => ?_), does_want rfl (by rfl) (fun w' O K hK => ?_), does_want rfl (by rfl) (fun w' O K hK => ?_), does_want rfl (by rfl) (fun w' O K hK => ?_), does_want rfl (by rfl) (fun w' O K hK => ?_), does_want rfl (by rfl) (fun w' O K hK => ?_), does_want rfl (by rfl) (fun w' O K hK => ?_), does_want rfl (by rfl) (fun w' O K hK => ?_), does_want rfl (by rfl) (fun w' O K hK => ?_), does_want rfl (by rfl) (fun w' O K hK => ?_), does_want rfl (by rfl) (fun w' O K hK => ?_), does_want rfl (by rfl) (fun w' O K hK => ?_), does_want rfl (by rfl) (fun w' O K hK => ?_), does_want rfl (by rfl) (fun w' O K hK => ?_), does_want rfl (by rfl) (fun w' O K hK => ?_), does_want rfl (by rfl) (fun w' O K hK => ?_), does_want rfl (by rfl) (fun w' O K hK => ?_), does_want rfl (by rfl) (fun w' O K hK => ?_), does_want rfl (by rfl) (fun w' O K hK => ?_), does_want rfl (by rfl) (fun w' O K hK => ?_), does_want rfl (by rfl) (fun w' O K hK => ?_), does_want rfl (by rfl) (fun w' O K hK => ?_), does_want rfl (by rfl) (fun w' O K hK => ?_), does_want rfl (by rfl) (fun w' O K hK => ?_), does_want rfl (by rfl) (fun w' O K hK => ?_), does_want rfl (by rfl) (fun w' O K hK => ?_), does_want rfl (by rfl) (fun w' O K hK => ?_), does_want rfl (by rfl) (fun w' O K hK => ?_), does_want rfl (by rfl) (fun w' O K hK => ?_), trivial⟩, fun w' O => ?_⟩
  · go_simp
    exact hK _ O
  · exact wp_cell_h (v := .int .i64 v0) O.held 1 rfl C0.out rfl agg3 rfl (hK _ O)
  · go_simp
    exact hK _ O
  · have e := HQ.out
    have e0 := HN.out
    go_simp
    exact hK _ O
  · go_simp
    exact hK _ O
  · go_simp
    exact hK _ O
  · go_simp
    exact hK _ O
  · exact wp_cell_h (v := .int .i64 v0) O.held 1 rfl C0.out rfl agg3 rfl (hK _ O)
  · go_simp
    exact hK _ O
  · have e := HR.out
    have e0 := HN.out
    go_simp
    exact hK _ O
  · go_simp
    exact hK _ O
  · go_simp
    exact hK _ O
  · go_simp
    exact hK _ O
  · go_simp
    exact hK _ O
  · exact wp_cell_h (v := .int .i64 v1) O.held 1 rfl C1.out rfl agg3 rfl (hK _ O)
  · go_simp
    exact hK _ O
  · have e := HQ.out
    have e0 := HN.out
    go_simp
    exact hK _ O
  · go_simp
    exact hK _ O
  · go_simp
    exact hK _ O
  · go_simp
    exact hK _ O
  · go_simp
    exact hK _ O
  · exact wp_cell_h (v := .int .i64 v1) O.held 1 rfl C1.out rfl agg3 rfl (hK _ O)
  · go_simp
    exact hK _ O
  · have e := HR.out
    have e0 := HN.out
    go_simp
    exact hK _ O
  · go_simp
    exact hK _ O
  · go_simp
    exact hK _ O
  · go_simp
    exact hK _ O
  · go_simp
    exact hK _ O
  · exact wp_cell_h (v := .int .i64 v2) O.held 1 rfl C2.out rfl agg3 rfl (hK _ O)
  · go_simp
    exact hK _ O
  · have e := HQ.out
    have e0 := HN.out
    go_simp
    exact hK _ O
  · go_simp
    exact hK _ O
  · go_simp
    exact hK _ O
  · go_simp
    exact hK _ O
  · go_simp
    exact hK _ O
  · exact wp_cell_h (v := .int .i64 v2) O.held 1 rfl C2.out rfl agg3 rfl (hK _ O)
  · go_simp
    exact hK _ O
  · have e := HR.out
    have e0 := HN.out
    go_simp
    exact hK _ O
  · go_simp
    exact hK _ O
  · go_simp
    exact hK _ O
  · go_simp
    exact hK _ O
  · go_simp
    exact hK _ O
  · exact wp_cell_h (v := .int .i64 v3) O.held 1 rfl C3.out rfl agg3 rfl (hK _ O)
  · go_simp
    exact hK _ O
  · have e := HQ.out
    have e0 := HN.out
    go_simp
    exact hK _ O
  · go_simp
    exact hK _ O
  · go_simp
    exact hK _ O
  · go_simp
    exact hK _ O
  · go_simp
    exact hK _ O
  · exact wp_cell_h (v := .int .i64 v3) O.held 1 rfl C3.out rfl agg3 rfl (hK _ O)
  · go_simp
    exact hK _ O
  · go_simp
    exact hK _ O
  refine wpAny_done (by kernel_rfl) ?_ _
  go_wp2_with (first | ((with_reducible refine at_load 69 ?_); refine wpList_whole rfl O 1 rfl rfl Try.underlying25 rfl (s27 _) ?_) | ((with_reducible refine at_load 70 ?_); refine wpList_whole rfl O 0 rfl rfl Try.underlying27 rfl (sP _) ?_) | (go_at_call 8; clear tok0; have tok1 : True := trivial; refine (CM _).mono ?_; rintro e w5 ⟨rfl, hb⟩; replace O := O.call hb; clear hb) | ((with_reducible refine at_alloc 8 ?_); refine wpList_alloc_own O (M.mat 7 M.zero) zeroW ?_; clear O; intro g8 w6 O) | ((with_reducible refine at_store 8 ?_); refine wpList_put_own O 0 (M.mat 7 (m)) rfl rfl rfl (sW _) (M.mat_len2 _ _ _) (M.mat_one _ _) ?_; clear O; intro w7 O) | ((with_reducible refine at_load 77 ?_); refine wpList_cell_h (v := .int .i64 (v0)) rfl O.held 2 rfl C0.out rfl agg3 rfl ?_) | ((with_reducible refine at_load 81 ?_); refine wpList_cell_h (v := .int .i64 (v1)) rfl O.held 2 rfl C1.out rfl agg3 rfl ?_) | ((with_reducible refine at_load 85 ?_); refine wpList_cell_h (v := .int .i64 (v2)) rfl O.held 2 rfl C2.out rfl agg3 rfl ?_) | ((with_reducible refine at_load 89 ?_); refine wpList_cell_h (v := .int .i64 (v3)) rfl O.held 2 rfl C3.out rfl agg3 rfl ?_) | ((with_reducible refine at_load 92 ?_); refine wpList_mid_h rfl O.held 2 rfl (M.mat 4 (D.sub 4 v)) (mat_sub v (by omega)) rfl Try.underlying23 rfl (s25 _) ?_) | ((with_reducible refine at_build 93 ?_); refine wpList_build_g rfl ([(0, .int .i64 x0), (1, .int .i64 x1), (2, .int .i64 x2), (3, .int .i64 x3), (4, arr 4 (D.sub 4 v))]) ((M.mat 8 (V.sc n v)).toArray) ?_ (BB.out) ?_; (focus (simp only [List.map_toArray, List.map_cons, List.map_nil]; rfl))) | ((with_reducible refine at_load 94 ?_); refine wpList_whole rfl O 1 rfl rfl Try.underlying27 rfl (sP _) ?_) | (go_at_call 8; clear tok1; have tok2 : True := trivial; refine (CN _).mono ?_; rintro e w8 ⟨rfl, hb⟩; replace O := O.call hb; clear hb) | ((with_reducible refine at_alloc 10 ?_); refine wpList_alloc_own O (M.mat 7 M.zero) zeroW ?_; clear O; intro g10 w9 O) | ((with_reducible refine at_store 10 ?_); refine wpList_put_own O 0 (M.mat 7 (m)) rfl rfl rfl (sW _) (M.mat_len2 _ _ _) (M.mat_one _ _) ?_; clear O; intro w10 O) | (go_at_call 10; refine (awake_any _).mono ?_; rintro e w11 ⟨rfl, hb⟩; replace O := O.call hb; clear hb) | ((with_reducible refine at_load 100 ?_); refine wpList_whole rfl O 1 rfl rfl Try.underlying29 rfl (sW _) ?_) | ((with_reducible refine at_load 101 ?_); refine wpList_whole rfl O 0 rfl rfl Try.underlying29 rfl (sW _) ?_) | ((with_reducible refine at_binOp 102 ?_); refine wpList_eqW rfl (m) (m) rfl rfl ?_; rw [M.eqB_refl]))
  go_ret
  exact ⟨rfl, O.below⟩

theorem readable : ∀ t ∈ Try.f5.params.toList, Try.prog.readableRec t = true ∧ t < Try.prog.types.size := by
  intro t ht
  rw [Try.params5] at ht
  simp only [List.mem_cons, List.not_mem_nil, or_false] at ht
  repeat (first | (rcases ht with rfl | ht; exact ⟨by kernel_rfl, of_decide_eq_true (by kernel_rfl)⟩) | (subst ht; exact ⟨by kernel_rfl, of_decide_eq_true (by kernel_rfl)⟩))
set_option maxRecDepth 100000 in
theorem lifted (os : Os) (started : os.Started) (H : Type) (enc : TypeId × Value → H) :
    ReturnsInHanded {} Try.checked os 5 .any (Rows.viewScalesSpec.pre6 enc Try.prog Try.f5 Rows.viewScalesRow.domain false) (Rows.viewScalesSpec.post enc Try.prog Try.f5 false true false false) := by
  refine returnsInHanded_of_change (C := Try.checked) own started (by kernel_rfl) Try.func5
    (ChangeSpec.witness6 (enc := enc) (C := Try.checked) false ⟨#[], #[.agg #[.int .i64 0, .int .i64 0, .int .i64 0, .int .i64 0, .int .i64 0, .int .i64 0, .int .i64 0, .int .i64 0], .agg #[.int .i64 0, .int .i64 0, .int .i64 0, .int .i64 0], .int .u8 0], []⟩ 8 (by kernel_rfl) (by kernel_rfl) (by kernel_rfl) (by kernel_rfl)) ?_
  intro W base args ds gs before hval0 hW hcnd _
  have hval : ∀ (j : Nat) t v, Try.f5.params[j]? = some t → args[j]? = some v → Value.okWide Try.prog W .any base t v := hval0
  have hW' := hW
  obtain ⟨p, q, hA0, hV, rfl, hfz, hnd⟩ := hW
  have hA : DataW.TrodAll enc Try.prog W 0 (fun _ => true) true Try.f5.params.toList args.toList ds p := hA0
  rw [Try.params5] at hA hval
  have hlt : ∀ x ∈ p ++ q, x.block < W.heap.size := fun x hx => hW'.lt x hx
  obtain ⟨v0, vs0, d0, ds0, p0, q0, hargs, rfl, rfl, h0, rr0⟩ := trodAll_cons hA
  obtain ⟨v1, vs1, d1, ds1, p1, q1, rfl, rfl, rfl, h1, rr1⟩ := trodAll_cons rr0
  obtain ⟨v2, vs2, d2, ds2, p2, q2, rfl, rfl, rfl, h2, rr2⟩ := trodAll_cons rr1
  obtain ⟨rfl, rfl, rfl⟩ := trodAll_nil rr2
  obtain rfl : args = #[v0, v1, v2] := by cases args; simp_all
  obtain ⟨rfl, rfl⟩ := trodVars_none hV
  obtain ⟨a0, rfl⟩ := openVert (hval 0 25 v0 rfl rfl) h0
  obtain ⟨a1, rfl⟩ := openPort (hval 1 27 v1 rfl rfl) h1
  obtain ⟨i2, rfl, rfl, rfl, x2⟩ := open_int Try.underlying5 (hval 2 5 v2 rfl rfl) h2
  clear hA0 hval0
  refine (walk W a0 a1 i2 (bounds_u8 x2)).mono fun e W' ⟨he, hg⟩ => ?_
  subst he
  exact ⟨_, rfl, post_true (tb := 4) laid readable (by kernel_rfl) Try.underlying4 rfl (fun l hl => by
    match l, hl with
    | [_, _, _], _ => exact ⟨rfl, rfl, rfl⟩) hW' hg⟩

theorem over : Rows.viewScalesRow.holds Try.pinned (OpenSpec.ofChange Rows.viewScalesSpec) :=
  OpenClaim.holds_of_wide 5 Try.f5 rfl rfl rfl rfl rfl rfl rfl ⟨rfl, rfl, rfl, rfl, rfl⟩ rfl rfl rfl rfl rfl (by kernel_rfl) Try.func5 (by kernel_rfl)
    (of_decide_eq_true (by kernel_rfl)) (by unfold Func.isWrapper; first | (rw [if_pos (by decide +kernel)]; kernel_rfl) | (rw [if_neg (by decide +kernel)]; exact ⟨rfl, rfl⟩))
    (fun os started H enc _ => lifted os started H enc)

theorem proved : Rows.ViewScalesSaid :=
  over
#print axioms proved
end Go.Proofs.Ytbmigbmeadgopaa.viewScales
