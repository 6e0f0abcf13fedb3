/-
  ViewRises: for every vertex and every port, places and depths rise with coordinates, or stay.
-/
import Derived.Test.YtbmigbmeadgopaaVh
import Derived.Test.YtbmigbmeadgopaaVi
import Derived.Deep.DeepCutAuto
namespace Go.Proofs.Ytbmigbmeadgopaa.viewRises
open Go.ChangeShapes Go.WideShapes Go.ChangeAt Go.RowKit
set_option linter.unusedVariables false
set_option linter.unusedSimpArgs false

theorem own : ownKnob Try.prog.godebug = none := by kernel_rfl
theorem cell_is {n i : Nat} {a : Nat → Int} {z : Int} (h : a i = z) (hi : i < n) : Hid ((M.mat n a)[i]? = some (.int .i64 z)) := Lib.hid (by rw [← h]; exact M.mat_get hi)
/-- A vertex of which three numbers may have been written. -/
def r3 (v : Nat → Int) (x y z : Int) (a b c : Bool) (i : Nat) : Int := if i = 0 then (if a then x else v 0) else if i = 1 then (if b then y else v 1) else if i = 2 then (if c then z else v 2) else v i
theorem r3_0 (v : Nat → Int) (x y z : Int) : r3 v x y z false false false = v := funext fun i => by
  rw [r3]
  split
  · rename_i h; rw [h]; rfl
  · split
    · rename_i h; rw [h]; rfl
    · split
      · rename_i h; rw [h]; rfl
      · rfl
theorem r3_a (v : Nat → Int) (x y z : Int) (b c : Bool) : (M.mat 8 (r3 v x y z false b c)).set 0 (.int .i64 x) = M.mat 8 (r3 v x y z true b c) :=
  M.mat_set_to (by decide) rfl fun j _ hj => by simp only [r3, if_neg hj]
theorem r3_b (v : Nat → Int) (x y z : Int) (a c : Bool) : (M.mat 8 (r3 v x y z a false c)).set 1 (.int .i64 y) = M.mat 8 (r3 v x y z a true c) :=
  M.mat_set_to (by decide) rfl fun j _ hj => by simp only [r3, if_neg hj]
theorem r3_c (v : Nat → Int) (x y z : Int) (a b : Bool) : (M.mat 8 (r3 v x y z a b false)).set 2 (.int .i64 z) = M.mat 8 (r3 v x y z a b true) :=
  M.mat_set_to (by decide) rfl fun j _ hj => by simp only [r3, if_neg hj]
theorem rise {v p m n : Nat → Int} {x y z b : Int} (hb : 0 ≤ b ∧ b ≤ 65535) (hx : IntKind.i64.wrap (v 0 + b) = x) (hy : IntKind.i64.wrap (v 1 - b) = y) (hz : IntKind.i64.wrap (v 2 + b) = z)
    (h : V.map v p = (m, 0)) (h' : V.map (r3 v x y z true true true) p = (n, 0)) : m 0 ≤ n 0 ∧ n 1 ≤ m 1 ∧ m 2 ≤ n 2 := by
  obtain ⟨hg, rfl⟩ := V.map_ok h
  obtain ⟨hg', rfl⟩ := V.map_ok h'
  obtain ⟨hv, h3, p0, p1, p2, p3⟩ := V.good_parts hg
  have b0 := hv 0 (by omega)
  have b1 := hv 1 (by omega)
  have b2 := hv 2 (by omega)
  rw [IntWalk.i64_in _ (by omega)] at hx
  rw [IntWalk.i64_in _ (by omega)] at hy
  rw [IntWalk.i64_in _ (by omega)] at hz
  subst hx hy hz
  exact ⟨V.along_up p2.1 h3.1 (by show v 0 ≤ v 0 + b; omega), V.along_up p3.1 h3.1 (by show v 1 - b ≤ v 1; omega), V.deep_up h3.1 (by show v 2 ≤ v 2 + b; omega)⟩

set_option maxRecDepth 100000 in
set_option maxHeartbeats 16000000 in
theorem walk (w : World) (v p : Nat → Int) (b : Int) (hb : 0 ≤ b ∧ b ≤ 65535) :
    Calls Try.prog 7 #[arr 8 v, arr 4 p, .int .u16 b] w fun e w' => e = .returned (.bool true) ∧ Below w.heap.size w w' := by
  have O := Own.start w
  obtain ⟨x, hx⟩ : ∃ z, IntKind.i64.wrap (v 0 + b) = z := ⟨_, rfl⟩
  obtain ⟨y, hy⟩ : ∃ z, IntKind.i64.wrap (v 1 - b) = z := ⟨_, rfl⟩
  obtain ⟨z, hz⟩ : ∃ z, IntKind.i64.wrap (v 2 + b) = z := ⟨_, rfl⟩
  have CM := fun w => map_any v p w
  have CN := fun w => map_any (r3 v x y z true true true) p w
  unfold RetMap at CM CN
  obtain ⟨r, hr⟩ : ∃ r, V.map v p = r := ⟨_, rfl⟩
  obtain ⟨s, hs⟩ : ∃ r, V.map (r3 v x y z true true true) p = r := ⟨_, rfl⟩
  rw [hr] at CM
  rw [hs] at CN
  obtain ⟨m, e⟩ := r
  obtain ⟨n, f⟩ := s
  simp only at CM CN
  have HU := fun h1 h2 => rise (m := m) (n := n) hb hx hy hz (hr.trans h1) (hs.trans h2)
  clear hr hs
  obtain ⟨v0, c0⟩ : ∃ z, v 0 = z := ⟨_, rfl⟩
  obtain ⟨v1, c1⟩ : ∃ z, v 1 = z := ⟨_, rfl⟩
  obtain ⟨v2, c2⟩ : ∃ z, v 2 = z := ⟨_, rfl⟩
  rw [c0] at hx
  rw [c1] at hy
  rw [c2] at hz
  have C0 := cell_is (n := 8) c0 (by decide)
  have C1 := cell_is (n := 8) c1 (by decide)
  have C2 := cell_is (n := 8) c2 (by decide)
  have X := Lib.hid hx
  have Y := Lib.hid hy
  have Z := Lib.hid hz
  have B : Hid (IntKind.i64.wrap b = b) := Lib.hid (IntWalk.i64_in _ (by omega))
  clear c0 c1 c2 hx hy hz
  have tok0 : True := trivial
  by_cases k0 : 68719411200 < v0
  · have F0 : decide (68719411200 < v0) = true := decide_eq_true (by omega)
    clear HU k0
    go_enter Try.func7, Try.ntmps7
    go_wp2_with (first | ((with_reducible refine at_box 3 ?_); refine wpList_box_own O (M.mat 8 (v)) rfl ?_; clear O; intro g3 w1 O) | ((with_reducible refine at_box 4 ?_); refine wpList_box_own O (M.mat 4 (p)) rfl ?_; clear O; intro g4 w2 O) | ((with_reducible refine at_load 12 ?_); refine wpList_whole rfl O 1 rfl rfl Try.underlying25 rfl (s27 _) ?_) | ((with_reducible refine at_alloc 7 ?_); refine wpList_alloc_own O (M.mat 8 M.zero) zero27 ?_; clear O; intro g7 w3 O) | ((with_reducible refine at_store 7 ?_); refine wpList_put_own O 0 (M.mat 8 (r3 v x y z false false false)) rfl rfl (by rw [r3_0]; rfl) (s27 _) (M.mat_len2 _ _ _) (M.mat_one _ _) ?_; clear O; intro w4 O) | ((with_reducible refine at_load 14 ?_); refine wpList_cell_h (v := .int .i64 (v0)) rfl O.held 2 rfl C0.out rfl agg3 rfl ?_) | ((with_reducible refine at_load 18 ?_); refine wpList_cell_h (v := .int .i64 (v2)) rfl O.held 2 rfl C2.out rfl agg3 rfl ?_) | ((with_reducible refine at_load 23 ?_); refine wpList_cell_h (v := .int .i64 (v1)) rfl O.held 2 rfl C1.out rfl agg3 rfl ?_) | (go_at_call 10; refine (awake_any _).mono ?_; rintro e w11 ⟨rfl, hb⟩; replace O := O.call hb; clear hb))
    go_ret
    exact ⟨rfl, O.below⟩
  by_cases k1 : 68719411200 < v2
  · have F0 : decide (68719411200 < v0) = false := decide_eq_false (by omega)
    have F1 : decide (68719411200 < v2) = true := decide_eq_true (by omega)
    clear HU k0 k1
    go_enter Try.func7, Try.ntmps7
    go_wp2_with (first | ((with_reducible refine at_box 3 ?_); refine wpList_box_own O (M.mat 8 (v)) rfl ?_; clear O; intro g3 w1 O) | ((with_reducible refine at_box 4 ?_); refine wpList_box_own O (M.mat 4 (p)) rfl ?_; clear O; intro g4 w2 O) | ((with_reducible refine at_load 12 ?_); refine wpList_whole rfl O 1 rfl rfl Try.underlying25 rfl (s27 _) ?_) | ((with_reducible refine at_alloc 7 ?_); refine wpList_alloc_own O (M.mat 8 M.zero) zero27 ?_; clear O; intro g7 w3 O) | ((with_reducible refine at_store 7 ?_); refine wpList_put_own O 0 (M.mat 8 (r3 v x y z false false false)) rfl rfl (by rw [r3_0]; rfl) (s27 _) (M.mat_len2 _ _ _) (M.mat_one _ _) ?_; clear O; intro w4 O) | ((with_reducible refine at_load 14 ?_); refine wpList_cell_h (v := .int .i64 (v0)) rfl O.held 2 rfl C0.out rfl agg3 rfl ?_) | ((with_reducible refine at_load 18 ?_); refine wpList_cell_h (v := .int .i64 (v2)) rfl O.held 2 rfl C2.out rfl agg3 rfl ?_) | ((with_reducible refine at_load 23 ?_); refine wpList_cell_h (v := .int .i64 (v1)) rfl O.held 2 rfl C1.out rfl agg3 rfl ?_) | (go_at_call 10; refine (awake_any _).mono ?_; rintro e w11 ⟨rfl, hb⟩; replace O := O.call hb; clear hb))
    go_ret
    exact ⟨rfl, O.below⟩
  by_cases k2 : v1 < -68719411200
  · have F0 : decide (68719411200 < v0) = false := decide_eq_false (by omega)
    have F1 : decide (68719411200 < v2) = false := decide_eq_false (by omega)
    have F2 : decide (v1 < -68719411200) = true := decide_eq_true (by omega)
    clear HU k0 k1 k2
    go_enter Try.func7, Try.ntmps7
    go_wp2_with (first | ((with_reducible refine at_box 3 ?_); refine wpList_box_own O (M.mat 8 (v)) rfl ?_; clear O; intro g3 w1 O) | ((with_reducible refine at_box 4 ?_); refine wpList_box_own O (M.mat 4 (p)) rfl ?_; clear O; intro g4 w2 O) | ((with_reducible refine at_load 12 ?_); refine wpList_whole rfl O 1 rfl rfl Try.underlying25 rfl (s27 _) ?_) | ((with_reducible refine at_alloc 7 ?_); refine wpList_alloc_own O (M.mat 8 M.zero) zero27 ?_; clear O; intro g7 w3 O) | ((with_reducible refine at_store 7 ?_); refine wpList_put_own O 0 (M.mat 8 (r3 v x y z false false false)) rfl rfl (by rw [r3_0]; rfl) (s27 _) (M.mat_len2 _ _ _) (M.mat_one _ _) ?_; clear O; intro w4 O) | ((with_reducible refine at_load 14 ?_); refine wpList_cell_h (v := .int .i64 (v0)) rfl O.held 2 rfl C0.out rfl agg3 rfl ?_) | ((with_reducible refine at_load 18 ?_); refine wpList_cell_h (v := .int .i64 (v2)) rfl O.held 2 rfl C2.out rfl agg3 rfl ?_) | ((with_reducible refine at_load 23 ?_); refine wpList_cell_h (v := .int .i64 (v1)) rfl O.held 2 rfl C1.out rfl agg3 rfl ?_) | (go_at_call 10; refine (awake_any _).mono ?_; rintro e w11 ⟨rfl, hb⟩; replace O := O.call hb; clear hb))
    go_ret
    exact ⟨rfl, O.below⟩
  have F0 : decide (68719411200 < v0) = false := decide_eq_false (by omega)
  have F1 : decide (68719411200 < v2) = false := decide_eq_false (by omega)
  have F2 : decide (v1 < -68719411200) = false := decide_eq_false (by omega)
  clear k0 k1 k2
  go_enter Try.func7, Try.ntmps7
  go_wp2_with (first | ((with_reducible refine at_box 3 ?_); refine wpList_box_own O (M.mat 8 (v)) rfl ?_; clear O; intro g3 w1 O) | ((with_reducible refine at_box 4 ?_); refine wpList_box_own O (M.mat 4 (p)) rfl ?_; clear O; intro g4 w2 O) | ((with_reducible refine at_load 12 ?_); refine wpList_whole rfl O 1 rfl rfl Try.underlying25 rfl (s27 _) ?_) | ((with_reducible refine at_alloc 7 ?_); refine wpList_alloc_own O (M.mat 8 M.zero) zero27 ?_; clear O; intro g7 w3 O) | ((with_reducible refine at_store 7 ?_); refine wpList_put_own O 0 (M.mat 8 (r3 v x y z false false false)) rfl rfl (by rw [r3_0]; rfl) (s27 _) (M.mat_len2 _ _ _) (M.mat_one _ _) ?_; clear O; intro w4 O) | ((with_reducible refine at_load 14 ?_); refine wpList_cell_h (v := .int .i64 (v0)) rfl O.held 2 rfl C0.out rfl agg3 rfl ?_) | ((with_reducible refine at_load 18 ?_); refine wpList_cell_h (v := .int .i64 (v2)) rfl O.held 2 rfl C2.out rfl agg3 rfl ?_) | ((with_reducible refine at_load 23 ?_); refine wpList_cell_h (v := .int .i64 (v1)) rfl O.held 2 rfl C1.out rfl agg3 rfl ?_))
  refine region_S (fun st w2 => Own w w2 [(g7, 25, M.mat 8 (r3 v x y z (st 16).isSome (st 18).isSome false)), (g4, 27, M.mat 4 p), (g3, 25, M.mat 8 v)]) [16, 18] 12 20 [some 27, some 28, some 29, some 30, some 31, some 32, some 33, some 34, some 35, some 36, some 37, some 38, some 39, some 40, some 41, some 42, none, some 43, none, some 44] (fun g => [.pointer (some ⟨g3, 0, none⟩), .int .i64 v0, .int .u16 b, .int .i64 b, .int .i64 x, .pointer (some ⟨g3, 1, none⟩), .int .i64 v1, .int .u16 b, .int .i64 b, .int .i64 y, .pointer (some ⟨g3, 2, none⟩), .int .i64 v2, .int .u16 b, .int .i64 b, .int .i64 z, .pointer (some ⟨g7, 0, none⟩), g 16, .pointer (some ⟨g7, 1, none⟩), g 18, .pointer (some ⟨g7, 2, none⟩)]) 1 (by kernel_rfl) (by kernel_rfl) (by rfl) (by rfl) (fun _ => rfl) (by decide) ?_ (O.drew) (fun F hF => ?_)
  · intro i hi
    simp only [List.mem_cons, List.not_mem_nil, or_false] at hi
    rcases hi with rfl | rfl
    · exact ⟨fun _ => rfl, [0, 1, 2, 3, 4, 5, 6, 7, 8, 9, 10, 11, 12, 13, 14, 15, 17, 18, 19], by kernel_rfl, fun g v => ⟨rfl, rfl, rfl, rfl, rfl, rfl, rfl, rfl, rfl, rfl, rfl, rfl, rfl, rfl, rfl, rfl, rfl, rfl, rfl, trivial⟩⟩
    · exact ⟨fun _ => rfl, [0, 1, 2, 3, 4, 5, 6, 7, 8, 9, 10, 11, 12, 13, 14, 15, 16, 17, 19], by kernel_rfl, fun g v => ⟨rfl, rfl, rfl, rfl, rfl, rfl, rfl, rfl, rfl, rfl, rfl, rfl, rfl, rfl, rfl, rfl, rfl, rfl, rfl, trivial⟩⟩
  simp only [fillD, Act.put, List.setIfInBounds_toArray, List.set_cons_zero, List.set_cons_succ] at hF
  have hF2 := funext hF
  clear hF
  subst hF2
  refine ⟨⟨doesN_want (by decide) rfl (fun g => rfl) (fun st w' hS hp K hK => ?_), doesN_want (by decide) rfl (fun g => rfl) (fun st w' hS hp K hK => ?_), doesN_want (by decide) rfl (fun g => rfl) (fun st w' hS hp K hK => ?_), doesN_want (by decide) rfl (fun g => rfl) (fun st w' hS hp K hK => ?_), doesN_want (by decide) rfl (fun g => rfl) (fun st w' hS hp K hK => ?_), doesN_want (by decide) rfl (fun g => rfl) (fun st w' hS hp K hK => ?_), doesN_want (by decide) rfl (fun g => rfl) (fun st w' hS hp K hK => ?_), doesN_want (by decide) rfl (fun g => rfl) (fun st w' hS hp K hK => ?_), doesN_want (by decide) rfl (fun g => rfl) (fun st w' hS hp K hK => ?_), doesN_want (by decide) rfl (fun g => rfl) (fun st w' hS hp K hK => ?_), doesN_want (by decide) rfl (fun g => rfl) (fun st w' hS hp K hK => ?_), doesN_want (by decide) rfl (fun g => rfl) (fun st w' hS hp K hK => ?_), doesN_want (by decide) rfl (fun g => rfl) (fun st w' hS hp K hK => ?_), doesN_want (by decide) rfl (fun g => rfl) (fun st w' hS hp K hK => ?_), doesN_want (by decide) rfl (fun g => rfl) (fun st w' hS hp K hK => ?_), doesN_want (by decide) rfl (fun g => rfl) (fun st w' hS hp K hK => ?_), doesC_want (by decide) rfl (fun g => rfl) (fun st w' hS hn hp K hK => ?_), doesN_want (by decide) rfl (fun g => rfl) (fun st w' hS hp K hK => ?_), doesC_want (by decide) rfl (fun g => rfl) (fun st w' hS hn hp K hK => ?_), doesN_want (by decide) rfl (fun g => rfl) (fun st w' hS hp K hK => ?_), trivial⟩, fun st w' hS hall => ?_⟩
  · try dsimp only
    go_simp
    exact hK _ hS
  · try dsimp only
    exact wp_cell_h (v := .int .i64 v0) hS.held 2 rfl C0.out rfl agg3 rfl (hK _ hS)
  · try dsimp only
    go_simp
    exact hK _ hS
  · try dsimp only
    have e := B.out
    go_simp
    exact hK _ hS
  · try dsimp only
    have e := X.out
    go_simp
    exact hK _ hS
  · try dsimp only
    go_simp
    exact hK _ hS
  · try dsimp only
    exact wp_cell_h (v := .int .i64 v1) hS.held 2 rfl C1.out rfl agg3 rfl (hK _ hS)
  · try dsimp only
    go_simp
    exact hK _ hS
  · try dsimp only
    have e := B.out
    go_simp
    exact hK _ hS
  · try dsimp only
    have e := Y.out
    go_simp
    exact hK _ hS
  · try dsimp only
    go_simp
    exact hK _ hS
  · try dsimp only
    exact wp_cell_h (v := .int .i64 v2) hS.held 2 rfl C2.out rfl agg3 rfl (hK _ hS)
  · try dsimp only
    go_simp
    exact hK _ hS
  · try dsimp only
    have e := B.out
    go_simp
    exact hK _ hS
  · try dsimp only
    have e := Z.out
    go_simp
    exact hK _ hS
  · try dsimp only
    go_simp
    exact hK _ hS
  · try dsimp only
    rw [hn] at hS
    refine wp_set_own hS 0 (.int .i64 x) rfl (by rw [M.mat_len]; omega) rfl rfl size3 rfl rfl fun w1 O1 => hK _ _ ?_
    have O2 : Own w w1 [(g7, 25, M.mat 8 (r3 v x y z true (st 18).isSome false)), (g4, 27, M.mat 4 p), (g3, 25, M.mat 8 v)] := by
      rw [← r3_a]
      exact O1
    exact O2
  · try dsimp only
    go_simp
    exact hK _ hS
  · try dsimp only
    rw [hn] at hS
    refine wp_set_own hS 0 (.int .i64 y) rfl (by rw [M.mat_len]; omega) rfl rfl size3 rfl rfl fun w1 O1 => hK _ _ ?_
    have O2 : Own w w1 [(g7, 25, M.mat 8 (r3 v x y z (st 16).isSome true false)), (g4, 27, M.mat 4 p), (g3, 25, M.mat 8 v)] := by
      rw [← r3_b]
      exact O1
    exact O2
  · try dsimp only
    go_simp
    exact hK _ hS
  try dsimp only
  have O3 : Own w w' [(g7, 25, M.mat 8 (r3 v x y z true true false)), (g4, 27, M.mat 4 p), (g3, 25, M.mat 8 v)] := by
    have h1 := hall 16 (by decide)
    have h2 := hall 18 (by decide)
    rw [h1, h2] at hS
    exact hS
  clear hS O
  have O := O3
  clear O3
  try simp only [seen]
  try generalize (st 16).getD undef = u16
  try generalize (st 18).getD undef = u18
  clear hall
  refine wpAny_want (i := 20) (by kernel_rfl) rfl (by rfl) (fun K hK => ?_)
  refine wp_set_own O 0 (.int .i64 z) rfl (by rw [M.mat_len]; omega) rfl rfl size3 rfl rfl fun w9 O9 => hK _ _ ?_
  have O8 : Own w w9 [(g7, 25, M.mat 8 (r3 v x y z true true true)), (g4, 27, M.mat 4 p), (g3, 25, M.mat 8 v)] := by
    rw [← r3_c]
    exact O9
  clear O O9
  have O := O8
  clear O8
  clear hK K
  try simp only [Act.put, List.setIfInBounds_toArray, List.set_cons_zero, List.set_cons_succ]
  refine wpAny_done (by kernel_rfl) ?_ _
  clear X Y Z B C0 C1 C2
  by_cases he : e = 0
  · subst he
    by_cases hf : f = 0
    · subst hf
      obtain ⟨u0, u1, u2⟩ := HU rfl rfl
      obtain ⟨m0, em0⟩ : ∃ z, m 0 = z := ⟨_, rfl⟩
      obtain ⟨m1, em1⟩ : ∃ z, m 1 = z := ⟨_, rfl⟩
      obtain ⟨m2, em2⟩ : ∃ z, m 2 = z := ⟨_, rfl⟩
      obtain ⟨n0, en0⟩ : ∃ z, n 0 = z := ⟨_, rfl⟩
      obtain ⟨n1, en1⟩ : ∃ z, n 1 = z := ⟨_, rfl⟩
      obtain ⟨n2, en2⟩ : ∃ z, n 2 = z := ⟨_, rfl⟩
      rw [em0, en0] at u0
      rw [em1, en1] at u1
      rw [em2, en2] at u2
      have M0 := cell_is (n := 7) em0 (by decide)
      have M1 := cell_is (n := 7) em1 (by decide)
      have M2 := cell_is (n := 7) em2 (by decide)
      have N0 := cell_is (n := 7) en0 (by decide)
      have N1 := cell_is (n := 7) en1 (by decide)
      have N2 := cell_is (n := 7) en2 (by decide)
      have G0 : decide (m0 ≤ n0) = true := decide_eq_true u0
      have G1 : decide (n1 ≤ m1) = true := decide_eq_true u1
      have G2 : decide (m2 ≤ n2) = true := decide_eq_true u2
      clear HU em0 em1 em2 en0 en1 en2 u0 u1 u2
      go_wp2_with (first | ((with_reducible refine at_load 46 ?_); refine wpList_whole rfl O 2 rfl rfl Try.underlying25 rfl (s27 _) ?_) | ((with_reducible refine at_load 47 ?_); refine wpList_whole rfl O 1 rfl rfl Try.underlying27 rfl (sP _) ?_) | (go_at_call 8; clear tok0; have tok1 : True := trivial; refine (CM _).mono ?_; rintro e w5 ⟨rfl, hb⟩; replace O := O.call hb; clear hb) | ((with_reducible refine at_alloc 8 ?_); refine wpList_alloc_own O (M.mat 7 M.zero) zeroW ?_; clear O; intro g8 w6 O) | ((with_reducible refine at_store 8 ?_); refine wpList_put_own O 0 (M.mat 7 (m)) rfl rfl rfl (sW _) (M.mat_len2 _ _ _) (M.mat_one _ _) ?_; clear O; intro w7 O) | ((with_reducible refine at_load 52 ?_); refine wpList_whole rfl O 1 rfl rfl Try.underlying25 rfl (s27 _) ?_) | ((with_reducible refine at_load 53 ?_); refine wpList_whole rfl O 2 rfl rfl Try.underlying27 rfl (sP _) ?_) | (go_at_call 8; clear tok1; have tok2 : True := trivial; refine (CN _).mono ?_; rintro e w8 ⟨rfl, hb⟩; replace O := O.call hb; clear hb) | ((with_reducible refine at_alloc 10 ?_); refine wpList_alloc_own O (M.mat 7 M.zero) zeroW ?_; clear O; intro g10 w9 O) | ((with_reducible refine at_store 10 ?_); refine wpList_put_own O 0 (M.mat 7 (n)) rfl rfl rfl (sW _) (M.mat_len2 _ _ _) (M.mat_one _ _) ?_; clear O; intro w10 O) | (go_at_call 10; refine (awake_any _).mono ?_; rintro e w11 ⟨rfl, hb⟩; replace O := O.call hb; clear hb) | ((with_reducible refine at_load 67 ?_); refine wpList_cell_h (v := .int .i64 (n0)) rfl O.held 0 rfl N0.out rfl agg3 rfl ?_) | ((with_reducible refine at_load 69 ?_); refine wpList_cell_h (v := .int .i64 (m0)) rfl O.held 1 rfl M0.out rfl agg3 rfl ?_) | ((with_reducible refine at_load 74 ?_); refine wpList_cell_h (v := .int .i64 (n1)) rfl O.held 0 rfl N1.out rfl agg3 rfl ?_) | ((with_reducible refine at_load 76 ?_); refine wpList_cell_h (v := .int .i64 (m1)) rfl O.held 1 rfl M1.out rfl agg3 rfl ?_) | ((with_reducible refine at_load 81 ?_); refine wpList_cell_h (v := .int .i64 (n2)) rfl O.held 0 rfl N2.out rfl agg3 rfl ?_) | ((with_reducible refine at_load 83 ?_); refine wpList_cell_h (v := .int .i64 (m2)) rfl O.held 1 rfl M2.out rfl agg3 rfl ?_))
      go_ret
      exact ⟨rfl, O.below⟩
    · have E : (f == 0) = false := beq_eq_false_iff_ne.2 hf
      clear hf HU
      go_wp2_with (first | ((with_reducible refine at_load 46 ?_); refine wpList_whole rfl O 2 rfl rfl Try.underlying25 rfl (s27 _) ?_) | ((with_reducible refine at_load 47 ?_); refine wpList_whole rfl O 1 rfl rfl Try.underlying27 rfl (sP _) ?_) | (go_at_call 8; clear tok0; have tok1 : True := trivial; refine (CM _).mono ?_; rintro e w5 ⟨rfl, hb⟩; replace O := O.call hb; clear hb) | ((with_reducible refine at_alloc 8 ?_); refine wpList_alloc_own O (M.mat 7 M.zero) zeroW ?_; clear O; intro g8 w6 O) | ((with_reducible refine at_store 8 ?_); refine wpList_put_own O 0 (M.mat 7 (m)) rfl rfl rfl (sW _) (M.mat_len2 _ _ _) (M.mat_one _ _) ?_; clear O; intro w7 O) | ((with_reducible refine at_load 52 ?_); refine wpList_whole rfl O 1 rfl rfl Try.underlying25 rfl (s27 _) ?_) | ((with_reducible refine at_load 53 ?_); refine wpList_whole rfl O 2 rfl rfl Try.underlying27 rfl (sP _) ?_) | (go_at_call 8; clear tok1; have tok2 : True := trivial; refine (CN _).mono ?_; rintro e w8 ⟨rfl, hb⟩; replace O := O.call hb; clear hb) | ((with_reducible refine at_alloc 10 ?_); refine wpList_alloc_own O (M.mat 7 M.zero) zeroW ?_; clear O; intro g10 w9 O) | ((with_reducible refine at_store 10 ?_); refine wpList_put_own O 0 (M.mat 7 (n)) rfl rfl rfl (sW _) (M.mat_len2 _ _ _) (M.mat_one _ _) ?_; clear O; intro w10 O) | (go_at_call 10; refine (awake_any _).mono ?_; rintro e w11 ⟨rfl, hb⟩; replace O := O.call hb; clear hb))
      go_ret
      exact ⟨rfl, O.below⟩
  · have E : (e == 0) = false := beq_eq_false_iff_ne.2 he
    clear he HU
    go_wp2_with (first | ((with_reducible refine at_load 46 ?_); refine wpList_whole rfl O 2 rfl rfl Try.underlying25 rfl (s27 _) ?_) | ((with_reducible refine at_load 47 ?_); refine wpList_whole rfl O 1 rfl rfl Try.underlying27 rfl (sP _) ?_) | (go_at_call 8; clear tok0; have tok1 : True := trivial; refine (CM _).mono ?_; rintro e w5 ⟨rfl, hb⟩; replace O := O.call hb; clear hb) | ((with_reducible refine at_alloc 8 ?_); refine wpList_alloc_own O (M.mat 7 M.zero) zeroW ?_; clear O; intro g8 w6 O) | ((with_reducible refine at_store 8 ?_); refine wpList_put_own O 0 (M.mat 7 (m)) rfl rfl rfl (sW _) (M.mat_len2 _ _ _) (M.mat_one _ _) ?_; clear O; intro w7 O) | ((with_reducible refine at_load 52 ?_); refine wpList_whole rfl O 1 rfl rfl Try.underlying25 rfl (s27 _) ?_) | ((with_reducible refine at_load 53 ?_); refine wpList_whole rfl O 2 rfl rfl Try.underlying27 rfl (sP _) ?_) | (go_at_call 8; clear tok1; have tok2 : True := trivial; refine (CN _).mono ?_; rintro e w8 ⟨rfl, hb⟩; replace O := O.call hb; clear hb) | ((with_reducible refine at_alloc 10 ?_); refine wpList_alloc_own O (M.mat 7 M.zero) zeroW ?_; clear O; intro g10 w9 O) | ((with_reducible refine at_store 10 ?_); refine wpList_put_own O 0 (M.mat 7 (n)) rfl rfl rfl (sW _) (M.mat_len2 _ _ _) (M.mat_one _ _) ?_; clear O; intro w10 O) | (go_at_call 10; refine (awake_any _).mono ?_; rintro e w11 ⟨rfl, hb⟩; replace O := O.call hb; clear hb))
    go_ret
    exact ⟨rfl, O.below⟩

theorem readable : ∀ t ∈ Try.f7.params.toList, Try.prog.readableRec t = true ∧ t < Try.prog.types.size := by
  intro t ht
  rw [Try.params7] at ht
  simp only [List.mem_cons, List.not_mem_nil, or_false] at ht
  repeat (first | (rcases ht with rfl | ht; exact ⟨by kernel_rfl, of_decide_eq_true (by kernel_rfl)⟩) | (subst ht; exact ⟨by kernel_rfl, of_decide_eq_true (by kernel_rfl)⟩))
set_option maxRecDepth 100000 in
theorem lifted (os : Os) (started : os.Started) (H : Type) (enc : TypeId × Value → H) :
    ReturnsInHanded {} Try.checked os 7 .any (Rows.viewRisesSpec.pre6 enc Try.prog Try.f7 Rows.viewRisesRow.domain false) (Rows.viewRisesSpec.post enc Try.prog Try.f7 false true false false) := by
  refine returnsInHanded_of_change (C := Try.checked) own started (by kernel_rfl) Try.func7
    (ChangeSpec.witness6 (enc := enc) (C := Try.checked) false ⟨#[], #[.agg #[.int .i64 0, .int .i64 0, .int .i64 0, .int .i64 0, .int .i64 0, .int .i64 0, .int .i64 0, .int .i64 0], .agg #[.int .i64 0, .int .i64 0, .int .i64 0, .int .i64 0], .int .u16 0], []⟩ 8 (by kernel_rfl) (by kernel_rfl) (by kernel_rfl) (by kernel_rfl)) ?_
  intro W base args ds gs before hval0 hW hcnd _
  have hval : ∀ (j : Nat) t v, Try.f7.params[j]? = some t → args[j]? = some v → Value.okWide Try.prog W .any base t v := hval0
  have hW' := hW
  obtain ⟨p, q, hA0, hV, rfl, hfz, hnd⟩ := hW
  have hA : DataW.TrodAll enc Try.prog W 0 (fun _ => true) true Try.f7.params.toList args.toList ds p := hA0
  rw [Try.params7] at hA hval
  have hlt : ∀ x ∈ p ++ q, x.block < W.heap.size := fun x hx => hW'.lt x hx
  obtain ⟨v0, vs0, d0, ds0, p0, q0, hargs, rfl, rfl, h0, rr0⟩ := trodAll_cons hA
  obtain ⟨v1, vs1, d1, ds1, p1, q1, rfl, rfl, rfl, h1, rr1⟩ := trodAll_cons rr0
  obtain ⟨v2, vs2, d2, ds2, p2, q2, rfl, rfl, rfl, h2, rr2⟩ := trodAll_cons rr1
  obtain ⟨rfl, rfl, rfl⟩ := trodAll_nil rr2
  obtain rfl : args = #[v0, v1, v2] := by cases args; simp_all
  obtain ⟨rfl, rfl⟩ := trodVars_none hV
  obtain ⟨a0, rfl⟩ := openVert (hval 0 25 v0 rfl rfl) h0
  obtain ⟨a1, rfl⟩ := openPort (hval 1 27 v1 rfl rfl) h1
  obtain ⟨i2, rfl, rfl, rfl, x2⟩ := open_int Try.underlying43 (hval 2 43 v2 rfl rfl) h2
  clear hA0 hval0
  refine (walk W a0 a1 i2 (bounds_u16 x2)).mono fun e W' ⟨he, hg⟩ => ?_
  subst he
  exact ⟨_, rfl, post_true (tb := 4) laid readable (by kernel_rfl) Try.underlying4 rfl (fun l hl => by
    match l, hl with
    | [_, _, _], _ => exact ⟨rfl, rfl, rfl⟩) hW' hg⟩

theorem over : Rows.viewRisesRow.holds Try.pinned (OpenSpec.ofChange Rows.viewRisesSpec) :=
  OpenClaim.holds_of_wide 7 Try.f7 rfl rfl rfl rfl rfl rfl rfl ⟨rfl, rfl, rfl, rfl, rfl⟩ rfl rfl rfl rfl rfl (by kernel_rfl) Try.func7 (by kernel_rfl)
    (of_decide_eq_true (by kernel_rfl)) (by unfold Func.isWrapper; first | (rw [if_pos (by decide +kernel)]; kernel_rfl) | (rw [if_neg (by decide +kernel)]; exact ⟨rfl, rfl⟩))
    (fun os started H enc _ => lifted os started H enc)

theorem proved : Rows.ViewRisesSaid :=
  over
#print axioms proved
end Go.Proofs.Ytbmigbmeadgopaa.viewRises
