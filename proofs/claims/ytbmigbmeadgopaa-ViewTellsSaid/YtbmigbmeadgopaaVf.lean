/- The document: a vertex or a port that may not be. -/
import Derived.Test.YtbmigbmeadgopaaVe
namespace Go.Proofs.Ytbmigbmeadgopaa
open Go.ChangeShapes Go.WideShapes Go.ChangeAt Go.RowKit
set_option linter.unusedVariables false
set_option linter.unusedSimpArgs false

/-- What the document asks ahead of the color. -/
def V.far (x : Int) : Bool := D.inB (-68719476736) 68719476736 x
def V.first (v p : Nat → Int) : Bool := V.port p && (D.inB 1 68719476736 (v 3) && (V.far (v 0) && (V.far (v 1) && V.far (v 2))))
def V.gk (v p : Nat → Int) : Nat → Bool
  | 0 => V.first v p
  | k + 1 => V.gk v p k && D.inB 0 255 (v (4 + k))
theorem V.gk_4 (v p : Nat → Int) : V.gk v p 4 = V.good v p := by
  rw [Bool.eq_iff_iff, V.good_iff, D.fits_iff]
  simp only [V.gk, V.first, V.far, Bool.and_eq_true, D.inB_iff, Nat.add_zero, Nat.zero_add, Nat.reduceAdd]
  constructor
  · rintro ⟨⟨⟨⟨⟨a1, a2, a3, a4, a5⟩, b0⟩, b1⟩, b2⟩, b3⟩
    refine ⟨⟨fun i hi => ?_, fun i hi => ?_⟩, a2.1, a1⟩
    · rcases (by omega : i = 0 ∨ i = 1 ∨ i = 2 ∨ i = 3) with rfl | rfl | rfl | rfl
      · exact a3
      · exact a4
      · exact a5
      · omega
    · rcases (by omega : i = 0 ∨ i = 1 ∨ i = 2 ∨ i = 3) with rfl | rfl | rfl | rfl
      · exact b0
      · exact b1
      · exact b2
      · exact b3
  · rintro ⟨⟨a, b⟩, c, d⟩
    exact ⟨⟨⟨⟨⟨d, ⟨c, (a 3 (by omega)).2⟩, a 0 (by omega), a 1 (by omega), a 2 (by omega)⟩, b 0 (by omega)⟩, b 1 (by omega)⟩, b 2 (by omega)⟩, b 3 (by omega)⟩
theorem V.gk_no {v p : Nat → Int} (h : V.first v p = false) : V.good v p = false := by
  rw [← V.gk_4]
  simp only [V.gk, h, Bool.false_and]
theorem V.first_split {v p : Nat → Int} (h : V.first v p = false) : V.port p = false ∨ (V.port p = true ∧ D.inB 1 68719476736 (v 3) = false) ∨ (V.port p = true ∧ D.inB 1 68719476736 (v 3) = true ∧ V.far (v 0) = false) ∨
    (V.port p = true ∧ D.inB 1 68719476736 (v 3) = true ∧ V.far (v 0) = true ∧ V.far (v 1) = false) ∨ (V.port p = true ∧ D.inB 1 68719476736 (v 3) = true ∧ V.far (v 0) = true ∧ V.far (v 1) = true ∧ V.far (v 2) = false) := by
  unfold V.first at h
  cases h0 : V.port p
  · exact .inl rfl
  cases h1 : D.inB 1 68719476736 (v 3)
  · exact .inr (.inl ⟨rfl, rfl⟩)
  cases h2 : V.far (v 0)
  · exact .inr (.inr (.inl ⟨rfl, rfl, rfl⟩))
  cases h3 : V.far (v 1)
  · exact .inr (.inr (.inr (.inl ⟨rfl, rfl, rfl, rfl⟩)))
  cases h4 : V.far (v 2)
  · exact .inr (.inr (.inr (.inr ⟨rfl, rfl, rfl, rfl, rfl⟩)))
  rw [h0, h1, h2, h3, h4] at h
  cases h
theorem far_any (x : Int) (w : World) : Calls Try.prog 19 #[.int .i64 x, .int .i64 (-68719476736), .int .i64 68719476736] w fun e w' => e = .returned (.bool (V.far x)) ∧ w' = w := within_any x (-68719476736) 68719476736 w
set_option maxHeartbeats 8000000 in
theorem rmap_bad1 (v p : Nat → Int) (h : V.first v p = false) (w : World) : Calls Try.prog 9 #[arr 8 v, arr 4 p] w (RetMap w (V.map v p)) := by
  have O := Own.start w
  have HE := Lib.hid (V.map_bad (V.gk_no h))
  have CP := fun w => rright_any p w
  have C3 := fun w => within_any (v 3) 1 68719476736 w
  have C0 := fun w => far_any (v 0) w
  have C1 := fun w => far_any (v 1) w
  have C2 := fun w => far_any (v 2) w
  rcases V.first_split h with h0 | ⟨h0, h1⟩ | ⟨h0, h1, h2⟩ | ⟨h0, h1, h2, h3⟩ | ⟨h0, h1, h2, h3, h4⟩
  all_goals
    rw [h0] at CP
    try rw [h1] at C3
    try rw [h2] at C0
    try rw [h3] at C1
    try rw [h4] at C2
    clear h h0
    try clear h1
    try clear h2
    try clear h3
    try clear h4
    go_enter Try.func9, Try.ntmps9
    go_wp2_with (first | ((with_reducible refine at_box 2 ?_); refine wpList_box_own O (M.mat 8 (v)) rfl ?_; clear O; intro g2 w1 O) | ((with_reducible refine at_box 3 ?_); refine wpList_box_own O (M.mat 4 (p)) rfl ?_; clear O; intro g3 w2 O) | ((with_reducible refine at_alloc 4 ?_); refine wpList_alloc_own O (M.mat 7 M.zero) zeroW ?_; clear O; intro g4 w3 O) | ((with_reducible refine at_load 11 ?_); refine wpList_whole rfl O 1 rfl rfl Try.underlying27 rfl (sP _) ?_) | (go_at_call 12; refine (CP _).mono ?_; rintro e w4 ⟨rfl, hb⟩; replace O := O.call hb; clear hb) | ((with_reducible refine at_load 15 ?_); refine wpList_cell_h (v := .int .i64 ((v) (3))) rfl O.held 2 rfl (M.mat_get (by omega)) rfl agg3 rfl ?_) | ((with_reducible refine at_load 20 ?_); refine wpList_cell_h (v := .int .i64 ((v) (0))) rfl O.held 2 rfl (M.mat_get (by omega)) rfl agg3 rfl ?_) | ((with_reducible refine at_load 25 ?_); refine wpList_cell_h (v := .int .i64 ((v) (1))) rfl O.held 2 rfl (M.mat_get (by omega)) rfl agg3 rfl ?_) | ((with_reducible refine at_load 30 ?_); refine wpList_cell_h (v := .int .i64 ((v) (2))) rfl O.held 2 rfl (M.mat_get (by omega)) rfl agg3 rfl ?_) | (go_at_call_of 19 (Value.int IntKind.i64 (v 3)); refine (C3 _).mono ?_; rintro e w' ⟨rfl, hw⟩; obtain rfl := hw.symm; clear hw) | (go_at_call_of 19 (Value.int IntKind.i64 (v 0)); refine (C0 _).mono ?_; rintro e w' ⟨rfl, hw⟩; obtain rfl := hw.symm; clear hw) | (go_at_call_of 19 (Value.int IntKind.i64 (v 1)); refine (C1 _).mono ?_; rintro e w' ⟨rfl, hw⟩; obtain rfl := hw.symm; clear hw) | (go_at_call_of 19 (Value.int IntKind.i64 (v 2)); refine (C2 _).mono ?_; rintro e w' ⟨rfl, hw⟩; obtain rfl := hw.symm; clear hw))
    go_loopw [6, 7] (fun b u wr => ∃ k : Nat, k ≤ 4 ∧ b = .bool false ∧ u = .int .i64 k ∧ w4 = wr) (fun _ v _ => 4 - (intOf v).toNat)
    case atStart => exact ⟨0, by omega, rfl, rfl, rfl⟩
    case round =>
      obtain ⟨k, hk, rfl, rfl, rfl⟩ := hrel
      have q0 : (0 : Int) ≤ k := by omega
      by_cases hlt : k < 4
      · have q1 : (k : Int) < 4 := by omega
        go_wp2_with fail
        go_roundw
        case rel => exact ⟨k + 1, by omega, rfl, by go_num, trivial⟩
        case measure => simp [intOf]; omega
      · have q1 : ¬ (k : Int) < 4 := by omega
        obtain rfl : k = 4 := by omega
        go_wp2_with (first | ((with_reducible refine at_build 47 ?_); refine wpList_build_g rfl ([]) ((M.mat 7 M.zero).toArray) ?_ (builtWz) ?_; (focus (simp only [List.map_toArray, List.map_cons, List.map_nil]; rfl))) | ((with_reducible refine at_store 4 ?_); refine wpList_put_own O 0 (M.mat 7 (M.zero)) rfl rfl rfl (sW _) (M.mat_len2 _ _ _) (M.mat_one _ _) ?_; clear O; intro w6 O))
        exact bodyPost_ret (v := .tuple #[arr 7 (M.zero), .int .i64 1]) (res_h2 rfl O.held 0 rfl rfl Try.underlying29 rfl (sW _) rfl) rfl ⟨by rw [HE.out], O.below⟩
end Go.Proofs.Ytbmigbmeadgopaa
