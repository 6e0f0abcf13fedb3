/- Contracts: Right twice, Pixel twice, isPlace, place, depth. -/
import Derived.Test.YtbmigbmeadgopaaVa
namespace Go.Proofs.Ytbmigbmeadgopaa
open Go.ChangeShapes Go.WideShapes Go.ChangeAt Go.RowKit
set_option linter.unusedVariables false
set_option linter.unusedSimpArgs false

theorem V.port_no1 {p : Nat → Int} {b1 b2 b3 b4 : Bool} (h1 : D.inB (-8192) 8192 (p 0) = b1) (h2 : D.inB (-8192) 8192 (p 1) = b2) (h3 : D.inB 0 4096 (p 2) = b3) (h4 : D.inB 0 4096 (p 3) = b4) : V.port p = (b1 && (b2 && (b3 && b4))) := by
  rw [V.port, h1, h2, h3, h4]
set_option maxHeartbeats 2000000 in
theorem right_any (p : Nat → Int) (w : World) : Calls Try.prog 11 #[arr 4 p] w fun e w' => e = .returned (.bool (V.port p)) ∧ Below w.heap.size w w' := by
  have O := Own.start w
  have C1 := fun w => among_any (p 0) (-8192) 8192 w
  have C2 := fun w => among_any (p 1) (-8192) 8192 w
  have C3 := fun w => among_any (p 2) 0 4096 w
  have C4 := fun w => among_any (p 3) 0 4096 w
  cases h1 : D.inB (-8192) 8192 (p 0) <;> cases h2 : D.inB (-8192) 8192 (p 1) <;> cases h3 : D.inB 0 4096 (p 2) <;> cases h4 : D.inB 0 4096 (p 3)
  all_goals
    have HE := Lib.hid (V.port_no1 h1 h2 h3 h4)
    rw [h1] at C1
    rw [h2] at C2
    rw [h3] at C3
    rw [h4] at C4
    clear h1 h2 h3 h4
    have tok0 : True := trivial
    go_enter Try.func11, Try.ntmps11
    go_wp2_with (first | ((with_reducible refine at_box 1 ?_); refine wpList_box_own O (M.mat 4 (p)) rfl ?_; clear O; intro g1 w1 O) | ((with_reducible refine at_load 4 ?_); refine wpList_cell_h (v := .int .i64 ((p) (0))) rfl O.held 0 rfl (M.mat_get (by omega)) rfl agg3 rfl ?_) | ((with_reducible refine at_load 8 ?_); refine wpList_cell_h (v := .int .i64 ((p) (1))) rfl O.held 0 rfl (M.mat_get (by omega)) rfl agg3 rfl ?_) | ((with_reducible refine at_load 13 ?_); refine wpList_cell_h (v := .int .i64 ((p) (2))) rfl O.held 0 rfl (M.mat_get (by omega)) rfl agg3 rfl ?_) | ((with_reducible refine at_load 18 ?_); refine wpList_cell_h (v := .int .i64 ((p) (3))) rfl O.held 0 rfl (M.mat_get (by omega)) rfl agg3 rfl ?_) | (go_at_call_of 21 (Value.int IntKind.i64 (p 0)); refine (C1 _).mono ?_; rintro e w' ⟨rfl, rfl⟩) | (go_at_call_of 21 (Value.int IntKind.i64 (p 1)); refine (C2 _).mono ?_; rintro e w' ⟨rfl, rfl⟩) | (go_at_call_of 21 (Value.int IntKind.i64 (p 2)); refine (C3 _).mono ?_; rintro e w' ⟨rfl, rfl⟩) | (go_at_call_of 21 (Value.int IntKind.i64 (p 3)); refine (C4 _).mono ?_; rintro e w' ⟨rfl, rfl⟩))
    go_ret
    exact ⟨by rw [HE.out]; rfl, O.below⟩
set_option maxHeartbeats 2000000 in
theorem rright_any (p : Nat → Int) (w : World) : Calls Try.prog 12 #[arr 4 p] w fun e w' => e = .returned (.bool (V.port p)) ∧ Below w.heap.size w w' := by
  have O := Own.start w
  have C1 := fun w => within_any (p 0) (-8192) 8192 w
  have C2 := fun w => within_any (p 1) (-8192) 8192 w
  have C3 := fun w => within_any (p 2) 0 4096 w
  have C4 := fun w => within_any (p 3) 0 4096 w
  cases h1 : D.inB (-8192) 8192 (p 0) <;> cases h2 : D.inB (-8192) 8192 (p 1) <;> cases h3 : D.inB 0 4096 (p 2) <;> cases h4 : D.inB 0 4096 (p 3)
  all_goals
    have HE := Lib.hid (V.port_no1 h1 h2 h3 h4)
    rw [h1] at C1
    rw [h2] at C2
    rw [h3] at C3
    rw [h4] at C4
    clear h1 h2 h3 h4
    have tok0 : True := trivial
    go_enter Try.func12, Try.ntmps12
    go_wp2_with (first | ((with_reducible refine at_box 1 ?_); refine wpList_box_own O (M.mat 4 (p)) rfl ?_; clear O; intro g1 w1 O) | ((with_reducible refine at_load 4 ?_); refine wpList_cell_h (v := .int .i64 ((p) (0))) rfl O.held 0 rfl (M.mat_get (by omega)) rfl agg3 rfl ?_) | ((with_reducible refine at_load 8 ?_); refine wpList_cell_h (v := .int .i64 ((p) (1))) rfl O.held 0 rfl (M.mat_get (by omega)) rfl agg3 rfl ?_) | ((with_reducible refine at_load 13 ?_); refine wpList_cell_h (v := .int .i64 ((p) (2))) rfl O.held 0 rfl (M.mat_get (by omega)) rfl agg3 rfl ?_) | ((with_reducible refine at_load 18 ?_); refine wpList_cell_h (v := .int .i64 ((p) (3))) rfl O.held 0 rfl (M.mat_get (by omega)) rfl agg3 rfl ?_) | (go_at_call_of 19 (Value.int IntKind.i64 (p 0)); refine (C1 _).mono ?_; rintro e w' ⟨rfl, rfl⟩) | (go_at_call_of 19 (Value.int IntKind.i64 (p 1)); refine (C2 _).mono ?_; rintro e w' ⟨rfl, rfl⟩) | (go_at_call_of 19 (Value.int IntKind.i64 (p 2)); refine (C3 _).mono ?_; rintro e w' ⟨rfl, rfl⟩) | (go_at_call_of 19 (Value.int IntKind.i64 (p 3)); refine (C4 _).mono ?_; rintro e w' ⟨rfl, rfl⟩))
    go_ret
    exact ⟨by rw [HE.out]; rfl, O.below⟩
set_option maxHeartbeats 1000000 in
theorem pixel_any (u : Int) (h1 : -9223372036854775808 ≤ u) (h2 : u < 9223372036854775808) (w : World) : Calls Try.prog 13 #[.int .i64 u] w fun e w' => e = .returned (.int .i64 (u / 256)) ∧ w' = w := by
  have C := fun w => down_any u 256 (by decide) h1 h2 w
  obtain ⟨q, hq⟩ : ∃ q, u / 256 = q := ⟨_, rfl⟩
  rw [hq] at C ⊢
  clear hq
  go_enter Try.func13, Try.ntmps13
  go_wp2_with (go_at_call 22; refine (C _).mono ?_; rintro e w' ⟨rfl, rfl⟩)
  go_ret
  exact ⟨rfl, rfl⟩
set_option maxHeartbeats 1000000 in
theorem rpixel_any (n : Int) (h1 : -9223372036854775808 ≤ n) (h2 : n < 9223372036854775808) (w : World) : Calls Try.prog 14 #[.int .i64 n] w fun e w' => e = .returned (.int .i64 (n / 256)) ∧ w' = w := by
  have HE := Lib.hid (V.down_tmod (n := n) (d := 256) (by decide))
  have hq := V.quo_rng (d := 256) (by decide) h1 h2
  have hr := V.down_rng (d := 256) (by decide) h1 h2
  by_cases hm : n.tmod 256 < 0
  · have e := HE.out
    rw [if_pos hm] at e
    have HF := Lib.hid e
    rw [e] at hr
    clear e HE
    go_enter Try.func14, Try.ntmps14
    go_wp2_with fail
    go_ret
    exact ⟨by rw [HF.out]; rfl, rfl⟩
  · have e := HE.out
    rw [if_neg hm] at e
    have HF := Lib.hid e
    clear e HE hr
    go_enter Try.func14, Try.ntmps14
    go_wp2_with fail
    go_ret
    exact ⟨by rw [HF.out]; rfl, rfl⟩
set_option maxHeartbeats 1000000 in
theorem spot_any (u : Int) (w : World) : Calls Try.prog 17 #[.int .i64 u] w fun e w' => e = .returned (.bool (V.spot u)) ∧ w' = w := by
  have C := fun w => among_any u (-268435456) 268435456 w
  have E : D.inB (-268435456) 268435456 u = V.spot u := rfl
  rw [E] at C
  clear E
  go_enter Try.func17, Try.ntmps17
  go_wp2_with (go_at_call 21; refine (C _).mono ?_; rintro e w' ⟨rfl, rfl⟩)
  go_ret
  exact ⟨rfl, rfl⟩
set_option maxHeartbeats 1000000 in
theorem place_any (b s x d : Int) (hb : -8192 ≤ b ∧ b ≤ 8192) (hs : 0 ≤ s ∧ s ≤ 4096) (hx : -68719476736 ≤ x ∧ x ≤ 68719476736) (hd : 1 ≤ d ∧ d ≤ 68719476736) (w : World) :
    Calls Try.prog 16 #[.int .i64 b, .int .i64 s, .int .i64 x, .int .i64 d] w fun e w' => e = .returned (.int .i64 (V.along b s x d)) ∧ w' = w := by
  have hn := V.side_le hs hx hd
  have hl := V.along_le hb hs hx hd
  have C := fun w => down_any (128 * s * (x + d)) d (by omega) (by omega) (by omega) w
  have E : V.along b s x d = b * 256 + 128 * s * (x + d) / d := by rw [V.along, Int.mul_comm b]
  rw [E] at hl ⊢
  clear E
  rw [Int.mul_comm 128 s] at hn C hl ⊢
  obtain ⟨q, hq⟩ : ∃ q, s * 128 * (x + d) / d = q := ⟨_, rfl⟩
  rw [hq] at hl C ⊢
  clear hq
  obtain ⟨n, en⟩ : ∃ n, s * 128 * (x + d) = n := ⟨_, rfl⟩
  rw [en] at hn C
  have e1 : IntKind.i64.wrap (b * 256) = b * 256 := IntWalk.i64_in _ (by omega)
  have e2 : IntKind.i64.wrap (s * 128) = s * 128 := IntWalk.i64_in _ (by omega)
  have e3 : IntKind.i64.wrap (x + d) = x + d := IntWalk.i64_in _ (by omega)
  have e4 : IntKind.i64.wrap (s * 128 * (x + d)) = n := by rw [en]; exact IntWalk.i64_in _ (by omega)
  have e5 : IntKind.i64.wrap (b * 256 + q) = b * 256 + q := IntWalk.i64_in _ (by omega)
  go_enter Try.func16, Try.ntmps16
  go_wp2_with (go_at_call 22; refine (C _).mono ?_; rintro e w' ⟨rfl, rfl⟩)
  go_ret
  exact ⟨rfl, rfl⟩
set_option maxHeartbeats 1000000 in
theorem depth_any (z d : Int) (hz : -68719476736 ≤ z ∧ z ≤ 68719476736) (hd : 1 ≤ d ∧ d ≤ 68719476736) (w : World) :
    Calls Try.prog 18 #[.int .i64 z, .int .i64 d] w fun e w' => e = .returned (.int .i64 (V.deep z d)) ∧ w' = w := by
  have C := fun w => down_any (16777215 * (z + d)) (2 * d) (by omega) (by omega) (by omega) w
  have E : V.deep z d = min (max (16777215 * (z + d) / (2 * d)) 0) 16777215 := by rw [V.deep]; omega
  rw [E]
  clear E
  obtain ⟨q, hq⟩ : ∃ q, 16777215 * (z + d) / (2 * d) = q := ⟨_, rfl⟩
  rw [hq] at C ⊢
  clear hq
  go_enter Try.func18, Try.ntmps18
  go_wp2_with (go_at_call 22; refine (C _).mono ?_; rintro e w' ⟨rfl, rfl⟩)
  all_goals
    go_ret
    refine ⟨?_, rfl⟩
    show Ending.returned (Value.int IntKind.i64 _) = _
    congr 2
    omega
end Go.Proofs.Ytbmigbmeadgopaa
