/- Contracts: may, small, awake. -/
import Derived.Test.YtheolajpjpnfjaaXp
namespace Go.Proofs.Ytheolajpjpnfjaa
open Go.ChangeShapes Go.WideShapes Go.ChangeAt Go.RowKit
set_option linter.unusedVariables false
set_option linter.unusedSimpArgs false

namespace DM
def may (X Y : Int) : Bool := decide (-536870912 ≤ X) && (decide (X ≤ 536870912) && (decide (-536870912 ≤ Y) && decide (Y ≤ 536870912)))
theorem may_iff {X Y : Int} : may X Y = true ↔ (-536870912 ≤ X ∧ X ≤ 536870912) ∧ (-536870912 ≤ Y ∧ Y ≤ 536870912) := by
  simp only [may, Bool.and_eq_true, decide_eq_true_eq]
  omega
/-- Is a rectangle small, or none? -/
def small (r : Nat → Int) : Bool := !RC.right r || decide (RC.area r ≤ 600)
theorem small_lim {r : Nat → Int} (h : small r = true) (hr : RC.right r = true) : r 2 - r 0 ≤ 1000 ∧ r 3 - r 1 ≤ 1000 := by
  unfold small at h
  rw [hr, Bool.not_true, Bool.false_or, decide_eq_true_iff] at h
  obtain ⟨_, h2, h3⟩ := RC.right_iff.1 hr
  rw [RC.area_is hr rfl rfl rfl rfl] at h
  have a1 := Int.mul_le_mul_of_nonneg_left (show 1 ≤ r 3 - r 1 by omega) (show 0 ≤ r 2 - r 0 by omega)
  have a2 := Int.mul_le_mul_of_nonneg_right (show 1 ≤ r 2 - r 0 by omega) (show 0 ≤ r 3 - r 1 by omega)
  omega
end DM
set_option maxHeartbeats 2000000 in
theorem may_any (p : Nat → Int) (w : World) : Calls Try.prog 8 #[arr 2 p] w fun e w' => e = .returned (.bool (DM.may (p 0) (p 1))) ∧ Below w.heap.size w w' := by
  have O := Own.start w
  obtain ⟨x, ex⟩ : ∃ z, p 0 = z := ⟨_, rfl⟩
  have Cx := cell_is (n := 2) ex (by decide)
  obtain ⟨y, ey⟩ : ∃ z, p 1 = z := ⟨_, rfl⟩
  have Cy := cell_is (n := 2) ey (by decide)
  rw [ex, ey]
  clear ex ey
  have HE : Hid (DM.may x y = (decide (-536870912 ≤ x) && (decide (x ≤ 536870912) && (decide (-536870912 ≤ y) && decide (y ≤ 536870912))))) := Lib.hid rfl
  cases h0 : decide (-536870912 ≤ x)
  · rw [h0] at HE
    go_enter Try.func8, Try.ntmps8
    go_wp2_with (first | ((with_reducible refine at_box 1 ?_); refine wpList_box_own O (M.mat 2 (p)) rfl ?_; clear O; intro g1 w1 O) | ((with_reducible refine at_load 4 ?_); refine wpList_cell_h (v := .int .i64 (x)) rfl O.held 0 rfl Cx.out rfl agg3 rfl ?_) | ((with_reducible refine at_load 8 ?_); refine wpList_cell_h (v := .int .i64 (x)) rfl O.held 0 rfl Cx.out rfl agg3 rfl ?_) | ((with_reducible refine at_load 13 ?_); refine wpList_cell_h (v := .int .i64 (y)) rfl O.held 0 rfl Cy.out rfl agg3 rfl ?_) | ((with_reducible refine at_load 18 ?_); refine wpList_cell_h (v := .int .i64 (y)) rfl O.held 0 rfl Cy.out rfl agg3 rfl ?_))
    go_ret
    exact ⟨by rw [HE.out]; rfl, O.below⟩
  · cases h1 : decide (x ≤ 536870912)
    · rw [h0, h1] at HE
      go_enter Try.func8, Try.ntmps8
      go_wp2_with (first | ((with_reducible refine at_box 1 ?_); refine wpList_box_own O (M.mat 2 (p)) rfl ?_; clear O; intro g1 w1 O) | ((with_reducible refine at_load 4 ?_); refine wpList_cell_h (v := .int .i64 (x)) rfl O.held 0 rfl Cx.out rfl agg3 rfl ?_) | ((with_reducible refine at_load 8 ?_); refine wpList_cell_h (v := .int .i64 (x)) rfl O.held 0 rfl Cx.out rfl agg3 rfl ?_) | ((with_reducible refine at_load 13 ?_); refine wpList_cell_h (v := .int .i64 (y)) rfl O.held 0 rfl Cy.out rfl agg3 rfl ?_) | ((with_reducible refine at_load 18 ?_); refine wpList_cell_h (v := .int .i64 (y)) rfl O.held 0 rfl Cy.out rfl agg3 rfl ?_))
      go_ret
      exact ⟨by rw [HE.out]; rfl, O.below⟩
    · cases h2 : decide (-536870912 ≤ y)
      · rw [h0, h1, h2] at HE
        go_enter Try.func8, Try.ntmps8
        go_wp2_with (first | ((with_reducible refine at_box 1 ?_); refine wpList_box_own O (M.mat 2 (p)) rfl ?_; clear O; intro g1 w1 O) | ((with_reducible refine at_load 4 ?_); refine wpList_cell_h (v := .int .i64 (x)) rfl O.held 0 rfl Cx.out rfl agg3 rfl ?_) | ((with_reducible refine at_load 8 ?_); refine wpList_cell_h (v := .int .i64 (x)) rfl O.held 0 rfl Cx.out rfl agg3 rfl ?_) | ((with_reducible refine at_load 13 ?_); refine wpList_cell_h (v := .int .i64 (y)) rfl O.held 0 rfl Cy.out rfl agg3 rfl ?_) | ((with_reducible refine at_load 18 ?_); refine wpList_cell_h (v := .int .i64 (y)) rfl O.held 0 rfl Cy.out rfl agg3 rfl ?_))
        go_ret
        exact ⟨by rw [HE.out]; rfl, O.below⟩
      · cases h3 : decide (y ≤ 536870912)
        · rw [h0, h1, h2, h3] at HE
          go_enter Try.func8, Try.ntmps8
          go_wp2_with (first | ((with_reducible refine at_box 1 ?_); refine wpList_box_own O (M.mat 2 (p)) rfl ?_; clear O; intro g1 w1 O) | ((with_reducible refine at_load 4 ?_); refine wpList_cell_h (v := .int .i64 (x)) rfl O.held 0 rfl Cx.out rfl agg3 rfl ?_) | ((with_reducible refine at_load 8 ?_); refine wpList_cell_h (v := .int .i64 (x)) rfl O.held 0 rfl Cx.out rfl agg3 rfl ?_) | ((with_reducible refine at_load 13 ?_); refine wpList_cell_h (v := .int .i64 (y)) rfl O.held 0 rfl Cy.out rfl agg3 rfl ?_) | ((with_reducible refine at_load 18 ?_); refine wpList_cell_h (v := .int .i64 (y)) rfl O.held 0 rfl Cy.out rfl agg3 rfl ?_))
          go_ret
          exact ⟨by rw [HE.out]; rfl, O.below⟩
        · rw [h0, h1, h2, h3] at HE
          go_enter Try.func8, Try.ntmps8
          go_wp2_with (first | ((with_reducible refine at_box 1 ?_); refine wpList_box_own O (M.mat 2 (p)) rfl ?_; clear O; intro g1 w1 O) | ((with_reducible refine at_load 4 ?_); refine wpList_cell_h (v := .int .i64 (x)) rfl O.held 0 rfl Cx.out rfl agg3 rfl ?_) | ((with_reducible refine at_load 8 ?_); refine wpList_cell_h (v := .int .i64 (x)) rfl O.held 0 rfl Cx.out rfl agg3 rfl ?_) | ((with_reducible refine at_load 13 ?_); refine wpList_cell_h (v := .int .i64 (y)) rfl O.held 0 rfl Cy.out rfl agg3 rfl ?_) | ((with_reducible refine at_load 18 ?_); refine wpList_cell_h (v := .int .i64 (y)) rfl O.held 0 rfl Cy.out rfl agg3 rfl ?_))
          go_ret
          exact ⟨by rw [HE.out]; rfl, O.below⟩
set_option maxHeartbeats 2000000 in
theorem small_any (r : Nat → Int) (w : World) : Calls Try.prog 9 #[arr 4 r] w fun e w' => e = .returned (.bool (DM.small r)) ∧ Below w.heap.size w w' := by
  have O := Own.start w
  have CR := fun w => rright_any r w
  have CA := fun w => rarea_any r w
  have HE : Hid (DM.small r = (!RC.right r || decide (RC.area r ≤ 600))) := Lib.hid rfl
  generalize DM.small r = s at *
  generalize RC.area r = ar at *
  cases hr : RC.right r
  · rw [hr] at CR HE
    clear hr CA
    go_enter Try.func9, Try.ntmps9
    go_wp2_with (first | ((with_reducible refine at_box 1 ?_); refine wpList_box_own O (M.mat 4 (r)) rfl ?_; clear O; intro g1 w1 O) | ((with_reducible refine at_load 3 ?_); refine wpList_whole rfl O 0 rfl rfl Try.underlying25 rfl (sR _) ?_) | (go_at_call 19; refine (CR _).mono ?_; rintro e w2 ⟨rfl, hb⟩; replace O := O.call hb; clear hb))
    go_ret
    exact ⟨by rw [HE.out]; rfl, O.below⟩
  · rw [hr] at CR HE
    clear hr
    rw [Bool.not_true, Bool.false_or] at HE
    cases h0 : decide (ar ≤ 600)
    · rw [h0] at HE
      go_enter Try.func9, Try.ntmps9
      go_wp2_with (first | ((with_reducible refine at_box 1 ?_); refine wpList_box_own O (M.mat 4 (r)) rfl ?_; clear O; intro g1 w1 O) | ((with_reducible refine at_load 3 ?_); refine wpList_whole rfl O 0 rfl rfl Try.underlying25 rfl (sR _) ?_) | (go_at_call 19; refine (CR _).mono ?_; rintro e w2 ⟨rfl, hb⟩; replace O := O.call hb; clear hb) | ((with_reducible refine at_load 7 ?_); refine wpList_whole rfl O 0 rfl rfl Try.underlying25 rfl (sR _) ?_) | (go_at_call 20; refine (CA _).mono ?_; rintro e w3 ⟨rfl, hb⟩; replace O := O.call hb; clear hb))
      go_ret
      exact ⟨by rw [HE.out]; rfl, O.below⟩
    · rw [h0] at HE
      go_enter Try.func9, Try.ntmps9
      go_wp2_with (first | ((with_reducible refine at_box 1 ?_); refine wpList_box_own O (M.mat 4 (r)) rfl ?_; clear O; intro g1 w1 O) | ((with_reducible refine at_load 3 ?_); refine wpList_whole rfl O 0 rfl rfl Try.underlying25 rfl (sR _) ?_) | (go_at_call 19; refine (CR _).mono ?_; rintro e w2 ⟨rfl, hb⟩; replace O := O.call hb; clear hb) | ((with_reducible refine at_load 7 ?_); refine wpList_whole rfl O 0 rfl rfl Try.underlying25 rfl (sR _) ?_) | (go_at_call 20; refine (CA _).mono ?_; rintro e w3 ⟨rfl, hb⟩; replace O := O.call hb; clear hb))
      go_ret
      exact ⟨by rw [HE.out]; rfl, O.below⟩
theorem builtR (x0 y0 x1 y1 : Int) : Try.prog.built 25 [(0, .int .i64 x0), (1, .int .i64 y0), (2, .int .i64 x1), (3, .int .i64 y1)] = some (M.mat 4 (RC.mk x0 y0 x1 y1)).toArray := by kernel_rfl
def DM.aw : List (Int × Int × Int) := [(0, 0, 0), (1, 1, 1)]
theorem wth_aw : DM.wth 128 128 640 384 (RC.mk (-9) (-9) 9 9) = DM.aw := by decide +kernel
theorem cnt_aw : DM.cnt14 128 128 640 384 = 2 := by decide +kernel
theorem within_aw (w : World) : Calls Try.prog 12 #[arr 2 (DM.t2 128 128), arr 2 (DM.t2 640 384), arr 4 (RC.mk (-9) (-9) 9 9)] w fun e w' => ∃ A c, e = .returned (.slice A 2 c) ∧ Lies w' free ⟨w.heap.size, A, 2, c, 3, tC DM.aw⟩ ∧ Below w.heap.size w w' := by
  have h := within_any (DM.t2 128 128) (DM.t2 640 384) (RC.mk (-9) (-9) 9 9) (by unfold DM.Rg DM.t2; decide) (by unfold DM.Rg DM.t2; decide) (fun _ => by unfold RC.mk; decide) w
  rw [show RC.right (RC.mk (-9) (-9) 9 9) = true by decide, if_pos rfl] at h
  change Calls Try.prog 12 _ w (RetT w (DM.wth 128 128 640 384 (RC.mk (-9) (-9) 9 9))) at h
  rw [wth_aw] at h
  exact h.mono (fun e w' h => h)
theorem count_aw (w : World) : Calls Try.prog 16 #[arr 2 (DM.t2 128 128), arr 2 (DM.t2 640 384)] w fun e w' => e = .returned (.int .i64 2) ∧ Below w.heap.size w w' := by
  have h := pcount_any (DM.t2 128 128) (DM.t2 640 384) (by unfold DM.Rg DM.t2; decide) (by unfold DM.Rg DM.t2; decide) w
  change Calls Try.prog 16 _ w (fun e w' => e = .returned (.int .i64 (DM.cnt14 128 128 640 384)) ∧ Below w.heap.size w w') at h
  rw [cnt_aw] at h
  exact h
theorem same_aw {lo1 lo2 : Nat} {A1 A2 : Option Addr} {c1 c2 : Nat} (w : World) (h1 : Lies w free ⟨lo1, A1, 2, c1, 3, tC DM.aw⟩) (h2 : Lies w free ⟨lo2, A2, 2, c2, 3, tC DM.aw⟩) : Calls Try.prog 11 #[.slice A1 2 c1, .slice A2 2 c2] w fun e w' => e = .returned (.bool true) ∧ Below w.heap.size w w' :=
  same_any DM.aw (by decide) w h1 h2
set_option maxRecDepth 100000 in
set_option maxHeartbeats 4000000 in
theorem awake_any (w : World) : Calls Try.prog 10 #[] w fun e w' => e = .returned (.bool true) ∧ Below w.heap.size w w' := by
  have O := Held.start w [] (by simp)
  go_enter Try.func10, Try.ntmps10
  go_wp2_with (first | ((with_reducible refine at_build 2 ?_); refine wpList_build_g rfl ([(0, .int .i64 128), (1, .int .i64 128)]) ((M.mat 2 (DM.t2 128 128)).toArray) ?_ (builtP _ _) ?_; (focus (simp only [List.map_toArray, List.map_cons, List.map_nil]; rfl))) | ((with_reducible refine at_build 3 ?_); refine wpList_build_g rfl ([(0, .int .i64 640), (1, .int .i64 384)]) ((M.mat 2 (DM.t2 640 384)).toArray) ?_ (builtP _ _) ?_; (focus (simp only [List.map_toArray, List.map_cons, List.map_nil]; rfl))) | ((with_reducible refine at_build 4 ?_); refine wpList_build_g rfl ([(0, .int .i64 (-9)), (1, .int .i64 (-9)), (2, .int .i64 9), (3, .int .i64 9)]) ((M.mat 4 (RC.mk (-9) (-9) 9 9)).toArray) ?_ (builtR _ _ _ _) ?_; (focus (simp only [List.map_toArray, List.map_cons, List.map_nil]; rfl))) | (go_at_call 12; refine (within_aw _).mono ?_; rintro e w2 ⟨VA, vc, rfl, hV, hb⟩; have O2 := O.gain hb hV; clear O hb hV; have O := O2; clear O2) | ((with_reducible refine at_build 7 ?_); refine wpList_build_g rfl ([]) ((M.mat 3 M.zero).toArray) ?_ (builtTz) ?_; (focus (simp only [List.map_toArray, List.map_cons, List.map_nil]; rfl))) | ((with_reducible refine at_build 8 ?_); refine wpList_build_g rfl ([(0, .int .i64 1), (1, .int .i64 1), (2, .int .i64 1)]) ((M.mat 3 (DM.t3 1 1 1)).toArray) ?_ (builtT _ _ _) ?_; (focus (simp only [List.map_toArray, List.map_cons, List.map_nil]; rfl))) | ((with_reducible refine at_lit 9 ?_); refine wpList_lit_h rfl O 3 (.agg (M.mat 3 M.zero).toArray) infoT Try.underlying30 [(0, arr 3 M.zero), (1, arr 3 (DM.t3 1 1 1))] (tC DM.aw) rfl (tC_len _) (by decide) (by decide) (by kernel_rfl) ?_; clear O; intro gl u5 O) | (go_at_call 11; refine (same_aw _ (O.arg (List.mem_cons_of_mem _ List.mem_cons_self)) (O.arg List.mem_cons_self)).mono ?_; rintro e w3 ⟨rfl, hb⟩; replace O := O.call hb; clear hb) | ((with_reducible refine at_build 12 ?_); refine wpList_build_g rfl ([(0, .int .i64 128), (1, .int .i64 128)]) ((M.mat 2 (DM.t2 128 128)).toArray) ?_ (builtP _ _) ?_; (focus (simp only [List.map_toArray, List.map_cons, List.map_nil]; rfl))) | ((with_reducible refine at_build 13 ?_); refine wpList_build_g rfl ([(0, .int .i64 640), (1, .int .i64 384)]) ((M.mat 2 (DM.t2 640 384)).toArray) ?_ (builtP _ _) ?_; (focus (simp only [List.map_toArray, List.map_cons, List.map_nil]; rfl))) | (go_at_call 16; refine (count_aw _).mono ?_; rintro e w4 ⟨rfl, hb⟩; replace O := O.call hb; clear hb))
  go_ret
  exact ⟨rfl, O.below⟩
end Go.Proofs.Ytheolajpjpnfjaa
