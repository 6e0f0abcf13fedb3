/- Contracts: within, among, place. -/
import Derived.Test.YtbjbafhlmcnceaaTt
namespace Go.Proofs.Ytbjbafhlmcnceaa
open Go.ChangeShapes Go.WideShapes Go.ChangeAt Go.RowKit
set_option linter.unusedVariables false
set_option linter.unusedSimpArgs false

set_option maxHeartbeats 1000000 in
theorem within_any (n lo hi : Int) (w : World) : Calls Try.prog 20 #[.int .i64 n, .int .i64 lo, .int .i64 hi] w fun e w' => e = .returned (.bool (D.inB lo hi n)) ∧ w = w' := by
  by_cases h2 : lo ≤ n
  · go_enter Try.func20, Try.ntmps20
    go_wp2_with fail
    go_ret
    exact ⟨by simp [D.inB, h2], rfl⟩
  · go_enter Try.func20, Try.ntmps20
    go_wp2_with fail
    go_ret
    exact ⟨by simp [D.inB, h2]; omega, rfl⟩
/-- Of the numbers ahead of k each is from lo to hi. -/
def upto (k : Nat) (lo hi : Int) (a : Nat → Int) : Prop := ∀ i, i < k → D.inB lo hi (a i) = true
set_option maxHeartbeats 2000000 in
theorem among_any (v : Nat → Int) (lo hi : Int) (w : World) : Calls Try.prog 19 #[arr 4 v, .int .i64 lo, .int .i64 hi] w fun e w' => e = .returned (.bool (D.allB 4 lo hi v)) ∧ Below w.heap.size w w' := by
  have O := Own.start w
  have hu := Try.underlying22
  go_enter Try.func19, Try.ntmps19
  go_wp2_with (first | ((with_reducible refine at_box 3 ?_); refine wpList_box_own O (M.mat 4 (v)) rfl ?_; clear O; intro g3 w1 O) | ((with_reducible refine at_load 9 ?_); refine wpList_whole rfl O 0 rfl rfl Try.underlying22 rfl (s22 _) ?_))
  have hB := O.below
  clear O
  go_loopw [10] (fun u wr => ∃ k : Nat, k ≤ 4 ∧ u = .int .i64 k ∧ upto k lo hi v ∧ w1 = wr) (fun v _ => 4 - (intOf v).toNat)
  case atStart => exact ⟨0, by omega, rfl, fun i hi => absurd hi (by omega), rfl⟩
  case round =>
    obtain ⟨k, hk, rfl, hall, rfl⟩ := hrel
    have q0 : (0 : Int) ≤ k := by omega
    have HA := Lib.hid hall
    clear hall
    by_cases hlt : k < 4
    · have q1 : (k : Int) < 4 := by omega
      have hix : ∀ w, (Instr.index 22 (arr 4 v) (.int .i64 k)).run Try.prog w = .ok (.int .i64 (v k)) w := fun w => run_index_mat Try.underlying22 v hlt w
      by_cases ha : v k < lo
      · go_wp2_with fail
        go_ret
        exact ⟨by rw [D.allB_no hlt (D.inB_no.2 (.inl ha))]; rfl, hB⟩
      · by_cases hb : hi < v k
        · go_wp2_with fail
          go_ret
          exact ⟨by rw [D.allB_no hlt (D.inB_no.2 (.inr hb))]; rfl, hB⟩
        · go_wp2_with fail
          go_roundw
          case rel => exact ⟨k + 1, by omega, by go_num, fun i hi => by
            by_cases e : i = k
            · subst e; exact D.inB_iff.2 ⟨by omega, by omega⟩
            · exact HA.out i (by omega), trivial⟩
          case measure => simp [intOf]; omega
    · have q1 : ¬ (k : Int) < 4 := by omega
      obtain rfl : k = 4 := by omega
      have E : D.allB 4 lo hi v = true := D.allB_iff.2 fun i hi => D.inB_iff.1 (HA.out i hi)
      have HE := Lib.hid E
      clear E
      go_wp2_with fail
      go_ret
      exact ⟨by rw [HE.out]; rfl, hB⟩
set_option maxHeartbeats 2000000 in
theorem place_any (v : Nat → Int) (w : World) : Calls Try.prog 21 #[arr 8 v] w fun e w' => e = .returned (arr 4 v) ∧ Below w.heap.size w w' := by
  have O := Own.start w
  go_enter Try.func21, Try.ntmps21
  go_wp2_with (first | ((with_reducible refine at_box 1 ?_); refine wpList_box_own O (M.mat 8 (v)) rfl ?_; clear O; intro g1 w1 O) | ((with_reducible refine at_alloc 2 ?_); refine wpList_alloc_own O (M.mat 4 M.zero) zero22 ?_; clear O; intro g2 w2 O) | ((with_reducible refine at_load 4 ?_); refine wpList_cell_h (v := .int .i64 ((v) (0))) rfl O.held 1 rfl (M.mat_get (by omega)) rfl agg3 rfl ?_) | ((with_reducible refine at_load 6 ?_); refine wpList_cell_h (v := .int .i64 ((v) (1))) rfl O.held 1 rfl (M.mat_get (by omega)) rfl agg3 rfl ?_) | ((with_reducible refine at_load 8 ?_); refine wpList_cell_h (v := .int .i64 ((v) (2))) rfl O.held 1 rfl (M.mat_get (by omega)) rfl agg3 rfl ?_) | ((with_reducible refine at_load 10 ?_); refine wpList_cell_h (v := .int .i64 ((v) (3))) rfl O.held 1 rfl (M.mat_get (by omega)) rfl agg3 rfl ?_) | ((with_reducible refine at_build 11 ?_); refine wpList_build_g rfl ([(0, .int .i64 (v 0)), (1, .int .i64 (v 1)), (2, .int .i64 (v 2)), (3, .int .i64 (v 3))]) ((M.mat 4 v).toArray) ?_ (built22 v) ?_; (focus (simp only [List.map_toArray, List.map_cons, List.map_nil]; rfl))) | ((with_reducible refine at_store 2 ?_); refine wpList_put_own O 0 (M.mat 4 (v)) rfl rfl rfl (s22 _) (M.mat_len2 _ _ _) (M.mat_one _ _) ?_; clear O; intro w3 O))
  exact bodyPost_ret (v := arr 4 v) (res_cell rfl O 0 rfl rfl Try.underlying22 (s22 _)) rfl ⟨rfl, O.below⟩
end Go.Proofs.Ytbjbafhlmcnceaa
