/- Contract: what the program asks of a vertex. -/
import Derived.Test.YtbmigbmeadgopaaVc
namespace Go.Proofs.Ytbmigbmeadgopaa
open Go.ChangeShapes Go.WideShapes Go.ChangeAt Go.RowKit
set_option linter.unusedVariables false
set_option linter.unusedSimpArgs false

/-- What the program asks of a vertex. -/
def V.ok (v : Nat → Int) : Bool := D.fits v && decide (1 ≤ v 3)
theorem V.ok_bad1 {v : Nat → Int} {i : Nat} (hi : i < 3) (h : D.inB (-68719476736) 68719476736 (v i) = false) : V.ok v = false := by
  rw [V.ok, D.fits, D.place, D.allB_no (show i < 4 by omega) h, Bool.false_and, Bool.false_and]
theorem V.ok_bad2 {v : Nat → Int} {i : Nat} (hi : i < 4) (h : D.inB 0 255 (v (4 + i)) = false) : V.ok v = false := by
  rw [V.ok, D.fits, D.color, D.allB_no (a := D.sub 4 v) hi h, Bool.and_false, Bool.false_and]
theorem V.ok_end {v : Nat → Int} (h : ∀ i, i < 3 → D.inB (-68719476736) 68719476736 (v i) = true) (h4 : ∀ i, i < 4 → D.inB 0 255 (v (4 + i)) = true) : D.inB 1 68719476736 (v 3) = V.ok v := by
  have hf : D.fits v = D.inB (-68719476736) 68719476736 (v 3) := by
    rw [Bool.eq_iff_iff, D.fits_iff, D.inB_iff]
    refine ⟨fun hh => hh.1 3 (by omega), fun hh => ⟨fun i hi => ?_, fun i hi => D.inB_iff.1 (h4 i hi)⟩⟩
    by_cases e : i = 3
    · subst e; exact hh
    · exact D.inB_iff.1 (h i (by omega))
  rw [V.ok, hf, Bool.eq_iff_iff, Bool.and_eq_true, D.inB_iff, D.inB_iff, decide_eq_true_eq]
  omega
theorem V.good_ok (v p : Nat → Int) : V.good v p = (V.ok v && V.port p) := by
  rw [V.good, V.ok, Bool.and_assoc]
set_option maxHeartbeats 2000000 in
theorem ok_any (v : Nat → Int) (w : World) : Calls Try.prog 15 #[arr 8 v] w fun e w' => e = .returned (.bool (V.ok v)) ∧ Below w.heap.size w w' := by
  have O := Own.start w
  go_enter Try.func15, Try.ntmps15
  go_wp2_with (first | ((with_reducible refine at_box 1 ?_); refine wpList_box_own O (M.mat 8 (v)) rfl ?_; clear O; intro g1 w1 O) | ((with_reducible refine at_load 8 ?_); refine wpList_cell_h (v := .int .i64 ((v) (0))) rfl O.held 0 rfl (M.mat_get (by omega)) rfl agg3 rfl ?_) | ((with_reducible refine at_load 10 ?_); refine wpList_cell_h (v := .int .i64 ((v) (1))) rfl O.held 0 rfl (M.mat_get (by omega)) rfl agg3 rfl ?_) | ((with_reducible refine at_load 12 ?_); refine wpList_cell_h (v := .int .i64 ((v) (2))) rfl O.held 0 rfl (M.mat_get (by omega)) rfl agg3 rfl ?_) | ((with_reducible refine at_build 13 ?_); refine wpList_build_g rfl ([(0, .int .i64 (v 0)), (1, .int .i64 (v 1)), (2, .int .i64 (v 2))]) ((M.mat 3 v).toArray) ?_ (builtT v) ?_; (focus (simp only [List.map_toArray, List.map_cons, List.map_nil]; rfl))))
  go_loopw [14] (fun u wr => ∃ k : Nat, k ≤ 3 ∧ u = .int .i64 k ∧ Hid (∀ i, i < k → D.inB (-68719476736) 68719476736 (v i) = true) ∧ w1 = wr) (fun v _ => 3 - (intOf v).toNat)
  case atStart => exact ⟨0, by omega, rfl, Lib.hid (fun i hi => absurd hi (by omega)), rfl⟩
  case round =>
    obtain ⟨k, hk, rfl, HA, rfl⟩ := hrel
    have q0 : (0 : Int) ≤ k := by omega
    have hB := O.below
    by_cases hlt : k < 3
    · have q1 : (k : Int) < 3 := by omega
      have hix : ∀ w, (Instr.index 50 (arr 3 v) (.int .i64 k)).run Try.prog w = .ok (.int .i64 (v k)) w := fun w => run_index_mat Try.underlying50 v hlt w
      have C := fun w => among_any (v k) (-68719476736) 68719476736 w
      cases hc : D.inB (-68719476736) 68719476736 (v k)
      · have HF := Lib.hid (V.ok_bad1 hlt hc)
        rw [hc] at C
        clear hc
        go_wp2_with (go_at_call 21; refine (C _).mono ?_; rintro e w' ⟨rfl, rfl⟩)
        go_ret
        exact ⟨by rw [HF.out]; rfl, hB⟩
      · have HC := Lib.hid hc
        rw [hc] at C
        clear hc
        go_wp2_with (go_at_call 21; refine (C _).mono ?_; rintro e w' ⟨rfl, rfl⟩)
        go_roundw
        case rel => exact ⟨k + 1, by omega, by go_num, Lib.hid (fun i hi => by
          by_cases e : i = k
          · subst e; exact HC.out
          · exact HA.out i (by omega)), trivial⟩
        case measure => simp [intOf]; omega
    · have q1 : ¬ (k : Int) < 3 := by omega
      obtain rfl : k = 3 := by omega
      go_wp2_with ((with_reducible refine at_load 22 ?_); refine wpList_mid_h rfl O.held 0 rfl (M.mat 4 (D.sub 4 v)) (mat_sub v (by omega)) rfl Try.underlying23 rfl (s25 _) ?_)
      go_loopw [23] (fun u wr => ∃ k : Nat, k ≤ 4 ∧ u = .int .i64 k ∧ Hid (∀ i, i < k → D.inB 0 255 (v (4 + i)) = true) ∧ w1 = wr) (fun v _ => 4 - (intOf v).toNat)
      case atStart => exact ⟨0, by omega, rfl, Lib.hid (fun i hi => absurd hi (by omega)), rfl⟩
      case round =>
        obtain ⟨j, hj, rfl, HB, rfl⟩ := hrel
        have p0 : (0 : Int) ≤ j := by omega
        by_cases hlt : j < 4
        · have p1 : (j : Int) < 4 := by omega
          have hix : ∀ w, (Instr.index 23 (arr 4 (D.sub 4 v)) (.int .i64 j)).run Try.prog w = .ok (.int .i64 (v (4 + j))) w := fun w => run_index_mat Try.underlying23 (D.sub 4 v) hlt w
          have C := fun w => among_any (v (4 + j)) 0 255 w
          cases hc : D.inB 0 255 (v (4 + j))
          · have HF := Lib.hid (V.ok_bad2 hlt hc)
            rw [hc] at C
            clear hc
            go_wp2_with (go_at_call 21; refine (C _).mono ?_; rintro e w' ⟨rfl, rfl⟩)
            go_ret
            exact ⟨by rw [HF.out]; rfl, hB⟩
          · have HC := Lib.hid hc
            rw [hc] at C
            clear hc
            go_wp2_with (go_at_call 21; refine (C _).mono ?_; rintro e w' ⟨rfl, rfl⟩)
            go_roundw
            case rel => exact ⟨j + 1, by omega, by go_num, Lib.hid (fun i hi => by
              by_cases e : i = j
              · subst e; exact HC.out
              · exact HB.out i (by omega)), trivial⟩
            case measure => simp [intOf]; omega
        · have p1 : ¬ (j : Int) < 4 := by omega
          obtain rfl : j = 4 := by omega
          have HF := Lib.hid (V.ok_end HA.out HB.out)
          have C := fun w => among_any (v 3) 1 68719476736 w
          rw [HF.out] at C
          go_wp2_with (first | ((with_reducible refine at_load 31 ?_); refine wpList_cell_h (v := .int .i64 ((v) (3))) rfl O.held 0 rfl (M.mat_get (by omega)) rfl agg3 rfl ?_) | (go_at_call 21; refine (C _).mono ?_; rintro e w' ⟨rfl, rfl⟩))
          go_ret
          exact ⟨rfl, hB⟩
end Go.Proofs.Ytbmigbmeadgopaa
