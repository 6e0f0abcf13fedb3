/- Contracts: Same, awake. -/
import Derived.Test.YthioeohmnlppcaaWf
namespace Go.Proofs.Ythioeohmnlppcaa
open Go.ChangeShapes Go.WideShapes Go.ChangeAt Go.RowKit
set_option linter.unusedVariables false
set_option linter.unusedSimpArgs false

set_option maxRecDepth 100000 in
set_option maxHeartbeats 8000000 in
theorem same_any (l : List (Nat → Int)) {lo1 lo2 : Nat} {A1 A2 : Option Addr} {c1 c2 : Nat} (h9 : l.length ≤ 1000) (w : World) (h1 : Lies w free (rE lo1 A1 c1 l)) (h2 : Lies w free (rE lo2 A2 c2 l)) :
    Calls Try.prog 18 #[.slice A1 l.length c1, .slice A2 l.length c2] w fun e w' => e = .returned (.bool true) ∧ Below w.heap.size w w' := by
  have O := Held.start w [rE lo1 A1 c1 l, rE lo2 A2 c2 l] (by
    intro x hx
    simp only [List.mem_cons, List.not_mem_nil, or_false] at hx
    rcases hx with rfl | rfl
    · exact h1
    · exact h2)
  clear h1 h2
  have k1 : ((l.length : Int) != (l.length : Int)) = false := by simp
  go_enter Try.func18, Try.ntmps18
  go_wp2_with fail
  clear k1
  go_loopw [5] (fun t wr => ∃ k : Nat, k ≤ l.length ∧ t = .int .i64 k ∧ Held w wr [] nilRow [rE lo1 A1 c1 l, rE lo2 A2 c2 l]) (fun t _ => l.length - (intOf t).toNat)
  case atStart => exact ⟨0, Nat.zero_le _, rfl, O⟩
  case round =>
    clear O
    obtain ⟨k, hk, rfl, O⟩ := hrel
    have q0 : (0 : Int) ≤ k := by omega
    by_cases hlt : k < l.length
    · have q1 : (k : Int) < l.length := by omega
      obtain ⟨x, hx⟩ : ∃ x, l[k]? = some x := ⟨_, List.getElem?_eq_getElem hlt⟩
      have HX := Lib.hid hx
      clear hx
      go_wp2_with fail
      refine region_T ((fun w2 => Held w w2 [] nilRow [rE lo1 A1 c1 l, rE lo2 A2 c2 l])) [0, 1, 2, 3, 4, 5, 6, 7, 8] 12 [some 17, some 18, some 19, some 20, some 21, some 22, some 23, some 24, some 25] [.slice A1 l.length c1, .int .i64 k, .pointer (some ((adr A1).add (k * 4))), arr 4 x, .slice A2 l.length c2, .int .i64 k, .pointer (some ((adr A2).add (k * 4))), arr 4 x, .bool false] 0 (by kernel_rfl) (by rfl) (by kernel_rfl) (by rfl) (by rfl) (O.drew) (fun F hF => ?_)
      simp only [fillD, Act.put, List.setIfInBounds_toArray, List.set_cons_zero, List.set_cons_succ] at hF
      subst hF
      refine ⟨⟨does_want rfl (by rfl) (fun w' O K hK => ?_), does_want rfl (by rfl) (fun w' O K hK => ?_), does_want rfl (by rfl) (fun w' O K hK => ?_), does_want rfl (by rfl) (fun w' O K hK => ?_), does_want rfl (by rfl) (fun w' O K hK => ?_), does_want rfl (by rfl) (fun w' O K hK => ?_), does_want rfl (by rfl) (fun w' O K hK => ?_), does_want rfl (by rfl) (fun w' O K hK => ?_), does_want rfl (by rfl) (fun w' O K hK => ?_), trivial⟩, fun w' O => ?_⟩
      · go_simp
        exact hK _ O
      · go_simp
        exact hK _ O
      · exact wp_at_h Try.underlying34 sizeOfR _ (O.mem List.mem_cons_self) rfl (k) rfl rfl (by omega) rfl (hK _ O)
      · exact wp_elem_h _ (O.mem List.mem_cons_self) (k * 4) (M.mat 4 (x)) (rC_at HX.out) (by rw [M.mat_len]; decide) rfl Try.underlying23 rfl (sR _) (hK _ O)
      · go_simp
        exact hK _ O
      · go_simp
        exact hK _ O
      · exact wp_at_h Try.underlying34 sizeOfR _ (O.mem (List.mem_cons_of_mem _ List.mem_cons_self)) rfl (k) rfl rfl (by omega) rfl (hK _ O)
      · exact wp_elem_h _ (O.mem (List.mem_cons_of_mem _ List.mem_cons_self)) (k * 4) (M.mat 4 (x)) (rC_at HX.out) (by rw [M.mat_len]; decide) rfl Try.underlying23 rfl (sR _) (hK _ O)
      · refine wp_neqR x x rfl rfl ?_
        rw [M.eqB_refl]
        exact hK _ O
      refine wpAny_done (by kernel_rfl) ?_ _
      go_wp2_with fail
      go_roundw
      case rel => exact ⟨k + 1, by omega, by go_num, O⟩
      case measure => simp [intOf]; omega
    · have q1 : ¬ (k : Int) < l.length := by omega
      go_wp2_with fail
      go_ret
      exact ⟨rfl, O.below⟩
def RC.aw : List (Nat → Int) := [RC.mk 0 0 3 1, RC.mk 0 2 3 3, RC.mk 0 1 1 2, RC.mk 2 1 3 2]
theorem aw_is : RC.minus (RC.mk 0 0 3 3) (RC.mk 1 1 2 2) = RC.aw := by kernel_rfl
theorem builtA : Try.prog.built 23 [(2, .int .i64 3), (3, .int .i64 3)] = some (M.mat 4 (RC.mk 0 0 3 3)).toArray := by kernel_rfl
theorem area_aw0 (w : World) : Calls Try.prog 12 #[arr 4 (RC.mk 0 0 3 1)] w fun e w' => e = .returned (.int .i64 3) ∧ Below w.heap.size w w' := area_any (RC.mk 0 0 3 1) w
theorem area_aw2 (w : World) : Calls Try.prog 12 #[arr 4 (RC.mk 0 1 1 2)] w fun e w' => e = .returned (.int .i64 1) ∧ Below w.heap.size w w' := area_any (RC.mk 0 1 1 2) w
theorem has_aw3 (w : World) : Calls Try.prog 14 #[arr 4 (RC.mk 2 1 3 2), .int .i64 2, .int .i64 1] w fun e w' => e = .returned (.bool true) ∧ Below w.heap.size w w' := has_any (RC.mk 2 1 3 2) 2 1 w
theorem minus_aw (w : World) : Calls Try.prog 19 #[arr 4 (RC.mk 0 0 3 3), arr 4 (RC.mk 1 1 2 2)] w fun e w' => ∃ A c, e = .returned (.slice A 4 c) ∧ Lies w' free ⟨w.heap.size, A, 4, c, 4, rC RC.aw⟩ ∧ Below w.heap.size w w' := by
  refine (minus_any (RC.mk 0 0 3 3) (RC.mk 1 1 2 2) w).mono ?_
  rw [aw_is]
  exact fun e w' h => h
set_option maxRecDepth 100000 in
set_option maxHeartbeats 4000000 in
theorem awake_any (w : World) : Calls Try.prog 9 #[] w fun e w' => e = .returned (.bool true) ∧ Below w.heap.size w w' := by
  have O := Held.start w [] (by simp)
  have tok0 : True := trivial
  go_enter Try.func9, Try.ntmps9
  go_wp2_with (first | ((with_reducible refine at_build 2 ?_); refine wpList_build_g rfl ([(2, .int .i64 3), (3, .int .i64 3)]) ((M.mat 4 (RC.mk 0 0 3 3)).toArray) ?_ (builtA) ?_; (focus (simp only [List.map_toArray, List.map_cons, List.map_nil]; rfl))) | ((with_reducible refine at_build 3 ?_); refine wpList_build_g rfl ([(0, .int .i64 1), (1, .int .i64 1), (2, .int .i64 2), (3, .int .i64 2)]) ((M.mat 4 (RC.mk 1 1 2 2)).toArray) ?_ (builtR _ _ _ _) ?_; (focus (simp only [List.map_toArray, List.map_cons, List.map_nil]; rfl))) | (go_at_call 19; refine (minus_aw _).mono ?_; rintro e w2 ⟨VA, vc, rfl, hV, hb⟩; have O2 := O.gain hb hV; clear O hb hV; have O := O2; clear O2) | ((with_reducible refine at_index_ 10 ?_); refine wpList_at_h rfl Try.underlying34 sizeOfR _ (O.mem List.mem_cons_self) rfl 0 rfl rfl (by decide) rfl ?_) | ((with_reducible refine at_load 11 ?_); refine wpList_elem_h rfl _ (O.mem List.mem_cons_self) (0 * 4) (M.mat 4 (RC.mk 0 0 3 1)) (rC_at (l := RC.aw) (i := 0) rfl) (by rw [M.mat_len]; decide) rfl Try.underlying23 rfl (sR _) ?_) | (go_at_call 12; clear tok0; have tok1 : True := trivial; refine (area_aw0 _).mono ?_; rintro e w3 ⟨rfl, hb⟩; replace O := O.call hb; clear hb) | ((with_reducible refine at_index_ 17 ?_); refine wpList_at_h rfl Try.underlying34 sizeOfR _ (O.mem List.mem_cons_self) rfl 2 rfl rfl (by decide) rfl ?_) | ((with_reducible refine at_load 18 ?_); refine wpList_elem_h rfl _ (O.mem List.mem_cons_self) (2 * 4) (M.mat 4 (RC.mk 0 1 1 2)) (rC_at (l := RC.aw) (i := 2) rfl) (by rw [M.mat_len]; decide) rfl Try.underlying23 rfl (sR _) ?_) | (go_at_call 12; clear tok1; have tok2 : True := trivial; refine (area_aw2 _).mono ?_; rintro e w4 ⟨rfl, hb⟩; replace O := O.call hb; clear hb) | ((with_reducible refine at_index_ 24 ?_); refine wpList_at_h rfl Try.underlying34 sizeOfR _ (O.mem List.mem_cons_self) rfl 3 rfl rfl (by decide) rfl ?_) | ((with_reducible refine at_load 25 ?_); refine wpList_elem_h rfl _ (O.mem List.mem_cons_self) (3 * 4) (M.mat 4 (RC.mk 2 1 3 2)) (rC_at (l := RC.aw) (i := 3) rfl) (by rw [M.mat_len]; decide) rfl Try.underlying23 rfl (sR _) ?_) | (go_at_call 14; refine (has_aw3 _).mono ?_; rintro e w5 ⟨rfl, hb⟩; replace O := O.call hb; clear hb))
  go_ret
  exact ⟨rfl, O.below⟩
end Go.Proofs.Ythioeohmnlppcaa
