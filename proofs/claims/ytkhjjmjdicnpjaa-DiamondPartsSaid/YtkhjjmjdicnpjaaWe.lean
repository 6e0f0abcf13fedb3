/- Contracts: the document's Exits, awake. -/
import Derived.Test.YtkhjjmjdicnpjaaWc
import Derived.Test.YtkhjjmjdicnpjaaDs
namespace Go.Proofs.Ytkhjjmjdicnpjaa
open Go.ChangeShapes Go.WideShapes Go.ChangeAt Go.RowKit
set_option linter.unusedVariables false
set_option linter.unusedSimpArgs false

set_option maxHeartbeats 4000000 in
theorem rexits_any (a b : Nat → Int) (x y : Int) (ha : DM.Rg a) (hb : DM.Rg b) (hx : DM.Rx x y) (w : World) :
    Calls Try.prog 16 #[arr 2 a, arr 2 b, .int .i64 x, .int .i64 y] w fun e w' => e = .returned (.bool (DM.exits (DM.rel (a 0) x) (DM.rel (a 1) y) (DM.rel (b 0) x) (DM.rel (b 1) y))) ∧ Below w.heap.size w w' := by
  have O := Own.start w
  have CM := fun w => rmeets_any a b x y ⟨ha, hb⟩ hx w
  have CI := fun w => inside_any b x y (by unfold DM.Rg at hb; omega) (by unfold DM.Rx at hx; omega) w
  have HE : Hid (DM.exits (DM.rel (a 0) x) (DM.rel (a 1) y) (DM.rel (b 0) x) (DM.rel (b 1) y) = (DM.meets (DM.rel (a 0) x) (DM.rel (a 1) y) (DM.rel (b 0) x) (DM.rel (b 1) y) && !DM.inside (DM.rel (b 0) x) (DM.rel (b 1) y))) := Lib.hid rfl
  generalize DM.exits (DM.rel (a 0) x) (DM.rel (a 1) y) (DM.rel (b 0) x) (DM.rel (b 1) y) = z at *
  generalize DM.meets (DM.rel (a 0) x) (DM.rel (a 1) y) (DM.rel (b 0) x) (DM.rel (b 1) y) = m at *
  generalize DM.inside (DM.rel (b 0) x) (DM.rel (b 1) y) = i at *
  clear ha hb hx
  cases m <;> cases i
  all_goals
    go_enter Try.func16, Try.ntmps16
    go_wp2_with (first | ((with_reducible refine at_box 4 ?_); refine wpList_box_own O (M.mat 2 (a)) rfl ?_; clear O; intro g4 w1 O) | ((with_reducible refine at_box 5 ?_); refine wpList_box_own O (M.mat 2 (b)) rfl ?_; clear O; intro g5 w2 O) | ((with_reducible refine at_load 9 ?_); refine wpList_whole rfl O 1 rfl rfl Try.underlying23 rfl (sP _) ?_) | ((with_reducible refine at_load 10 ?_); refine wpList_whole rfl O 0 rfl rfl Try.underlying23 rfl (sP _) ?_) | (go_at_call 14; refine (CM _).mono ?_; rintro e w3 ⟨rfl, hb⟩; replace O := O.call hb; clear hb) | ((with_reducible refine at_load 15 ?_); refine wpList_whole rfl O 0 rfl rfl Try.underlying23 rfl (sP _) ?_) | (go_at_call 18; refine (CI _).mono ?_; rintro e w4 ⟨rfl, hb⟩; replace O := O.call hb; clear hb))
    go_ret
    exact ⟨by rw [HE.out]; rfl, O.below⟩
theorem in_aw1 (w : World) : Calls Try.prog 10 #[arr 2 (DM.t2 256 128)] w fun e w' => e = .returned (.tuple #[.int .i64 0, .int .i64 0, .bool true]) ∧ Below w.heap.size w w' := by
  have := in_any (DM.t2 256 128) (by unfold DM.Rg DM.t2; decide) w
  exact this
theorem in_aw2 (w : World) : Calls Try.prog 10 #[arr 2 (DM.t2 0 128)] w fun e w' => e = .returned (.tuple #[.int .i64 (-1), .int .i64 0, .bool true]) ∧ Below w.heap.size w w' := by
  have := in_any (DM.t2 0 128) (by unfold DM.Rg DM.t2; decide) w
  exact this
theorem meets_aw1 (w : World) : Calls Try.prog 13 #[arr 2 (DM.t2 0 128), arr 2 (DM.t2 999 128), .int .i64 2, .int .i64 0] w fun e w' => e = .returned (.bool true) ∧ Below w.heap.size w w' := by
  have := meets_any (DM.t2 0 128) (DM.t2 999 128) 2 0 (by unfold DM.Rg DM.t2; decide) (by unfold DM.Rg DM.t2; decide) (by unfold DM.Rx; decide) w
  rwa [show DM.meets (DM.rel (DM.t2 0 128 0) 2) (DM.rel (DM.t2 0 128 1) 0) (DM.rel (DM.t2 999 128 0) 2) (DM.rel (DM.t2 999 128 1) 0) = true by decide] at this
theorem meets_aw2 (w : World) : Calls Try.prog 13 #[arr 2 (DM.t2 0 128), arr 2 (DM.t2 999 128), .int .i64 2, .int .i64 1] w fun e w' => e = .returned (.bool false) ∧ Below w.heap.size w w' := by
  have := meets_any (DM.t2 0 128) (DM.t2 999 128) 2 1 (by unfold DM.Rg DM.t2; decide) (by unfold DM.Rg DM.t2; decide) (by unfold DM.Rx; decide) w
  rwa [show DM.meets (DM.rel (DM.t2 0 128 0) 2) (DM.rel (DM.t2 0 128 1) 1) (DM.rel (DM.t2 999 128 0) 2) (DM.rel (DM.t2 999 128 1) 1) = false by decide] at this
set_option maxRecDepth 100000 in
set_option maxHeartbeats 4000000 in
theorem awake_any (w : World) : Calls Try.prog 9 #[] w fun e w' => e = .returned (.bool true) ∧ Below w.heap.size w w' := by
  have O := Own.start w
  have tok0 : True := trivial
  go_enter Try.func9, Try.ntmps9
  go_wp2_with (first | ((with_reducible refine at_build 8 ?_); refine wpList_build_g rfl ([(0, .int .i64 256), (1, .int .i64 128)]) ((M.mat 2 (DM.t2 256 128)).toArray) ?_ (builtP _ _) ?_; (focus (simp only [List.map_toArray, List.map_cons, List.map_nil]; rfl))) | (go_at_call 10; clear tok0; have tok1 : True := trivial; refine (in_aw1 _).mono ?_; rintro e w1 ⟨rfl, hb⟩; replace O := O.call hb; clear hb) | ((with_reducible refine at_build 14 ?_); refine wpList_build_g rfl ([(0, .int .i64 0), (1, .int .i64 128)]) ((M.mat 2 (DM.t2 0 128)).toArray) ?_ (builtP _ _) ?_; (focus (simp only [List.map_toArray, List.map_cons, List.map_nil]; rfl))) | (go_at_call 10; clear tok1; have tok2 : True := trivial; refine (in_aw2 _).mono ?_; rintro e w2 ⟨rfl, hb⟩; replace O := O.call hb; clear hb) | ((with_reducible refine at_build 40 ?_); refine wpList_build_g rfl ([(0, .int .i64 0), (1, .int .i64 128)]) ((M.mat 2 (DM.t2 0 128)).toArray) ?_ (builtP _ _) ?_; (focus (simp only [List.map_toArray, List.map_cons, List.map_nil]; rfl))) | ((with_reducible refine at_build 41 ?_); refine wpList_build_g rfl ([(0, .int .i64 999), (1, .int .i64 128)]) ((M.mat 2 (DM.t2 999 128)).toArray) ?_ (builtP _ _) ?_; (focus (simp only [List.map_toArray, List.map_cons, List.map_nil]; rfl))) | (go_at_call 13; clear tok2; have tok3 : True := trivial; refine (meets_aw1 _).mono ?_; rintro e w3 ⟨rfl, hb⟩; replace O := O.call hb; clear hb) | ((with_reducible refine at_build 45 ?_); refine wpList_build_g rfl ([(0, .int .i64 0), (1, .int .i64 128)]) ((M.mat 2 (DM.t2 0 128)).toArray) ?_ (builtP _ _) ?_; (focus (simp only [List.map_toArray, List.map_cons, List.map_nil]; rfl))) | ((with_reducible refine at_build 46 ?_); refine wpList_build_g rfl ([(0, .int .i64 999), (1, .int .i64 128)]) ((M.mat 2 (DM.t2 999 128)).toArray) ?_ (builtP _ _) ?_; (focus (simp only [List.map_toArray, List.map_cons, List.map_nil]; rfl))) | (go_at_call 13; clear tok3; have tok4 : True := trivial; refine (meets_aw2 _).mono ?_; rintro e w4 ⟨rfl, hb⟩; replace O := O.call hb; clear hb))
  go_ret
  exact ⟨rfl, O.below⟩
end Go.Proofs.Ytkhjjmjdicnpjaa
