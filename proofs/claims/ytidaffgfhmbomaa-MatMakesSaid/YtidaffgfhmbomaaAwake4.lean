/- Contract of awake. -/
import Derived.Test.YtidaffgfhmbomaaTurn4
import Derived.Test.YtidaffgfhmbomaaApply4
namespace Go.Proofs.Ytidaffgfhmbomaa
open Go.ChangeShapes Go.WideShapes Go.ChangeAt Go.RowKit
set_option linter.unusedVariables false
set_option linter.unusedSimpArgs false

/-- Four numbers. -/
def M.four (a b c d : Int) : Nat → Int
  | 0 => a | 1 => b | 2 => c | _ => d
theorem built32 (a b c d : Int) : Try.prog.built 32 [(0, .int .i64 a), (1, .int .i64 b), (2, .int .i64 c), (3, .int .i64 d)] = some (M.mat 4 (M.four a b c d)).toArray := by kernel_rfl
/-- How two things are handed back, with what they are. -/
theorem two_is {n : Nat} {w : World} {r : (Nat → Int) × Int} {P : Program} {f : FuncId} {args : Array Value} (c : Calls P f args w (RetTwo n w r)) (a : Nat → Int) (k : Int) (h1 : M.mat n r.1 = M.mat n a) (h2 : r.2 = k) :
    Calls P f args w fun e w' => e = .returned (.tuple #[arr n a, .int .i64 k]) ∧ Below w.heap.size w w' :=
  c.mono fun e w' h => ⟨by rw [h.1, h2, arr, h1], h.2⟩
theorem aw_turn (w : World) : Calls Try.prog 22 #[.int .i64 2, .int .i64 1] w fun e w' => e = .returned (.tuple #[arr 16 (M.turnA 2 1), .int .i64 0]) ∧ Below w.heap.size w w' :=
  two_is (turn_any 2 1 w) _ _ (by kernel_rfl) (by kernel_rfl)
theorem aw_apply (w : World) : Calls Try.prog 18 #[arr 16 (M.turnA 2 1), arr 4 (M.four 65536 0 0 65536), .int .i64 68719476736] w fun e w' => e = .returned (.tuple #[arr 4 (M.four 0 65536 0 65536), .int .i64 0]) ∧ Below w.heap.size w w' :=
  two_is (apply_any (M.turnA 2 1) (M.four 65536 0 0 65536) 68719476736 w) _ _ (by kernel_rfl) (by kernel_rfl)
theorem aw_mul (w : World) : Calls Try.prog 9 #[arr 16 M.unit, arr 16 M.unit] w fun e w' => e = .returned (.tuple #[arr 16 M.unit, .int .i64 0]) ∧ Below w.heap.size w w' :=
  two_is (mul_any M.unit M.unit w) _ _ (by kernel_rfl) (by kernel_rfl)
theorem right_unit : M.right M.unit = true := by kernel_rfl
set_option maxHeartbeats 8000000 in
theorem awake_any (w : World) : Calls Try.prog 11 #[] w fun e w' => e = .returned (.bool true) ∧ Below w.heap.size w w' := by
  have O := Own.start w
  have hu2 := Try.underlying23
  have hu3 := Try.underlying32
  go_enter Try.func11, Try.ntmps11
  go_wp2_with (first | (go_at_call 22; refine (aw_turn _).mono ?_; rintro e w1 ⟨rfl, hb⟩; replace O := O.call hb; clear hb) | ((with_reducible refine at_alloc 1 ?_); refine wpList_alloc_own O (M.mat 16 M.zero) zero23 ?_; clear O; intro g1 w1 O) | ((with_reducible refine at_store 1 ?_); refine wpList_put_own O 0 (M.mat 16 (M.turnA 2 1)) rfl rfl rfl (s23 _) (M.mat_len2 _ _ _) (M.mat_one _ _) ?_; clear O; intro w1 O) | ((with_reducible refine at_load 12 ?_); refine wpList_row_own O 0 rfl rfl Try.underlying23 (s23 _) ?_) | ((with_reducible refine at_build 13 ?_); refine wpList_build_own [(0, .int .i64 65536), (1, .int .i64 0), (2, .int .i64 0), (3, .int .i64 65536)] (M.mat 4 (M.four 65536 0 0 65536)).toArray ?_ (built32 _ _ _ _) ?_; (focus simp [Act.eval])) | (go_at_call 18; refine (aw_apply _).mono ?_; rintro e w1 ⟨rfl, hb⟩; replace O := O.call hb; clear hb) | ((with_reducible refine at_alloc 3 ?_); refine wpList_alloc_own O (M.mat 4 M.zero) zero32 ?_; clear O; intro g3 w1 O) | ((with_reducible refine at_store 3 ?_); refine wpList_put_own O 0 (M.mat 4 (M.four 0 65536 0 65536)) rfl rfl rfl (s32 _) (M.mat_len2 _ _ _) (M.mat_one _ _) ?_; clear O; intro w1 O) | (go_at_call 16; refine (unit_any _).mono ?_; rintro e w1 ⟨rfl, hb⟩; replace O := O.call hb; clear hb) | (go_at_call 9; refine (aw_mul _).mono ?_; rintro e w1 ⟨rfl, hb⟩; replace O := O.call hb; clear hb) | ((with_reducible refine at_alloc 5 ?_); refine wpList_alloc_own O (M.mat 16 M.zero) zero23 ?_; clear O; intro g5 w1 O) | ((with_reducible refine at_store 5 ?_); refine wpList_put_own O 0 (M.mat 16 (M.unit)) rfl rfl rfl (s23 _) (M.mat_len2 _ _ _) (M.mat_one _ _) ?_; clear O; intro w1 O))
  refine region_V (fun w2 => Own w w2 [(g5, 23, M.mat 16 M.unit), (g3, 32, M.mat 4 (M.four 0 65536 0 65536)), (g1, 23, M.mat 16 (M.turnA 2 1))]) [0, 1, 2, 3, 4, 5, 6, 7, 8, 9, 10, 11, 12, 13, 14, 15, 16, 17, 18, 19, 20, 21, 22, 23] [some 23, some 24, some 25, some 26, some 27, some 28, some 29, some 30, some 31, some 32, some 33, some 34, some 35, some 36, some 37, some 38, some 39, some 40, some 41, some 42, some 43, some 44, some 45, some 46] [.int .i64 0, .bool true, .bool true, .int .i64 0, .bool true, .bool true, .bool true, .int .i64 0, .bool true, .bool true, .bool true, arr 4 (M.four 0 65536 0 65536), arr 4 (M.four 0 65536 0 65536), .bool true, .bool true, .bool true, arr 16 M.unit, arr 16 M.unit, .bool true, .bool true, .bool true, arr 16 M.unit, .bool true, .bool true] 1 (by kernel_rfl) (by kernel_rfl) (by rfl) (by rfl) (O.drew) (fun F hF => ?_)
  simp only [fillD, Act.put, List.setIfInBounds_toArray, List.set_cons_zero, List.set_cons_succ] at hF
  subst hF
  refine ⟨⟨does_want rfl (by rfl) (fun w' O K hK => ?_), does_want rfl (by rfl) (fun w' O K hK => ?_), does_want rfl (by rfl) (fun w' O K hK => ?_), does_want rfl (by rfl) (fun w' O K hK => ?_), does_want rfl (by rfl) (fun w' O K hK => ?_), does_want rfl (by rfl) (fun w' O K hK => ?_), does_want rfl (by rfl) (fun w' O K hK => ?_), does_want rfl (by rfl) (fun w' O K hK => ?_), does_want rfl (by rfl) (fun w' O K hK => ?_), does_want rfl (by rfl) (fun w' O K hK => ?_), does_want rfl (by rfl) (fun w' O K hK => ?_), does_want rfl (by rfl) (fun w' O K hK => ?_), does_want rfl (by rfl) (fun w' O K hK => ?_), does_want rfl (by rfl) (fun w' O K hK => ?_), does_want rfl (by rfl) (fun w' O K hK => ?_), does_want rfl (by rfl) (fun w' O K hK => ?_), does_want rfl (by rfl) (fun w' O K hK => ?_), does_want rfl (by rfl) (fun w' O K hK => ?_), does_want rfl (by rfl) (fun w' O K hK => ?_), does_want rfl (by rfl) (fun w' O K hK => ?_), does_want rfl (by rfl) (fun w' O K hK => ?_), does_want rfl (by rfl) (fun w' O K hK => ?_), does_want rfl (by rfl) (fun w' O K hK => ?_), does_want rfl (by rfl) (fun w' O K hK => ?_), trivial⟩, fun w' O => ?_⟩
  · go_simp
    exact hK _ O
  · go_simp
    exact hK _ O
  · go_simp
    exact hK _ O
  · go_simp
    exact hK _ O
  · go_simp
    exact hK _ O
  · go_simp
    exact hK _ O
  · go_simp
    exact hK _ O
  · go_simp
    exact hK _ O
  · go_simp
    exact hK _ O
  · go_simp
    exact hK _ O
  · go_simp
    exact hK _ O
  · exact wp_row_own O 1 rfl rfl Try.underlying32 (s32 _) (hK _ O)
  · exact wp_build_own [(0, .int .i64 0), (1, .int .i64 65536), (2, .int .i64 0), (3, .int .i64 65536)] (M.mat 4 (M.four 0 65536 0 65536)).toArray (by simp [Act.eval]) (built32 _ _ _ _) (hK _ O)
  · refine wp_eq_mat Try.underlying32 Try.eqGuardType32 (M.four 0 65536 0 65536) (M.four 0 65536 0 65536) rfl rfl ?_
    rw [M.eqB_refl]
    exact hK _ O
  · go_simp
    exact hK _ O
  · go_simp
    exact hK _ O
  · exact wp_row_own O 0 rfl rfl Try.underlying23 (s23 _) (hK _ O)
  · go_simp
    go_at_call 17
    refine (runit_any _).mono ?_
    rintro e w2 ⟨rfl, hb⟩
    exact hK _ (O.call hb)
  · refine wp_eq_mat Try.underlying23 Try.eqGuardType23 M.unit M.unit rfl rfl ?_
    rw [M.eqB_refl]
    exact hK _ O
  · go_simp
    exact hK _ O
  · go_simp
    exact hK _ O
  · exact wp_row_own O 0 rfl rfl Try.underlying23 (s23 _) (hK _ O)
  · go_simp
    go_at_call 12
    refine (right_any M.unit _).mono ?_
    rw [right_unit]
    rintro e w2 ⟨rfl, hb⟩
    exact hK _ (O.call hb)
  · go_simp
    exact hK _ O
  refine wpAny_one (i := 24) (by kernel_rfl) rfl (fun K hK => ?_)
  go_simp
  refine hK _ _ ?_
  clear hK K
  try simp only [Act.put, List.setIfInBounds_toArray, List.set_cons_zero, List.set_cons_succ]
  refine wpAny_done (by kernel_rfl) ?_ _
  go_wp2_with fail
  go_ret
  exact ⟨rfl, O.below⟩
end Go.Proofs.Ytidaffgfhmbomaa
