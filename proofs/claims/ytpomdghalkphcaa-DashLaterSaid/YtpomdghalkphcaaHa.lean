/- Contract: the law's example. -/
import Derived.Test.YtpomdghalkphcaaHu
import Derived.Test.YtpomdghalkphcaaHr
namespace Go.Proofs.Ytpomdghalkphcaa
open Go.ChangeShapes Go.WideShapes Go.ChangeAt Go.RowKit
set_option linter.unusedVariables false
set_option linter.unusedSimpArgs false

def HM.ex : Nat → Int := HM.t3 5 2 0
theorem HM.ex_right : HM.right HM.ex = true := by decide
theorem HM.ex_1 : HM.litF HM.ex 1 = true := by decide
theorem HM.ex_2 : HM.litF HM.ex 2 = false := by decide
theorem HM.ex_5 : HM.litF HM.ex 5 = true := by decide
theorem HM.ex_runs : HM.runs (fun k : Nat => HM.litF HM.ex k) 9 = [(0, 2), (4, 6)] := by decide +kernel
theorem runs_aw (w : World) : Calls Try.prog 16 #[arr 3 HM.ex, .int .i64 9] w (RetT w [(0, 2), (4, 6)]) := by
  have h := pruns_any HM.ex HM.ex_right 9 (by decide) w
  rw [HM.ex_runs] at h
  exact h
theorem same_aw {lo1 lo2 : Nat} {A1 A2 : Option Addr} {c1 c2 : Nat} (w : World) (h1 : Lies w free ⟨lo1, A1, 2, c1, 2, tC [(0, 2), (4, 6)]⟩) (h2 : Lies w free ⟨lo2, A2, 2, c2, 2, tC [(0, 2), (4, 6)]⟩) : Calls Try.prog 15 #[.slice A1 2 c1, .slice A2 2 c2] w fun e w' => e = .returned (.bool true) ∧ Below w.heap.size w w' :=
  same_any [(0, 2), (4, 6)] (by decide) w h1 h2
set_option maxRecDepth 100000 in
set_option maxHeartbeats 4000000 in
theorem awake_any (w : World) : Calls Try.prog 10 #[] w fun e w' => e = .returned (.bool true) ∧ Below w.heap.size w w' := by
  have O := Held.start w [] (by simp)
  have CR := fun w => pright_any HM.ex w
  have C1 := fun w => plit_any HM.ex 1 HM.ex_right (by decide) w
  have C2 := fun w => plit_any HM.ex 2 HM.ex_right (by decide) w
  have C5 := fun w => plit_any HM.ex 5 HM.ex_right (by decide) w
  rw [HM.ex_right] at CR
  rw [HM.ex_1] at C1
  rw [HM.ex_2] at C2
  rw [HM.ex_5] at C5
  have tok0 : True := trivial
  go_enter Try.func10, Try.ntmps10
  go_wp2_with (first | ((with_reducible refine at_build 2 ?_); refine wpList_build_g rfl ([(0, .int .i64 5), (1, .int .i64 2)]) ((M.mat 3 HM.ex).toArray) ?_ (builtH _ _) ?_; (focus (simp only [List.map_toArray, List.map_cons, List.map_nil]; rfl))) | ((with_reducible refine at_alloc 1 ?_); refine wpList_alloc_h O (M.mat 3 M.zero) zeroH ?_; clear O; intro g1 w1 O) | ((with_reducible refine at_store 1 ?_); refine wpList_put_h O 0 (M.mat 3 (HM.ex)) rfl rfl rfl (sH _) (M.mat_len2 _ _ _) (M.mat_one _ _) ?_; clear O; intro w2 O) | ((with_reducible refine at_load 3 ?_); refine wpList_rowg_h rfl O 0 rfl rfl Try.underlying23 rfl (sH _) ?_) | (go_at_call 7; refine (CR _).mono ?_; rintro e w3 ⟨rfl, hb⟩; replace O := O.call hb; clear hb) | ((with_reducible refine at_load 6 ?_); refine wpList_rowg_h rfl O 0 rfl rfl Try.underlying23 rfl (sH _) ?_) | (go_at_call 11; clear tok0; have tok1 : True := trivial; refine (C1 _).mono ?_; rintro e w3 ⟨rfl, hb⟩; replace O := O.call hb; clear hb) | ((with_reducible refine at_load 10 ?_); refine wpList_rowg_h rfl O 0 rfl rfl Try.underlying23 rfl (sH _) ?_) | (go_at_call 11; clear tok1; have tok2 : True := trivial; refine (C2 _).mono ?_; rintro e w3 ⟨rfl, hb⟩; replace O := O.call hb; clear hb) | ((with_reducible refine at_load 15 ?_); refine wpList_rowg_h rfl O 0 rfl rfl Try.underlying23 rfl (sH _) ?_) | (go_at_call 11; clear tok2; have tok3 : True := trivial; refine (C5 _).mono ?_; rintro e w3 ⟨rfl, hb⟩; replace O := O.call hb; clear hb) | ((with_reducible refine at_load 19 ?_); refine wpList_rowg_h rfl O 0 rfl rfl Try.underlying23 rfl (sH _) ?_) | (go_at_call 16; refine (runs_aw _).mono ?_; rintro e w2 ⟨VA, vc, rfl, hV, hb⟩; have O2 := O.gain hb hV; clear O hb hV; have O := O2; clear O2) | ((with_reducible refine at_build 21 ?_); refine wpList_build_g rfl ([(0, .int .i64 0), (1, .int .i64 2)]) ((M.mat 2 (HM.t2 0 2)).toArray) ?_ (builtD _ _) ?_; (focus (simp only [List.map_toArray, List.map_cons, List.map_nil]; rfl))) | ((with_reducible refine at_build 22 ?_); refine wpList_build_g rfl ([(0, .int .i64 4), (1, .int .i64 6)]) ((M.mat 2 (HM.t2 4 6)).toArray) ?_ (builtD _ _) ?_; (focus (simp only [List.map_toArray, List.map_cons, List.map_nil]; rfl))) | ((with_reducible refine at_lit 23 ?_); refine wpList_lit_h rfl O 2 (.agg (M.mat 2 M.zero).toArray) infoD Try.underlying31 [(0, arr 2 (HM.t2 0 2)), (1, arr 2 (HM.t2 4 6))] (tC [(0, 2), (4, 6)]) rfl (tC_len _) (by decide) (by decide) (by kernel_rfl) ?_; clear O; intro gl u5 O) | (go_at_call 15; refine (same_aw _ (O.arg (List.mem_cons_of_mem _ List.mem_cons_self)) (O.arg List.mem_cons_self)).mono ?_; rintro e w3 ⟨rfl, hb⟩; replace O := O.call hb; clear hb))
  go_ret
  exact ⟨rfl, O.below⟩
end Go.Proofs.Ytpomdghalkphcaa
