/- Contracts: the law's awake, small. -/
import Derived.Test.YtdkppkdoconfhaaSc
import Derived.Test.YtdkppkdoconfhaaPc
import Derived.Test.YtdkppkdoconfhaaSp
import Derived.Test.YtdkppkdoconfhaaWr
namespace Go.Proofs.Ytdkppkdoconfhaa
open Go.ChangeShapes Go.WideShapes Go.ChangeAt Go.RowKit
set_option linter.unusedVariables false
set_option linter.unusedSimpArgs false

namespace SM
def ex : List (Nat → Int) := line (WD.wn 0 128) (WD.wn 512 128) 1 (RC.mk (-3) (-3) 5 5)
theorem ex_len : ex.length = 2 := by kernel_rfl
theorem ex_cov : (gC ex)[0 * 8 + 7]? = some (.int .i64 64) := by kernel_rfl
theorem ex_x : (gC ex)[1 * 8]? = some (.int .i64 1) := by kernel_rfl
theorem ex_c0 : cvr (WD.wn 128 128) (WD.wn 384 128) 1 0 0 = 32 := by kernel_rfl
theorem ex_c1 : cvr (WD.wn 128 128) (WD.wn 384 128) 1 1 0 = 32 := by kernel_rfl
theorem ex_area : RC.area (RC.mk (-3) (-3) 5 5) ≤ 100000 := by decide +kernel
end SM
theorem builtWy : Try.prog.built 25 [(1, .int .i64 128)] = some (M.mat 7 (WD.wn 0 128)).toArray := by kernel_rfl
set_option maxRecDepth 100000 in
set_option maxHeartbeats 8000000 in
theorem awake_any (w : World) : Calls Try.prog 9 #[] w fun e w' => e = .returned (.bool true) ∧ Below w.heap.size w w' := by
  have O := Held.start w [] (by simp)
  have CL := fun w => pline18_any (WD.wn 0 128) (WD.wn 512 128) 1 (RC.mk (-3) (-3) 5 5) SM.ex_area w
  change ∀ w, Calls _ _ _ w (RetG w SM.ex) at CL
  have C0 := fun w => pcover_any (WD.wn 128 128) (WD.wn 384 128) 1 0 0 (by decide) (by decide) w
  have C1 := fun w => pcover_any (WD.wn 128 128) (WD.wn 384 128) 1 1 0 (by decide) (by decide) w
  rw [SM.ex_c0] at C0
  rw [SM.ex_c1] at C1
  have hl := SM.ex_len
  have h0 := SM.ex_cov
  have h1 := SM.ex_x
  generalize SM.ex = l at *
  have K1 : ((l.length : Int) == 2) = true := by rw [hl]; rfl
  have T0 : True := trivial
  go_enter Try.func9, Try.ntmps9
  go_wp2_with (first | ((with_reducible refine at_build 4 ?_); refine wpList_build_g rfl ([(0, .int .i64 128), (1, .int .i64 128)]) ((M.mat 7 (WD.wn 128 128)).toArray) ?_ (builtW17 _ _) ?_; (focus (simp only [List.map_toArray, List.map_cons, List.map_nil]; rfl))) | ((with_reducible refine at_build 5 ?_); refine wpList_build_g rfl ([(0, .int .i64 384), (1, .int .i64 128)]) ((M.mat 7 (WD.wn 384 128)).toArray) ?_ (builtW17 _ _) ?_; (focus (simp only [List.map_toArray, List.map_cons, List.map_nil]; rfl))) | ((with_reducible refine at_alloc 1 ?_); refine wpList_alloc_h O (M.mat 7 M.zero) zeroW ?_; clear O; intro g1 w1 O) | ((with_reducible refine at_alloc 2 ?_); refine wpList_alloc_h O (M.mat 7 M.zero) zeroW ?_; clear O; intro g2 w2 O) | ((with_reducible refine at_store 1 ?_); refine wpList_put_h O 1 (M.mat 7 (WD.wn 128 128)) rfl rfl rfl (sW _) (M.mat_len2 _ _ _) (M.mat_one _ _) ?_; clear O; intro w3 O) | ((with_reducible refine at_store 2 ?_); refine wpList_put_h O 0 (M.mat 7 (WD.wn 384 128)) rfl rfl rfl (sW _) (M.mat_len2 _ _ _) (M.mat_one _ _) ?_; clear O; intro w4 O) | ((with_reducible refine at_build 6 ?_); refine wpList_build_g rfl ([(1, .int .i64 128)]) ((M.mat 7 (WD.wn 0 128)).toArray) ?_ (builtWy) ?_; (focus (simp only [List.map_toArray, List.map_cons, List.map_nil]; rfl))) | ((with_reducible refine at_build 7 ?_); refine wpList_build_g rfl ([(0, .int .i64 512), (1, .int .i64 128)]) ((M.mat 7 (WD.wn 512 128)).toArray) ?_ (builtW17 _ _) ?_; (focus (simp only [List.map_toArray, List.map_cons, List.map_nil]; rfl))) | ((with_reducible refine at_build 8 ?_); refine wpList_build_g rfl ([(0, .int .i64 (-3)), (1, .int .i64 (-3)), (2, .int .i64 5), (3, .int .i64 5)]) ((M.mat 4 (RC.mk (-3) (-3) 5 5)).toArray) ?_ (builtR17 _ _ _ _) ?_; (focus (simp only [List.map_toArray, List.map_cons, List.map_nil]; rfl))) | (go_at_call 13; refine (CL _).mono ?_; rintro e w5 ⟨XA, xc, rfl, hV, hb⟩; have O2 := O.gain hb hV; clear O hb hV; have O := O2; clear O2) | ((with_reducible refine at_index_ 15 ?_); refine wpList_at_h rfl Try.underlying34 sizeOfG (gE w.heap.size XA xc l) (O.mem List.mem_cons_self) rfl 0 rfl (by first | rfl | omega) (by decide) (hl.symm) ?_) | ((with_reducible refine at_load 17 ?_); refine wpList_ecell_h rfl (gE w.heap.size XA xc l) (O.mem List.mem_cons_self) (0 * 8 + 7) (v := .int .i64 64) h0 (by first | rfl | exact congrArg (fun z => Value.pointer (some z)) (add_fld0 _ 7 (by decide)) | exact congrArg (fun z => Value.pointer (some z)) (add_fld _ (0 * 8) 7 (by decide))) agg3 rfl ?_) | ((with_reducible refine at_index_ 22 ?_); refine wpList_at_h rfl Try.underlying34 sizeOfG (gE w.heap.size XA xc l) (O.mem List.mem_cons_self) rfl 1 rfl (by first | rfl | omega) (by decide) (hl.symm) ?_) | ((with_reducible refine at_load 24 ?_); refine wpList_ecell_h rfl (gE w.heap.size XA xc l) (O.mem List.mem_cons_self) (1 * 8) (v := .int .i64 1) h1 rfl agg3 rfl ?_) | ((with_reducible refine at_load 28 ?_); refine wpList_rowg_h rfl O 1 rfl rfl Try.underlying25 rfl (sW _) ?_) | ((with_reducible refine at_load 29 ?_); refine wpList_rowg_h rfl O 0 rfl rfl Try.underlying25 rfl (sW _) ?_) | (go_at_call 15; clear T0; have T1 : True := trivial; refine (C0 _).mono ?_; rintro e w6 ⟨rfl, hb⟩; replace O := O.call hb; clear hb) | ((with_reducible refine at_load 34 ?_); refine wpList_rowg_h rfl O 1 rfl rfl Try.underlying25 rfl (sW _) ?_) | ((with_reducible refine at_load 35 ?_); refine wpList_rowg_h rfl O 0 rfl rfl Try.underlying25 rfl (sW _) ?_) | (go_at_call 15; clear T1; have T2 : True := trivial; refine (C1 _).mono ?_; rintro e w7 ⟨rfl, hb⟩; replace O := O.call hb; clear hb))
  go_ret
  exact ⟨rfl, O.below⟩
set_option maxHeartbeats 8000000 in
theorem lsmall_any (r : Nat → Int) (w : World) : Calls Try.prog 8 #[arr 4 r] w fun e w' => e = .returned (.bool (!RC.right r || decide (RC.area r ≤ 100))) ∧ Below w.heap.size w w' := by
  have O := Own.start w
  have CR := fun w => rright_any r w
  have CA := fun w => rarea_any r w
  generalize RC.area r = A at *
  generalize RC.right r = z at *
  cases z
  · clear CA
    go_enter Try.func8, Try.ntmps8
    go_wp2_with (first | ((with_reducible refine at_box 1 ?_); refine wpList_box_own O (M.mat 4 (r)) rfl ?_; clear O; intro g1 w1 O) | ((with_reducible refine at_load 3 ?_); refine wpList_whole rfl O 0 rfl rfl Try.underlying27 rfl (sR _) ?_) | (go_at_call 17; refine (CR _).mono ?_; rintro e w2 ⟨rfl, hb⟩; replace O := O.call hb; clear hb))
    go_ret
    exact ⟨rfl, O.below⟩
  · go_enter Try.func8, Try.ntmps8
    go_wp2_with (first | ((with_reducible refine at_box 1 ?_); refine wpList_box_own O (M.mat 4 (r)) rfl ?_; clear O; intro g1 w1 O) | ((with_reducible refine at_load 3 ?_); refine wpList_whole rfl O 0 rfl rfl Try.underlying27 rfl (sR _) ?_) | (go_at_call 17; refine (CR _).mono ?_; rintro e w2 ⟨rfl, hb⟩; replace O := O.call hb; clear hb) | ((with_reducible refine at_load 7 ?_); refine wpList_whole rfl O 0 rfl rfl Try.underlying27 rfl (sR _) ?_) | (go_at_call 18; refine (CA _).mono ?_; rintro e w3 ⟨rfl, hb⟩; replace O := O.call hb; clear hb))
    go_ret
    exact ⟨by simp, O.below⟩
end Go.Proofs.Ytdkppkdoconfhaa
