/- Contract of the program's brushOf. -/
import Derived.Test.YtlmgilcigbnbaaaGd
namespace Go.Proofs.Ytlmgilcigbnbaaa
open Go.ChangeShapes Go.WideShapes Go.ChangeAt Go.RowKit
set_option linter.unusedVariables false
set_option linter.unusedSimpArgs false

set_option maxHeartbeats 8000000 in
theorem pbrush1 (v : Nat → Int) (s k : Int) (hk : k = 1) (h0 : -268435456 ≤ v 0 ∧ v 0 ≤ 268435456) (h1 : -268435456 ≤ v 1 ∧ v 1 ≤ 268435456) (hs : 1 ≤ s ∧ s ≤ 64) (w : World) : Calls Try.prog 25 #[arr 7 v, .int .i64 s, .int .i64 k] w (fun e w' => ∃ g3 g4 g6 g7, e = .returned (.agg (DT.br (DT.arnd v s) (DT.fn2 g7 g3 g4)).toArray) ∧ Own w w' [(g7, 54, DT.br (DT.box v s) (DT.fn1 g3)), (g6, 54, DT.br (DT.arnd v s) (DT.fn2 g7 g3 g4)), (g4, 3, [.int .i64 s]), (g3, 25, M.mat 7 v)]) := by
  have O := Own.start w
  have CB := fun w => pbox19_any v s w
  have CA := fun w => paround19 v s h0 h1 hs w
  generalize DT.arnd v s = ar at *
  generalize DT.box v s = bx at *
  have K1 : (k == 1) = true := by simpa using hk
  clear hk h0 h1 hs
  go_enter Try.func25, Try.ntmps25
  go_wp2_with (first | ((with_reducible refine at_box 3 ?_); refine wpList_box_own O (M.mat 7 (v)) rfl ?_; clear O; intro g3 w1 O) | ((with_reducible refine at_box 4 ?_); refine wpList_box1_own O (s) rfl ?_; clear O; intro g4 w2 O) | ((with_reducible refine at_alloc 6 ?_); refine wpList_alloc_own O (DT.br M.zero .nilFunc) zeroB ?_; clear O; intro g6 w3 O) | ((with_reducible refine at_load 8 ?_); refine wpList_whole rfl O 2 rfl rfl Try.underlying25 rfl (sW _) ?_) | ((with_reducible refine at_load 9 ?_); refine wpList_cell_h (v := .int .i64 s) rfl O.held 1 rfl rfl rfl agg3 rfl ?_) | (go_at_call 11; refine (CB _).mono ?_; rintro e w4 ⟨rfl, hb⟩; replace O := O.call hb; clear hb) | ((with_reducible refine at_build 12 ?_); refine wpList_build_g rfl ([(0, arr 4 bx), (1, .func (.func 34) #[] #[.pointer (some ⟨g3, 0, none⟩)])]) ((DT.br bx (DT.fn1 g3)).toArray) ?_ (builtB1 _ _) ?_; (focus (simp only [List.map_toArray, List.map_cons, List.map_nil]; rfl))) | ((with_reducible refine at_alloc 7 ?_); refine wpList_alloc_own O (DT.br M.zero .nilFunc) zeroB ?_; clear O; intro g7 w5 O) | ((with_reducible refine at_store 7 ?_); refine wpList_put_own O 0 (DT.br bx (DT.fn1 g3)) rfl rfl rfl (sB _ _) (DT.br_len2 _ _ _ _) (DT.br_one _ _ rfl) ?_; clear O; intro w6 O) | ((with_reducible refine at_load 16 ?_); refine wpList_whole rfl O 3 rfl rfl Try.underlying25 rfl (sW _) ?_) | ((with_reducible refine at_load 17 ?_); refine wpList_cell_h (v := .int .i64 s) rfl O.held 2 rfl rfl rfl agg3 rfl ?_) | (go_at_call 35; refine (CA _).mono ?_; rintro e w7 ⟨rfl, hb⟩; replace O := O.call hb; clear hb) | ((with_reducible refine at_build 20 ?_); refine wpList_build_g rfl ([(0, arr 4 ar), (1, .func (.func 36) #[] #[.pointer (some ⟨g7, 0, none⟩), .pointer (some ⟨g3, 0, none⟩), .pointer (some ⟨g4, 0, none⟩)])]) ((DT.br ar (DT.fn2 g7 g3 g4)).toArray) ?_ (builtB2 _ _ _ _) ?_; (focus (simp only [List.map_toArray, List.map_cons, List.map_nil]; rfl))) | ((with_reducible refine at_store 6 ?_); refine wpList_put_own O 1 (DT.br ar (DT.fn2 g7 g3 g4)) rfl rfl rfl (sB _ _) (DT.br_len2 _ _ _ _) (DT.br_one _ _ rfl) ?_; clear O; intro w8 O))
  exact bodyPost_ret (v := .agg (DT.br ar (DT.fn2 g7 g3 g4)).toArray) (res_h rfl O.held 1 rfl rfl Try.underlying54 rfl (sB _ _)) rfl ⟨g3, g4, g6, g7, rfl, O⟩
set_option maxHeartbeats 8000000 in
theorem pbrush2 (v : Nat → Int) (s k : Int) (hk : k = 2) (w : World) : Calls Try.prog 25 #[arr 7 v, .int .i64 s, .int .i64 k] w (fun e w' => ∃ g3 g4 g6 g7, e = .returned (.agg (DT.br (DT.box v s) (DT.fn3 g7 g3 g4)).toArray) ∧ Own w w' [(g7, 54, DT.br (DT.box v s) (DT.fn1 g3)), (g6, 54, DT.br (DT.box v s) (DT.fn3 g7 g3 g4)), (g4, 3, [.int .i64 s]), (g3, 25, M.mat 7 v)]) := by
  have O := Own.start w
  have CB := fun w => pbox19_any v s w

  generalize DT.box v s = bx at *
  have K1 : (k == 1) = false := by simp; omega
  have K2 : (k == 2) = true := by simpa using hk
  clear hk
  go_enter Try.func25, Try.ntmps25
  go_wp2_with (first | ((with_reducible refine at_box 3 ?_); refine wpList_box_own O (M.mat 7 (v)) rfl ?_; clear O; intro g3 w1 O) | ((with_reducible refine at_box 4 ?_); refine wpList_box1_own O (s) rfl ?_; clear O; intro g4 w2 O) | ((with_reducible refine at_alloc 6 ?_); refine wpList_alloc_own O (DT.br M.zero .nilFunc) zeroB ?_; clear O; intro g6 w3 O) | ((with_reducible refine at_load 8 ?_); refine wpList_whole rfl O 2 rfl rfl Try.underlying25 rfl (sW _) ?_) | ((with_reducible refine at_load 9 ?_); refine wpList_cell_h (v := .int .i64 s) rfl O.held 1 rfl rfl rfl agg3 rfl ?_) | (go_at_call 11; refine (CB _).mono ?_; rintro e w4 ⟨rfl, hb⟩; replace O := O.call hb; clear hb) | ((with_reducible refine at_build 12 ?_); refine wpList_build_g rfl ([(0, arr 4 bx), (1, .func (.func 34) #[] #[.pointer (some ⟨g3, 0, none⟩)])]) ((DT.br bx (DT.fn1 g3)).toArray) ?_ (builtB1 _ _) ?_; (focus (simp only [List.map_toArray, List.map_cons, List.map_nil]; rfl))) | ((with_reducible refine at_alloc 7 ?_); refine wpList_alloc_own O (DT.br M.zero .nilFunc) zeroB ?_; clear O; intro g7 w5 O) | ((with_reducible refine at_store 7 ?_); refine wpList_put_own O 0 (DT.br bx (DT.fn1 g3)) rfl rfl rfl (sB _ _) (DT.br_len2 _ _ _ _) (DT.br_one _ _ rfl) ?_; clear O; intro w6 O) | ((with_reducible refine at_load 24 ?_); refine wpList_mid_h rfl O.held 0 rfl (M.mat 4 bx) (DT.br_rect _ _) rfl Try.underlying27 rfl (sR _) ?_) | ((with_reducible refine at_build 26 ?_); refine wpList_build_g rfl ([(0, arr 4 bx), (1, .func (.func 38) #[] #[.pointer (some ⟨g7, 0, none⟩), .pointer (some ⟨g3, 0, none⟩), .pointer (some ⟨g4, 0, none⟩)])]) ((DT.br bx (DT.fn3 g7 g3 g4)).toArray) ?_ (builtB3 _ _ _ _) ?_; (focus (simp only [List.map_toArray, List.map_cons, List.map_nil]; rfl))) | ((with_reducible refine at_store 6 ?_); refine wpList_put_own O 1 (DT.br bx (DT.fn3 g7 g3 g4)) rfl rfl rfl (sB _ _) (DT.br_len2 _ _ _ _) (DT.br_one _ _ rfl) ?_; clear O; intro w8 O))
  exact bodyPost_ret (v := .agg (DT.br bx (DT.fn3 g7 g3 g4)).toArray) (res_h rfl O.held 1 rfl rfl Try.underlying54 rfl (sB _ _)) rfl ⟨g3, g4, g6, g7, rfl, O⟩
set_option maxHeartbeats 8000000 in
theorem pbrush0 (v : Nat → Int) (s k : Int) (hk : ¬ k = 1) (hk2 : ¬ k = 2) (w : World) : Calls Try.prog 25 #[arr 7 v, .int .i64 s, .int .i64 k] w (fun e w' => ∃ g3 g4 g6 g7, e = .returned (.agg (DT.br (DT.box v s) (DT.fn1 g3)).toArray) ∧ Own w w' [(g7, 54, DT.br (DT.box v s) (DT.fn1 g3)), (g6, 54, DT.br (DT.box v s) (DT.fn1 g3)), (g4, 3, [.int .i64 s]), (g3, 25, M.mat 7 v)]) := by
  have O := Own.start w
  have CB := fun w => pbox19_any v s w

  generalize DT.box v s = bx at *
  have K1 : (k == 1) = false := by simpa using hk
  have K2 : (k == 2) = false := by simpa using hk2
  clear hk hk2
  go_enter Try.func25, Try.ntmps25
  go_wp2_with (first | ((with_reducible refine at_box 3 ?_); refine wpList_box_own O (M.mat 7 (v)) rfl ?_; clear O; intro g3 w1 O) | ((with_reducible refine at_box 4 ?_); refine wpList_box1_own O (s) rfl ?_; clear O; intro g4 w2 O) | ((with_reducible refine at_alloc 6 ?_); refine wpList_alloc_own O (DT.br M.zero .nilFunc) zeroB ?_; clear O; intro g6 w3 O) | ((with_reducible refine at_load 8 ?_); refine wpList_whole rfl O 2 rfl rfl Try.underlying25 rfl (sW _) ?_) | ((with_reducible refine at_load 9 ?_); refine wpList_cell_h (v := .int .i64 s) rfl O.held 1 rfl rfl rfl agg3 rfl ?_) | (go_at_call 11; refine (CB _).mono ?_; rintro e w4 ⟨rfl, hb⟩; replace O := O.call hb; clear hb) | ((with_reducible refine at_build 12 ?_); refine wpList_build_g rfl ([(0, arr 4 bx), (1, .func (.func 34) #[] #[.pointer (some ⟨g3, 0, none⟩)])]) ((DT.br bx (DT.fn1 g3)).toArray) ?_ (builtB1 _ _) ?_; (focus (simp only [List.map_toArray, List.map_cons, List.map_nil]; rfl))) | ((with_reducible refine at_alloc 7 ?_); refine wpList_alloc_own O (DT.br M.zero .nilFunc) zeroB ?_; clear O; intro g7 w5 O) | ((with_reducible refine at_store 7 ?_); refine wpList_put_own O 0 (DT.br bx (DT.fn1 g3)) rfl rfl rfl (sB _ _) (DT.br_len2 _ _ _ _) (DT.br_one _ _ rfl) ?_; clear O; intro w6 O) | ((with_reducible refine at_load 27 ?_); refine wpList_whole rfl O 0 rfl rfl Try.underlying54 rfl (sB _ _) ?_) | ((with_reducible refine at_store 6 ?_); refine wpList_put_own O 1 (DT.br bx (DT.fn1 g3)) rfl rfl rfl (sB _ _) (DT.br_len2 _ _ _ _) (DT.br_one _ _ rfl) ?_; clear O; intro w8 O))
  exact bodyPost_ret (v := .agg (DT.br bx (DT.fn1 g3)).toArray) (res_h rfl O.held 1 rfl rfl Try.underlying54 rfl (sB _ _)) rfl ⟨g3, g4, g6, g7, rfl, O⟩
end Go.Proofs.Ytlmgilcigbnbaaa
