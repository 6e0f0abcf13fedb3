/- Contracts: the law's awake, small, whole. -/
import Derived.Test.YtlmgilcigbnbaaaDp
import Derived.Test.YtlmgilcigbnbaaaDe
import Derived.Test.YtlmgilcigbnbaaaDq
namespace Go.Proofs.Ytlmgilcigbnbaaa
open Go.ChangeShapes Go.WideShapes Go.ChangeAt Go.RowKit
set_option linter.unusedVariables false
set_option linter.unusedSimpArgs false

namespace DT
def ex : List (Nat → Int) := pt (WD.wn 128 128) 1 0 (RC.mk (-9) (-9) 9 9)
def exf : Nat → Int := SM.fr 0 0 0 M.zero 64
theorem ex_one : ex.map (fun f => M.mat 8 f) = [M.mat 8 exf] := by kernel_rfl
theorem ex_box : M.eqB 4 (box (WD.wn 128 128) 2) (RC.mk 0 0 2 2) = true := by kernel_rfl
theorem ex_right : right (WD.wn 128 128) 64 2 = true := by kernel_rfl
theorem ex_area : RC.area (RC.mk (-9) (-9) 9 9) ≤ 100000 := by decide +kernel
end DT
theorem builtGe : Try.prog.built 40 [(4, .int .i64 64)] = some (M.mat 8 DT.exf).toArray := by kernel_rfl
theorem builtRe : Try.prog.built 27 [(2, .int .i64 2), (3, .int .i64 2)] = some (M.mat 4 (RC.mk 0 0 2 2)).toArray := by kernel_rfl
set_option maxRecDepth 100000 in
set_option maxHeartbeats 8000000 in
theorem awake_any (w : World) : Calls Try.prog 8 #[] w fun e w' => e = .returned (.bool true) ∧ Below w.heap.size w w' := by
  have O := Held.start w [] (by simp)
  have CL := fun w => ppoint19_any (WD.wn 128 128) 1 0 (RC.mk (-9) (-9) 9 9) DT.ex_area w
  change ∀ w, Calls _ _ _ w (RetG w DT.ex) at CL
  have CB := fun w => pbox19_any (WD.wn 128 128) 2 w
  have CR := fun w => pright19_any (WD.wn 128 128) 64 2 w
  rw [DT.ex_right] at CR
  have hb0 := DT.ex_box
  have h1 := DT.ex_one
  generalize DT.ex = l at *
  generalize DT.box (WD.wn 128 128) 2 = bx at *
  obtain ⟨f, rfl⟩ : ∃ f, l = [f] := by
    have := congrArg List.length h1
    simp only [List.length_map, List.length_cons, List.length_nil] at this
    exact List.length_eq_one_iff.1 this
  have hf : M.eqB 8 f DT.exf = true := M.eqB_iff.2 (M.mat_inj (by simpa using h1))
  clear h1
  have BGe := builtGe
  generalize DT.exf = ef at *
  go_enter Try.func8, Try.ntmps8
  go_wp2_with (first | ((with_reducible refine at_build 3 ?_); refine wpList_build_g rfl ([(0, .int .i64 128), (1, .int .i64 128)]) ((M.mat 7 (WD.wn 128 128)).toArray) ?_ (builtW17 _ _) ?_; (focus (simp only [List.map_toArray, List.map_cons, List.map_nil]; rfl))) | ((with_reducible refine at_alloc 1 ?_); refine wpList_alloc_h O (M.mat 7 M.zero) zeroW ?_; clear O; intro g1 w1 O) | ((with_reducible refine at_store 1 ?_); refine wpList_put_h O 0 (M.mat 7 (WD.wn 128 128)) rfl rfl rfl (sW _) (M.mat_len2 _ _ _) (M.mat_one _ _) ?_; clear O; intro w2 O) | ((with_reducible refine at_load 4 ?_); refine wpList_rowg_h rfl O 0 rfl rfl Try.underlying25 rfl (sW _) ?_) | ((with_reducible refine at_build 5 ?_); refine wpList_build_g rfl ([(0, .int .i64 (-9)), (1, .int .i64 (-9)), (2, .int .i64 9), (3, .int .i64 9)]) ((M.mat 4 (RC.mk (-9) (-9) 9 9)).toArray) ?_ (builtR17 _ _ _ _) ?_; (focus (simp only [List.map_toArray, List.map_cons, List.map_nil]; rfl))) | (go_at_call 14; refine (CL _).mono ?_; rintro e w3 ⟨XA, xc, rfl, hV, hb⟩; have O2 := O.gain hb hV; clear O hb hV; have O := O2; clear O2) | ((with_reducible refine at_index_ 12 ?_); refine wpList_at_h rfl Try.underlying35 sizeOfG (gE w.heap.size XA xc [f]) (O.mem List.mem_cons_self) rfl 0 rfl (by first | rfl | omega) (by decide) (rfl) ?_) | ((with_reducible refine at_load 13 ?_); refine wpList_elem_h rfl (gE w.heap.size XA xc [f]) (O.mem List.mem_cons_self) (0 * 8) (M.mat 8 (f)) (gC_at (rfl)) (by rw [M.mat_len]; decide) rfl Try.underlying40 rfl (sG _) ?_) | ((with_reducible refine at_build 14 ?_); refine wpList_build_g rfl ([(4, .int .i64 64)]) ((M.mat 8 ef).toArray) ?_ (BGe) ?_; (focus (simp only [List.map_toArray, List.map_cons, List.map_nil]; rfl))) | ((with_reducible refine at_binOp 15 ?_); refine wpList_eqG rfl f ef rfl rfl ?_; rw [hf]) | ((with_reducible refine at_load 18 ?_); refine wpList_rowg_h rfl O 0 rfl rfl Try.underlying25 rfl (sW _) ?_) | (go_at_call 11; refine (CB _).mono ?_; rintro e w4 ⟨rfl, hb⟩; replace O := O.call hb; clear hb) | ((with_reducible refine at_build 20 ?_); refine wpList_build_g rfl ([(2, .int .i64 2), (3, .int .i64 2)]) ((M.mat 4 (RC.mk 0 0 2 2)).toArray) ?_ (builtRe) ?_; (focus (simp only [List.map_toArray, List.map_cons, List.map_nil]; rfl))) | ((with_reducible refine at_binOp 21 ?_); refine wpList_eqR rfl bx (RC.mk 0 0 2 2) rfl rfl ?_; rw [hb0]) | ((with_reducible refine at_load 24 ?_); refine wpList_rowg_h rfl O 0 rfl rfl Try.underlying25 rfl (sW _) ?_) | (go_at_call 9; refine (CR _).mono ?_; rintro e w5 ⟨rfl, hb⟩; replace O := O.call hb; clear hb))
  go_ret
  exact ⟨rfl, O.below⟩
set_option maxHeartbeats 8000000 in
theorem lsmall_any (r : Nat → Int) (w : World) : Calls Try.prog 7 #[arr 4 r] w fun e w' => e = .returned (.bool (!RC.right r || decide (RC.area r ≤ 400))) ∧ Below w.heap.size w w' := by
  have O := Own.start w
  have CR := fun w => rright_any r w
  have CA := fun w => rarea_any r w
  generalize RC.area r = A at *
  generalize RC.right r = z at *
  cases z
  · clear CA
    go_enter Try.func7, Try.ntmps7
    go_wp2_with (first | ((with_reducible refine at_box 1 ?_); refine wpList_box_own O (M.mat 4 (r)) rfl ?_; clear O; intro g1 w1 O) | ((with_reducible refine at_load 3 ?_); refine wpList_whole rfl O 0 rfl rfl Try.underlying27 rfl (sR _) ?_) | (go_at_call 19; refine (CR _).mono ?_; rintro e w2 ⟨rfl, hb⟩; replace O := O.call hb; clear hb))
    go_ret
    exact ⟨rfl, O.below⟩
  · go_enter Try.func7, Try.ntmps7
    go_wp2_with (first | ((with_reducible refine at_box 1 ?_); refine wpList_box_own O (M.mat 4 (r)) rfl ?_; clear O; intro g1 w1 O) | ((with_reducible refine at_load 3 ?_); refine wpList_whole rfl O 0 rfl rfl Try.underlying27 rfl (sR _) ?_) | (go_at_call 19; refine (CR _).mono ?_; rintro e w2 ⟨rfl, hb⟩; replace O := O.call hb; clear hb) | ((with_reducible refine at_load 7 ?_); refine wpList_whole rfl O 0 rfl rfl Try.underlying27 rfl (sR _) ?_) | (go_at_call 20; refine (CA _).mono ?_; rintro e w3 ⟨rfl, hb⟩; replace O := O.call hb; clear hb))
    go_ret
    exact ⟨by simp, O.below⟩
set_option maxRecDepth 100000 in
set_option maxHeartbeats 8000000 in
theorem whole_any (v : Nat → Int) (s : Int) (hf : VM.fit v = true) (hs : -1000000 ≤ s ∧ s ≤ 64) (w : World) : Calls Try.prog 16 #[arr 7 v, .int .i64 s] w fun e w' => e = .returned (arr 4 (DT.whole v s)) ∧ Below w.heap.size w w' := by
  have O := Own.start w
  obtain ⟨l0, l1, -⟩ := VM.fit_lim hf
  have t0 := DT.tdiv_near (v 0)
  have t1 := DT.tdiv_near (v 1)
  obtain ⟨v0, ev0⟩ : ∃ z, v 0 = z := ⟨_, rfl⟩
  have Cv0 := cell_is (n := 7) ev0 (by decide)
  obtain ⟨v1, ev1⟩ : ∃ z, v 1 = z := ⟨_, rfl⟩
  have Cv1 := cell_is (n := 7) ev1 (by decide)
  rw [ev0] at l0 t0
  rw [ev1] at l1 t1
  obtain ⟨x, hx⟩ : ∃ z, v0.tdiv 256 = z := ⟨_, rfl⟩
  obtain ⟨y, hy⟩ : ∃ z, v1.tdiv 256 = z := ⟨_, rfl⟩
  rw [hx] at t0
  rw [hy] at t1
  obtain ⟨a1, ha1⟩ : ∃ z, x - s = z := ⟨_, rfl⟩
  obtain ⟨a2, ha2⟩ : ∃ z, a1 - 2 = z := ⟨_, rfl⟩
  obtain ⟨b1, hb1⟩ : ∃ z, y - s = z := ⟨_, rfl⟩
  obtain ⟨b2, hb2⟩ : ∃ z, b1 - 2 = z := ⟨_, rfl⟩
  obtain ⟨c1, hc1⟩ : ∃ z, x + s = z := ⟨_, rfl⟩
  obtain ⟨c2, hc2⟩ : ∃ z, c1 + 3 = z := ⟨_, rfl⟩
  obtain ⟨d1, hd1⟩ : ∃ z, y + s = z := ⟨_, rfl⟩
  obtain ⟨d2, hd2⟩ : ∃ z, d1 + 3 = z := ⟨_, rfl⟩
  have HE : Hid (DT.whole v s = RC.mk a2 b2 c2 d2) := Lib.hid (by unfold DT.whole; rw [ev0, ev1, hx, hy, ha1, ha2, hb1, hb2, hc1, hc2, hd1, hd2])
  have D0 : Hid (IntKind.i64.wrap (v0.tdiv 256) = x) := Lib.hid ((by rw [hx]; exact IntWalk.i64_in _ (by omega)) : IntKind.i64.wrap (v0.tdiv 256) = x)
  have D1 : Hid (IntKind.i64.wrap (v1.tdiv 256) = y) := Lib.hid ((by rw [hy]; exact IntWalk.i64_in _ (by omega)) : IntKind.i64.wrap (v1.tdiv 256) = y)
  have W1 : wrap64 (x - s) = a1 := (IntWalk.wrap64_in _ (by omega)).trans ha1
  have W2 : wrap64 (a1 - 2) = a2 := (IntWalk.wrap64_in _ (by omega)).trans ha2
  have W3 : wrap64 (y - s) = b1 := (IntWalk.wrap64_in _ (by omega)).trans hb1
  have W4 : wrap64 (b1 - 2) = b2 := (IntWalk.wrap64_in _ (by omega)).trans hb2
  have W5 : wrap64 (x + s) = c1 := (IntWalk.wrap64_in _ (by omega)).trans hc1
  have W6 : wrap64 (c1 + 3) = c2 := (IntWalk.wrap64_in _ (by omega)).trans hc2
  have W7 : wrap64 (y + s) = d1 := (IntWalk.wrap64_in _ (by omega)).trans hd1
  have W8 : wrap64 (d1 + 3) = d2 := (IntWalk.wrap64_in _ (by omega)).trans hd2
  clear hx hy ha1 ha2 hb1 hb2 hc1 hc2 hd1 hd2 t0 t1 l0 l1 hf hs ev0 ev1
  go_enter Try.func16, Try.ntmps16
  go_wp2_with (first | ((with_reducible refine at_box 2 ?_); refine wpList_box_own O (M.mat 7 (v)) rfl ?_; clear O; intro g2 w1 O) | ((with_reducible refine at_alloc 4 ?_); refine wpList_alloc_own O (M.mat 4 M.zero) zeroR ?_; clear O; intro g4 w2 O))
  refine region_T (fun w2 => Own w w2 [(g4, 27, M.mat 4 M.zero), (g2, 25, M.mat 7 v)]) [0, 1, 2, 3, 4, 5, 6] 12 [some 7, some 8, some 9, some 10, some 11, some 12, some 5] [.pointer (some ⟨g2, 0, none⟩), .int .i64 (v0), .int .i64 (x), .pointer (some ⟨g2, 1, none⟩), .int .i64 (v1), .int .i64 (y), .int .i64 (x)] 1 (by kernel_rfl) (by rfl) (by kernel_rfl) (by rfl) (by rfl) (O.drew) (fun F hF => ?_)
  simp only [fillD, Act.put, List.setIfInBounds_toArray, List.set_cons_zero, List.set_cons_succ] at hF
  subst hF
  refine ⟨⟨does_want rfl (by rfl) (fun w' O K hK => ?_), does_want rfl (by rfl) (fun w' O K hK => ?_), does_want rfl (by rfl) (fun w' O K hK => ?_), does_want rfl (by rfl) (fun w' O K hK => ?_), does_want rfl (by rfl) (fun w' O K hK => ?_), does_want rfl (by rfl) (fun w' O K hK => ?_), does_want rfl (by rfl) (fun w' O K hK => ?_), trivial⟩, fun w' O => ?_⟩
  · go_simp
    exact hK _ O
  · exact wp_cell_h (v := .int .i64 (v0)) O.held 1 rfl Cv0.out rfl agg3 rfl (hK _ O)
  · go_simp
    simp only [D0.out]
    exact hK _ O
  · go_simp
    exact hK _ O
  · exact wp_cell_h (v := .int .i64 (v1)) O.held 1 rfl Cv1.out rfl agg3 rfl (hK _ O)
  · go_simp
    simp only [D1.out]
    exact hK _ O
  · go_simp
    exact hK _ O
  refine wpAny_one (i := 7) (by kernel_rfl) rfl (fun K hK => ?_)
  go_simp
  refine hK _ _ ?_
  clear hK K
  try simp only [Act.put, List.setIfInBounds_toArray, List.set_cons_zero, List.set_cons_succ]
  refine wpAny_done (by kernel_rfl) ?_ _
  go_wp2_with (first | ((with_reducible refine at_build 29 ?_); refine wpList_build_g rfl ([(0, .int .i64 a2), (1, .int .i64 b2), (2, .int .i64 c2), (3, .int .i64 d2)]) ((M.mat 4 (RC.mk a2 b2 c2 d2)).toArray) ?_ (builtR17 _ _ _ _) ?_; (focus (simp only [List.map_toArray, List.map_cons, List.map_nil]; rfl))) | ((with_reducible refine at_store 4 ?_); refine wpList_put_own O 0 (M.mat 4 (RC.mk a2 b2 c2 d2)) rfl rfl rfl (sR _) (M.mat_len2 _ _ _) (M.mat_one _ _) ?_; clear O; intro w9 O))
  exact bodyPost_ret (v := arr 4 (DT.whole v s)) (by rw [HE.out]; exact res_h rfl O.held 0 rfl rfl Try.underlying27 rfl (sR _)) rfl ⟨rfl, O.below⟩
end Go.Proofs.Ytlmgilcigbnbaaa
