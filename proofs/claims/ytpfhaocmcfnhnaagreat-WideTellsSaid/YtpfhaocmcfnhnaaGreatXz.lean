/- Contracts: the program's pixel, exits. -/
import Derived.Test.YtpfhaocmcfnhnaaGreatXx
import Derived.Test.YtpfhaocmcfnhnaaGreatXy
import Derived.Test.YtpfhaocmcfnhnaaGreatXb
import Derived.Test.YtpfhaocmcfnhnaaGreatTz
namespace Go.Proofs.YtpfhaocmcfnhnaaGreat
open Go.ChangeShapes Go.WideShapes Go.ChangeAt Go.RowKit
set_option linter.unusedVariables false
set_option linter.unusedSimpArgs false

theorem DM.rg_mn (t : Bool) {a0 a1 : Int} (ha : DM.Rg (DM.t2 a0 a1)) : (-536870912 ≤ DM.mn t a0 a1 ∧ DM.mn t a0 a1 ≤ 536870912) ∧ (-536870912 ≤ DM.cr t a0 a1 ∧ DM.cr t a0 a1 ≤ 536870912) := by cases t <;> exact ⟨by first | exact ha.1 | exact ha.2, by first | exact ha.1 | exact ha.2⟩
set_option maxRecDepth 100000 in
set_option maxHeartbeats 8000000 in
theorem pixel_any (a0 a1 b0 b1 : Int) (t : Bool) (f s n k u : Int) (hw : DM.way (DM.mn t a0 a1) (DM.cr t a0 a1) (DM.mn t b0 b1) (DM.cr t b0 b1)) (ha : DM.Rg (DM.t2 a0 a1)) (hb : DM.Rg (DM.t2 b0 b1)) (hu : DM.Ud (DM.mn t a0 a1) (DM.mn t b0 b1) u)
  (hk : f + k * s = u) (hf : -4194304 ≤ f ∧ f ≤ 4194304) (w_ : World) :
  Calls Tryz.prog 60 #[.agg (wl a0 a1 b0 b1 (DM.wv t) f s n).toArray, .int .i64 k] w_ fun e w' => e = .returned (arr 3 (DM.t3 k (DM.pxl t (DM.mn t a0 a1) (DM.cr t a0 a1) (DM.mn t b0 b1) (DM.cr t b0 b1) u).1 (DM.pxl t (DM.mn t a0 a1) (DM.cr t a0 a1) (DM.mn t b0 b1) (DM.cr t b0 b1) u).2)) ∧ Below w_.heap.size w_ w' := by
 have O := Own.start w_
 have la := DM.rg_mn t ha
 have lb := DM.rg_mn t hb
 obtain ⟨u1, u2⟩ := DM.ud_lim hu la.1 lb.1
 have CB := fun w => beside_any a0 a1 b0 b1 t f s n u hw ha hb (by omega) u2 w
 unfold DM.pxl
 generalize DM.colV t (DM.mn t a0 a1) (DM.cr t a0 a1) (DM.mn t b0 b1) (DM.cr t b0 b1) u = V at *
 clear hw ha hb hu la lb u2
 obtain ⟨p, hp⟩ : ∃ z, k * s = z := ⟨_, rfl⟩
 rw [hp] at hk
 have W1 : wrap64 p = p := IntWalk.wrap64_in _ (by omega)
 have W2 : wrap64 u = u := IntWalk.wrap64_in _ (by omega)
 clear u1 hf
 cases t
 ·
  have e1 : DM.wv false = 0 := rfl
  rw [e1] at CB ⊢
  clear e1
  go_enter Tryz.func60, Tryz.ntmps60
  go_wp2_with (first | ((with_reducible refine at_box 2 ?_); refine wpList_box_own O (wl a0 a1 b0 b1 0 f s n) rfl ?_; clear O; intro g2 w1 O) | ((with_reducible refine at_alloc 4 ?_); refine wpList_alloc_own O (M.mat 3 M.zero) zeroT ?_; clear O; intro g4 w2 O) | ((with_reducible refine at_load 8 ?_); refine wpList_cell_h (v := .int .i64 f) rfl O.held 1 rfl (i := 5) rfl rfl agg3 rfl ?_) | ((with_reducible refine at_load 11 ?_); refine wpList_cell_h (v := .int .i64 s) rfl O.held 1 rfl (i := 6) rfl rfl agg3 rfl ?_) | ((with_reducible refine at_load 14 ?_); refine wpList_whole rfl O 1 rfl rfl Tryz.underlying78 rfl (sWl a0 a1 b0 b1 0 f s n) ?_) | (go_at_call 78; refine (CB _).mono ?_; rintro e w3 ⟨rfl, hb⟩; replace O := O.call hb; clear hb) | ((with_reducible refine at_load 18 ?_); refine wpList_cell_h (v := .int .i64 0) rfl O.held 1 rfl (i := 4) rfl rfl agg50 rfl ?_) | ((with_reducible refine at_build 25 ?_); refine wpList_build_g rfl ([(0, .int .i64 k), (1, .int .i64 u), (2, .int .i64 V)]) ((M.mat 3 (DM.t3 k u V)).toArray) ?_ (builtT _ _ _) ?_; (focus (simp only [List.map_toArray, List.map_cons, List.map_nil]; rfl))) | ((with_reducible refine at_store 4 ?_); refine wpList_put_own O 0 (M.mat 3 (DM.t3 k u V)) rfl rfl rfl (sT _) (M.mat_len2 _ _ _) (M.mat_one _ _) ?_; clear O; intro w4 O))
  exact bodyPost_ret (v := arr 3 (DM.t3 k u V)) (res_h rfl O.held 0 rfl rfl Tryz.underlying56 rfl (sT _)) rfl ⟨rfl, O.below⟩
 ·
  have e1 : DM.wv true = 1 := rfl
  rw [e1] at CB ⊢
  clear e1
  go_enter Tryz.func60, Tryz.ntmps60
  go_wp2_with (first | ((with_reducible refine at_box 2 ?_); refine wpList_box_own O (wl a0 a1 b0 b1 1 f s n) rfl ?_; clear O; intro g2 w1 O) | ((with_reducible refine at_alloc 4 ?_); refine wpList_alloc_own O (M.mat 3 M.zero) zeroT ?_; clear O; intro g4 w2 O) | ((with_reducible refine at_load 8 ?_); refine wpList_cell_h (v := .int .i64 f) rfl O.held 1 rfl (i := 5) rfl rfl agg3 rfl ?_) | ((with_reducible refine at_load 11 ?_); refine wpList_cell_h (v := .int .i64 s) rfl O.held 1 rfl (i := 6) rfl rfl agg3 rfl ?_) | ((with_reducible refine at_load 14 ?_); refine wpList_whole rfl O 1 rfl rfl Tryz.underlying78 rfl (sWl a0 a1 b0 b1 1 f s n) ?_) | (go_at_call 78; refine (CB _).mono ?_; rintro e w3 ⟨rfl, hb⟩; replace O := O.call hb; clear hb) | ((with_reducible refine at_load 18 ?_); refine wpList_cell_h (v := .int .i64 1) rfl O.held 1 rfl (i := 4) rfl rfl agg50 rfl ?_) | ((with_reducible refine at_build 25 ?_); refine wpList_build_g rfl ([(0, .int .i64 k), (1, .int .i64 V), (2, .int .i64 u)]) ((M.mat 3 (DM.t3 k V u)).toArray) ?_ (builtT _ _ _) ?_; (focus (simp only [List.map_toArray, List.map_cons, List.map_nil]; rfl))) | ((with_reducible refine at_store 4 ?_); refine wpList_put_own O 0 (M.mat 3 (DM.t3 k V u)) rfl rfl rfl (sT _) (M.mat_len2 _ _ _) (M.mat_one _ _) ?_; clear O; intro w4 O))
  exact bodyPost_ret (v := arr 3 (DM.t3 k V u)) (res_h rfl O.held 0 rfl rfl Tryz.underlying56 rfl (sT _)) rfl ⟨rfl, O.below⟩
set_option maxRecDepth 100000 in
set_option maxHeartbeats 8000000 in
theorem lexits_any (a0 a1 b0 b1 : Int) (t : Bool) (f s n k u : Int) (hw : DM.way (DM.mn t a0 a1) (DM.cr t a0 a1) (DM.mn t b0 b1) (DM.cr t b0 b1)) (ha : DM.Rg (DM.t2 a0 a1)) (hb : DM.Rg (DM.t2 b0 b1)) (hu : DM.Ud (DM.mn t a0 a1) (DM.mn t b0 b1) u)
  (hk : f + k * s = u) (hf : -4194304 ≤ f ∧ f ≤ 4194304) (w_ : World) :
  Calls Tryz.prog 58 #[.agg (wl a0 a1 b0 b1 (DM.wv t) f s n).toArray, .int .i64 k] w_ fun e w' => e = .returned (.bool (DM.xG t (DM.mn t a0 a1) (DM.cr t a0 a1) (DM.mn t b0 b1) (DM.cr t b0 b1) u)) ∧ Below w_.heap.size w_ w' := by
 have O := Own.start w_
 have CP := fun w => pixel_any a0 a1 b0 b1 t f s n k u hw ha hb hu hk hf w
 have la := DM.rg_mn t ha
 have lb := DM.rg_mn t hb
 obtain ⟨u1, u2⟩ := DM.ud_lim hu la.1 lb.1
 have v1 := DM.col_near (t := t) hw hu la.2 lb.2
 have hx : DM.Rx (DM.pxl t (DM.mn t a0 a1) (DM.cr t a0 a1) (DM.mn t b0 b1) (DM.cr t b0 b1) u).1 (DM.pxl t (DM.mn t a0 a1) (DM.cr t a0 a1) (DM.mn t b0 b1) (DM.cr t b0 b1) u).2 := by
  unfold DM.Rx DM.pxl DM.mn DM.cr at *
  cases t <;> simp only [Bool.false_eq_true, if_false, if_true] at * <;> omega
 have CE := fun w => exits_any (DM.t2 a0 a1) (DM.t2 b0 b1) _ _ ha hb hx w
 have HX : DM.exits (DM.rel a0 (DM.pxl t (DM.mn t a0 a1) (DM.cr t a0 a1) (DM.mn t b0 b1) (DM.cr t b0 b1) u).1) (DM.rel a1 (DM.pxl t (DM.mn t a0 a1) (DM.cr t a0 a1) (DM.mn t b0 b1) (DM.cr t b0 b1) u).2) (DM.rel b0 (DM.pxl t (DM.mn t a0 a1) (DM.cr t a0 a1) (DM.mn t b0 b1) (DM.cr t b0 b1) u).1) (DM.rel b1 (DM.pxl t (DM.mn t a0 a1) (DM.cr t a0 a1) (DM.mn t b0 b1) (DM.cr t b0 b1) u).2) = DM.xG t (DM.mn t a0 a1) (DM.cr t a0 a1) (DM.mn t b0 b1) (DM.cr t b0 b1) u := by
  rw [← DM.eG_exits t]
  unfold DM.xG DM.pxl
  rw [(DM.mn_cr_back t _ _).1, (DM.mn_cr_back t _ _).2]
 rw [show DM.t2 a0 a1 0 = a0 from rfl, show DM.t2 a0 a1 1 = a1 from rfl, show DM.t2 b0 b1 0 = b0 from rfl, show DM.t2 b0 b1 1 = b1 from rfl, HX] at CE
 clear HX hx v1 u1 u2 la lb
 generalize DM.xG t (DM.mn t a0 a1) (DM.cr t a0 a1) (DM.mn t b0 b1) (DM.cr t b0 b1) u = x at *
 generalize DM.pxl t (DM.mn t a0 a1) (DM.cr t a0 a1) (DM.mn t b0 b1) (DM.cr t b0 b1) u = z at *
 clear hw ha hb hu hk hf
 obtain ⟨X, Y⟩ := z
 dsimp only at CP CE
 have C1 := cell_is (n := 3) (i := 1) (a := DM.t3 k X Y) (z := X) rfl (by decide)
 have C2 := cell_is (n := 3) (i := 2) (a := DM.t3 k X Y) (z := Y) rfl (by decide)
 go_enter Tryz.func58, Tryz.ntmps58
 go_wp2_with (first | ((with_reducible refine at_box 2 ?_); refine wpList_box_own O (wl a0 a1 b0 b1 (DM.wv t) f s n) rfl ?_; clear O; intro g2 w1 O) | ((with_reducible refine at_load 6 ?_); refine wpList_whole rfl O 0 rfl rfl Tryz.underlying78 rfl (sWl a0 a1 b0 b1 (DM.wv t) f s n) ?_) | (go_at_call 60; refine (CP _).mono ?_; rintro e w2 ⟨rfl, hb⟩; replace O := O.call hb; clear hb) | ((with_reducible refine at_alloc 5 ?_); refine wpList_alloc_own O (M.mat 3 M.zero) zeroT ?_; clear O; intro g5 w3 O) | ((with_reducible refine at_store 5 ?_); refine wpList_put_own O 0 (M.mat 3 (DM.t3 k X Y)) rfl rfl rfl (sT _) (M.mat_len2 _ _ _) (M.mat_one _ _) ?_; clear O; intro w4 O) | ((with_reducible refine at_load 10 ?_); refine wpList_mid_h rfl O.held 1 rfl (M.mat 2 (DM.t2 a0 a1)) (wl_a a0 a1 b0 b1 (DM.wv t) f s n) rfl Tryz.underlying44 rfl (sP _) ?_) | ((with_reducible refine at_load 12 ?_); refine wpList_mid_h rfl O.held 1 rfl (M.mat 2 (DM.t2 b0 b1)) (wl_b a0 a1 b0 b1 (DM.wv t) f s n) rfl Tryz.underlying44 rfl (sP _) ?_) | ((with_reducible refine at_load 14 ?_); refine wpList_cell_h (v := .int .i64 (X)) rfl O.held 0 rfl C1.out rfl agg3 rfl ?_) | ((with_reducible refine at_load 16 ?_); refine wpList_cell_h (v := .int .i64 (Y)) rfl O.held 0 rfl C2.out rfl agg3 rfl ?_) | (go_at_call 77; refine (CE _).mono ?_; rintro e w5 ⟨rfl, hb⟩; replace O := O.call hb; clear hb))
 go_ret
 exact ⟨rfl, O.below⟩
end Go.Proofs.YtpfhaocmcfnhnaaGreat
