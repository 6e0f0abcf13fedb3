/- The law's functions; arguments that came in. -/
import Derived.Test.YtndaijcgjhmiaaaJp
import Derived.Test.YtndaijcgjhmiaaaWo
namespace Go.Proofs.Ytndaijcgjhmiaaa
open Go.ChangeShapes Go.WideShapes Go.ChangeAt Go.RowKit
set_option linter.unusedVariables false
set_option linter.unusedSimpArgs false

namespace TR
/-- What the laws ask of a corner, of a pixel. -/
def mayB (p : Nat → Int) : Bool := (decide (p 0 ≥ -268435456) && (decide (p 0 ≤ 268435456) && (decide (p 1 ≥ -268435456) && decide (p 1 ≤ 268435456))))
def nearB (p : Nat → Int) : Bool := (decide (p 0 ≥ -4194304) && (decide (p 0 ≤ 4194304) && (decide (p 1 ≥ -4194304) && decide (p 1 ≤ 4194304))))
theorem mayB_iff {p : Nat → Int} : mayB p = true ↔ May p := by
  unfold mayB May
  simp only [Bool.and_eq_true, decide_eq_true_eq]
  omega
theorem nearB_iff {p : Nat → Int} : nearB p = true ↔ (-4194304 ≤ p 0 ∧ p 0 ≤ 4194304) ∧ (-4194304 ≤ p 1 ∧ p 1 ≤ 4194304) := by
  unfold nearB
  simp only [Bool.and_eq_true, decide_eq_true_eq]
  omega
/-- Corners out of a triangle's six numbers. -/
def cA (t : Nat → Int) : Nat → Int := wn (t 0) (t 1)
def cB (t : Nat → Int) : Nat → Int := wn (t 2) (t 3)
def cC (t : Nat → Int) : Nat → Int := wn (t 4) (t 5)
def cP (p : Nat → Int) : Nat → Int := wn (p 0) (p 1)
def fitB (t : Nat → Int) : Bool := mayB (D.sub 0 t) && (mayB (D.sub 2 t) && mayB (D.sub 4 t))
theorem fitB_iff {t : Nat → Int} : fitB t = true ↔ May (cA t) ∧ May (cB t) ∧ May (cC t) := by
  unfold fitB
  rw [Bool.and_eq_true, Bool.and_eq_true, mayB_iff, mayB_iff, mayB_iff]
  exact Iff.rfl
theorem may_cP {p : Nat → Int} : mayB p = true ↔ May (cP p) := mayB_iff.trans Iff.rfl
end TR
theorem win_eq (n : Nat) (t : Nat → Int) : TR.cP (D.sub n t) = TR.wn (t n) (t (n + 1)) := rfl
set_option maxHeartbeats 4000000 in
theorem lwin20 (p : Nat → Int) (w : World) : Calls Try.prog 11 #[arr 2 p] w fun e w' => e = .returned (arr 7 (TR.cP p)) ∧ Below w.heap.size w w' := by
  have O := Own.start w
  have HE : TR.cP p = TR.wn (p 0) (p 1) := rfl
  obtain ⟨p0, ep0⟩ : ∃ z, p 0 = z := ⟨_, rfl⟩
  have Cp0 := cell_is (n := 2) ep0 (by decide)
  obtain ⟨p1, ep1⟩ : ∃ z, p 1 = z := ⟨_, rfl⟩
  have Cp1 := cell_is (n := 2) ep1 (by decide)
  rw [ep0, ep1] at HE
  rw [HE]
  clear ep0 ep1 HE
  go_enter Try.func11, Try.ntmps11
  go_wp2_with (first | ((with_reducible refine at_box 1 ?_); refine wpList_box_own O (M.mat 2 (p)) rfl ?_; clear O; intro g1 w1 O) | ((with_reducible refine at_alloc 2 ?_); refine wpList_alloc_own O (M.mat 7 M.zero) zeroW ?_; clear O; intro g2 w2 O) | ((with_reducible refine at_load 4 ?_); refine wpList_cell_h (v := .int .i64 (p0)) rfl O.held 1 rfl Cp0.out rfl agg3 rfl ?_) | ((with_reducible refine at_load 6 ?_); refine wpList_cell_h (v := .int .i64 (p1)) rfl O.held 1 rfl Cp1.out rfl agg3 rfl ?_) | ((with_reducible refine at_build 7 ?_); refine wpList_build_g rfl ([(0, .int .i64 p0), (1, .int .i64 p1)]) ((M.mat 7 (TR.wn p0 p1)).toArray) ?_ (builtW20 _ _) ?_; (focus (simp only [List.map_toArray, List.map_cons, List.map_nil]; rfl))) | ((with_reducible refine at_store 2 ?_); refine wpList_put_own O 0 (M.mat 7 (TR.wn p0 p1)) rfl rfl rfl (sW _) (M.mat_len2 _ _ _) (M.mat_one _ _) ?_; clear O; intro w3 O))
  exact bodyPost_ret (v := arr 7 (TR.wn p0 p1)) (res_h rfl O.held 0 rfl rfl Try.underlying34 rfl (sW _)) rfl ⟨rfl, O.below⟩
set_option maxHeartbeats 4000000 in
theorem lmay20 (p : Nat → Int) (w : World) : Calls Try.prog 20 #[arr 2 p] w fun e w' => e = .returned (.bool (TR.mayB p)) ∧ Below w.heap.size w w' := by
  have O := Own.start w
  have HE : TR.mayB p = (decide (p 0 ≥ -268435456) && (decide (p 0 ≤ 268435456) && (decide (p 1 ≥ -268435456) && decide (p 1 ≤ 268435456)))) := rfl
  obtain ⟨p0, ep0⟩ : ∃ z, p 0 = z := ⟨_, rfl⟩
  have Cp0 := cell_is (n := 2) ep0 (by decide)
  obtain ⟨p1, ep1⟩ : ∃ z, p 1 = z := ⟨_, rfl⟩
  have Cp1 := cell_is (n := 2) ep1 (by decide)
  rw [ep0, ep1] at HE
  clear ep0 ep1
  have g0 : decide (-268435456 ≤ p0) = decide (p0 ≥ -268435456) := rfl
  cases z0 : decide (p0 ≥ -268435456)
  · rw [z0] at HE g0
    replace HE := Lib.hid HE
    go_enter Try.func20, Try.ntmps20
    go_wp2_with (first | ((with_reducible refine at_box 1 ?_); refine wpList_box_own O (M.mat 2 (p)) rfl ?_; clear O; intro g1 w1 O) | ((with_reducible refine at_load 4 ?_); refine wpList_cell_h (v := .int .i64 (p0)) rfl O.held 0 rfl Cp0.out rfl agg3 rfl ?_))
    go_ret
    exact ⟨by rw [HE.out]; first | done | rfl, O.below⟩
  rw [z0] at HE g0
  cases z1 : decide (p0 ≤ 268435456)
  · rw [z1] at HE
    replace HE := Lib.hid HE
    go_enter Try.func20, Try.ntmps20
    go_wp2_with (first | ((with_reducible refine at_box 1 ?_); refine wpList_box_own O (M.mat 2 (p)) rfl ?_; clear O; intro g1 w1 O) | ((with_reducible refine at_load 4 ?_); refine wpList_cell_h (v := .int .i64 (p0)) rfl O.held 0 rfl Cp0.out rfl agg3 rfl ?_) | ((with_reducible refine at_load 8 ?_); refine wpList_cell_h (v := .int .i64 (p0)) rfl O.held 0 rfl Cp0.out rfl agg3 rfl ?_))
    go_ret
    exact ⟨by rw [HE.out]; first | done | rfl, O.below⟩
  rw [z1] at HE
  have g2 : decide (-268435456 ≤ p1) = decide (p1 ≥ -268435456) := rfl
  cases z2 : decide (p1 ≥ -268435456)
  · rw [z2] at HE g2
    replace HE := Lib.hid HE
    go_enter Try.func20, Try.ntmps20
    go_wp2_with (first | ((with_reducible refine at_box 1 ?_); refine wpList_box_own O (M.mat 2 (p)) rfl ?_; clear O; intro g1 w1 O) | ((with_reducible refine at_load 4 ?_); refine wpList_cell_h (v := .int .i64 (p0)) rfl O.held 0 rfl Cp0.out rfl agg3 rfl ?_) | ((with_reducible refine at_load 8 ?_); refine wpList_cell_h (v := .int .i64 (p0)) rfl O.held 0 rfl Cp0.out rfl agg3 rfl ?_) | ((with_reducible refine at_load 13 ?_); refine wpList_cell_h (v := .int .i64 (p1)) rfl O.held 0 rfl Cp1.out rfl agg3 rfl ?_))
    go_ret
    exact ⟨by rw [HE.out]; first | done | rfl, O.below⟩
  rw [z2] at HE g2
  cases z3 : decide (p1 ≤ 268435456)
  all_goals
    rw [z3] at HE
    replace HE := Lib.hid HE
    go_enter Try.func20, Try.ntmps20
    go_wp2_with (first | ((with_reducible refine at_box 1 ?_); refine wpList_box_own O (M.mat 2 (p)) rfl ?_; clear O; intro g1 w1 O) | ((with_reducible refine at_load 4 ?_); refine wpList_cell_h (v := .int .i64 (p0)) rfl O.held 0 rfl Cp0.out rfl agg3 rfl ?_) | ((with_reducible refine at_load 8 ?_); refine wpList_cell_h (v := .int .i64 (p0)) rfl O.held 0 rfl Cp0.out rfl agg3 rfl ?_) | ((with_reducible refine at_load 13 ?_); refine wpList_cell_h (v := .int .i64 (p1)) rfl O.held 0 rfl Cp1.out rfl agg3 rfl ?_) | ((with_reducible refine at_load 18 ?_); refine wpList_cell_h (v := .int .i64 (p1)) rfl O.held 0 rfl Cp1.out rfl agg3 rfl ?_))
    go_ret
    exact ⟨by rw [HE.out]; first | done | rfl, O.below⟩
set_option maxHeartbeats 4000000 in
theorem lnear20 (p : Nat → Int) (w : World) : Calls Try.prog 17 #[arr 2 p] w fun e w' => e = .returned (.bool (TR.nearB p)) ∧ Below w.heap.size w w' := by
  have O := Own.start w
  have HE : TR.nearB p = (decide (p 0 ≥ -4194304) && (decide (p 0 ≤ 4194304) && (decide (p 1 ≥ -4194304) && decide (p 1 ≤ 4194304)))) := rfl
  obtain ⟨p0, ep0⟩ : ∃ z, p 0 = z := ⟨_, rfl⟩
  have Cp0 := cell_is (n := 2) ep0 (by decide)
  obtain ⟨p1, ep1⟩ : ∃ z, p 1 = z := ⟨_, rfl⟩
  have Cp1 := cell_is (n := 2) ep1 (by decide)
  rw [ep0, ep1] at HE
  clear ep0 ep1
  have g0 : decide (-4194304 ≤ p0) = decide (p0 ≥ -4194304) := rfl
  cases z0 : decide (p0 ≥ -4194304)
  · rw [z0] at HE g0
    replace HE := Lib.hid HE
    go_enter Try.func17, Try.ntmps17
    go_wp2_with (first | ((with_reducible refine at_box 1 ?_); refine wpList_box_own O (M.mat 2 (p)) rfl ?_; clear O; intro g1 w1 O) | ((with_reducible refine at_load 4 ?_); refine wpList_cell_h (v := .int .i64 (p0)) rfl O.held 0 rfl Cp0.out rfl agg3 rfl ?_))
    go_ret
    exact ⟨by rw [HE.out]; first | done | rfl, O.below⟩
  rw [z0] at HE g0
  cases z1 : decide (p0 ≤ 4194304)
  · rw [z1] at HE
    replace HE := Lib.hid HE
    go_enter Try.func17, Try.ntmps17
    go_wp2_with (first | ((with_reducible refine at_box 1 ?_); refine wpList_box_own O (M.mat 2 (p)) rfl ?_; clear O; intro g1 w1 O) | ((with_reducible refine at_load 4 ?_); refine wpList_cell_h (v := .int .i64 (p0)) rfl O.held 0 rfl Cp0.out rfl agg3 rfl ?_) | ((with_reducible refine at_load 8 ?_); refine wpList_cell_h (v := .int .i64 (p0)) rfl O.held 0 rfl Cp0.out rfl agg3 rfl ?_))
    go_ret
    exact ⟨by rw [HE.out]; first | done | rfl, O.below⟩
  rw [z1] at HE
  have g2 : decide (-4194304 ≤ p1) = decide (p1 ≥ -4194304) := rfl
  cases z2 : decide (p1 ≥ -4194304)
  · rw [z2] at HE g2
    replace HE := Lib.hid HE
    go_enter Try.func17, Try.ntmps17
    go_wp2_with (first | ((with_reducible refine at_box 1 ?_); refine wpList_box_own O (M.mat 2 (p)) rfl ?_; clear O; intro g1 w1 O) | ((with_reducible refine at_load 4 ?_); refine wpList_cell_h (v := .int .i64 (p0)) rfl O.held 0 rfl Cp0.out rfl agg3 rfl ?_) | ((with_reducible refine at_load 8 ?_); refine wpList_cell_h (v := .int .i64 (p0)) rfl O.held 0 rfl Cp0.out rfl agg3 rfl ?_) | ((with_reducible refine at_load 13 ?_); refine wpList_cell_h (v := .int .i64 (p1)) rfl O.held 0 rfl Cp1.out rfl agg3 rfl ?_))
    go_ret
    exact ⟨by rw [HE.out]; first | done | rfl, O.below⟩
  rw [z2] at HE g2
  cases z3 : decide (p1 ≤ 4194304)
  all_goals
    rw [z3] at HE
    replace HE := Lib.hid HE
    go_enter Try.func17, Try.ntmps17
    go_wp2_with (first | ((with_reducible refine at_box 1 ?_); refine wpList_box_own O (M.mat 2 (p)) rfl ?_; clear O; intro g1 w1 O) | ((with_reducible refine at_load 4 ?_); refine wpList_cell_h (v := .int .i64 (p0)) rfl O.held 0 rfl Cp0.out rfl agg3 rfl ?_) | ((with_reducible refine at_load 8 ?_); refine wpList_cell_h (v := .int .i64 (p0)) rfl O.held 0 rfl Cp0.out rfl agg3 rfl ?_) | ((with_reducible refine at_load 13 ?_); refine wpList_cell_h (v := .int .i64 (p1)) rfl O.held 0 rfl Cp1.out rfl agg3 rfl ?_) | ((with_reducible refine at_load 18 ?_); refine wpList_cell_h (v := .int .i64 (p1)) rfl O.held 0 rfl Cp1.out rfl agg3 rfl ?_))
    go_ret
    exact ⟨by rw [HE.out]; first | done | rfl, O.below⟩
set_option maxHeartbeats 4000000 in
theorem lfits20 (t : Nat → Int) (w : World) : Calls Try.prog 8 #[arr 6 t] w fun e w' => e = .returned (.bool (TR.fitB t)) ∧ Below w.heap.size w w' := by
  have O := Own.start w
  have CA := fun w => lmay20 (D.sub 0 t) w
  have CB := fun w => lmay20 (D.sub 2 t) w
  have CC := fun w => lmay20 (D.sub 4 t) w
  unfold TR.fitB
  generalize TR.mayB (D.sub 0 t) = z0 at *
  generalize TR.mayB (D.sub 2 t) = z1 at *
  generalize TR.mayB (D.sub 4 t) = z2 at *
  have t0 : True := trivial
  cases z0
  · go_enter Try.func8, Try.ntmps8
    go_wp2_with (first | ((with_reducible refine at_box 1 ?_); refine wpList_box_own O (M.mat 6 (t)) rfl ?_; clear O; intro g1 w1 O) | ((with_reducible refine at_load 4 ?_); refine wpList_mid_h rfl O.held 0 rfl (M.mat 2 (D.sub 0 t)) (mat_sub t (by decide)) rfl Try.underlying23 rfl (sN20 _) ?_) | (go_at_call 20; clear t0; have t1 : True := trivial; refine (CA _).mono ?_; rintro e w2 ⟨rfl, hb⟩; replace O := O.call hb; clear hb))
    go_ret
    exact ⟨rfl, O.below⟩
  cases z1
  · go_enter Try.func8, Try.ntmps8
    go_wp2_with (first | ((with_reducible refine at_box 1 ?_); refine wpList_box_own O (M.mat 6 (t)) rfl ?_; clear O; intro g1 w1 O) | ((with_reducible refine at_load 4 ?_); refine wpList_mid_h rfl O.held 0 rfl (M.mat 2 (D.sub 0 t)) (mat_sub t (by decide)) rfl Try.underlying23 rfl (sN20 _) ?_) | (go_at_call 20; clear t0; have t1 : True := trivial; refine (CA _).mono ?_; rintro e w2 ⟨rfl, hb⟩; replace O := O.call hb; clear hb) | ((with_reducible refine at_load 8 ?_); refine wpList_mid_h rfl O.held 0 rfl (M.mat 2 (D.sub 2 t)) (mat_sub t (by decide)) rfl Try.underlying23 rfl (sN20 _) ?_) | (go_at_call 20; clear t1; have t2 : True := trivial; refine (CB _).mono ?_; rintro e w3 ⟨rfl, hb⟩; replace O := O.call hb; clear hb))
    go_ret
    exact ⟨rfl, O.below⟩
  cases z2
  all_goals
    go_enter Try.func8, Try.ntmps8
    go_wp2_with (first | ((with_reducible refine at_box 1 ?_); refine wpList_box_own O (M.mat 6 (t)) rfl ?_; clear O; intro g1 w1 O) | ((with_reducible refine at_load 4 ?_); refine wpList_mid_h rfl O.held 0 rfl (M.mat 2 (D.sub 0 t)) (mat_sub t (by decide)) rfl Try.underlying23 rfl (sN20 _) ?_) | (go_at_call 20; clear t0; have t1 : True := trivial; refine (CA _).mono ?_; rintro e w2 ⟨rfl, hb⟩; replace O := O.call hb; clear hb) | ((with_reducible refine at_load 8 ?_); refine wpList_mid_h rfl O.held 0 rfl (M.mat 2 (D.sub 2 t)) (mat_sub t (by decide)) rfl Try.underlying23 rfl (sN20 _) ?_) | (go_at_call 20; clear t1; have t2 : True := trivial; refine (CB _).mono ?_; rintro e w3 ⟨rfl, hb⟩; replace O := O.call hb; clear hb) | ((with_reducible refine at_load 13 ?_); refine wpList_mid_h rfl O.held 0 rfl (M.mat 2 (D.sub 4 t)) (mat_sub t (by decide)) rfl Try.underlying23 rfl (sN20 _) ?_) | (go_at_call 20; clear t2; have t3 : True := trivial; refine (CC _).mono ?_; rintro e w4 ⟨rfl, hb⟩; replace O := O.call hb; clear hb))
    go_ret
    exact ⟨rfl, O.below⟩
namespace TR
def ex : List (Nat → Int) := spans (wn 0 0) (wn 512 0) (wn 0 512) (RC.mk (-3) (-3) 5 5)
theorem ex_one : ex.map (fun f => M.mat 3 f) = [M.mat 3 (sp 0 0 1)] := by kernel_rfl
theorem ex_area : ar (wn 0 0) (wn 512 0) (wn 0 512) = 262144 := by decide +kernel
theorem ex_ra : RC.area (RC.mk (-3) (-3) 5 5) ≤ 100000 := by decide +kernel
theorem ex_may {x y : Int} (hx : 0 ≤ x ∧ x ≤ 512) (hy : 0 ≤ y ∧ y ≤ 512) : May (wn x y) := by
  show (-268435456 ≤ x ∧ x ≤ 268435456) ∧ (-268435456 ≤ y ∧ y ≤ 268435456)
  omega
end TR
theorem builtW20a : Try.prog.built 34 [] = some (M.mat 7 (TR.wn 0 0)).toArray := by kernel_rfl
theorem builtW20b : Try.prog.built 34 [(0, .int .i64 512)] = some (M.mat 7 (TR.wn 512 0)).toArray := by kernel_rfl
theorem builtW20c : Try.prog.built 34 [(1, .int .i64 512)] = some (M.mat 7 (TR.wn 0 512)).toArray := by kernel_rfl
theorem builtS20e : Try.prog.built 52 [(2, .int .i64 1)] = some (M.mat 3 (TR.sp 0 0 1)).toArray := by kernel_rfl
theorem one_list {l : List (Nat → Int)} {f : Nat → Int} (h : l.map (fun f => M.mat 3 f) = [M.mat 3 f]) : l.length = 1 ∧ sC_ l = sC_ [f] := by
  constructor
  · have := congrArg List.length h
    simpa using this
  · have := congrArg List.flatten h
    simpa [sC_, List.flatMap] using this
set_option maxRecDepth 100000 in
set_option maxHeartbeats 8000000 in
theorem lawake20 (w : World) : Calls Try.prog 10 #[] w fun e w' => e = .returned (.bool true) ∧ Below w.heap.size w w' := by
  have O := Held.start w [] (by simp)
  have M1 := TR.ex_may (x := 0) (y := 0) (by decide) (by decide)
  have M2 := TR.ex_may (x := 512) (y := 0) (by decide) (by decide)
  have M3 := TR.ex_may (x := 0) (y := 512) (by decide) (by decide)
  have CL := fun w => pspans20_any (TR.wn 0 0) (TR.wn 512 0) (TR.wn 0 512) (RC.mk (-3) (-3) 5 5) M1 M2 M3 TR.ex_ra w
  change ∀ w, Calls _ _ _ w (RetS w TR.ex) at CL
  have CA := fun w => parea20_any (TR.wn 0 0) (TR.wn 512 0) (TR.wn 0 512) M1 M2 M3 w
  rw [TR.ex_area] at CA
  obtain ⟨hl, hc⟩ := one_list TR.ex_one
  have CS := fun (lo1 lo2 : Nat) (A1 A2 : Option Addr) (c1 c2 : Nat) (w : World) (h1 : Lies w free (sE_ lo1 A1 c1 [TR.sp 0 0 1])) (h2 : Lies w free (sE_ lo2 A2 c2 [TR.sp 0 0 1])) => rsameS20 [TR.sp 0 0 1] (by decide) w h1 h2
  have HL := Lib.hid (fun (lo : Nat) (A : Option Addr) (c : Nat) => (by unfold sE_; rw [hl, hc]; rfl : sE_ lo A c TR.ex = sE_ lo A c [TR.sp 0 0 1]))
  have HN := Lib.hid hl
  clear hl hc M1 M2 M3
  generalize TR.ex = l at *
  go_enter Try.func10, Try.ntmps10
  go_wp2_with (first | ((with_reducible refine at_build 2 ?_); refine wpList_build_g rfl ([]) ((M.mat 7 (TR.wn 0 0)).toArray) ?_ (builtW20a) ?_; (focus (simp only [List.map_toArray, List.map_cons, List.map_nil]; rfl))) | ((with_reducible refine at_build 3 ?_); refine wpList_build_g rfl ([(0, .int .i64 512)]) ((M.mat 7 (TR.wn 512 0)).toArray) ?_ (builtW20b) ?_; (focus (simp only [List.map_toArray, List.map_cons, List.map_nil]; rfl))) | ((with_reducible refine at_build 4 ?_); refine wpList_build_g rfl ([(1, .int .i64 512)]) ((M.mat 7 (TR.wn 0 512)).toArray) ?_ (builtW20c) ?_; (focus (simp only [List.map_toArray, List.map_cons, List.map_nil]; rfl))) | ((with_reducible refine at_build 5 ?_); refine wpList_build_g rfl ([(0, .int .i64 (-3)), (1, .int .i64 (-3)), (2, .int .i64 5), (3, .int .i64 5)]) ((M.mat 4 (RC.mk (-3) (-3) 5 5)).toArray) ?_ (builtR17 _ _ _ _) ?_; (focus (simp only [List.map_toArray, List.map_cons, List.map_nil]; rfl))) | (go_at_call 13; refine (CL _).mono ?_; rintro e w1 ⟨VA, vc, rfl, hV, hb⟩; rw [HN.out]; rw [HL.out] at hV; have O2 := O.gain hb hV; clear O hb hV; have O := O2; clear O2) | ((with_reducible refine at_build 8 ?_); refine wpList_build_g rfl ([(2, .int .i64 1)]) ((M.mat 3 (TR.sp 0 0 1)).toArray) ?_ (builtS20e) ?_; (focus (simp only [List.map_toArray, List.map_cons, List.map_nil]; rfl))) | ((with_reducible refine at_lit 9 ?_); refine wpList_lit_h rfl O 3 (.agg (M.mat 3 M.zero).toArray) infoS20 Try.underlying37 [(0, arr 3 (TR.sp 0 0 1))] (sC_ [TR.sp 0 0 1]) rfl (sC_len _) (by decide) (by decide) (by kernel_rfl) ?_; clear O; intro g89 u5 O) | ((with_reducible refine at_build 12 ?_); refine wpList_build_g rfl ([]) ((M.mat 7 (TR.wn 0 0)).toArray) ?_ (builtW20a) ?_; (focus (simp only [List.map_toArray, List.map_cons, List.map_nil]; rfl))) | ((with_reducible refine at_build 13 ?_); refine wpList_build_g rfl ([(0, .int .i64 512)]) ((M.mat 7 (TR.wn 512 0)).toArray) ?_ (builtW20b) ?_; (focus (simp only [List.map_toArray, List.map_cons, List.map_nil]; rfl))) | ((with_reducible refine at_build 14 ?_); refine wpList_build_g rfl ([(1, .int .i64 512)]) ((M.mat 7 (TR.wn 0 512)).toArray) ?_ (builtW20c) ?_; (focus (simp only [List.map_toArray, List.map_cons, List.map_nil]; rfl))) | (go_at_call 12; refine (CS _ _ _ _ _ _ _ (O.arg (List.mem_cons_of_mem _ List.mem_cons_self)) (O.arg List.mem_cons_self)).mono ?_; rintro e w9 ⟨rfl, hb⟩; replace O := O.call hb; clear hb) | (go_at_call 15; refine (CA _).mono ?_; rintro e w10 ⟨rfl, hb⟩; replace O := O.call hb; clear hb))
  go_ret
  exact ⟨rfl, O.below⟩
set_option maxRecDepth 100000
theorem oT20 : Try.prog.cellsOf 25 = 6 := by kernel_rfl
theorem oN20 : Try.prog.cellsOf 23 = 2 := by kernel_rfl
theorem oA20 : Try.prog.cellsOf 41 = 2 := by kernel_rfl
section
variable {H : Type} {enc : TypeId × Value → H} {w : World}
theorem pt_of {fuel : Nat} {cs : List Value} {x : DataW H × List MemPlace} (hf : DataW.trod enc Try.prog w 0 (fun _ => true) true fuel 23 cs = some x) : ∃ a b : Int, cs = [.int .i64 a, .int .i64 b] := by
  obtain ⟨xs, k, _, hx, hlen, hxl, hg⟩ := DataW.trod_struct Try.underlying23 hf
  rw [oN20] at hlen
  match cs, hlen with
  | [v0, v1], _ =>
    have g0 := hg 0 _ rfl
    have g1 := hg 1 _ rfl
    simp [o3] at g0 g1
    match xs, hxl with
    | [y0, y1], _ =>
      obtain ⟨m0, e0, _, _⟩ := DataW.trod_int Try.underlying3 g0
      obtain ⟨m1, e1, _, _⟩ := DataW.trod_int Try.underlying3 g1
      simp at e0 e1
      subst e0 e1
      exact ⟨m0, m1, rfl⟩
def six (a b c d e f : Int) (i : Nat) : Int := if i = 0 then a else if i = 1 then b else if i = 2 then c else if i = 3 then d else if i = 4 then e else f
theorem tri_of {fuel : Nat} {cs : List Value} {x : DataW H × List MemPlace} (hf : DataW.trod enc Try.prog w 0 (fun _ => true) true fuel 25 cs = some x) : ∃ a : Nat → Int, cs = M.mat 6 a := by
  obtain ⟨xs, k, _, hx, hlen, hxl, hg⟩ := DataW.trod_struct Try.underlying25 hf
  rw [oT20] at hlen
  match cs, hlen with
  | [v0, v1, v2, v3, v4, v5], _ =>
    have g0 := hg 0 _ rfl
    have g1 := hg 1 _ rfl
    have g2 := hg 2 _ rfl
    simp [oN20] at g0 g1 g2
    match xs, hxl with
    | [y0, y1, y2], _ =>
      obtain ⟨a0, a1, e0⟩ := pt_of g0
      obtain ⟨b0, b1, e1⟩ := pt_of g1
      obtain ⟨c0, c1, e2⟩ := pt_of g2
      simp at e0 e1 e2
      obtain ⟨rfl, rfl⟩ := e0
      obtain ⟨rfl, rfl⟩ := e1
      obtain ⟨rfl, rfl⟩ := e2
      exact ⟨six a0 a1 b0 b1 c0 c1, rfl⟩
variable {r : Reach} {b0 : Nat} {v : Value} {d : DataW H} {p : List MemPlace}
theorem openTri (hv : Value.okWide Try.prog w r b0 25 v) (h : DataW.Trod enc Try.prog w 0 (fun _ => true) true 25 v d p) : ∃ a : Nat → Int, v = arr 6 a := by
  obtain ⟨cs, rfl, hsz⟩ := okWide_struct Try.underlying25 hv
  obtain ⟨fuel, hf⟩ := h
  obtain ⟨a, ha⟩ := tri_of hf
  refine ⟨a, ?_⟩
  obtain ⟨l⟩ := cs
  have : l = M.mat 6 a := ha
  rw [this]
theorem openPt (hv : Value.okWide Try.prog w r b0 23 v) (h : DataW.Trod enc Try.prog w 0 (fun _ => true) true 23 v d p) : ∃ a : Nat → Int, v = arr 2 a := by
  obtain ⟨cs, rfl, hsz⟩ := okWide_struct Try.underlying23 hv
  obtain ⟨fuel, hf⟩ := h
  obtain ⟨x, y, ha⟩ := pt_of hf
  refine ⟨DM.t2 x y, ?_⟩
  obtain ⟨l⟩ := cs
  have : l = M.mat 2 (DM.t2 x y) := ha
  rw [this]
theorem openSRect (hv : Value.okWide Try.prog w r b0 27 v) (h : DataW.Trod enc Try.prog w 0 (fun _ => true) true 27 v d p) : ∃ a : Nat → Int, v = arr 4 a := by
  obtain ⟨cs, rfl, hsz⟩ := okWide_struct Try.underlying27 hv
  obtain ⟨fuel, hf⟩ := h
  obtain ⟨a, ha⟩ := rect_of hf
  refine ⟨a, ?_⟩
  obtain ⟨l⟩ := cs
  have : l = M.mat 4 a := ha
  rw [this]
theorem openAt (hv : Value.okWide Try.prog w r b0 41 v) (h : DataW.Trod enc Try.prog w 0 (fun _ => true) true 41 v d p) : ∃ a : Nat → Int, v = arr 2 a := by
  simp only [Value.okWide, Try.underlying41] at hv
  obtain ⟨cs, rfl, hsz, _⟩ := hv
  obtain ⟨fuel, hf⟩ := h
  obtain ⟨a, ha, -⟩ := some_of Try.underlying41 oA20 hf
  refine ⟨a, ?_⟩
  obtain ⟨l⟩ := cs
  have : l = M.mat 2 a := ha
  rw [this]
end
end Go.Proofs.Ytndaijcgjhmiaaa
