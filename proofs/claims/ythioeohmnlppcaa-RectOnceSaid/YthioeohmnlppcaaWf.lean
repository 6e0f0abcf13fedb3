/- Contracts: Minus, twice. -/
import Derived.Test.YthioeohmnlppcaaWe
import Derived.Test.YthioeohmnlppcaaNb
namespace Go.Proofs.Ythioeohmnlppcaa
open Go.ChangeShapes Go.WideShapes Go.ChangeAt Go.RowKit
set_option linter.unusedVariables false
set_option linter.unusedSimpArgs false

namespace RC
/-- Two numbers of a rectangle written: X0, X1. -/
def w2 (c : Nat → Int) (x y : Int) (a b : Bool) (i : Nat) : Int := if i = 0 then (if a then x else c 0) else if i = 2 then (if b then y else c 2) else c i
theorem w2_0 (c : Nat → Int) (x y : Int) : w2 c x y false false = c := funext fun i => by
  rw [w2]
  split
  · rename_i h; rw [h]; rfl
  · split
    · rename_i h; rw [h]; rfl
    · rfl
theorem w2_a (c : Nat → Int) (x y : Int) (b : Bool) : (M.mat 4 (w2 c x y false b)).set 0 (.int .i64 x) = M.mat 4 (w2 c x y true b) :=
  M.mat_set_to (by decide) rfl fun j _ hj => by simp only [w2, if_neg hj]
theorem w2_b (c : Nat → Int) (x y : Int) (a : Bool) : (M.mat 4 (w2 c x y a false)).set 2 (.int .i64 y) = M.mat 4 (w2 c x y a true) :=
  M.mat_set_to (by decide) rfl fun j _ hj => by simp only [w2, if_neg hj]
theorem mk_same {r : Nat → Int} {x0 y0 x1 y1 : Int} (e0 : r 0 = x0) (e1 : r 1 = y0) (e2 : r 2 = x1) (e3 : r 3 = y1) : M.mat 4 r = M.mat 4 (mk x0 y0 x1 y1) := M.mat_ext fun i hi => by
  rcases (by omega : i = 0 ∨ i = 1 ∨ i = 2 ∨ i = 3) with rfl | rfl | rfl | rfl
  · exact e0
  · exact e1
  · exact e2
  · exact e3
theorem mk_set1 (x0 y0 x1 y1 z : Int) : (M.mat 4 (mk x0 y0 x1 y1)).set 1 (.int .i64 z) = M.mat 4 (mk x0 z x1 y1) :=
  M.mat_set_to (by decide) rfl fun j _ hj => by simp only [mk, if_neg hj]
theorem mk_set3 (x0 y0 x1 y1 z : Int) : (M.mat 4 (mk x0 y0 x1 y1)).set 3 (.int .i64 z) = M.mat 4 (mk x0 y0 x1 z) :=
  M.mat_set_to (by decide) rfl fun j hj4 hj => by
    rcases (by omega : j = 0 ∨ j = 1 ∨ j = 2) with rfl | rfl | rfl <;> rfl
theorem w2_mk {c : Nat → Int} {y0 y1 : Int} (x y : Int) (e1 : c 1 = y0) (e3 : c 3 = y1) : M.mat 4 (w2 c x y true true) = M.mat 4 (mk x y0 y y1) := mk_same rfl e1 rfl e3
theorem zero_no {c : Nat → Int} (h : right c = true) : M.eqB 4 c M.zero = false := by
  rw [← Bool.not_eq_true, M.eqB_iff]
  intro hz
  have h1 := right_iff.1 h
  have h2 := hz 0 (by omega)
  have h3 := hz 2 (by omega)
  simp only [M.zero] at h2 h3
  omega
theorem minus_yes {a b : Nat → Int} {a0 a1 a2 a3 c0 c1 c2 c3 : Int} (h : right (both a b) = true) (e0 : a 0 = a0) (e1 : a 1 = a1) (e2 : a 2 = a2) (e3 : a 3 = a3) (f0 : both a b 0 = c0) (f1 : both a b 1 = c1) (f2 : both a b 2 = c2) (f3 : both a b 3 = c3) :
    minus a b = those [mk a0 a1 a2 c1, mk a0 c3 a2 a3, mk a0 c1 c0 c3, mk c2 c1 a2 c3] := by
  rw [minus, if_pos h, round, e0, e1, e2, e3, f0, f1, f2, f3]
theorem minus_no {a b : Nat → Int} (h : right (both a b) = false) : minus a b = those [a] := by rw [minus, if_neg (by rw [h]; decide)]
theorem both_zero {a b : Nat → Int} (h : right (both a b) = false) : both a b = M.zero := by
  rcases both_cases a b with ⟨_, _, _, _, h2⟩ | ⟨h2, _⟩
  · rw [h] at h2; cases h2
  · exact h2
end RC
theorem Own.as {w0 w : World} {l l' : List (Nat × TypeId × List Value)} (h : Own w0 w l) (e : l = l') : Own w0 w l' := e ▸ h
theorem RetR.up {w w1 w2 : World} {l : List (Nat → Int)} {e : Ending} (h : RetR w1 l e w2) (hb : Below w.heap.size w w1) : RetR w l e w2 := by
  obtain ⟨A, c, rfl, hL, h2⟩ := h
  exact ⟨A, c, rfl, hL.low hb.size, hb.trans (h2.mono hb.size)⟩
set_option maxRecDepth 100000 in
set_option maxHeartbeats 16000000 in
theorem minus_any (a b : Nat → Int) (w : World) : Calls Try.prog 19 #[arr 4 a, arr 4 b] w (RetR w (RC.minus a b)) := by
  have O := Own.start w
  have C := fun w => and_any a b w
  cases hr : RC.right (RC.both a b)
  · have HE := Lib.hid (RC.minus_no hr)
    have CP := fun (A : Option Addr) c w hL => ((withPixels_any [a] (by simp) (A := A) (c := c) (lo := 0) w hL) : Calls Try.prog 25 #[.slice A 1 c] w _)
    obtain ⟨R, hR⟩ : ∃ R, RC.those [a] = R := ⟨_, rfl⟩
    rw [hR] at HE CP
    clear hR
    rw [RC.both_zero hr] at C
    clear hr
    go_enter Try.func19, Try.ntmps19
    go_wp2_with (first | ((with_reducible refine at_box 2 ?_); refine wpList_box_own O (M.mat 4 (a)) rfl ?_; clear O; intro g2 w1 O) | ((with_reducible refine at_box 3 ?_); refine wpList_box_own O (M.mat 4 (b)) rfl ?_; clear O; intro g3 w2 O) | ((with_reducible refine at_load 10 ?_); refine wpList_whole rfl O 1 rfl rfl Try.underlying23 rfl (sR _) ?_) | ((with_reducible refine at_load 11 ?_); refine wpList_whole rfl O 0 rfl rfl Try.underlying23 rfl (sR _) ?_) | (go_at_call 16; refine (C _).mono ?_; rintro e w3 ⟨rfl, hb⟩; replace O := O.call hb; clear hb) | ((with_reducible refine at_alloc 5 ?_); refine wpList_alloc_own O (M.mat 4 M.zero) zeroR ?_; clear O; intro g5 w4 O) | ((with_reducible refine at_store 5 ?_); refine wpList_put_own O 0 (M.mat 4 (M.zero)) rfl rfl rfl (sR _) (M.mat_len2 _ _ _) (M.mat_one _ _) ?_; clear O; intro w5 O) | ((with_reducible refine at_load 13 ?_); refine wpList_whole rfl O 0 rfl rfl Try.underlying23 rfl (sR _) ?_) | ((with_reducible refine at_build 14 ?_); refine wpList_build_g rfl ([]) ((M.mat 4 M.zero).toArray) ?_ (builtRz) ?_; (focus (simp only [List.map_toArray, List.map_cons, List.map_nil]; rfl))) | ((with_reducible refine at_binOp 15 ?_); refine wpList_eqR rfl (M.zero) (M.zero) rfl rfl ?_; rw [M.eqB_refl]; replace O := O.held) | ((with_reducible refine at_load 16 ?_); refine wpList_rowg_h rfl O 2 rfl rfl Try.underlying23 rfl (sR _) ?_) | ((with_reducible refine at_lit 17 ?_); refine wpList_lit_h rfl O 4 (.agg (M.mat 4 M.zero).toArray) infoR Try.underlying34 ([(0, arr 4 a)]) (rC [a]) rfl (rC_len _) (by decide) (by decide) (by kernel_rfl) ?_; clear O; intro gl u5 O) | (go_at_call 25; refine (CP _ _ _ (Lies.low (O.arg List.mem_cons_self) (Nat.zero_le _))).mono ?_; intro e w9 hR; obtain ⟨VA, vc, rfl, hV, hb⟩ := RetR.up hR O.below; clear hR))
    go_ret
    rw [HE.out]
    exact ⟨VA, vc, rfl, hV, hb⟩
  · obtain ⟨a0, ea0⟩ : ∃ z, a 0 = z := ⟨_, rfl⟩
    have Ca0 := cell_is (n := 4) ea0 (by decide)
    obtain ⟨a1, ea1⟩ : ∃ z, a 1 = z := ⟨_, rfl⟩
    have Ca1 := cell_is (n := 4) ea1 (by decide)
    obtain ⟨a2, ea2⟩ : ∃ z, a 2 = z := ⟨_, rfl⟩
    have Ca2 := cell_is (n := 4) ea2 (by decide)
    obtain ⟨a3, ea3⟩ : ∃ z, a 3 = z := ⟨_, rfl⟩
    have Ca3 := cell_is (n := 4) ea3 (by decide)
    obtain ⟨c, hc⟩ : ∃ c, RC.both a b = c := ⟨_, rfl⟩
    have HM := fun e0 e1 e2 e3 f0 f1 f2 f3 => RC.minus_yes (a := a) (b := b) (a0 := a0) (a1 := a1) (a2 := a2) (a3 := a3) (c0 := c 0) (c1 := c 1) (c2 := c 2) (c3 := c 3) hr e0 e1 e2 e3 f0 f1 f2 f3
    rw [hc] at C hr HM
    obtain ⟨c0, ec0⟩ : ∃ z, c 0 = z := ⟨_, rfl⟩
    have Cc0 := cell_is (n := 4) ec0 (by decide)
    obtain ⟨c1, ec1⟩ : ∃ z, c 1 = z := ⟨_, rfl⟩
    have Cc1 := cell_is (n := 4) ec1 (by decide)
    obtain ⟨c2, ec2⟩ : ∃ z, c 2 = z := ⟨_, rfl⟩
    have Cc2 := cell_is (n := 4) ec2 (by decide)
    obtain ⟨c3, ec3⟩ : ∃ z, c 3 = z := ⟨_, rfl⟩
    have Cc3 := cell_is (n := 4) ec3 (by decide)
    have HE := Lib.hid (HM ea0 ea1 ea2 ea3 rfl rfl rfl rfl)
    rw [ec0, ec1, ec2, ec3] at HE
    have HZ := Lib.hid (RC.zero_no hr)
    clear HM hr hc
    have CP := fun (A : Option Addr) c w hL => ((withPixels_any [RC.mk a0 a1 a2 c1, RC.mk a0 c3 a2 a3, RC.mk a0 c1 c0 c3, RC.mk c2 c1 a2 c3] (by simp) (A := A) (c := c) (lo := 0) w hL) : Calls Try.prog 25 #[.slice A 4 c] w _)
    obtain ⟨R, hR⟩ : ∃ R, RC.those [RC.mk a0 a1 a2 c1, RC.mk a0 c3 a2 a3, RC.mk a0 c1 c0 c3, RC.mk c2 c1 a2 c3] = R := ⟨_, rfl⟩
    rw [hR] at HE CP
    clear hR
    have MA := RC.mk_same ea0 ea1 ea2 ea3
    have SB := RC.mk_set3 a0 a1 a2 a3 c1
    have SA := RC.mk_set1 a0 a1 a2 a3 c3
    have WL := RC.w2_mk a0 c0 ec1 ec3
    have WR := RC.w2_mk c2 a2 ec1 ec3
    clear ea0 ea1 ea2 ea3 ec0 ec1 ec2 ec3
    have HD : apart [⟨4, 8, 23, M.mat 4 M.zero, M.mat 4 a⟩, ⟨5, 9, 23, M.mat 4 M.zero, M.mat 4 a⟩, ⟨6, 10, 23, M.mat 4 M.zero, M.mat 4 c⟩, ⟨7, 99, 23, M.mat 4 M.zero, M.mat 4 M.zero⟩] := (by decide : [4, 8, 5, 9, 6, 10, 7, 99].Nodup)
    replace MA := Lib.hid MA
    replace SB := Lib.hid SB
    replace SA := Lib.hid SA
    replace WL := Lib.hid WL
    replace WR := Lib.hid WR
    go_enter Try.func19, Try.ntmps19
    go_wp2_with (first | ((with_reducible refine at_box 2 ?_); refine wpList_box_own O (M.mat 4 (a)) rfl ?_; clear O; intro g2 w1 O) | ((with_reducible refine at_box 3 ?_); refine wpList_box_own O (M.mat 4 (b)) rfl ?_; clear O; intro g3 w2 O) | ((with_reducible refine at_load 10 ?_); refine wpList_whole rfl O 1 rfl rfl Try.underlying23 rfl (sR _) ?_) | ((with_reducible refine at_load 11 ?_); refine wpList_whole rfl O 0 rfl rfl Try.underlying23 rfl (sR _) ?_) | (go_at_call 16; refine (C _).mono ?_; rintro e w3 ⟨rfl, hb⟩; replace O := O.call hb; clear hb) | ((with_reducible refine at_alloc 5 ?_); refine wpList_alloc_own O (M.mat 4 M.zero) zeroR ?_; clear O; intro g5 w4 O) | ((with_reducible refine at_store 5 ?_); refine wpList_put_own O 0 (M.mat 4 (c)) rfl rfl rfl (sR _) (M.mat_len2 _ _ _) (M.mat_one _ _) ?_; clear O; intro w5 O) | ((with_reducible refine at_load 13 ?_); refine wpList_whole rfl O 0 rfl rfl Try.underlying23 rfl (sR _) ?_) | ((with_reducible refine at_build 14 ?_); refine wpList_build_g rfl ([]) ((M.mat 4 M.zero).toArray) ?_ (builtRz) ?_; (focus (simp only [List.map_toArray, List.map_cons, List.map_nil]; rfl))) | ((with_reducible refine at_binOp 15 ?_); refine wpList_eqR rfl (c) (M.zero) rfl rfl ?_; rw [HZ.out]))
    refine region_S (fun st w2 => NB w [(g5, 23, M.mat 4 c), (g3, 23, M.mat 4 b), (g2, 23, M.mat 4 a)] [⟨4, 8, 23, M.mat 4 M.zero, M.mat 4 a⟩, ⟨5, 9, 23, M.mat 4 M.zero, M.mat 4 a⟩, ⟨6, 10, 23, M.mat 4 M.zero, M.mat 4 c⟩, ⟨7, 99, 23, M.mat 4 M.zero, M.mat 4 M.zero⟩] st w2) [4, 5, 6, 7, 8, 9, 10] 12 11 [some 19, some 20, some 21, some 22, some 6, some 7, some 8, some 9, none, none, none] (fun g => [arr 4 a, arr 4 a, arr 4 c, arr 4 c, g 4, g 5, g 6, g 7, g 8, g 9, g 10]) 1 (by kernel_rfl) (by kernel_rfl) (by rfl) (by rfl) (fun _ => rfl) (by decide) ?_ (NB.start O.drew) (fun F hF => ?_)
    · intro i hi
      simp only [List.mem_cons, List.not_mem_nil, or_false] at hi
      rcases hi with rfl | rfl | rfl | rfl | rfl | rfl | rfl
      · exact ⟨fun _ => rfl, [0, 1, 2, 3, 5, 6, 7, 8, 9, 10], by kernel_rfl, fun g v => ⟨rfl, rfl, rfl, rfl, rfl, rfl, rfl, rfl, rfl, rfl, trivial⟩⟩
      · exact ⟨fun _ => rfl, [0, 1, 2, 3, 4, 6, 7, 8, 9, 10], by kernel_rfl, fun g v => ⟨rfl, rfl, rfl, rfl, rfl, rfl, rfl, rfl, rfl, rfl, trivial⟩⟩
      · exact ⟨fun _ => rfl, [0, 1, 2, 3, 4, 5, 7, 8, 9, 10], by kernel_rfl, fun g v => ⟨rfl, rfl, rfl, rfl, rfl, rfl, rfl, rfl, rfl, rfl, trivial⟩⟩
      · exact ⟨fun _ => rfl, [0, 1, 2, 3, 4, 5, 6, 8, 9, 10], by kernel_rfl, fun g v => ⟨rfl, rfl, rfl, rfl, rfl, rfl, rfl, rfl, rfl, rfl, trivial⟩⟩
      · exact ⟨fun _ => rfl, [0, 1, 2, 3, 4, 5, 6, 7, 9, 10], by kernel_rfl, fun g v => ⟨rfl, rfl, rfl, rfl, rfl, rfl, rfl, rfl, rfl, rfl, trivial⟩⟩
      · exact ⟨fun _ => rfl, [0, 1, 2, 3, 4, 5, 6, 7, 8, 10], by kernel_rfl, fun g v => ⟨rfl, rfl, rfl, rfl, rfl, rfl, rfl, rfl, rfl, rfl, trivial⟩⟩
      · exact ⟨fun _ => rfl, [0, 1, 2, 3, 4, 5, 6, 7, 8, 9], by kernel_rfl, fun g v => ⟨rfl, rfl, rfl, rfl, rfl, rfl, rfl, rfl, rfl, rfl, trivial⟩⟩
    simp only [fillD, Act.put, List.setIfInBounds_toArray, List.set_cons_zero, List.set_cons_succ] at hF
    have hF2 := funext hF
    clear hF
    subst hF2
    refine ⟨⟨doesN_want (by decide) rfl (fun g => rfl) (fun st w' hS hp K hK => ?_), doesN_want (by decide) rfl (fun g => rfl) (fun st w' hS hp K hK => ?_), doesN_want (by decide) rfl (fun g => rfl) (fun st w' hS hp K hK => ?_), doesN_want (by decide) rfl (fun g => rfl) (fun st w' hS hp K hK => ?_), doesC_want (by decide) rfl (fun g => rfl) (fun st w' hS hn hp K hK => ?_), doesC_want (by decide) rfl (fun g => rfl) (fun st w' hS hn hp K hK => ?_), doesC_want (by decide) rfl (fun g => rfl) (fun st w' hS hn hp K hK => ?_), doesC_want (by decide) rfl (fun g => rfl) (fun st w' hS hn hp K hK => ?_), doesC_want (by decide) rfl (fun g => rfl) (fun st w' hS hn hp K hK => ?_), doesC_want (by decide) rfl (fun g => rfl) (fun st w' hS hn hp K hK => ?_), doesC_want (by decide) rfl (fun g => rfl) (fun st w' hS hn hp K hK => ?_), trivial⟩, fun st w' hS hall => ?_⟩
    · try dsimp only
      exact wp_whole hS.own 2 rfl rfl Try.underlying23 rfl (sR _) (hK _ hS)
    · try dsimp only
      exact wp_whole hS.own 2 rfl rfl Try.underlying23 rfl (sR _) (hK _ hS)
    · try dsimp only
      exact wp_whole hS.own 0 rfl rfl Try.underlying23 rfl (sR _) (hK _ hS)
    · try dsimp only
      exact wp_whole hS.own 0 rfl rfl Try.underlying23 rfl (sR _) (hK _ hS)
    · try dsimp only
      exact hS.alloc HD 0 rfl hn zeroR hK
    · try dsimp only
      exact hS.alloc HD 1 rfl hn zeroR hK
    · try dsimp only
      exact hS.alloc HD 2 rfl hn zeroR hK
    · try dsimp only
      exact hS.alloc HD 3 rfl hn zeroR hK
    · try dsimp only
      exact hS.put HD 0 rfl (hp 4 (by decide) (by kernel_rfl)) hn rfl rfl (sR _) (M.mat_len2 _ _ _) (M.mat_one _ _) hK
    · try dsimp only
      exact hS.put HD 1 rfl (hp 5 (by decide) (by kernel_rfl)) hn rfl rfl (sR _) (M.mat_len2 _ _ _) (M.mat_one _ _) hK
    · try dsimp only
      exact hS.put HD 2 rfl (hp 6 (by decide) (by kernel_rfl)) hn rfl rfl (sR _) (M.mat_len2 _ _ _) (M.mat_one _ _) hK
    try dsimp only
    obtain ⟨g6, e6⟩ := hS.ptr 0 rfl (hall 4 (by decide))
    obtain ⟨g7, e7⟩ := hS.ptr 1 rfl (hall 5 (by decide))
    obtain ⟨g8, e8⟩ := hS.ptr 2 rfl (hall 6 (by decide))
    obtain ⟨g9, e9⟩ := hS.ptr 3 rfl (hall 7 (by decide))
    have O3 : Own w w' [(g6, 23, M.mat 4 (a)), (g7, 23, M.mat 4 (a)), (g8, 23, M.mat 4 (c)), (g9, 23, M.mat 4 (M.zero)), (g5, 23, M.mat 4 c), (g3, 23, M.mat 4 b), (g2, 23, M.mat 4 a)] := by
      have h3 := hS.2.2
      rw [nows_cons, nows_cons, nows_cons, nows_cons, NbS.now_is e6 true (hall 8 (by decide)), NbS.now_is e7 true (hall 9 (by decide)), NbS.now_is e8 true (hall 10 (by decide)), NbS.now_same e9 rfl] at h3
      exact h3
    clear hS O
    have O := O3
    clear O3
    simp only [seen, e6, e7, e8, e9, Option.getD_some]
    try generalize (st 8).getD undef = u8'
    try generalize (st 9).getD undef = u9'
    try generalize (st 10).getD undef = u10'
    clear hall e6 e7 e8 e9
    refine wpAny_want (i := 11) (by kernel_rfl) rfl (by rfl) (fun K hK => ?_)
    refine wp_put_own O 3 (M.mat 4 (c)) rfl rfl rfl (sR _) (M.mat_len2 _ _ _) (M.mat_one _ _) fun w9 O9 => hK _ _ ?_
    clear O
    have O := O9
    clear O9
    clear hK K
    try simp only [Act.put, List.setIfInBounds_toArray, List.set_cons_zero, List.set_cons_succ]
    refine wpAny_done (by kernel_rfl) ?_ _
    have O9 := Own.as O (l' := [(g6, 23, M.mat 4 (RC.mk a0 a1 a2 a3)), (g7, 23, M.mat 4 (RC.mk a0 a1 a2 a3)), (g8, 23, M.mat 4 (RC.w2 c a0 c0 false false)), (g9, 23, M.mat 4 (RC.w2 c c2 a2 false false)), (g5, 23, M.mat 4 c), (g3, 23, M.mat 4 b), (g2, 23, M.mat 4 a)]) (by rw [← MA.out, RC.w2_0, RC.w2_0] <;> rfl)
    clear O MA
    have O := O9
    clear O9
    go_wp2_with (first | ((with_reducible refine at_load 24 ?_); refine wpList_cell_h (v := .int .i64 (c1)) rfl O.held 4 rfl Cc1.out rfl agg3 rfl ?_) | ((with_reducible refine at_store 25 ?_); refine wpList_set_own O 0 (.int .i64 (c1)) rfl (by rw [M.mat_len]; omega) rfl rfl size3 rfl rfl ?_; clear O; intro w11 O; have O9 : Own w w11 [(g6, 23, M.mat 4 (RC.mk a0 a1 a2 c1)), (g7, 23, M.mat 4 (RC.mk a0 a1 a2 a3)), (g8, 23, M.mat 4 (RC.w2 c a0 c0 false false)), (g9, 23, M.mat 4 (RC.w2 c c2 a2 false false)), (g5, 23, M.mat 4 c), (g3, 23, M.mat 4 b), (g2, 23, M.mat 4 a)] := (by rw [← SB.out]; exact O); clear O; have O := O9; clear O9) | ((with_reducible refine at_load 27 ?_); refine wpList_cell_h (v := .int .i64 (c3)) rfl O.held 4 rfl Cc3.out rfl agg3 rfl ?_) | ((with_reducible refine at_store 28 ?_); refine wpList_set_own O 1 (.int .i64 (c3)) rfl (by rw [M.mat_len]; omega) rfl rfl size3 rfl rfl ?_; clear O; intro w12 O; have O9 : Own w w12 [(g6, 23, M.mat 4 (RC.mk a0 a1 a2 c1)), (g7, 23, M.mat 4 (RC.mk a0 c3 a2 a3)), (g8, 23, M.mat 4 (RC.w2 c a0 c0 false false)), (g9, 23, M.mat 4 (RC.w2 c c2 a2 false false)), (g5, 23, M.mat 4 c), (g3, 23, M.mat 4 b), (g2, 23, M.mat 4 a)] := (by rw [← SA.out]; exact O); clear O; have O := O9; clear O9))
    refine region_S (fun st w2 => Own w w2 [(g6, 23, M.mat 4 (RC.mk a0 a1 a2 c1)), (g7, 23, M.mat 4 (RC.mk a0 c3 a2 a3)), (g8, 23, M.mat 4 (RC.w2 c a0 c0 (st 5).isSome false)), (g9, 23, M.mat 4 (RC.w2 c c2 a2 false false)), (g5, 23, M.mat 4 c), (g3, 23, M.mat 4 b), (g2, 23, M.mat 4 a)]) [5] 12 7 [some 29, some 30, some 31, some 32, some 33, none, some 34] (fun g => [.pointer (some ⟨g2, 0, none⟩), .int .i64 a0, .pointer (some ⟨g5, 0, none⟩), .int .i64 c0, .pointer (some ⟨g8, 0, none⟩), g 5, .pointer (some ⟨g8, 2, none⟩)]) 1 (by kernel_rfl) (by kernel_rfl) (by rfl) (by rfl) (fun _ => rfl) (by decide) ?_ (O.drew) (fun F hF => ?_)
    · intro i hi
      simp only [List.mem_cons, List.not_mem_nil, or_false] at hi
      rcases hi with rfl
      · exact ⟨fun _ => rfl, [0, 1, 2, 3, 4, 6], by kernel_rfl, fun g v => ⟨rfl, rfl, rfl, rfl, rfl, rfl, trivial⟩⟩
    simp only [fillD, Act.put, List.setIfInBounds_toArray, List.set_cons_zero, List.set_cons_succ] at hF
    have hF2 := funext hF
    clear hF
    subst hF2
    refine ⟨⟨doesN_want (by decide) rfl (fun g => rfl) (fun st w' hS hp K hK => ?_), doesN_want (by decide) rfl (fun g => rfl) (fun st w' hS hp K hK => ?_), doesN_want (by decide) rfl (fun g => rfl) (fun st w' hS hp K hK => ?_), doesN_want (by decide) rfl (fun g => rfl) (fun st w' hS hp K hK => ?_), doesN_want (by decide) rfl (fun g => rfl) (fun st w' hS hp K hK => ?_), doesC_want (by decide) rfl (fun g => rfl) (fun st w' hS hn hp K hK => ?_), doesN_want (by decide) rfl (fun g => rfl) (fun st w' hS hp K hK => ?_), trivial⟩, fun st w' hS hall => ?_⟩
    · try dsimp only
      go_simp
      exact hK _ hS
    · try dsimp only
      exact wp_cell_h (v := .int .i64 a0) hS.held 6 rfl Ca0.out rfl agg3 rfl (hK _ hS)
    · try dsimp only
      go_simp
      exact hK _ hS
    · try dsimp only
      exact wp_cell_h (v := .int .i64 c0) hS.held 4 rfl Cc0.out rfl agg3 rfl (hK _ hS)
    · try dsimp only
      go_simp
      exact hK _ hS
    · try dsimp only
      rw [hn] at hS
      refine wp_set_own hS 2 (.int .i64 a0) rfl (by rw [M.mat_len]; omega) rfl rfl size3 rfl rfl fun w1 O1 => hK _ _ ?_
      have O2 : Own w w1 [(g6, 23, M.mat 4 (RC.mk a0 a1 a2 c1)), (g7, 23, M.mat 4 (RC.mk a0 c3 a2 a3)), (g8, 23, M.mat 4 (RC.w2 c a0 c0 true false)), (g9, 23, M.mat 4 (RC.w2 c c2 a2 false false)), (g5, 23, M.mat 4 c), (g3, 23, M.mat 4 b), (g2, 23, M.mat 4 a)] := by
        rw [← RC.w2_a]
        exact O1
      exact O2
    · try dsimp only
      go_simp
      exact hK _ hS
    try dsimp only
    have O3 : Own w w' [(g6, 23, M.mat 4 (RC.mk a0 a1 a2 c1)), (g7, 23, M.mat 4 (RC.mk a0 c3 a2 a3)), (g8, 23, M.mat 4 (RC.w2 c a0 c0 true false)), (g9, 23, M.mat 4 (RC.w2 c c2 a2 false false)), (g5, 23, M.mat 4 c), (g3, 23, M.mat 4 b), (g2, 23, M.mat 4 a)] := by
      have h1 := hall 5 (by decide)
      rw [h1] at hS
      exact hS
    clear hS O
    have O := O3
    clear O3
    try simp only [seen]
    try generalize (st 5).getD undef = u5'
    clear hall
    refine wpAny_want (i := 7) (by kernel_rfl) rfl (by rfl) (fun K hK => ?_)
    refine wp_set_own O 2 (.int .i64 c0) rfl (by rw [M.mat_len]; omega) rfl rfl size3 rfl rfl fun w9 O9 => hK _ _ ?_
    have O8 : Own w w9 [(g6, 23, M.mat 4 (RC.mk a0 a1 a2 c1)), (g7, 23, M.mat 4 (RC.mk a0 c3 a2 a3)), (g8, 23, M.mat 4 (RC.w2 c a0 c0 true true)), (g9, 23, M.mat 4 (RC.w2 c c2 a2 false false)), (g5, 23, M.mat 4 c), (g3, 23, M.mat 4 b), (g2, 23, M.mat 4 a)] := by
      rw [← RC.w2_b]
      exact O9
    clear O O9
    have O := O8
    clear O8
    clear hK K
    try simp only [Act.put, List.setIfInBounds_toArray, List.set_cons_zero, List.set_cons_succ]
    refine wpAny_done (by kernel_rfl) ?_ _
    go_wp2_with fail
    refine region_S (fun st w2 => Own w w2 [(g6, 23, M.mat 4 (RC.mk a0 a1 a2 c1)), (g7, 23, M.mat 4 (RC.mk a0 c3 a2 a3)), (g8, 23, M.mat 4 (RC.w2 c a0 c0 true true)), (g9, 23, M.mat 4 (RC.w2 c c2 a2 (st 5).isSome false)), (g5, 23, M.mat 4 c), (g3, 23, M.mat 4 b), (g2, 23, M.mat 4 a)]) [5] 12 7 [some 35, some 36, some 37, some 38, some 39, none, some 40] (fun g => [.pointer (some ⟨g5, 2, none⟩), .int .i64 c2, .pointer (some ⟨g2, 2, none⟩), .int .i64 a2, .pointer (some ⟨g9, 0, none⟩), g 5, .pointer (some ⟨g9, 2, none⟩)]) 1 (by kernel_rfl) (by kernel_rfl) (by rfl) (by rfl) (fun _ => rfl) (by decide) ?_ (O.drew) (fun F hF => ?_)
    · intro i hi
      simp only [List.mem_cons, List.not_mem_nil, or_false] at hi
      rcases hi with rfl
      · exact ⟨fun _ => rfl, [0, 1, 2, 3, 4, 6], by kernel_rfl, fun g v => ⟨rfl, rfl, rfl, rfl, rfl, rfl, trivial⟩⟩
    simp only [fillD, Act.put, List.setIfInBounds_toArray, List.set_cons_zero, List.set_cons_succ] at hF
    have hF2 := funext hF
    clear hF
    subst hF2
    refine ⟨⟨doesN_want (by decide) rfl (fun g => rfl) (fun st w' hS hp K hK => ?_), doesN_want (by decide) rfl (fun g => rfl) (fun st w' hS hp K hK => ?_), doesN_want (by decide) rfl (fun g => rfl) (fun st w' hS hp K hK => ?_), doesN_want (by decide) rfl (fun g => rfl) (fun st w' hS hp K hK => ?_), doesN_want (by decide) rfl (fun g => rfl) (fun st w' hS hp K hK => ?_), doesC_want (by decide) rfl (fun g => rfl) (fun st w' hS hn hp K hK => ?_), doesN_want (by decide) rfl (fun g => rfl) (fun st w' hS hp K hK => ?_), trivial⟩, fun st w' hS hall => ?_⟩
    · try dsimp only
      go_simp
      exact hK _ hS
    · try dsimp only
      exact wp_cell_h (v := .int .i64 c2) hS.held 4 rfl Cc2.out rfl agg3 rfl (hK _ hS)
    · try dsimp only
      go_simp
      exact hK _ hS
    · try dsimp only
      exact wp_cell_h (v := .int .i64 a2) hS.held 6 rfl Ca2.out rfl agg3 rfl (hK _ hS)
    · try dsimp only
      go_simp
      exact hK _ hS
    · try dsimp only
      rw [hn] at hS
      refine wp_set_own hS 3 (.int .i64 c2) rfl (by rw [M.mat_len]; omega) rfl rfl size3 rfl rfl fun w1 O1 => hK _ _ ?_
      have O2 : Own w w1 [(g6, 23, M.mat 4 (RC.mk a0 a1 a2 c1)), (g7, 23, M.mat 4 (RC.mk a0 c3 a2 a3)), (g8, 23, M.mat 4 (RC.w2 c a0 c0 true true)), (g9, 23, M.mat 4 (RC.w2 c c2 a2 true false)), (g5, 23, M.mat 4 c), (g3, 23, M.mat 4 b), (g2, 23, M.mat 4 a)] := by
        rw [← RC.w2_a]
        exact O1
      exact O2
    · try dsimp only
      go_simp
      exact hK _ hS
    try dsimp only
    have O3 : Own w w' [(g6, 23, M.mat 4 (RC.mk a0 a1 a2 c1)), (g7, 23, M.mat 4 (RC.mk a0 c3 a2 a3)), (g8, 23, M.mat 4 (RC.w2 c a0 c0 true true)), (g9, 23, M.mat 4 (RC.w2 c c2 a2 true false)), (g5, 23, M.mat 4 c), (g3, 23, M.mat 4 b), (g2, 23, M.mat 4 a)] := by
      have h1 := hall 5 (by decide)
      rw [h1] at hS
      exact hS
    clear hS O
    have O := O3
    clear O3
    try simp only [seen]
    try generalize (st 5).getD undef = u5'
    clear hall
    refine wpAny_want (i := 7) (by kernel_rfl) rfl (by rfl) (fun K hK => ?_)
    refine wp_set_own O 3 (.int .i64 a2) rfl (by rw [M.mat_len]; omega) rfl rfl size3 rfl rfl fun w9 O9 => hK _ _ ?_
    have O8 : Own w w9 [(g6, 23, M.mat 4 (RC.mk a0 a1 a2 c1)), (g7, 23, M.mat 4 (RC.mk a0 c3 a2 a3)), (g8, 23, M.mat 4 (RC.w2 c a0 c0 true true)), (g9, 23, M.mat 4 (RC.w2 c c2 a2 true true)), (g5, 23, M.mat 4 c), (g3, 23, M.mat 4 b), (g2, 23, M.mat 4 a)] := by
      rw [← RC.w2_b]
      exact O9
    clear O O9
    have O := O8
    clear O8
    clear hK K
    try simp only [Act.put, List.setIfInBounds_toArray, List.set_cons_zero, List.set_cons_succ]
    refine wpAny_done (by kernel_rfl) ?_ _
    have O9 := (Own.as O (l' := [(g6, 23, M.mat 4 (RC.mk a0 a1 a2 c1)), (g7, 23, M.mat 4 (RC.mk a0 c3 a2 a3)), (g8, 23, M.mat 4 (RC.mk a0 c1 c0 c3)), (g9, 23, M.mat 4 (RC.mk c2 c1 a2 c3)), (g5, 23, M.mat 4 c), (g3, 23, M.mat 4 b), (g2, 23, M.mat 4 a)]) (by rw [← WL.out, ← WR.out])).held
    clear O WL WR
    have O := O9
    clear O9
    go_wp2_with (first | ((with_reducible refine at_load 41 ?_); refine wpList_rowg_h rfl O 0 rfl rfl Try.underlying23 rfl (sR _) ?_) | ((with_reducible refine at_load 42 ?_); refine wpList_rowg_h rfl O 1 rfl rfl Try.underlying23 rfl (sR _) ?_) | ((with_reducible refine at_load 43 ?_); refine wpList_rowg_h rfl O 2 rfl rfl Try.underlying23 rfl (sR _) ?_) | ((with_reducible refine at_load 44 ?_); refine wpList_rowg_h rfl O 3 rfl rfl Try.underlying23 rfl (sR _) ?_) | ((with_reducible refine at_lit 45 ?_); refine wpList_lit_h rfl O 4 (.agg (M.mat 4 M.zero).toArray) infoR Try.underlying34 ([(0, arr 4 (RC.mk a0 a1 a2 c1)), (1, arr 4 (RC.mk a0 c3 a2 a3)), (2, arr 4 (RC.mk a0 c1 c0 c3)), (3, arr 4 (RC.mk c2 c1 a2 c3))]) (rC [RC.mk a0 a1 a2 c1, RC.mk a0 c3 a2 a3, RC.mk a0 c1 c0 c3, RC.mk c2 c1 a2 c3]) rfl (rC_len _) (by decide) (by decide) (by kernel_rfl) ?_; clear O; intro gl u5 O) | (go_at_call 25; refine (CP _ _ _ (Lies.low (O.arg List.mem_cons_self) (Nat.zero_le _))).mono ?_; intro e w9 hR; obtain ⟨VA, vc, rfl, hV, hb⟩ := RetR.up hR O.below; clear hR))
    go_ret
    rw [HE.out]
    exact ⟨VA, vc, rfl, hV, hb⟩
set_option maxRecDepth 100000 in
set_option maxHeartbeats 16000000 in
theorem rminus_any (a b : Nat → Int) (w : World) : Calls Try.prog 20 #[arr 4 a, arr 4 b] w (RetR w (RC.minus a b)) := by
  have O := Own.start w
  have C := fun w => rand_any a b w
  have C2 := fun w => rright_any (RC.both a b) w
  cases hr : RC.right (RC.both a b)
  · have HE := Lib.hid (RC.minus_no hr)
    have CP := fun (A : Option Addr) c w hL => ((those_any [a] (by simp) (A := A) (c := c) (lo := 0) w hL) : Calls Try.prog 26 #[.slice A 1 c] w _)
    obtain ⟨R, hR⟩ : ∃ R, RC.those [a] = R := ⟨_, rfl⟩
    rw [hR] at HE CP
    clear hR
    rw [hr] at C2
    rw [RC.both_zero hr] at C C2
    clear hr
    go_enter Try.func20, Try.ntmps20
    go_wp2_with (first | ((with_reducible refine at_box 2 ?_); refine wpList_box_own O (M.mat 4 (a)) rfl ?_; clear O; intro g2 w1 O) | ((with_reducible refine at_box 3 ?_); refine wpList_box_own O (M.mat 4 (b)) rfl ?_; clear O; intro g3 w2 O) | ((with_reducible refine at_load 6 ?_); refine wpList_whole rfl O 1 rfl rfl Try.underlying23 rfl (sR _) ?_) | ((with_reducible refine at_load 7 ?_); refine wpList_whole rfl O 0 rfl rfl Try.underlying23 rfl (sR _) ?_) | (go_at_call 17; refine (C _).mono ?_; rintro e w3 ⟨rfl, hb⟩; replace O := O.call hb; clear hb) | ((with_reducible refine at_alloc 5 ?_); refine wpList_alloc_own O (M.mat 4 M.zero) zeroR ?_; clear O; intro g5 w4 O) | ((with_reducible refine at_store 5 ?_); refine wpList_put_own O 0 (M.mat 4 (M.zero)) rfl rfl rfl (sR _) (M.mat_len2 _ _ _) (M.mat_one _ _) ?_; clear O; intro w5 O) | ((with_reducible refine at_load 9 ?_); refine wpList_whole rfl O 0 rfl rfl Try.underlying23 rfl (sR _) ?_) | (go_at_call 11; refine (C2 _).mono ?_; rintro e w6 ⟨rfl, hb⟩; replace O := O.call hb; clear hb; replace O := O.held) | ((with_reducible refine at_load 12 ?_); refine wpList_rowg_h rfl O 2 rfl rfl Try.underlying23 rfl (sR _) ?_) | ((with_reducible refine at_lit 13 ?_); refine wpList_lit_h rfl O 4 (.agg (M.mat 4 M.zero).toArray) infoR Try.underlying34 ([(0, arr 4 a)]) (rC [a]) rfl (rC_len _) (by decide) (by decide) (by kernel_rfl) ?_; clear O; intro gl u5 O) | (go_at_call 26; refine (CP _ _ _ (Lies.low (O.arg List.mem_cons_self) (Nat.zero_le _))).mono ?_; intro e w9 hR; obtain ⟨VA, vc, rfl, hV, hb⟩ := RetR.up hR O.below; clear hR))
    go_ret
    rw [HE.out]
    exact ⟨VA, vc, rfl, hV, hb⟩
  · obtain ⟨a0, ea0⟩ : ∃ z, a 0 = z := ⟨_, rfl⟩
    have Ca0 := cell_is (n := 4) ea0 (by decide)
    obtain ⟨a1, ea1⟩ : ∃ z, a 1 = z := ⟨_, rfl⟩
    have Ca1 := cell_is (n := 4) ea1 (by decide)
    obtain ⟨a2, ea2⟩ : ∃ z, a 2 = z := ⟨_, rfl⟩
    have Ca2 := cell_is (n := 4) ea2 (by decide)
    obtain ⟨a3, ea3⟩ : ∃ z, a 3 = z := ⟨_, rfl⟩
    have Ca3 := cell_is (n := 4) ea3 (by decide)
    obtain ⟨c, hc⟩ : ∃ c, RC.both a b = c := ⟨_, rfl⟩
    have HM := fun e0 e1 e2 e3 f0 f1 f2 f3 => RC.minus_yes (a := a) (b := b) (a0 := a0) (a1 := a1) (a2 := a2) (a3 := a3) (c0 := c 0) (c1 := c 1) (c2 := c 2) (c3 := c 3) hr e0 e1 e2 e3 f0 f1 f2 f3
    rw [hc] at C hr HM
    rw [hc, hr] at C2
    obtain ⟨c0, ec0⟩ : ∃ z, c 0 = z := ⟨_, rfl⟩
    have Cc0 := cell_is (n := 4) ec0 (by decide)
    obtain ⟨c1, ec1⟩ : ∃ z, c 1 = z := ⟨_, rfl⟩
    have Cc1 := cell_is (n := 4) ec1 (by decide)
    obtain ⟨c2, ec2⟩ : ∃ z, c 2 = z := ⟨_, rfl⟩
    have Cc2 := cell_is (n := 4) ec2 (by decide)
    obtain ⟨c3, ec3⟩ : ∃ z, c 3 = z := ⟨_, rfl⟩
    have Cc3 := cell_is (n := 4) ec3 (by decide)
    have HE := Lib.hid (HM ea0 ea1 ea2 ea3 rfl rfl rfl rfl)
    rw [ec0, ec1, ec2, ec3] at HE
    have HZ := Lib.hid (RC.zero_no hr)
    clear HM hr hc
    have CP := fun (A : Option Addr) c w hL => ((those_any [RC.mk a0 a1 a2 c1, RC.mk a0 c3 a2 a3, RC.mk a0 c1 c0 c3, RC.mk c2 c1 a2 c3] (by simp) (A := A) (c := c) (lo := 0) w hL) : Calls Try.prog 26 #[.slice A 4 c] w _)
    obtain ⟨R, hR⟩ : ∃ R, RC.those [RC.mk a0 a1 a2 c1, RC.mk a0 c3 a2 a3, RC.mk a0 c1 c0 c3, RC.mk c2 c1 a2 c3] = R := ⟨_, rfl⟩
    rw [hR] at HE CP
    clear hR
    clear ea0 ea1 ea2 ea3 ec0 ec1 ec2 ec3 HZ
    go_enter Try.func20, Try.ntmps20
    go_wp2_with (first | ((with_reducible refine at_box 2 ?_); refine wpList_box_own O (M.mat 4 (a)) rfl ?_; clear O; intro g2 w1 O) | ((with_reducible refine at_box 3 ?_); refine wpList_box_own O (M.mat 4 (b)) rfl ?_; clear O; intro g3 w2 O) | ((with_reducible refine at_load 6 ?_); refine wpList_whole rfl O 1 rfl rfl Try.underlying23 rfl (sR _) ?_) | ((with_reducible refine at_load 7 ?_); refine wpList_whole rfl O 0 rfl rfl Try.underlying23 rfl (sR _) ?_) | (go_at_call 17; refine (C _).mono ?_; rintro e w3 ⟨rfl, hb⟩; replace O := O.call hb; clear hb) | ((with_reducible refine at_alloc 5 ?_); refine wpList_alloc_own O (M.mat 4 M.zero) zeroR ?_; clear O; intro g5 w4 O) | ((with_reducible refine at_store 5 ?_); refine wpList_put_own O 0 (M.mat 4 (c)) rfl rfl rfl (sR _) (M.mat_len2 _ _ _) (M.mat_one _ _) ?_; clear O; intro w5 O) | ((with_reducible refine at_load 9 ?_); refine wpList_whole rfl O 0 rfl rfl Try.underlying23 rfl (sR _) ?_) | (go_at_call 11; refine (C2 _).mono ?_; rintro e w6 ⟨rfl, hb⟩; replace O := O.call hb; clear hb; replace O := O.held) | ((with_reducible refine at_load 16 ?_); refine wpList_cell_h (v := .int .i64 (a0)) rfl O 2 rfl Ca0.out rfl agg3 rfl ?_) | ((with_reducible refine at_load 18 ?_); refine wpList_cell_h (v := .int .i64 (a1)) rfl O 2 rfl Ca1.out rfl agg3 rfl ?_) | ((with_reducible refine at_load 20 ?_); refine wpList_cell_h (v := .int .i64 (a2)) rfl O 2 rfl Ca2.out rfl agg3 rfl ?_) | ((with_reducible refine at_load 22 ?_); refine wpList_cell_h (v := .int .i64 (c1)) rfl O 0 rfl Cc1.out rfl agg3 rfl ?_) | ((with_reducible refine at_load 25 ?_); refine wpList_cell_h (v := .int .i64 (a0)) rfl O 2 rfl Ca0.out rfl agg3 rfl ?_) | ((with_reducible refine at_load 27 ?_); refine wpList_cell_h (v := .int .i64 (c3)) rfl O 0 rfl Cc3.out rfl agg3 rfl ?_) | ((with_reducible refine at_load 29 ?_); refine wpList_cell_h (v := .int .i64 (a2)) rfl O 2 rfl Ca2.out rfl agg3 rfl ?_) | ((with_reducible refine at_load 31 ?_); refine wpList_cell_h (v := .int .i64 (a3)) rfl O 2 rfl Ca3.out rfl agg3 rfl ?_) | ((with_reducible refine at_load 34 ?_); refine wpList_cell_h (v := .int .i64 (a0)) rfl O 2 rfl Ca0.out rfl agg3 rfl ?_) | ((with_reducible refine at_load 36 ?_); refine wpList_cell_h (v := .int .i64 (c1)) rfl O 0 rfl Cc1.out rfl agg3 rfl ?_) | ((with_reducible refine at_load 38 ?_); refine wpList_cell_h (v := .int .i64 (c0)) rfl O 0 rfl Cc0.out rfl agg3 rfl ?_) | ((with_reducible refine at_load 40 ?_); refine wpList_cell_h (v := .int .i64 (c3)) rfl O 0 rfl Cc3.out rfl agg3 rfl ?_) | ((with_reducible refine at_load 43 ?_); refine wpList_cell_h (v := .int .i64 (c2)) rfl O 0 rfl Cc2.out rfl agg3 rfl ?_) | ((with_reducible refine at_load 45 ?_); refine wpList_cell_h (v := .int .i64 (c1)) rfl O 0 rfl Cc1.out rfl agg3 rfl ?_) | ((with_reducible refine at_load 47 ?_); refine wpList_cell_h (v := .int .i64 (a2)) rfl O 2 rfl Ca2.out rfl agg3 rfl ?_) | ((with_reducible refine at_load 49 ?_); refine wpList_cell_h (v := .int .i64 (c3)) rfl O 0 rfl Cc3.out rfl agg3 rfl ?_) | ((with_reducible refine at_build 23 ?_); refine wpList_build_g rfl ([(0, .int .i64 a0), (1, .int .i64 a1), (2, .int .i64 a2), (3, .int .i64 c1)]) ((M.mat 4 (RC.mk a0 a1 a2 c1)).toArray) ?_ (builtR _ _ _ _) ?_; (focus (simp only [List.map_toArray, List.map_cons, List.map_nil]; rfl))) | ((with_reducible refine at_build 32 ?_); refine wpList_build_g rfl ([(0, .int .i64 a0), (1, .int .i64 c3), (2, .int .i64 a2), (3, .int .i64 a3)]) ((M.mat 4 (RC.mk a0 c3 a2 a3)).toArray) ?_ (builtR _ _ _ _) ?_; (focus (simp only [List.map_toArray, List.map_cons, List.map_nil]; rfl))) | ((with_reducible refine at_build 41 ?_); refine wpList_build_g rfl ([(0, .int .i64 a0), (1, .int .i64 c1), (2, .int .i64 c0), (3, .int .i64 c3)]) ((M.mat 4 (RC.mk a0 c1 c0 c3)).toArray) ?_ (builtR _ _ _ _) ?_; (focus (simp only [List.map_toArray, List.map_cons, List.map_nil]; rfl))) | ((with_reducible refine at_build 50 ?_); refine wpList_build_g rfl ([(0, .int .i64 c2), (1, .int .i64 c1), (2, .int .i64 a2), (3, .int .i64 c3)]) ((M.mat 4 (RC.mk c2 c1 a2 c3)).toArray) ?_ (builtR _ _ _ _) ?_; (focus (simp only [List.map_toArray, List.map_cons, List.map_nil]; rfl))) | ((with_reducible refine at_lit 51 ?_); refine wpList_lit_h rfl O 4 (.agg (M.mat 4 M.zero).toArray) infoR Try.underlying34 ([(0, arr 4 (RC.mk a0 a1 a2 c1)), (1, arr 4 (RC.mk a0 c3 a2 a3)), (2, arr 4 (RC.mk a0 c1 c0 c3)), (3, arr 4 (RC.mk c2 c1 a2 c3))]) (rC [RC.mk a0 a1 a2 c1, RC.mk a0 c3 a2 a3, RC.mk a0 c1 c0 c3, RC.mk c2 c1 a2 c3]) rfl (rC_len _) (by decide) (by decide) (by kernel_rfl) ?_; clear O; intro gl u5 O) | (go_at_call 26; refine (CP _ _ _ (Lies.low (O.arg List.mem_cons_self) (Nat.zero_le _))).mono ?_; intro e w9 hR; obtain ⟨VA, vc, rfl, hV, hb⟩ := RetR.up hR O.below; clear hR))
    go_ret
    rw [HE.out]
    exact ⟨VA, vc, rfl, hV, hb⟩
end Go.Proofs.Ythioeohmnlppcaa
