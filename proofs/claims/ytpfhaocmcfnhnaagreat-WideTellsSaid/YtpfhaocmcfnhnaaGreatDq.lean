/- Contract: the program's passes. -/
import Derived.Test.YtpfhaocmcfnhnaaGreatDp
namespace Go.Proofs.YtpfhaocmcfnhnaaGreat
open Go.ChangeShapes Go.WideShapes Go.ChangeAt Go.RowKit
set_option linter.unusedVariables false
set_option linter.unusedSimpArgs false

namespace DM
def max3 (x y z : Int) : Int := max (max x y) z
end DM
theorem run_max_three {P : Program} (w : World) (ts : Array TypeId) (t : TypeId) (k k' k2 : IntKind) (x y z : Int) :
  (Builtin.max_ ts t #[.int k x, .int k' y, .int k2 z]).run P w = .ok (.int k (DM.max3 x y z)) w := by
 have e1 : (if y > x then y else x) = max x y := by omega
 have e2 : (if z > max x y then z else max x y) = max (max x y) z := by omega
 simp [Builtin.max_, Builtin.max2, e1, e2, DM.max3]
attribute [local go_sem ↓] run_max_three
set_option maxRecDepth 100000 in
set_option maxHeartbeats 16000000 in
theorem passes_any (a b : Nat → Int) (hp : ((-1610612864 ≤ a 0 ∧ a 0 ≤ 1610612864) ∧ (-1610612864 ≤ a 1 ∧ a 1 ≤ 1610612864)) ∧ ((-1073741824 ≤ b 0 - a 0 ∧ b 0 - a 0 ≤ 1073741824) ∧ (-1073741824 ≤ b 1 - a 1 ∧ b 1 - a 1 ≤ 1073741824))) (hne : ¬ (a 0 = b 0 ∧ a 1 = b 1)) (w_ : World) :
  Calls Tryz.prog 98 #[arr 2 a, arr 2 b] w_ fun e w' => e = .returned (.bool (DM.passes (a 0) (a 1) (b 0) (b 1))) ∧ Below w_.heap.size w_ w' := by
 have O := Own.start w_
 obtain ⟨a0, ea0⟩ : ∃ z, a 0 = z := ⟨_, rfl⟩
 have Ca0 := cell_is (n := 2) ea0 (by decide)
 obtain ⟨a1, ea1⟩ : ∃ z, a 1 = z := ⟨_, rfl⟩
 have Ca1 := cell_is (n := 2) ea1 (by decide)
 obtain ⟨b0, eb0⟩ : ∃ z, b 0 = z := ⟨_, rfl⟩
 have Cb0 := cell_is (n := 2) eb0 (by decide)
 obtain ⟨b1, eb1⟩ : ∃ z, b 1 = z := ⟨_, rfl⟩
 have Cb1 := cell_is (n := 2) eb1 (by decide)
 rw [ea0, ea1, eb0, eb1] at hp hne ⊢
 clear ea0 ea1 eb0 eb1
 obtain ⟨⟨⟨i1, i2⟩, i3, i4⟩, ⟨i5, i6⟩, i7, i8⟩ := hp
 obtain ⟨w, hw⟩ : ∃ z, b0 - a0 = z := ⟨_, rfl⟩
 obtain ⟨h, hh⟩ : ∃ z, b1 - a1 = z := ⟨_, rfl⟩
 rw [hw] at i5 i6
 rw [hh] at i7 i8
 have NU := fun hs {o f} ho hf => DM.passes_up (o := o) (f := f) hne hw hh hs ho hf
 have ND := fun hs {w' h'} hw' hh' {o f} ho hf => DM.passes_dn hw hh hs (w' := w') (h' := h') hw' hh' (o := o) (f := f) ho hf
 obtain ⟨P, hP⟩ : ∃ z, DM.passes a0 a1 b0 b1 = z := ⟨_, rfl⟩
 rw [hP] at NU ND ⊢
 clear hP
 have Ww : wrap64 (b0 - a0) = w := by rw [hw]; exact IntWalk.wrap64_in _ (by omega)
 have Wh : wrap64 (b1 - a1) = h := by rw [hh]; exact IntWalk.wrap64_in _ (by omega)
 have CA0 := cell_is (n := 2) (a := DM.t2 w h) (i := 0) (z := w) rfl (by decide)
 have CA1 := cell_is (n := 2) (a := DM.t2 w h) (i := 1) (z := h) rfl (by decide)
 have FW := Lib.hid (And.intro (congrArg (Value.int IntKind.i64) hw) (And.intro (congrArg (Value.int IntKind.i64) hh) (And.intro (Ww) (Wh))))
 have HB := Lib.hid (And.intro (And.intro (And.intro i1 i2) (And.intro i3 i4)) (And.intro (And.intro i5 i6) (And.intro i7 i8)))
 clear hw hh Ww Wh hne i1 i2 i3 i4 i5 i6 i7 i8
 cases c1 : decide (h < 0)
 ·
  cases c2 : (h == 0)
  ·
   have hs_ : ¬ (h < 0 ∨ (h = 0 ∧ 0 < w)) := by
    simp only [decide_eq_false_iff_not] at c1
    simp only [beq_eq_false_iff_ne] at c2
    omega
   obtain ⟨⟨⟨i1, i2⟩, i3, i4⟩, ⟨i5, i6⟩, i7, i8⟩ := HB.out
   have r1 : -1073741824 ≤ w ∧ w ≤ 1073741824 := by omega
   have r2 : -1073741824 ≤ h ∧ h ≤ 1073741824 := by omega
   have b1_ := M.mul_hi (a := w) (b := a1) (A := 1073741824) (B := 1610612864) (by omega) r1.2 (by omega) i4
   have b2_ := M.mul_hi (a := h) (b := a0) (A := 1073741824) (B := 1610612864) (by omega) r2.2 (by omega) i2
   obtain ⟨t1, ht1⟩ : ∃ z, w * a1 = z := ⟨_, rfl⟩
   obtain ⟨t2, ht2⟩ : ∃ z, h * a0 = z := ⟨_, rfl⟩
   rw [ht1] at b1_
   rw [ht2] at b2_
   obtain ⟨o, ho⟩ : ∃ z, t1 - t2 = z := ⟨_, rfl⟩
   obtain ⟨mw, hmw⟩ : ∃ z, -w = z := ⟨_, rfl⟩
   have Wmw : wrap64 (-w) = mw := by rw [← hmw]; exact IntWalk.wrap64_in _ (by omega)
   obtain ⟨m2, hm2⟩ : ∃ z, DM.max3 w mw h = z := ⟨_, rfl⟩
   have hm3 : max (max w mw) h = m2 := hm2
   obtain ⟨f, hf⟩ : ∃ z, 128 * m2 = z := ⟨_, rfl⟩
   obtain ⟨nf, hnf⟩ : ∃ z, -f = z := ⟨_, rfl⟩
   have rm : 0 ≤ m2 ∧ m2 ≤ 1073741824 := by omega
   have W1 : wrap64 (w * a1) = t1 := by rw [ht1]; exact IntWalk.wrap64_in _ (by omega)
   have W2 : wrap64 (h * a0) = t2 := by rw [ht2]; exact IntWalk.wrap64_in _ (by omega)
   have W1' : wrap64 t1 = t1 := IntWalk.wrap64_in _ (by omega)
   have W2' : wrap64 t2 = t2 := IntWalk.wrap64_in _ (by omega)
   have W3 : wrap64 (t1 - t2) = o := by rw [ho]; exact IntWalk.wrap64_in _ (by omega)
   have W4 : wrap64 (128 * m2) = f := by rw [hf]; exact IntWalk.wrap64_in _ (by omega)
   have W5 : wrap64 (-f) = nf := by rw [hnf]; exact IntWalk.wrap64_in _ (by omega)
   have HE := Lib.hid (NU (hs_) (by rw [ht1, ht2, ho]) (by rw [hmw, hm3, hf]))
   rw [hnf] at HE
   have FF := Lib.hid (And.intro (Wmw) (And.intro (congrArg (Value.int IntKind.i64) hm2) (And.intro (W1) (And.intro (W2) (And.intro (W3) (And.intro (W4) (W5)))))))
   clear Wmw hm2 W1 W2 W3 W4 W5 hm3 ht1 ht2 ho hmw hf hnf W1' W2' i1 i2 i3 i4 i5 i6 i7 i8 r1 r2 rm b1_ b2_ NU ND
   have Wmw := FF.out.1
   have hm2 := FF.out.2.1
   have W1 := FF.out.2.2.1
   have W2 := FF.out.2.2.2.1
   have W3 := FF.out.2.2.2.2.1
   have W4 := FF.out.2.2.2.2.2.1
   have W5 := FF.out.2.2.2.2.2.2
   clear FF
   cases z1 : decide (nf ≤ o)
   ·
    rw [z1, Bool.false_and] at HE
    have Ww_ := FW.out.2.2.1
    have Wh_ := FW.out.2.2.2
    go_enter Tryz.func98, Tryz.ntmps98
    go_wp2_with (first | ((with_reducible refine at_box 2 ?_); refine wpList_box_own O (M.mat 2 (a)) rfl ?_; clear O; intro g2 w1 O) | ((with_reducible refine at_box 3 ?_); refine wpList_box_own O (M.mat 2 (b)) rfl ?_; clear O; intro g3 w2 O) | ((with_reducible refine at_load 9 ?_); refine wpList_cell_h (v := .int .i64 (b0)) rfl O.held 0 rfl Cb0.out rfl agg3 rfl ?_) | ((with_reducible refine at_load 11 ?_); refine wpList_cell_h (v := .int .i64 (a0)) rfl O.held 1 rfl Ca0.out rfl agg3 rfl ?_) | ((with_reducible refine at_load 14 ?_); refine wpList_cell_h (v := .int .i64 (b1)) rfl O.held 0 rfl Cb1.out rfl agg3 rfl ?_) | ((with_reducible refine at_load 16 ?_); refine wpList_cell_h (v := .int .i64 (a1)) rfl O.held 1 rfl Ca1.out rfl agg3 rfl ?_) | ((with_reducible refine at_build 18 ?_); refine wpList_build_g rfl ([(0, .int .i64 w), (1, .int .i64 h)]) ((M.mat 2 (DM.t2 w h)).toArray) ?_ (builtP _ _) ?_; (focus (simp only [List.map_toArray, List.map_cons, List.map_nil]; rfl))) | ((with_reducible refine at_alloc 5 ?_); refine wpList_alloc_own O (M.mat 2 M.zero) zeroP ?_; clear O; intro g5 w3 O) | ((with_reducible refine at_store 5 ?_); refine wpList_put_own O 0 (M.mat 2 (DM.t2 w h)) rfl rfl rfl (sP _) (M.mat_len2 _ _ _) (M.mat_one _ _) ?_; clear O; intro w4 O) | ((with_reducible first | refine at_load 20 ?_ | refine at_load 24 ?_ | refine at_load 45 ?_ | refine at_load 56 ?_); refine wpList_cell_h (v := .int .i64 (h)) rfl O.held 0 rfl CA1.out rfl agg3 rfl ?_) | ((with_reducible first | refine at_load 40 ?_ | refine at_load 51 ?_ | refine at_load 53 ?_); refine wpList_cell_h (v := .int .i64 (w)) rfl O.held 0 rfl CA0.out rfl agg3 rfl ?_) | ((with_reducible refine at_load 42 ?_); refine wpList_cell_h (v := .int .i64 (a1)) rfl O.held 2 rfl Ca1.out rfl agg3 rfl ?_) | ((with_reducible refine at_load 47 ?_); refine wpList_cell_h (v := .int .i64 (a0)) rfl O.held 2 rfl Ca0.out rfl agg3 rfl ?_))
    go_ret
    exact ⟨by rw [HE.out]; rfl, O.below⟩
   ·
    rw [z1, Bool.true_and] at HE
    cases z2 : decide (o < f)
    ·
     rw [z2] at HE
     have Ww_ := FW.out.2.2.1
     have Wh_ := FW.out.2.2.2
     go_enter Tryz.func98, Tryz.ntmps98
     go_wp2_with (first | ((with_reducible refine at_box 2 ?_); refine wpList_box_own O (M.mat 2 (a)) rfl ?_; clear O; intro g2 w1 O) | ((with_reducible refine at_box 3 ?_); refine wpList_box_own O (M.mat 2 (b)) rfl ?_; clear O; intro g3 w2 O) | ((with_reducible refine at_load 9 ?_); refine wpList_cell_h (v := .int .i64 (b0)) rfl O.held 0 rfl Cb0.out rfl agg3 rfl ?_) | ((with_reducible refine at_load 11 ?_); refine wpList_cell_h (v := .int .i64 (a0)) rfl O.held 1 rfl Ca0.out rfl agg3 rfl ?_) | ((with_reducible refine at_load 14 ?_); refine wpList_cell_h (v := .int .i64 (b1)) rfl O.held 0 rfl Cb1.out rfl agg3 rfl ?_) | ((with_reducible refine at_load 16 ?_); refine wpList_cell_h (v := .int .i64 (a1)) rfl O.held 1 rfl Ca1.out rfl agg3 rfl ?_) | ((with_reducible refine at_build 18 ?_); refine wpList_build_g rfl ([(0, .int .i64 w), (1, .int .i64 h)]) ((M.mat 2 (DM.t2 w h)).toArray) ?_ (builtP _ _) ?_; (focus (simp only [List.map_toArray, List.map_cons, List.map_nil]; rfl))) | ((with_reducible refine at_alloc 5 ?_); refine wpList_alloc_own O (M.mat 2 M.zero) zeroP ?_; clear O; intro g5 w3 O) | ((with_reducible refine at_store 5 ?_); refine wpList_put_own O 0 (M.mat 2 (DM.t2 w h)) rfl rfl rfl (sP _) (M.mat_len2 _ _ _) (M.mat_one _ _) ?_; clear O; intro w4 O) | ((with_reducible first | refine at_load 20 ?_ | refine at_load 24 ?_ | refine at_load 45 ?_ | refine at_load 56 ?_); refine wpList_cell_h (v := .int .i64 (h)) rfl O.held 0 rfl CA1.out rfl agg3 rfl ?_) | ((with_reducible first | refine at_load 40 ?_ | refine at_load 51 ?_ | refine at_load 53 ?_); refine wpList_cell_h (v := .int .i64 (w)) rfl O.held 0 rfl CA0.out rfl agg3 rfl ?_) | ((with_reducible refine at_load 42 ?_); refine wpList_cell_h (v := .int .i64 (a1)) rfl O.held 2 rfl Ca1.out rfl agg3 rfl ?_) | ((with_reducible refine at_load 47 ?_); refine wpList_cell_h (v := .int .i64 (a0)) rfl O.held 2 rfl Ca0.out rfl agg3 rfl ?_))
     go_ret
     exact ⟨by rw [HE.out]; rfl, O.below⟩
    ·
     rw [z2] at HE
     have Ww_ := FW.out.2.2.1
     have Wh_ := FW.out.2.2.2
     go_enter Tryz.func98, Tryz.ntmps98
     go_wp2_with (first | ((with_reducible refine at_box 2 ?_); refine wpList_box_own O (M.mat 2 (a)) rfl ?_; clear O; intro g2 w1 O) | ((with_reducible refine at_box 3 ?_); refine wpList_box_own O (M.mat 2 (b)) rfl ?_; clear O; intro g3 w2 O) | ((with_reducible refine at_load 9 ?_); refine wpList_cell_h (v := .int .i64 (b0)) rfl O.held 0 rfl Cb0.out rfl agg3 rfl ?_) | ((with_reducible refine at_load 11 ?_); refine wpList_cell_h (v := .int .i64 (a0)) rfl O.held 1 rfl Ca0.out rfl agg3 rfl ?_) | ((with_reducible refine at_load 14 ?_); refine wpList_cell_h (v := .int .i64 (b1)) rfl O.held 0 rfl Cb1.out rfl agg3 rfl ?_) | ((with_reducible refine at_load 16 ?_); refine wpList_cell_h (v := .int .i64 (a1)) rfl O.held 1 rfl Ca1.out rfl agg3 rfl ?_) | ((with_reducible refine at_build 18 ?_); refine wpList_build_g rfl ([(0, .int .i64 w), (1, .int .i64 h)]) ((M.mat 2 (DM.t2 w h)).toArray) ?_ (builtP _ _) ?_; (focus (simp only [List.map_toArray, List.map_cons, List.map_nil]; rfl))) | ((with_reducible refine at_alloc 5 ?_); refine wpList_alloc_own O (M.mat 2 M.zero) zeroP ?_; clear O; intro g5 w3 O) | ((with_reducible refine at_store 5 ?_); refine wpList_put_own O 0 (M.mat 2 (DM.t2 w h)) rfl rfl rfl (sP _) (M.mat_len2 _ _ _) (M.mat_one _ _) ?_; clear O; intro w4 O) | ((with_reducible first | refine at_load 20 ?_ | refine at_load 24 ?_ | refine at_load 45 ?_ | refine at_load 56 ?_); refine wpList_cell_h (v := .int .i64 (h)) rfl O.held 0 rfl CA1.out rfl agg3 rfl ?_) | ((with_reducible first | refine at_load 40 ?_ | refine at_load 51 ?_ | refine at_load 53 ?_); refine wpList_cell_h (v := .int .i64 (w)) rfl O.held 0 rfl CA0.out rfl agg3 rfl ?_) | ((with_reducible refine at_load 42 ?_); refine wpList_cell_h (v := .int .i64 (a1)) rfl O.held 2 rfl Ca1.out rfl agg3 rfl ?_) | ((with_reducible refine at_load 47 ?_); refine wpList_cell_h (v := .int .i64 (a0)) rfl O.held 2 rfl Ca0.out rfl agg3 rfl ?_))
     go_ret
     exact ⟨by rw [HE.out]; rfl, O.below⟩
  ·
   cases c3 : decide (0 < w)
   ·
    have hs_ : ¬ (h < 0 ∨ (h = 0 ∧ 0 < w)) := by
     simp only [decide_eq_false_iff_not] at c1 c3
     omega
    obtain ⟨⟨⟨i1, i2⟩, i3, i4⟩, ⟨i5, i6⟩, i7, i8⟩ := HB.out
    have r1 : -1073741824 ≤ w ∧ w ≤ 1073741824 := by omega
    have r2 : -1073741824 ≤ h ∧ h ≤ 1073741824 := by omega
    have b1_ := M.mul_hi (a := w) (b := a1) (A := 1073741824) (B := 1610612864) (by omega) r1.2 (by omega) i4
    have b2_ := M.mul_hi (a := h) (b := a0) (A := 1073741824) (B := 1610612864) (by omega) r2.2 (by omega) i2
    obtain ⟨t1, ht1⟩ : ∃ z, w * a1 = z := ⟨_, rfl⟩
    obtain ⟨t2, ht2⟩ : ∃ z, h * a0 = z := ⟨_, rfl⟩
    rw [ht1] at b1_
    rw [ht2] at b2_
    obtain ⟨o, ho⟩ : ∃ z, t1 - t2 = z := ⟨_, rfl⟩
    obtain ⟨mw, hmw⟩ : ∃ z, -w = z := ⟨_, rfl⟩
    have Wmw : wrap64 (-w) = mw := by rw [← hmw]; exact IntWalk.wrap64_in _ (by omega)
    obtain ⟨m2, hm2⟩ : ∃ z, DM.max3 w mw h = z := ⟨_, rfl⟩
    have hm3 : max (max w mw) h = m2 := hm2
    obtain ⟨f, hf⟩ : ∃ z, 128 * m2 = z := ⟨_, rfl⟩
    obtain ⟨nf, hnf⟩ : ∃ z, -f = z := ⟨_, rfl⟩
    have rm : 0 ≤ m2 ∧ m2 ≤ 1073741824 := by omega
    have W1 : wrap64 (w * a1) = t1 := by rw [ht1]; exact IntWalk.wrap64_in _ (by omega)
    have W2 : wrap64 (h * a0) = t2 := by rw [ht2]; exact IntWalk.wrap64_in _ (by omega)
    have W1' : wrap64 t1 = t1 := IntWalk.wrap64_in _ (by omega)
    have W2' : wrap64 t2 = t2 := IntWalk.wrap64_in _ (by omega)
    have W3 : wrap64 (t1 - t2) = o := by rw [ho]; exact IntWalk.wrap64_in _ (by omega)
    have W4 : wrap64 (128 * m2) = f := by rw [hf]; exact IntWalk.wrap64_in _ (by omega)
    have W5 : wrap64 (-f) = nf := by rw [hnf]; exact IntWalk.wrap64_in _ (by omega)
    have HE := Lib.hid (NU (hs_) (by rw [ht1, ht2, ho]) (by rw [hmw, hm3, hf]))
    rw [hnf] at HE
    have FF := Lib.hid (And.intro (Wmw) (And.intro (congrArg (Value.int IntKind.i64) hm2) (And.intro (W1) (And.intro (W2) (And.intro (W3) (And.intro (W4) (W5)))))))
    clear Wmw hm2 W1 W2 W3 W4 W5 hm3 ht1 ht2 ho hmw hf hnf W1' W2' i1 i2 i3 i4 i5 i6 i7 i8 r1 r2 rm b1_ b2_ NU ND
    have Wmw := FF.out.1
    have hm2 := FF.out.2.1
    have W1 := FF.out.2.2.1
    have W2 := FF.out.2.2.2.1
    have W3 := FF.out.2.2.2.2.1
    have W4 := FF.out.2.2.2.2.2.1
    have W5 := FF.out.2.2.2.2.2.2
    clear FF
    cases z1 : decide (nf ≤ o)
    ·
     rw [z1, Bool.false_and] at HE
     have Ww_ := FW.out.2.2.1
     have Wh_ := FW.out.2.2.2
     go_enter Tryz.func98, Tryz.ntmps98
     go_wp2_with (first | ((with_reducible refine at_box 2 ?_); refine wpList_box_own O (M.mat 2 (a)) rfl ?_; clear O; intro g2 w1 O) | ((with_reducible refine at_box 3 ?_); refine wpList_box_own O (M.mat 2 (b)) rfl ?_; clear O; intro g3 w2 O) | ((with_reducible refine at_load 9 ?_); refine wpList_cell_h (v := .int .i64 (b0)) rfl O.held 0 rfl Cb0.out rfl agg3 rfl ?_) | ((with_reducible refine at_load 11 ?_); refine wpList_cell_h (v := .int .i64 (a0)) rfl O.held 1 rfl Ca0.out rfl agg3 rfl ?_) | ((with_reducible refine at_load 14 ?_); refine wpList_cell_h (v := .int .i64 (b1)) rfl O.held 0 rfl Cb1.out rfl agg3 rfl ?_) | ((with_reducible refine at_load 16 ?_); refine wpList_cell_h (v := .int .i64 (a1)) rfl O.held 1 rfl Ca1.out rfl agg3 rfl ?_) | ((with_reducible refine at_build 18 ?_); refine wpList_build_g rfl ([(0, .int .i64 w), (1, .int .i64 h)]) ((M.mat 2 (DM.t2 w h)).toArray) ?_ (builtP _ _) ?_; (focus (simp only [List.map_toArray, List.map_cons, List.map_nil]; rfl))) | ((with_reducible refine at_alloc 5 ?_); refine wpList_alloc_own O (M.mat 2 M.zero) zeroP ?_; clear O; intro g5 w3 O) | ((with_reducible refine at_store 5 ?_); refine wpList_put_own O 0 (M.mat 2 (DM.t2 w h)) rfl rfl rfl (sP _) (M.mat_len2 _ _ _) (M.mat_one _ _) ?_; clear O; intro w4 O) | ((with_reducible first | refine at_load 20 ?_ | refine at_load 24 ?_ | refine at_load 45 ?_ | refine at_load 56 ?_); refine wpList_cell_h (v := .int .i64 (h)) rfl O.held 0 rfl CA1.out rfl agg3 rfl ?_) | ((with_reducible first | refine at_load 28 ?_ | refine at_load 40 ?_ | refine at_load 51 ?_ | refine at_load 53 ?_); refine wpList_cell_h (v := .int .i64 (w)) rfl O.held 0 rfl CA0.out rfl agg3 rfl ?_) | ((with_reducible refine at_load 42 ?_); refine wpList_cell_h (v := .int .i64 (a1)) rfl O.held 2 rfl Ca1.out rfl agg3 rfl ?_) | ((with_reducible refine at_load 47 ?_); refine wpList_cell_h (v := .int .i64 (a0)) rfl O.held 2 rfl Ca0.out rfl agg3 rfl ?_))
     go_ret
     exact ⟨by rw [HE.out]; rfl, O.below⟩
    ·
     rw [z1, Bool.true_and] at HE
     cases z2 : decide (o < f)
     ·
      rw [z2] at HE
      have Ww_ := FW.out.2.2.1
      have Wh_ := FW.out.2.2.2
      go_enter Tryz.func98, Tryz.ntmps98
      go_wp2_with (first | ((with_reducible refine at_box 2 ?_); refine wpList_box_own O (M.mat 2 (a)) rfl ?_; clear O; intro g2 w1 O) | ((with_reducible refine at_box 3 ?_); refine wpList_box_own O (M.mat 2 (b)) rfl ?_; clear O; intro g3 w2 O) | ((with_reducible refine at_load 9 ?_); refine wpList_cell_h (v := .int .i64 (b0)) rfl O.held 0 rfl Cb0.out rfl agg3 rfl ?_) | ((with_reducible refine at_load 11 ?_); refine wpList_cell_h (v := .int .i64 (a0)) rfl O.held 1 rfl Ca0.out rfl agg3 rfl ?_) | ((with_reducible refine at_load 14 ?_); refine wpList_cell_h (v := .int .i64 (b1)) rfl O.held 0 rfl Cb1.out rfl agg3 rfl ?_) | ((with_reducible refine at_load 16 ?_); refine wpList_cell_h (v := .int .i64 (a1)) rfl O.held 1 rfl Ca1.out rfl agg3 rfl ?_) | ((with_reducible refine at_build 18 ?_); refine wpList_build_g rfl ([(0, .int .i64 w), (1, .int .i64 h)]) ((M.mat 2 (DM.t2 w h)).toArray) ?_ (builtP _ _) ?_; (focus (simp only [List.map_toArray, List.map_cons, List.map_nil]; rfl))) | ((with_reducible refine at_alloc 5 ?_); refine wpList_alloc_own O (M.mat 2 M.zero) zeroP ?_; clear O; intro g5 w3 O) | ((with_reducible refine at_store 5 ?_); refine wpList_put_own O 0 (M.mat 2 (DM.t2 w h)) rfl rfl rfl (sP _) (M.mat_len2 _ _ _) (M.mat_one _ _) ?_; clear O; intro w4 O) | ((with_reducible first | refine at_load 20 ?_ | refine at_load 24 ?_ | refine at_load 45 ?_ | refine at_load 56 ?_); refine wpList_cell_h (v := .int .i64 (h)) rfl O.held 0 rfl CA1.out rfl agg3 rfl ?_) | ((with_reducible first | refine at_load 28 ?_ | refine at_load 40 ?_ | refine at_load 51 ?_ | refine at_load 53 ?_); refine wpList_cell_h (v := .int .i64 (w)) rfl O.held 0 rfl CA0.out rfl agg3 rfl ?_) | ((with_reducible refine at_load 42 ?_); refine wpList_cell_h (v := .int .i64 (a1)) rfl O.held 2 rfl Ca1.out rfl agg3 rfl ?_) | ((with_reducible refine at_load 47 ?_); refine wpList_cell_h (v := .int .i64 (a0)) rfl O.held 2 rfl Ca0.out rfl agg3 rfl ?_))
      go_ret
      exact ⟨by rw [HE.out]; rfl, O.below⟩
     ·
      rw [z2] at HE
      have Ww_ := FW.out.2.2.1
      have Wh_ := FW.out.2.2.2
      go_enter Tryz.func98, Tryz.ntmps98
      go_wp2_with (first | ((with_reducible refine at_box 2 ?_); refine wpList_box_own O (M.mat 2 (a)) rfl ?_; clear O; intro g2 w1 O) | ((with_reducible refine at_box 3 ?_); refine wpList_box_own O (M.mat 2 (b)) rfl ?_; clear O; intro g3 w2 O) | ((with_reducible refine at_load 9 ?_); refine wpList_cell_h (v := .int .i64 (b0)) rfl O.held 0 rfl Cb0.out rfl agg3 rfl ?_) | ((with_reducible refine at_load 11 ?_); refine wpList_cell_h (v := .int .i64 (a0)) rfl O.held 1 rfl Ca0.out rfl agg3 rfl ?_) | ((with_reducible refine at_load 14 ?_); refine wpList_cell_h (v := .int .i64 (b1)) rfl O.held 0 rfl Cb1.out rfl agg3 rfl ?_) | ((with_reducible refine at_load 16 ?_); refine wpList_cell_h (v := .int .i64 (a1)) rfl O.held 1 rfl Ca1.out rfl agg3 rfl ?_) | ((with_reducible refine at_build 18 ?_); refine wpList_build_g rfl ([(0, .int .i64 w), (1, .int .i64 h)]) ((M.mat 2 (DM.t2 w h)).toArray) ?_ (builtP _ _) ?_; (focus (simp only [List.map_toArray, List.map_cons, List.map_nil]; rfl))) | ((with_reducible refine at_alloc 5 ?_); refine wpList_alloc_own O (M.mat 2 M.zero) zeroP ?_; clear O; intro g5 w3 O) | ((with_reducible refine at_store 5 ?_); refine wpList_put_own O 0 (M.mat 2 (DM.t2 w h)) rfl rfl rfl (sP _) (M.mat_len2 _ _ _) (M.mat_one _ _) ?_; clear O; intro w4 O) | ((with_reducible first | refine at_load 20 ?_ | refine at_load 24 ?_ | refine at_load 45 ?_ | refine at_load 56 ?_); refine wpList_cell_h (v := .int .i64 (h)) rfl O.held 0 rfl CA1.out rfl agg3 rfl ?_) | ((with_reducible first | refine at_load 28 ?_ | refine at_load 40 ?_ | refine at_load 51 ?_ | refine at_load 53 ?_); refine wpList_cell_h (v := .int .i64 (w)) rfl O.held 0 rfl CA0.out rfl agg3 rfl ?_) | ((with_reducible refine at_load 42 ?_); refine wpList_cell_h (v := .int .i64 (a1)) rfl O.held 2 rfl Ca1.out rfl agg3 rfl ?_) | ((with_reducible refine at_load 47 ?_); refine wpList_cell_h (v := .int .i64 (a0)) rfl O.held 2 rfl Ca0.out rfl agg3 rfl ?_))
      go_ret
      exact ⟨by rw [HE.out]; rfl, O.below⟩
   ·
    have hs_ : h < 0 ∨ (h = 0 ∧ 0 < w) := by
     simp only [beq_iff_eq] at c2
     simp only [decide_eq_true_eq] at c3
     omega
    obtain ⟨⟨⟨i1, i2⟩, i3, i4⟩, ⟨i5, i6⟩, i7, i8⟩ := HB.out
    obtain ⟨nw, hnw⟩ : ∃ z, -w = z := ⟨_, rfl⟩
    obtain ⟨nh, hnh⟩ : ∃ z, -h = z := ⟨_, rfl⟩
    have Wnw : wrap64 (-w) = nw := by rw [← hnw]; exact IntWalk.wrap64_in _ (by omega)
    have Wnh : wrap64 (-h) = nh := by rw [← hnh]; exact IntWalk.wrap64_in _ (by omega)
    have CB0 := cell_is (n := 2) (a := DM.t2 nw nh) (i := 0) (z := nw) rfl (by decide)
    have CB1 := cell_is (n := 2) (a := DM.t2 nw nh) (i := 1) (z := nh) rfl (by decide)
    have r1 : -1073741824 ≤ nw ∧ nw ≤ 1073741824 := by omega
    have r2 : -1073741824 ≤ nh ∧ nh ≤ 1073741824 := by omega
    have b1_ := M.mul_hi (a := nw) (b := a1) (A := 1073741824) (B := 1610612864) (by omega) r1.2 (by omega) i4
    have b2_ := M.mul_hi (a := nh) (b := a0) (A := 1073741824) (B := 1610612864) (by omega) r2.2 (by omega) i2
    obtain ⟨t1, ht1⟩ : ∃ z, nw * a1 = z := ⟨_, rfl⟩
    obtain ⟨t2, ht2⟩ : ∃ z, nh * a0 = z := ⟨_, rfl⟩
    rw [ht1] at b1_
    rw [ht2] at b2_
    obtain ⟨o, ho⟩ : ∃ z, t1 - t2 = z := ⟨_, rfl⟩
    obtain ⟨mw, hmw⟩ : ∃ z, -nw = z := ⟨_, rfl⟩
    have Wmw : wrap64 (-nw) = mw := by rw [← hmw]; exact IntWalk.wrap64_in _ (by omega)
    obtain ⟨m2, hm2⟩ : ∃ z, DM.max3 nw mw nh = z := ⟨_, rfl⟩
    have hm3 : max (max nw mw) nh = m2 := hm2
    obtain ⟨f, hf⟩ : ∃ z, 128 * m2 = z := ⟨_, rfl⟩
    obtain ⟨nf, hnf⟩ : ∃ z, -f = z := ⟨_, rfl⟩
    have rm : 0 ≤ m2 ∧ m2 ≤ 1073741824 := by omega
    have W1 : wrap64 (nw * a1) = t1 := by rw [ht1]; exact IntWalk.wrap64_in _ (by omega)
    have W2 : wrap64 (nh * a0) = t2 := by rw [ht2]; exact IntWalk.wrap64_in _ (by omega)
    have W1' : wrap64 t1 = t1 := IntWalk.wrap64_in _ (by omega)
    have W2' : wrap64 t2 = t2 := IntWalk.wrap64_in _ (by omega)
    have W3 : wrap64 (t1 - t2) = o := by rw [ho]; exact IntWalk.wrap64_in _ (by omega)
    have W4 : wrap64 (128 * m2) = f := by rw [hf]; exact IntWalk.wrap64_in _ (by omega)
    have W5 : wrap64 (-f) = nf := by rw [hnf]; exact IntWalk.wrap64_in _ (by omega)
    have HE := Lib.hid (ND (hs_) hnw hnh (by rw [ht1, ht2, ho]) (by rw [hmw, hm3, hf]))
    rw [hnf] at HE
    have FF := Lib.hid (And.intro (Wmw) (And.intro (congrArg (Value.int IntKind.i64) hm2) (And.intro (W1) (And.intro (W2) (And.intro (W3) (And.intro (W4) (And.intro (W5) (And.intro (Wnw) (Wnh)))))))))
    clear Wmw hm2 W1 W2 W3 W4 W5 Wnw Wnh hm3 ht1 ht2 ho hmw hf hnf W1' W2' hnw hnh i1 i2 i3 i4 i5 i6 i7 i8 r1 r2 rm b1_ b2_ NU ND
    have Wmw := FF.out.1
    have hm2 := FF.out.2.1
    have W1 := FF.out.2.2.1
    have W2 := FF.out.2.2.2.1
    have W3 := FF.out.2.2.2.2.1
    have W4 := FF.out.2.2.2.2.2.1
    have W5 := FF.out.2.2.2.2.2.2.1
    have Wnw := FF.out.2.2.2.2.2.2.2.1
    have Wnh := FF.out.2.2.2.2.2.2.2.2
    clear FF
    cases z1 : decide (nf ≤ o)
    ·
     rw [z1, Bool.false_and] at HE
     have Ww_ := FW.out.2.2.1
     have Wh_ := FW.out.2.2.2
     go_enter Tryz.func98, Tryz.ntmps98
     go_wp2_with (first | ((with_reducible refine at_box 2 ?_); refine wpList_box_own O (M.mat 2 (a)) rfl ?_; clear O; intro g2 w1 O) | ((with_reducible refine at_box 3 ?_); refine wpList_box_own O (M.mat 2 (b)) rfl ?_; clear O; intro g3 w2 O) | ((with_reducible refine at_load 9 ?_); refine wpList_cell_h (v := .int .i64 (b0)) rfl O.held 0 rfl Cb0.out rfl agg3 rfl ?_) | ((with_reducible refine at_load 11 ?_); refine wpList_cell_h (v := .int .i64 (a0)) rfl O.held 1 rfl Ca0.out rfl agg3 rfl ?_) | ((with_reducible refine at_load 14 ?_); refine wpList_cell_h (v := .int .i64 (b1)) rfl O.held 0 rfl Cb1.out rfl agg3 rfl ?_) | ((with_reducible refine at_load 16 ?_); refine wpList_cell_h (v := .int .i64 (a1)) rfl O.held 1 rfl Ca1.out rfl agg3 rfl ?_) | ((with_reducible refine at_build 18 ?_); refine wpList_build_g rfl ([(0, .int .i64 w), (1, .int .i64 h)]) ((M.mat 2 (DM.t2 w h)).toArray) ?_ (builtP _ _) ?_; (focus (simp only [List.map_toArray, List.map_cons, List.map_nil]; rfl))) | ((with_reducible refine at_alloc 5 ?_); refine wpList_alloc_own O (M.mat 2 M.zero) zeroP ?_; clear O; intro g5 w3 O) | ((with_reducible refine at_store 5 ?_); refine wpList_put_own O 0 (M.mat 2 (DM.t2 w h)) rfl rfl rfl (sP _) (M.mat_len2 _ _ _) (M.mat_one _ _) ?_; clear O; intro w4 O) | ((with_reducible first | refine at_load 20 ?_ | refine at_load 24 ?_ | refine at_load 36 ?_); refine wpList_cell_h (v := .int .i64 (h)) rfl O.held 0 rfl CA1.out rfl agg3 rfl ?_) | ((with_reducible first | refine at_load 28 ?_ | refine at_load 33 ?_); refine wpList_cell_h (v := .int .i64 (w)) rfl O.held 0 rfl CA0.out rfl agg3 rfl ?_) | ((with_reducible refine at_build 38 ?_); refine wpList_build_g rfl ([(0, .int .i64 nw), (1, .int .i64 nh)]) ((M.mat 2 (DM.t2 nw nh)).toArray) ?_ (builtP _ _) ?_; (focus (simp only [List.map_toArray, List.map_cons, List.map_nil]; rfl))) | ((with_reducible refine at_store 5 ?_); refine wpList_put_own O 0 (M.mat 2 (DM.t2 nw nh)) rfl rfl rfl (sP _) (M.mat_len2 _ _ _) (M.mat_one _ _) ?_; clear O; intro w5 O) | ((with_reducible first | refine at_load 40 ?_ | refine at_load 51 ?_ | refine at_load 53 ?_); refine wpList_cell_h (v := .int .i64 (nw)) rfl O.held 0 rfl CB0.out rfl agg3 rfl ?_) | ((with_reducible refine at_load 42 ?_); refine wpList_cell_h (v := .int .i64 (a1)) rfl O.held 2 rfl Ca1.out rfl agg3 rfl ?_) | ((with_reducible first | refine at_load 45 ?_ | refine at_load 56 ?_); refine wpList_cell_h (v := .int .i64 (nh)) rfl O.held 0 rfl CB1.out rfl agg3 rfl ?_) | ((with_reducible refine at_load 47 ?_); refine wpList_cell_h (v := .int .i64 (a0)) rfl O.held 2 rfl Ca0.out rfl agg3 rfl ?_))
     go_ret
     exact ⟨by rw [HE.out]; rfl, O.below⟩
    ·
     rw [z1, Bool.true_and] at HE
     cases z2 : decide (o < f)
     ·
      rw [z2] at HE
      have Ww_ := FW.out.2.2.1
      have Wh_ := FW.out.2.2.2
      go_enter Tryz.func98, Tryz.ntmps98
      go_wp2_with (first | ((with_reducible refine at_box 2 ?_); refine wpList_box_own O (M.mat 2 (a)) rfl ?_; clear O; intro g2 w1 O) | ((with_reducible refine at_box 3 ?_); refine wpList_box_own O (M.mat 2 (b)) rfl ?_; clear O; intro g3 w2 O) | ((with_reducible refine at_load 9 ?_); refine wpList_cell_h (v := .int .i64 (b0)) rfl O.held 0 rfl Cb0.out rfl agg3 rfl ?_) | ((with_reducible refine at_load 11 ?_); refine wpList_cell_h (v := .int .i64 (a0)) rfl O.held 1 rfl Ca0.out rfl agg3 rfl ?_) | ((with_reducible refine at_load 14 ?_); refine wpList_cell_h (v := .int .i64 (b1)) rfl O.held 0 rfl Cb1.out rfl agg3 rfl ?_) | ((with_reducible refine at_load 16 ?_); refine wpList_cell_h (v := .int .i64 (a1)) rfl O.held 1 rfl Ca1.out rfl agg3 rfl ?_) | ((with_reducible refine at_build 18 ?_); refine wpList_build_g rfl ([(0, .int .i64 w), (1, .int .i64 h)]) ((M.mat 2 (DM.t2 w h)).toArray) ?_ (builtP _ _) ?_; (focus (simp only [List.map_toArray, List.map_cons, List.map_nil]; rfl))) | ((with_reducible refine at_alloc 5 ?_); refine wpList_alloc_own O (M.mat 2 M.zero) zeroP ?_; clear O; intro g5 w3 O) | ((with_reducible refine at_store 5 ?_); refine wpList_put_own O 0 (M.mat 2 (DM.t2 w h)) rfl rfl rfl (sP _) (M.mat_len2 _ _ _) (M.mat_one _ _) ?_; clear O; intro w4 O) | ((with_reducible first | refine at_load 20 ?_ | refine at_load 24 ?_ | refine at_load 36 ?_); refine wpList_cell_h (v := .int .i64 (h)) rfl O.held 0 rfl CA1.out rfl agg3 rfl ?_) | ((with_reducible first | refine at_load 28 ?_ | refine at_load 33 ?_); refine wpList_cell_h (v := .int .i64 (w)) rfl O.held 0 rfl CA0.out rfl agg3 rfl ?_) | ((with_reducible refine at_build 38 ?_); refine wpList_build_g rfl ([(0, .int .i64 nw), (1, .int .i64 nh)]) ((M.mat 2 (DM.t2 nw nh)).toArray) ?_ (builtP _ _) ?_; (focus (simp only [List.map_toArray, List.map_cons, List.map_nil]; rfl))) | ((with_reducible refine at_store 5 ?_); refine wpList_put_own O 0 (M.mat 2 (DM.t2 nw nh)) rfl rfl rfl (sP _) (M.mat_len2 _ _ _) (M.mat_one _ _) ?_; clear O; intro w5 O) | ((with_reducible first | refine at_load 40 ?_ | refine at_load 51 ?_ | refine at_load 53 ?_); refine wpList_cell_h (v := .int .i64 (nw)) rfl O.held 0 rfl CB0.out rfl agg3 rfl ?_) | ((with_reducible refine at_load 42 ?_); refine wpList_cell_h (v := .int .i64 (a1)) rfl O.held 2 rfl Ca1.out rfl agg3 rfl ?_) | ((with_reducible first | refine at_load 45 ?_ | refine at_load 56 ?_); refine wpList_cell_h (v := .int .i64 (nh)) rfl O.held 0 rfl CB1.out rfl agg3 rfl ?_) | ((with_reducible refine at_load 47 ?_); refine wpList_cell_h (v := .int .i64 (a0)) rfl O.held 2 rfl Ca0.out rfl agg3 rfl ?_))
      go_ret
      exact ⟨by rw [HE.out]; rfl, O.below⟩
     ·
      rw [z2] at HE
      have Ww_ := FW.out.2.2.1
      have Wh_ := FW.out.2.2.2
      go_enter Tryz.func98, Tryz.ntmps98
      go_wp2_with (first | ((with_reducible refine at_box 2 ?_); refine wpList_box_own O (M.mat 2 (a)) rfl ?_; clear O; intro g2 w1 O) | ((with_reducible refine at_box 3 ?_); refine wpList_box_own O (M.mat 2 (b)) rfl ?_; clear O; intro g3 w2 O) | ((with_reducible refine at_load 9 ?_); refine wpList_cell_h (v := .int .i64 (b0)) rfl O.held 0 rfl Cb0.out rfl agg3 rfl ?_) | ((with_reducible refine at_load 11 ?_); refine wpList_cell_h (v := .int .i64 (a0)) rfl O.held 1 rfl Ca0.out rfl agg3 rfl ?_) | ((with_reducible refine at_load 14 ?_); refine wpList_cell_h (v := .int .i64 (b1)) rfl O.held 0 rfl Cb1.out rfl agg3 rfl ?_) | ((with_reducible refine at_load 16 ?_); refine wpList_cell_h (v := .int .i64 (a1)) rfl O.held 1 rfl Ca1.out rfl agg3 rfl ?_) | ((with_reducible refine at_build 18 ?_); refine wpList_build_g rfl ([(0, .int .i64 w), (1, .int .i64 h)]) ((M.mat 2 (DM.t2 w h)).toArray) ?_ (builtP _ _) ?_; (focus (simp only [List.map_toArray, List.map_cons, List.map_nil]; rfl))) | ((with_reducible refine at_alloc 5 ?_); refine wpList_alloc_own O (M.mat 2 M.zero) zeroP ?_; clear O; intro g5 w3 O) | ((with_reducible refine at_store 5 ?_); refine wpList_put_own O 0 (M.mat 2 (DM.t2 w h)) rfl rfl rfl (sP _) (M.mat_len2 _ _ _) (M.mat_one _ _) ?_; clear O; intro w4 O) | ((with_reducible first | refine at_load 20 ?_ | refine at_load 24 ?_ | refine at_load 36 ?_); refine wpList_cell_h (v := .int .i64 (h)) rfl O.held 0 rfl CA1.out rfl agg3 rfl ?_) | ((with_reducible first | refine at_load 28 ?_ | refine at_load 33 ?_); refine wpList_cell_h (v := .int .i64 (w)) rfl O.held 0 rfl CA0.out rfl agg3 rfl ?_) | ((with_reducible refine at_build 38 ?_); refine wpList_build_g rfl ([(0, .int .i64 nw), (1, .int .i64 nh)]) ((M.mat 2 (DM.t2 nw nh)).toArray) ?_ (builtP _ _) ?_; (focus (simp only [List.map_toArray, List.map_cons, List.map_nil]; rfl))) | ((with_reducible refine at_store 5 ?_); refine wpList_put_own O 0 (M.mat 2 (DM.t2 nw nh)) rfl rfl rfl (sP _) (M.mat_len2 _ _ _) (M.mat_one _ _) ?_; clear O; intro w5 O) | ((with_reducible first | refine at_load 40 ?_ | refine at_load 51 ?_ | refine at_load 53 ?_); refine wpList_cell_h (v := .int .i64 (nw)) rfl O.held 0 rfl CB0.out rfl agg3 rfl ?_) | ((with_reducible refine at_load 42 ?_); refine wpList_cell_h (v := .int .i64 (a1)) rfl O.held 2 rfl Ca1.out rfl agg3 rfl ?_) | ((with_reducible first | refine at_load 45 ?_ | refine at_load 56 ?_); refine wpList_cell_h (v := .int .i64 (nh)) rfl O.held 0 rfl CB1.out rfl agg3 rfl ?_) | ((with_reducible refine at_load 47 ?_); refine wpList_cell_h (v := .int .i64 (a0)) rfl O.held 2 rfl Ca0.out rfl agg3 rfl ?_))
      go_ret
      exact ⟨by rw [HE.out]; rfl, O.below⟩
 ·
  obtain ⟨⟨⟨i1, i2⟩, i3, i4⟩, ⟨i5, i6⟩, i7, i8⟩ := HB.out
  obtain ⟨nw, hnw⟩ : ∃ z, -w = z := ⟨_, rfl⟩
  obtain ⟨nh, hnh⟩ : ∃ z, -h = z := ⟨_, rfl⟩
  have Wnw : wrap64 (-w) = nw := by rw [← hnw]; exact IntWalk.wrap64_in _ (by omega)
  have Wnh : wrap64 (-h) = nh := by rw [← hnh]; exact IntWalk.wrap64_in _ (by omega)
  have CB0 := cell_is (n := 2) (a := DM.t2 nw nh) (i := 0) (z := nw) rfl (by decide)
  have CB1 := cell_is (n := 2) (a := DM.t2 nw nh) (i := 1) (z := nh) rfl (by decide)
  have r1 : -1073741824 ≤ nw ∧ nw ≤ 1073741824 := by omega
  have r2 : -1073741824 ≤ nh ∧ nh ≤ 1073741824 := by omega
  have b1_ := M.mul_hi (a := nw) (b := a1) (A := 1073741824) (B := 1610612864) (by omega) r1.2 (by omega) i4
  have b2_ := M.mul_hi (a := nh) (b := a0) (A := 1073741824) (B := 1610612864) (by omega) r2.2 (by omega) i2
  obtain ⟨t1, ht1⟩ : ∃ z, nw * a1 = z := ⟨_, rfl⟩
  obtain ⟨t2, ht2⟩ : ∃ z, nh * a0 = z := ⟨_, rfl⟩
  rw [ht1] at b1_
  rw [ht2] at b2_
  obtain ⟨o, ho⟩ : ∃ z, t1 - t2 = z := ⟨_, rfl⟩
  obtain ⟨mw, hmw⟩ : ∃ z, -nw = z := ⟨_, rfl⟩
  have Wmw : wrap64 (-nw) = mw := by rw [← hmw]; exact IntWalk.wrap64_in _ (by omega)
  obtain ⟨m2, hm2⟩ : ∃ z, DM.max3 nw mw nh = z := ⟨_, rfl⟩
  have hm3 : max (max nw mw) nh = m2 := hm2
  obtain ⟨f, hf⟩ : ∃ z, 128 * m2 = z := ⟨_, rfl⟩
  obtain ⟨nf, hnf⟩ : ∃ z, -f = z := ⟨_, rfl⟩
  have rm : 0 ≤ m2 ∧ m2 ≤ 1073741824 := by omega
  have W1 : wrap64 (nw * a1) = t1 := by rw [ht1]; exact IntWalk.wrap64_in _ (by omega)
  have W2 : wrap64 (nh * a0) = t2 := by rw [ht2]; exact IntWalk.wrap64_in _ (by omega)
  have W1' : wrap64 t1 = t1 := IntWalk.wrap64_in _ (by omega)
  have W2' : wrap64 t2 = t2 := IntWalk.wrap64_in _ (by omega)
  have W3 : wrap64 (t1 - t2) = o := by rw [ho]; exact IntWalk.wrap64_in _ (by omega)
  have W4 : wrap64 (128 * m2) = f := by rw [hf]; exact IntWalk.wrap64_in _ (by omega)
  have W5 : wrap64 (-f) = nf := by rw [hnf]; exact IntWalk.wrap64_in _ (by omega)
  have HE := Lib.hid (ND (.inl (by simpa using c1)) hnw hnh (by rw [ht1, ht2, ho]) (by rw [hmw, hm3, hf]))
  rw [hnf] at HE
  have FF := Lib.hid (And.intro (Wmw) (And.intro (congrArg (Value.int IntKind.i64) hm2) (And.intro (W1) (And.intro (W2) (And.intro (W3) (And.intro (W4) (And.intro (W5) (And.intro (Wnw) (Wnh)))))))))
  clear Wmw hm2 W1 W2 W3 W4 W5 Wnw Wnh hm3 ht1 ht2 ho hmw hf hnf W1' W2' hnw hnh i1 i2 i3 i4 i5 i6 i7 i8 r1 r2 rm b1_ b2_ NU ND
  have Wmw := FF.out.1
  have hm2 := FF.out.2.1
  have W1 := FF.out.2.2.1
  have W2 := FF.out.2.2.2.1
  have W3 := FF.out.2.2.2.2.1
  have W4 := FF.out.2.2.2.2.2.1
  have W5 := FF.out.2.2.2.2.2.2.1
  have Wnw := FF.out.2.2.2.2.2.2.2.1
  have Wnh := FF.out.2.2.2.2.2.2.2.2
  clear FF
  cases z1 : decide (nf ≤ o)
  ·
   rw [z1, Bool.false_and] at HE
   have Ww_ := FW.out.2.2.1
   have Wh_ := FW.out.2.2.2
   go_enter Tryz.func98, Tryz.ntmps98
   go_wp2_with (first | ((with_reducible refine at_box 2 ?_); refine wpList_box_own O (M.mat 2 (a)) rfl ?_; clear O; intro g2 w1 O) | ((with_reducible refine at_box 3 ?_); refine wpList_box_own O (M.mat 2 (b)) rfl ?_; clear O; intro g3 w2 O) | ((with_reducible refine at_load 9 ?_); refine wpList_cell_h (v := .int .i64 (b0)) rfl O.held 0 rfl Cb0.out rfl agg3 rfl ?_) | ((with_reducible refine at_load 11 ?_); refine wpList_cell_h (v := .int .i64 (a0)) rfl O.held 1 rfl Ca0.out rfl agg3 rfl ?_) | ((with_reducible refine at_load 14 ?_); refine wpList_cell_h (v := .int .i64 (b1)) rfl O.held 0 rfl Cb1.out rfl agg3 rfl ?_) | ((with_reducible refine at_load 16 ?_); refine wpList_cell_h (v := .int .i64 (a1)) rfl O.held 1 rfl Ca1.out rfl agg3 rfl ?_) | ((with_reducible refine at_build 18 ?_); refine wpList_build_g rfl ([(0, .int .i64 w), (1, .int .i64 h)]) ((M.mat 2 (DM.t2 w h)).toArray) ?_ (builtP _ _) ?_; (focus (simp only [List.map_toArray, List.map_cons, List.map_nil]; rfl))) | ((with_reducible refine at_alloc 5 ?_); refine wpList_alloc_own O (M.mat 2 M.zero) zeroP ?_; clear O; intro g5 w3 O) | ((with_reducible refine at_store 5 ?_); refine wpList_put_own O 0 (M.mat 2 (DM.t2 w h)) rfl rfl rfl (sP _) (M.mat_len2 _ _ _) (M.mat_one _ _) ?_; clear O; intro w4 O) | ((with_reducible first | refine at_load 20 ?_ | refine at_load 36 ?_); refine wpList_cell_h (v := .int .i64 (h)) rfl O.held 0 rfl CA1.out rfl agg3 rfl ?_) | ((with_reducible refine at_load 33 ?_); refine wpList_cell_h (v := .int .i64 (w)) rfl O.held 0 rfl CA0.out rfl agg3 rfl ?_) | ((with_reducible refine at_build 38 ?_); refine wpList_build_g rfl ([(0, .int .i64 nw), (1, .int .i64 nh)]) ((M.mat 2 (DM.t2 nw nh)).toArray) ?_ (builtP _ _) ?_; (focus (simp only [List.map_toArray, List.map_cons, List.map_nil]; rfl))) | ((with_reducible refine at_store 5 ?_); refine wpList_put_own O 0 (M.mat 2 (DM.t2 nw nh)) rfl rfl rfl (sP _) (M.mat_len2 _ _ _) (M.mat_one _ _) ?_; clear O; intro w5 O) | ((with_reducible first | refine at_load 40 ?_ | refine at_load 51 ?_ | refine at_load 53 ?_); refine wpList_cell_h (v := .int .i64 (nw)) rfl O.held 0 rfl CB0.out rfl agg3 rfl ?_) | ((with_reducible refine at_load 42 ?_); refine wpList_cell_h (v := .int .i64 (a1)) rfl O.held 2 rfl Ca1.out rfl agg3 rfl ?_) | ((with_reducible first | refine at_load 45 ?_ | refine at_load 56 ?_); refine wpList_cell_h (v := .int .i64 (nh)) rfl O.held 0 rfl CB1.out rfl agg3 rfl ?_) | ((with_reducible refine at_load 47 ?_); refine wpList_cell_h (v := .int .i64 (a0)) rfl O.held 2 rfl Ca0.out rfl agg3 rfl ?_))
   go_ret
   exact ⟨by rw [HE.out]; rfl, O.below⟩
  ·
   rw [z1, Bool.true_and] at HE
   cases z2 : decide (o < f)
   ·
    rw [z2] at HE
    have Ww_ := FW.out.2.2.1
    have Wh_ := FW.out.2.2.2
    go_enter Tryz.func98, Tryz.ntmps98
    go_wp2_with (first | ((with_reducible refine at_box 2 ?_); refine wpList_box_own O (M.mat 2 (a)) rfl ?_; clear O; intro g2 w1 O) | ((with_reducible refine at_box 3 ?_); refine wpList_box_own O (M.mat 2 (b)) rfl ?_; clear O; intro g3 w2 O) | ((with_reducible refine at_load 9 ?_); refine wpList_cell_h (v := .int .i64 (b0)) rfl O.held 0 rfl Cb0.out rfl agg3 rfl ?_) | ((with_reducible refine at_load 11 ?_); refine wpList_cell_h (v := .int .i64 (a0)) rfl O.held 1 rfl Ca0.out rfl agg3 rfl ?_) | ((with_reducible refine at_load 14 ?_); refine wpList_cell_h (v := .int .i64 (b1)) rfl O.held 0 rfl Cb1.out rfl agg3 rfl ?_) | ((with_reducible refine at_load 16 ?_); refine wpList_cell_h (v := .int .i64 (a1)) rfl O.held 1 rfl Ca1.out rfl agg3 rfl ?_) | ((with_reducible refine at_build 18 ?_); refine wpList_build_g rfl ([(0, .int .i64 w), (1, .int .i64 h)]) ((M.mat 2 (DM.t2 w h)).toArray) ?_ (builtP _ _) ?_; (focus (simp only [List.map_toArray, List.map_cons, List.map_nil]; rfl))) | ((with_reducible refine at_alloc 5 ?_); refine wpList_alloc_own O (M.mat 2 M.zero) zeroP ?_; clear O; intro g5 w3 O) | ((with_reducible refine at_store 5 ?_); refine wpList_put_own O 0 (M.mat 2 (DM.t2 w h)) rfl rfl rfl (sP _) (M.mat_len2 _ _ _) (M.mat_one _ _) ?_; clear O; intro w4 O) | ((with_reducible first | refine at_load 20 ?_ | refine at_load 36 ?_); refine wpList_cell_h (v := .int .i64 (h)) rfl O.held 0 rfl CA1.out rfl agg3 rfl ?_) | ((with_reducible refine at_load 33 ?_); refine wpList_cell_h (v := .int .i64 (w)) rfl O.held 0 rfl CA0.out rfl agg3 rfl ?_) | ((with_reducible refine at_build 38 ?_); refine wpList_build_g rfl ([(0, .int .i64 nw), (1, .int .i64 nh)]) ((M.mat 2 (DM.t2 nw nh)).toArray) ?_ (builtP _ _) ?_; (focus (simp only [List.map_toArray, List.map_cons, List.map_nil]; rfl))) | ((with_reducible refine at_store 5 ?_); refine wpList_put_own O 0 (M.mat 2 (DM.t2 nw nh)) rfl rfl rfl (sP _) (M.mat_len2 _ _ _) (M.mat_one _ _) ?_; clear O; intro w5 O) | ((with_reducible first | refine at_load 40 ?_ | refine at_load 51 ?_ | refine at_load 53 ?_); refine wpList_cell_h (v := .int .i64 (nw)) rfl O.held 0 rfl CB0.out rfl agg3 rfl ?_) | ((with_reducible refine at_load 42 ?_); refine wpList_cell_h (v := .int .i64 (a1)) rfl O.held 2 rfl Ca1.out rfl agg3 rfl ?_) | ((with_reducible first | refine at_load 45 ?_ | refine at_load 56 ?_); refine wpList_cell_h (v := .int .i64 (nh)) rfl O.held 0 rfl CB1.out rfl agg3 rfl ?_) | ((with_reducible refine at_load 47 ?_); refine wpList_cell_h (v := .int .i64 (a0)) rfl O.held 2 rfl Ca0.out rfl agg3 rfl ?_))
    go_ret
    exact ⟨by rw [HE.out]; rfl, O.below⟩
   ·
    rw [z2] at HE
    have Ww_ := FW.out.2.2.1
    have Wh_ := FW.out.2.2.2
    go_enter Tryz.func98, Tryz.ntmps98
    go_wp2_with (first | ((with_reducible refine at_box 2 ?_); refine wpList_box_own O (M.mat 2 (a)) rfl ?_; clear O; intro g2 w1 O) | ((with_reducible refine at_box 3 ?_); refine wpList_box_own O (M.mat 2 (b)) rfl ?_; clear O; intro g3 w2 O) | ((with_reducible refine at_load 9 ?_); refine wpList_cell_h (v := .int .i64 (b0)) rfl O.held 0 rfl Cb0.out rfl agg3 rfl ?_) | ((with_reducible refine at_load 11 ?_); refine wpList_cell_h (v := .int .i64 (a0)) rfl O.held 1 rfl Ca0.out rfl agg3 rfl ?_) | ((with_reducible refine at_load 14 ?_); refine wpList_cell_h (v := .int .i64 (b1)) rfl O.held 0 rfl Cb1.out rfl agg3 rfl ?_) | ((with_reducible refine at_load 16 ?_); refine wpList_cell_h (v := .int .i64 (a1)) rfl O.held 1 rfl Ca1.out rfl agg3 rfl ?_) | ((with_reducible refine at_build 18 ?_); refine wpList_build_g rfl ([(0, .int .i64 w), (1, .int .i64 h)]) ((M.mat 2 (DM.t2 w h)).toArray) ?_ (builtP _ _) ?_; (focus (simp only [List.map_toArray, List.map_cons, List.map_nil]; rfl))) | ((with_reducible refine at_alloc 5 ?_); refine wpList_alloc_own O (M.mat 2 M.zero) zeroP ?_; clear O; intro g5 w3 O) | ((with_reducible refine at_store 5 ?_); refine wpList_put_own O 0 (M.mat 2 (DM.t2 w h)) rfl rfl rfl (sP _) (M.mat_len2 _ _ _) (M.mat_one _ _) ?_; clear O; intro w4 O) | ((with_reducible first | refine at_load 20 ?_ | refine at_load 36 ?_); refine wpList_cell_h (v := .int .i64 (h)) rfl O.held 0 rfl CA1.out rfl agg3 rfl ?_) | ((with_reducible refine at_load 33 ?_); refine wpList_cell_h (v := .int .i64 (w)) rfl O.held 0 rfl CA0.out rfl agg3 rfl ?_) | ((with_reducible refine at_build 38 ?_); refine wpList_build_g rfl ([(0, .int .i64 nw), (1, .int .i64 nh)]) ((M.mat 2 (DM.t2 nw nh)).toArray) ?_ (builtP _ _) ?_; (focus (simp only [List.map_toArray, List.map_cons, List.map_nil]; rfl))) | ((with_reducible refine at_store 5 ?_); refine wpList_put_own O 0 (M.mat 2 (DM.t2 nw nh)) rfl rfl rfl (sP _) (M.mat_len2 _ _ _) (M.mat_one _ _) ?_; clear O; intro w5 O) | ((with_reducible first | refine at_load 40 ?_ | refine at_load 51 ?_ | refine at_load 53 ?_); refine wpList_cell_h (v := .int .i64 (nw)) rfl O.held 0 rfl CB0.out rfl agg3 rfl ?_) | ((with_reducible refine at_load 42 ?_); refine wpList_cell_h (v := .int .i64 (a1)) rfl O.held 2 rfl Ca1.out rfl agg3 rfl ?_) | ((with_reducible first | refine at_load 45 ?_ | refine at_load 56 ?_); refine wpList_cell_h (v := .int .i64 (nh)) rfl O.held 0 rfl CB1.out rfl agg3 rfl ?_) | ((with_reducible refine at_load 47 ?_); refine wpList_cell_h (v := .int .i64 (a0)) rfl O.held 2 rfl Ca0.out rfl agg3 rfl ?_))
    go_ret
    exact ⟨by rw [HE.out]; rfl, O.below⟩
end Go.Proofs.YtpfhaocmcfnhnaaGreat
