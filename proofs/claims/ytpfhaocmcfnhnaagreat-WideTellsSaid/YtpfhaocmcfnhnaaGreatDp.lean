/- Contracts of the program's helpers: down, pixel, overlaps, fromMiddle. -/
import Derived.Test.YtpfhaocmcfnhnaaGreatWc
import Derived.Test.YtpfhaocmcfnhnaaGreatRe
namespace Go.Proofs.YtpfhaocmcfnhnaaGreat
open Go.ChangeShapes Go.WideShapes Go.ChangeAt Go.RowKit
set_option linter.unusedVariables false
set_option linter.unusedSimpArgs false

namespace DM
/-- Do sums, or differences, overlap the diamond? -/
def over (m n : Int) : Bool := decide (min m n ≤ 128) && decide (-128 < max m n)
/-- Is the line, without ends, not beside the diamond? -/
def passes (a b c d : Int) : Bool := decide (band (off a b (c - a) (d - b)) (c - a) (d - b))
theorem meets_over (a b c d : Int) : meets a b c d = (over (a + b) (c + d) && (over (a - b) (c - d) && (decide (a = c ∧ b = d) || passes a b c d))) := by
 rw [Bool.eq_iff_iff, meets_iff]
 simp only [over, passes, Bool.and_eq_true, Bool.or_eq_true, decide_eq_true_eq]
 unfold meetsP box
 exact ⟨fun ⟨⟨h1, h2⟩, h3⟩ => ⟨h1, h2, h3⟩, fun ⟨h1, h2, h3⟩ => ⟨⟨h1, h2⟩, h3⟩⟩
/-- The way turned, so that it goes up, or to the left. -/
theorem passes_up {a b c d w h : Int} (hn : ¬ (a = c ∧ b = d)) (hw : c - a = w) (hh : d - b = h) (hs : ¬ (h < 0 ∨ (h = 0 ∧ 0 < w))) {o f : Int} (ho : w * b - h * a = o) (hf : 128 * max (max w (-w)) h = f) :
  passes a b c d = (decide (-f ≤ o) && decide (o < f)) := by
 rw [Bool.eq_iff_iff]
 simp only [passes, Bool.and_eq_true, decide_eq_true_eq]
 rw [hw, hh]
 unfold band off
 rw [ho]
 have e : far w h = f := by rw [← hf]; unfold far abs; omega
 rw [e]
 unfold neg pos
 have : 0 < h ∨ (h = 0 ∧ w < 0) := by omega
 omega
theorem passes_dn {a b c d w h : Int} (hw : c - a = w) (hh : d - b = h) (hs : h < 0 ∨ (h = 0 ∧ 0 < w)) {w' h' : Int} (hw' : -w = w') (hh' : -h = h') {o f : Int} (ho : w' * b - h' * a = o) (hf : 128 * max (max w' (-w')) h' = f) :
  passes a b c d = (decide (-f ≤ o) && decide (o < f)) := by
 rw [Bool.eq_iff_iff]
 simp only [passes, Bool.and_eq_true, decide_eq_true_eq]
 rw [hw, hh]
 have e0 : off a b w h = -o := by
  rw [← ho, ← hw', ← hh']
  have := off_back a b w h
  unfold off at this ⊢
  omega
 have e : far w h = f := by rw [← hf, ← hw', ← hh']; unfold far abs; omega
 unfold band
 rw [e, e0]
 unfold neg pos
 omega
end DM
set_option maxHeartbeats 2000000 in
theorem over_any (m n : Int) (w : World) : Calls Tryz.prog 97 #[.int .i64 m, .int .i64 n] w fun e w' => e = .returned (.bool (DM.over m n)) ∧ w' = w := by
 have HE : Hid (DM.over m n = (decide (min m n ≤ 128) && decide (-128 < max m n))) := Lib.hid rfl
 obtain ⟨k1, hk1⟩ : ∃ z, min m n = z := ⟨_, rfl⟩
 have G1 := (min_if m n).trans hk1
 obtain ⟨k2, hk2⟩ : ∃ z, max m n = z := ⟨_, rfl⟩
 have G2 := (max_if m n).trans hk2
 rw [hk1, hk2] at HE
 have FM := Lib.hid (And.intro (congrArg (Value.int IntKind.i64) hk1) (And.intro (congrArg (Value.int IntKind.i64) G1) (And.intro (congrArg (Value.int IntKind.i64) hk2) (congrArg (Value.int IntKind.i64) G2))))
 clear hk1 hk2 G1 G2
 obtain ⟨hk1, G1, hk2, G2⟩ := FM.out
 clear FM
 cases h0 : decide (k1 ≤ 128)
 ·
  rw [h0, Bool.false_and] at HE
  go_enter Tryz.func97, Tryz.ntmps97
  go_wp2_with fail
  go_ret
  exact ⟨by rw [HE.out]; rfl, rfl⟩
 ·
  rw [h0, Bool.true_and] at HE
  cases h1 : decide (-128 < k2)
  ·
   rw [h1] at HE
   go_enter Tryz.func97, Tryz.ntmps97
   go_wp2_with fail
   go_ret
   exact ⟨by rw [HE.out]; rfl, rfl⟩
  ·
   rw [h1] at HE
   go_enter Tryz.func97, Tryz.ntmps97
   go_wp2_with fail
   go_ret
   exact ⟨by rw [HE.out]; rfl, rfl⟩
set_option maxRecDepth 100000 in
set_option maxHeartbeats 4000000 in
theorem middle_any (p : Nat → Int) (x y : Int) (hp : DM.Rg p) (hx : DM.Rx x y) (w : World) : Calls Tryz.prog 96 #[arr 2 p, .int .i64 x, .int .i64 y] w fun e w' => e = .returned (arr 2 (DM.t2 (DM.rel (p 0) x) (DM.rel (p 1) y))) ∧ Below w.heap.size w w' := by
 have O := Own.start w
 unfold DM.Rg at hp
 unfold DM.Rx at hx
 obtain ⟨p0, ep0⟩ : ∃ z, p 0 = z := ⟨_, rfl⟩
 have Cp0 := cell_is (n := 2) ep0 (by decide)
 obtain ⟨p1, ep1⟩ : ∃ z, p 1 = z := ⟨_, rfl⟩
 have Cp1 := cell_is (n := 2) ep1 (by decide)
 rw [ep0, ep1] at hp ⊢
 clear ep0 ep1
 obtain ⟨⟨a1, a2⟩, a3, a4⟩ := hp
 obtain ⟨⟨b1, b2⟩, b3, b4⟩ := hx
 have Mm : wrap64 (256 * x) = 256 * x := IntWalk.wrap64_in _ (by omega)
 have Nm : wrap64 (p0 - 256 * x) = p0 - 256 * x := IntWalk.wrap64_in _ (by omega)
 have Pm : wrap64 (p0 - 256 * x - 128) = p0 - 256 * x - 128 := IntWalk.wrap64_in _ (by omega)
 have Mn : wrap64 (256 * y) = 256 * y := IntWalk.wrap64_in _ (by omega)
 have Nn : wrap64 (p1 - 256 * y) = p1 - 256 * y := IntWalk.wrap64_in _ (by omega)
 have Pn : wrap64 (p1 - 256 * y - 128) = p1 - 256 * y - 128 := IntWalk.wrap64_in _ (by omega)
 unfold DM.rel
 clear a1 a2 a3 a4 b1 b2 b3 b4
 go_enter Tryz.func96, Tryz.ntmps96
 go_wp2_with (first | ((with_reducible refine at_box 3 ?_); refine wpList_box_own O (M.mat 2 (p)) rfl ?_; clear O; intro g3 w1 O) | ((with_reducible refine at_alloc 6 ?_); refine wpList_alloc_own O (M.mat 2 M.zero) zeroP ?_; clear O; intro g6 w2 O) | ((with_reducible refine at_load 8 ?_); refine wpList_cell_h (v := .int .i64 (p0)) rfl O.held 1 rfl Cp0.out rfl agg3 rfl ?_) | ((with_reducible refine at_load 14 ?_); refine wpList_cell_h (v := .int .i64 (p1)) rfl O.held 1 rfl Cp1.out rfl agg3 rfl ?_) | ((with_reducible refine at_build 19 ?_); refine wpList_build_g rfl ([(0, .int .i64 (p0 - 256 * x - 128)), (1, .int .i64 (p1 - 256 * y - 128))]) ((M.mat 2 (DM.t2 (p0 - 256 * x - 128) (p1 - 256 * y - 128))).toArray) ?_ (builtP _ _) ?_; (focus (simp only [List.map_toArray, List.map_cons, List.map_nil]; rfl))) | ((with_reducible refine at_store 6 ?_); refine wpList_put_own O 0 (M.mat 2 (DM.t2 (p0 - 256 * x - 128) (p1 - 256 * y - 128))) rfl rfl rfl (sP _) (M.mat_len2 _ _ _) (M.mat_one _ _) ?_; clear O; intro w3 O))
 exact bodyPost_ret (v := arr 2 (DM.t2 (p0 - 256 * x - 128) (p1 - 256 * y - 128))) (res_h rfl O.held 0 rfl rfl Tryz.underlying44 rfl (sP _)) rfl ⟨rfl, O.below⟩
end Go.Proofs.YtpfhaocmcfnhnaaGreat
