/- Contracts: the document's Right, Next, Lit; far. -/
import Derived.Test.YtpomdghalkphcaaHl
namespace Go.Proofs.Ytpomdghalkphcaa
open Go.ChangeShapes Go.WideShapes Go.ChangeAt Go.RowKit
set_option linter.unusedVariables false
set_option linter.unusedSimpArgs false

namespace HM
def right (d : Nat → Int) : Bool := decide (0 ≤ d 0) && (decide (d 0 ≤ 65535) && (decide (1 ≤ d 1) && (decide (d 1 ≤ 256) && (decide (0 ≤ d 2) && decide (d 2 ≤ 1099511627776)))))
theorem right_is {d : Nat → Int} {p r c : Int} (h0 : d 0 = p) (h1 : d 1 = r) (h2 : d 2 = c) : right d = (decide (0 ≤ p) && (decide (p ≤ 65535) && (decide (1 ≤ r) && (decide (r ≤ 256) && (decide (0 ≤ c) && decide (c ≤ 1099511627776)))))) := by rw [right, h0, h1, h2]
theorem right_iff {d : Nat → Int} : right d = true ↔ (0 ≤ d 0 ∧ d 0 ≤ 65535) ∧ (1 ≤ d 1 ∧ d 1 ≤ 256) ∧ (0 ≤ d 2 ∧ d 2 ≤ 1099511627776) := by
  simp only [right, Bool.and_eq_true, decide_eq_true_eq]
  omega
def far (n : Int) : Bool := decide (n < 0) || decide (1099511627776 < n)
theorem far_iff {n : Int} : far n = false ↔ 0 ≤ n ∧ n ≤ 1099511627776 := by
  simp only [far, Bool.or_eq_false_iff, decide_eq_false_iff_not]
  omega
def nextF (d : Nat → Int) (n : Int) : Nat → Int := t3 (d 0) (d 1) (later (d 1) (d 2) n)
def litF (d : Nat → Int) (k : Int) : Bool := lit (d 0) (d 1) (d 2) k
end HM
set_option maxHeartbeats 2000000 in
theorem far_any (n : Int) (w : World) : Calls Try.prog 9 #[.int .i64 n] w fun e w' => e = .returned (.bool (HM.far n)) ∧ w' = w := by
  have HE : Hid (HM.far n = (decide (n < 0) || decide (1099511627776 < n))) := Lib.hid rfl
  cases h0 : decide (n < 0) <;> cases h1 : decide (1099511627776 < n)
  all_goals
    rw [h0, h1] at HE
    go_enter Try.func9, Try.ntmps9
    go_wp2_with fail
    go_ret
    exact ⟨by rw [HE.out]; rfl, rfl⟩
set_option maxHeartbeats 8000000 in
theorem rright_any (d : Nat → Int) (w : World) : Calls Try.prog 8 #[arr 3 d] w fun e w' => e = .returned (.bool (HM.right d)) ∧ Below w.heap.size w w' := by
  have O := Own.start w
  obtain ⟨p, ep⟩ : ∃ z, d 0 = z := ⟨_, rfl⟩
  have Cp := cell_is (n := 3) ep (by decide)
  obtain ⟨r, er⟩ : ∃ z, d 1 = z := ⟨_, rfl⟩
  have Cr := cell_is (n := 3) er (by decide)
  obtain ⟨c, ec⟩ : ∃ z, d 2 = z := ⟨_, rfl⟩
  have Cc := cell_is (n := 3) ec (by decide)
  have HE := Lib.hid (HM.right_is ep er ec)
  clear ep er ec
  cases h0 : decide (0 ≤ p)
  · rw [h0] at HE
    go_enter Try.func8, Try.ntmps8
    go_wp2_with (first | ((with_reducible refine at_box 1 ?_); refine wpList_box_own O (M.mat 3 (d)) rfl ?_; clear O; intro g1 w1 O) | ((with_reducible refine at_load 4 ?_); refine wpList_cell_h (v := .int .i64 (p)) rfl O.held 0 rfl Cp.out rfl agg3 rfl ?_))
    go_ret
    exact ⟨by rw [HE.out]; rfl, O.below⟩
  · cases h1 : decide (p ≤ 65535)
    · rw [h0, h1] at HE
      go_enter Try.func8, Try.ntmps8
      go_wp2_with (first | ((with_reducible refine at_box 1 ?_); refine wpList_box_own O (M.mat 3 (d)) rfl ?_; clear O; intro g1 w1 O) | ((with_reducible refine at_load 4 ?_); refine wpList_cell_h (v := .int .i64 (p)) rfl O.held 0 rfl Cp.out rfl agg3 rfl ?_) | ((with_reducible refine at_load 8 ?_); refine wpList_cell_h (v := .int .i64 (p)) rfl O.held 0 rfl Cp.out rfl agg3 rfl ?_))
      go_ret
      exact ⟨by rw [HE.out]; rfl, O.below⟩
    · cases h2 : decide (1 ≤ r)
      · rw [h0, h1, h2] at HE
        go_enter Try.func8, Try.ntmps8
        go_wp2_with (first | ((with_reducible refine at_box 1 ?_); refine wpList_box_own O (M.mat 3 (d)) rfl ?_; clear O; intro g1 w1 O) | ((with_reducible refine at_load 4 ?_); refine wpList_cell_h (v := .int .i64 (p)) rfl O.held 0 rfl Cp.out rfl agg3 rfl ?_) | ((with_reducible refine at_load 8 ?_); refine wpList_cell_h (v := .int .i64 (p)) rfl O.held 0 rfl Cp.out rfl agg3 rfl ?_) | ((with_reducible refine at_load 13 ?_); refine wpList_cell_h (v := .int .i64 (r)) rfl O.held 0 rfl Cr.out rfl agg3 rfl ?_))
        go_ret
        exact ⟨by rw [HE.out]; rfl, O.below⟩
      · cases h3 : decide (r ≤ 256)
        · rw [h0, h1, h2, h3] at HE
          go_enter Try.func8, Try.ntmps8
          go_wp2_with (first | ((with_reducible refine at_box 1 ?_); refine wpList_box_own O (M.mat 3 (d)) rfl ?_; clear O; intro g1 w1 O) | ((with_reducible refine at_load 4 ?_); refine wpList_cell_h (v := .int .i64 (p)) rfl O.held 0 rfl Cp.out rfl agg3 rfl ?_) | ((with_reducible refine at_load 8 ?_); refine wpList_cell_h (v := .int .i64 (p)) rfl O.held 0 rfl Cp.out rfl agg3 rfl ?_) | ((with_reducible refine at_load 13 ?_); refine wpList_cell_h (v := .int .i64 (r)) rfl O.held 0 rfl Cr.out rfl agg3 rfl ?_) | ((with_reducible refine at_load 18 ?_); refine wpList_cell_h (v := .int .i64 (r)) rfl O.held 0 rfl Cr.out rfl agg3 rfl ?_))
          go_ret
          exact ⟨by rw [HE.out]; rfl, O.below⟩
        · cases h4 : decide (0 ≤ c)
          · rw [h0, h1, h2, h3, h4] at HE
            go_enter Try.func8, Try.ntmps8
            go_wp2_with (first | ((with_reducible refine at_box 1 ?_); refine wpList_box_own O (M.mat 3 (d)) rfl ?_; clear O; intro g1 w1 O) | ((with_reducible refine at_load 4 ?_); refine wpList_cell_h (v := .int .i64 (p)) rfl O.held 0 rfl Cp.out rfl agg3 rfl ?_) | ((with_reducible refine at_load 8 ?_); refine wpList_cell_h (v := .int .i64 (p)) rfl O.held 0 rfl Cp.out rfl agg3 rfl ?_) | ((with_reducible refine at_load 13 ?_); refine wpList_cell_h (v := .int .i64 (r)) rfl O.held 0 rfl Cr.out rfl agg3 rfl ?_) | ((with_reducible refine at_load 18 ?_); refine wpList_cell_h (v := .int .i64 (r)) rfl O.held 0 rfl Cr.out rfl agg3 rfl ?_) | ((with_reducible refine at_load 23 ?_); refine wpList_cell_h (v := .int .i64 (c)) rfl O.held 0 rfl Cc.out rfl agg3 rfl ?_))
            go_ret
            exact ⟨by rw [HE.out]; rfl, O.below⟩
          · cases h5 : decide (c ≤ 1099511627776)
            · rw [h0, h1, h2, h3, h4, h5] at HE
              go_enter Try.func8, Try.ntmps8
              go_wp2_with (first | ((with_reducible refine at_box 1 ?_); refine wpList_box_own O (M.mat 3 (d)) rfl ?_; clear O; intro g1 w1 O) | ((with_reducible refine at_load 4 ?_); refine wpList_cell_h (v := .int .i64 (p)) rfl O.held 0 rfl Cp.out rfl agg3 rfl ?_) | ((with_reducible refine at_load 8 ?_); refine wpList_cell_h (v := .int .i64 (p)) rfl O.held 0 rfl Cp.out rfl agg3 rfl ?_) | ((with_reducible refine at_load 13 ?_); refine wpList_cell_h (v := .int .i64 (r)) rfl O.held 0 rfl Cr.out rfl agg3 rfl ?_) | ((with_reducible refine at_load 18 ?_); refine wpList_cell_h (v := .int .i64 (r)) rfl O.held 0 rfl Cr.out rfl agg3 rfl ?_) | ((with_reducible refine at_load 23 ?_); refine wpList_cell_h (v := .int .i64 (c)) rfl O.held 0 rfl Cc.out rfl agg3 rfl ?_) | ((with_reducible refine at_load 28 ?_); refine wpList_cell_h (v := .int .i64 (c)) rfl O.held 0 rfl Cc.out rfl agg3 rfl ?_))
              go_ret
              exact ⟨by rw [HE.out]; rfl, O.below⟩
            · rw [h0, h1, h2, h3, h4, h5] at HE
              go_enter Try.func8, Try.ntmps8
              go_wp2_with (first | ((with_reducible refine at_box 1 ?_); refine wpList_box_own O (M.mat 3 (d)) rfl ?_; clear O; intro g1 w1 O) | ((with_reducible refine at_load 4 ?_); refine wpList_cell_h (v := .int .i64 (p)) rfl O.held 0 rfl Cp.out rfl agg3 rfl ?_) | ((with_reducible refine at_load 8 ?_); refine wpList_cell_h (v := .int .i64 (p)) rfl O.held 0 rfl Cp.out rfl agg3 rfl ?_) | ((with_reducible refine at_load 13 ?_); refine wpList_cell_h (v := .int .i64 (r)) rfl O.held 0 rfl Cr.out rfl agg3 rfl ?_) | ((with_reducible refine at_load 18 ?_); refine wpList_cell_h (v := .int .i64 (r)) rfl O.held 0 rfl Cr.out rfl agg3 rfl ?_) | ((with_reducible refine at_load 23 ?_); refine wpList_cell_h (v := .int .i64 (c)) rfl O.held 0 rfl Cc.out rfl agg3 rfl ?_) | ((with_reducible refine at_load 28 ?_); refine wpList_cell_h (v := .int .i64 (c)) rfl O.held 0 rfl Cc.out rfl agg3 rfl ?_))
              go_ret
              exact ⟨by rw [HE.out]; rfl, O.below⟩
set_option maxHeartbeats 4000000 in
theorem rnext_any (d : Nat → Int) (n : Int) (hr : HM.right d = true) (hn : 0 ≤ n ∧ n ≤ 1099511627776) (w : World) : Calls Try.prog 14 #[arr 3 d, .int .i64 n] w fun e w' => e = .returned (arr 3 (HM.nextF d n)) ∧ Below w.heap.size w w' := by
  have O := Own.start w
  rw [HM.right_iff] at hr
  unfold HM.nextF
  obtain ⟨p, ep⟩ : ∃ z, d 0 = z := ⟨_, rfl⟩
  have Cp := cell_is (n := 3) ep (by decide)
  obtain ⟨r, er⟩ : ∃ z, d 1 = z := ⟨_, rfl⟩
  have Cr := cell_is (n := 3) er (by decide)
  obtain ⟨c, ec⟩ : ∃ z, d 2 = z := ⟨_, rfl⟩
  have Cc := cell_is (n := 3) ec (by decide)
  have HS : Hid (∀ z, d 2 = c → (M.mat 3 d).set 2 (.int .i64 z) = M.mat 3 (HM.t3 p r z)) := Lib.hid (fun z _ => by rw [← ep, ← er]; rfl)
  have HC := Lib.hid ec
  rw [ep, er, ec] at hr ⊢
  clear ep er ec
  obtain ⟨⟨p0, p1⟩, ⟨r0, r1⟩, c0, c1⟩ := hr
  have hl := @HM.later_lim r c n r0 r1
  have W1 : wrap64 (c + n) = c + n := IntWalk.wrap64_in _ (by omega)
  have W2 : wrap64 (16 * r) = 16 * r := IntWalk.wrap64_in _ (by omega)
  have e1 : (c + n).tmod (16 * r) = HM.later r c n := Int.tmod_eq_emod_of_nonneg (by omega)
  generalize HM.later r c n = z at *
  have n0 : ¬ 16 * r = 0 := by omega
  obtain ⟨m, hm⟩ : ∃ m, 16 * r = m := ⟨_, rfl⟩
  obtain ⟨s, hs⟩ : ∃ s, c + n = s := ⟨_, rfl⟩
  rw [hm] at W2 e1 n0
  rw [hs] at W1 e1
  have n1 : ¬ m = 0 := n0
  clear p0 p1 r0 r1 c0 c1 hn n0 hl
  go_enter Try.func14, Try.ntmps14
  go_wp2_with (first | ((with_reducible refine at_box 2 ?_); refine wpList_box_own O (M.mat 3 (d)) rfl ?_; clear O; intro g2 w1 O) | ((with_reducible refine at_alloc 4 ?_); refine wpList_alloc_own O (M.mat 3 M.zero) zeroH ?_; clear O; intro g4 w2 O) | ((with_reducible refine at_load 6 ?_); refine wpList_cell_h (v := .int .i64 (c)) rfl O.held 1 rfl Cc.out rfl agg3 rfl ?_) | ((with_reducible refine at_load 10 ?_); refine wpList_cell_h (v := .int .i64 (r)) rfl O.held 1 rfl Cr.out rfl agg3 rfl ?_) | ((with_reducible refine at_store 13 ?_); refine wpList_set_own O 1 (i := 2) (.int .i64 z) rfl (by rw [M.mat_len]; omega) rfl (by first | rfl | exact congrArg (Value.int IntKind.i64) e1) size3 rfl rfl ?_; clear O; intro w3 O; have O9 := Own.as O (l' := [(g4, 23, M.mat 3 M.zero), (g2, 23, M.mat 3 (HM.t3 p r z))]) (by rw [← HS.out z HC.out]; rfl); clear O; have O := O9; clear O9) | ((with_reducible refine at_load 14 ?_); refine wpList_whole rfl O 1 rfl rfl Try.underlying23 rfl (sH _) ?_) | ((with_reducible refine at_store 4 ?_); refine wpList_put_own O 0 (M.mat 3 (HM.t3 p r z)) rfl rfl rfl (sH _) (M.mat_len2 _ _ _) (M.mat_one _ _) ?_; clear O; intro w4 O))
  exact bodyPost_ret (v := arr 3 (HM.t3 p r z)) (res_h rfl O.held 0 rfl rfl Try.underlying23 rfl (sH _)) rfl ⟨rfl, O.below⟩
set_option maxHeartbeats 4000000 in
theorem rlit_any (d : Nat → Int) (k : Int) (hr : HM.right d = true) (hn : 0 ≤ k ∧ k ≤ 1099511627776) (w : World) : Calls Try.prog 12 #[arr 3 d, .int .i64 k] w fun e w' => e = .returned (.bool (HM.litF d k)) ∧ Below w.heap.size w w' := by
  have O := Own.start w
  rw [HM.right_iff] at hr
  unfold HM.litF
  obtain ⟨p, ep⟩ : ∃ z, d 0 = z := ⟨_, rfl⟩
  have Cp := cell_is (n := 3) ep (by decide)
  obtain ⟨r, er⟩ : ∃ z, d 1 = z := ⟨_, rfl⟩
  have Cr := cell_is (n := 3) er (by decide)
  obtain ⟨c, ec⟩ : ∃ z, d 2 = z := ⟨_, rfl⟩
  have Cc := cell_is (n := 3) ec (by decide)
  rw [ep, er, ec] at hr ⊢
  clear ep er ec
  obtain ⟨⟨p0, p1⟩, ⟨r0, r1⟩, c0, c1⟩ := hr
  obtain ⟨b0, b1⟩ := @HM.bit_lim r c k
  have hd := Int.ediv_nonneg (show 0 ≤ c + k by omega) (show 0 ≤ r by omega)
  have hd2 := Int.ediv_le_self r (show 0 ≤ c + k by omega)
  have W1 : wrap64 (c + k) = c + k := IntWalk.wrap64_in _ (by omega)
  have e1 : (c + k).tdiv r = (c + k) / r := Int.tdiv_eq_ediv_of_nonneg (by omega)
  have e2 : ((c + k) / r).tmod 16 = HM.bit r c k := Int.tmod_eq_emod_of_nonneg hd
  have W3 : wrap64 ((c + k) / r) = (c + k) / r := IntWalk.wrap64_in _ (by omega)
  have HE : Hid (HM.lit p r c k = (HM.half p (HM.bit r c k).toNat % 2 == 1)) := Lib.hid rfl
  have HL := Lib.hid (fun n => @HM.half_lim p p0 p1 n)
  generalize HM.lit p r c k = z at *
  generalize HM.bit r c k = B at *
  have n1 : ¬ r = 0 := by omega
  obtain ⟨q, hq⟩ : ∃ q, (c + k) / r = q := ⟨_, rfl⟩
  obtain ⟨s, hs⟩ : ∃ s, c + k = s := ⟨_, rfl⟩
  rw [hq] at e1 e2 W3
  rw [hs] at W1 e1
  have HB := Lib.hid (And.intro b0 b1)
  clear p0 p1 r0 r1 c0 c1 hn hd hd2 hq b0 b1
  go_enter Try.func12, Try.ntmps12
  go_wp2_with (first | ((with_reducible refine at_box 2 ?_); refine wpList_box_own O (M.mat 3 (d)) rfl ?_; clear O; intro g2 w1 O) | ((with_reducible refine at_load 9 ?_); refine wpList_cell_h (v := .int .i64 (c)) rfl O.held 0 rfl Cc.out rfl agg3 rfl ?_) | ((with_reducible refine at_load 13 ?_); refine wpList_cell_h (v := .int .i64 (r)) rfl O.held 0 rfl Cr.out rfl agg3 rfl ?_) | ((with_reducible refine at_load 17 ?_); refine wpList_cell_h (v := .int .i64 (p)) rfl O.held 0 rfl Cp.out rfl agg3 rfl ?_))
  clear W1 e1 e2 W3 n1
  go_loopw [6, 7] (fun t6 t7 wr => ∃ i : Nat, (i : Int) ≤ B ∧ t6 = .int .i64 (HM.half p i) ∧ t7 = .int .i64 i ∧ Own w wr [(g2, 23, M.mat 3 d)]) (fun t6 t7 _ => (B - intOf t7).toNat)
  case atStart => exact ⟨0, HB.out.1, rfl, rfl, O⟩
  case round =>
    clear O
    obtain ⟨i, hi, rfl, rfl, O⟩ := hrel
    have q0 : (0 : Int) ≤ i := by omega
    have hh := HL.out i
    by_cases hlt : (i : Int) < B
    · have hb := HB.out
      have e1 : (HM.half p i).tdiv 2 = HM.half p (i + 1) := by rw [Int.tdiv_eq_ediv_of_nonneg hh.1]; exact (HM.half_succ p i).symm
      have h2 := HL.out (i + 1)
      obtain ⟨y, hy⟩ : ∃ y, HM.half p (i + 1) = y := ⟨_, rfl⟩
      have HY := Lib.hid hy
      rw [hy] at e1 h2
      clear hy
      generalize HM.half p i = x at *
      have W1 : wrap64 y = y := IntWalk.wrap64_in _ (by omega)
      have W2 : wrap64 ((i : Int) + 1) = (i : Int) + 1 := IntWalk.wrap64_in _ (by omega)
      clear hh h2 hb
      go_wp2_with fail
      go_roundw
      case rel => exact ⟨i + 1, by omega, by rw [HY.out]; exact congrArg (Value.int IntKind.i64) W1, congrArg (Value.int IntKind.i64) W2, O⟩
      case measure => rw [W2]; simp only [intOf]; omega
    · have hb := HB.out
      obtain rfl : B = i := by omega
      have e1 : (HM.half p i).tmod 2 = HM.half p i % 2 := Int.tmod_eq_emod_of_nonneg hh.1
      rw [show ((i : Int).toNat) = i by omega] at HE
      generalize HM.half p i = x at *
      obtain ⟨y, hy⟩ : ∃ y, x % 2 = y := ⟨_, rfl⟩
      rw [hy] at e1 HE
      have c1 : ¬ (i : Int) < i := by omega
      clear hh hb hy hlt hi
      cases hz : y == 1
      all_goals
        rw [hz] at HE
        go_wp2_with fail
        go_ret
        exact ⟨by rw [HE.out]; rfl, O.below⟩
end Go.Proofs.Ytpomdghalkphcaa
