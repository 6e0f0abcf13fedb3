/- Contracts: the document's wide, ahead. -/
import Derived.Test.YtpfhaocmcfnhnaaGreatWb
import Derived.Test.YtpfhaocmcfnhnaaGreatRg
namespace Go.Proofs.YtpfhaocmcfnhnaaGreat
open Go.ChangeShapes Go.WideShapes Go.ChangeAt Go.RowKit
set_option linter.unusedVariables false
set_option linter.unusedSimpArgs false

namespace DM
theorem tall_abs (w h : Int) : decide (max h (0 - h) ≤ max w (0 - w)) = !tall w h := by
 unfold tall abs
 rw [Bool.eq_iff_iff]
 simp only [decide_eq_true_eq, Bool.not_eq_true', decide_eq_false_iff_not]
 omega
theorem ahd_near {u q : Int} (hq : u.tdiv 256 = q) : q - 3 ≤ ahd u ∧ ahd u ≤ q + 2 := by
 have e := Int.mul_tdiv_add_tmod u 256
 rw [hq] at e
 have hr : -256 < u.tmod 256 ∧ u.tmod 256 < 256 := by
  rcases (by omega : 0 ≤ u ∨ u < 0) with h | h
  ·
   have g1 := Int.tmod_lt_of_pos u (show (0 : Int) < 256 by decide)
   have g2 := Int.tmod_nonneg (a := u) 256 h
   omega
  ·
   have g1 := Int.tmod_lt_of_pos (-u) (show (0 : Int) < 256 by decide)
   have g2 := Int.tmod_nonneg (a := -u) 256 (by omega)
   rw [Int.neg_tmod] at g1 g2
   omega
 unfold ahd
 omega
end DM
set_option maxRecDepth 100000 in
set_option maxHeartbeats 4000000 in
theorem wide_any (a b : Nat → Int) (ha : DM.Rg a) (hb : DM.Rg b) (w_ : World) : Calls Tryz.prog 46 #[arr 2 a, arr 2 b] w_ fun e w' => e = .returned (.bool (!DM.tall (b 0 - a 0) (b 1 - a 1))) ∧ Below w_.heap.size w_ w' := by
 have O := Own.start w_
 unfold DM.Rg at ha hb
 obtain ⟨a0, ea0⟩ : ∃ z, a 0 = z := ⟨_, rfl⟩
 have Ca0 := cell_is (n := 2) ea0 (by decide)
 obtain ⟨a1, ea1⟩ : ∃ z, a 1 = z := ⟨_, rfl⟩
 have Ca1 := cell_is (n := 2) ea1 (by decide)
 obtain ⟨b0, eb0⟩ : ∃ z, b 0 = z := ⟨_, rfl⟩
 have Cb0 := cell_is (n := 2) eb0 (by decide)
 obtain ⟨b1, eb1⟩ : ∃ z, b 1 = z := ⟨_, rfl⟩
 have Cb1 := cell_is (n := 2) eb1 (by decide)
 rw [ea0, ea1] at ha ⊢
 rw [eb0, eb1] at hb ⊢
 clear ea0 ea1 eb0 eb1
 obtain ⟨w, hw⟩ : ∃ z, b0 - a0 = z := ⟨_, rfl⟩
 obtain ⟨h, hh⟩ : ∃ z, b1 - a1 = z := ⟨_, rfl⟩
 have rw_ : -1073741824 ≤ w ∧ w ≤ 1073741824 := by omega
 have rh_ : -1073741824 ≤ h ∧ h ≤ 1073741824 := by omega
 have Hw : Hid (b0 - a0 = w ∧ IntKind.i64.wrap w = w) := Lib.hid ⟨hw, IntWalk.i64_in _ (by omega)⟩
 have Hh : Hid (b1 - a1 = h ∧ IntKind.i64.wrap h = h) := Lib.hid ⟨hh, IntWalk.i64_in _ (by omega)⟩
 have HE := Lib.hid (DM.tall_abs w h)
 rw [hw, hh]
 obtain ⟨nw, hnw⟩ : ∃ z, 0 - w = z := ⟨_, rfl⟩
 obtain ⟨nh, hnh⟩ : ∃ z, 0 - h = z := ⟨_, rfl⟩
 have W1 : wrap64 (0 - w) = nw := by rw [hnw]; exact IntWalk.wrap64_in _ (by omega)
 have W2 : wrap64 (0 - h) = nh := by rw [hnh]; exact IntWalk.wrap64_in _ (by omega)
 have W1' : wrap64 (-w) = nw := by rw [← W1, Int.zero_sub]
 have W2' : wrap64 (-h) = nh := by rw [← W2, Int.zero_sub]
 rw [hnw, hnh] at HE
 obtain ⟨k1, hk1⟩ : ∃ z, max w nw = z := ⟨_, rfl⟩
 obtain ⟨k2, hk2⟩ : ∃ z, max h nh = z := ⟨_, rfl⟩
 rw [hk1, hk2] at HE
 have FM := Lib.hid (And.intro (congrArg (Value.int IntKind.i64) hk1) (And.intro (congrArg (Value.int IntKind.i64) hk2) (And.intro (congrArg (Value.int IntKind.i64) ((max_if w nw).trans hk1)) (congrArg (Value.int IntKind.i64) ((max_if h nh).trans hk2)))))
 have FW := Lib.hid (And.intro W1 (And.intro W2 (And.intro W1' W2')))
 generalize (!DM.tall w h) = z at *
 clear ha hb hw hh rw_ rh_ hnw hnh W1 W2 W1' W2' hk1 hk2
 go_enter Tryz.func46, Tryz.ntmps46
 go_wp2_with (first | ((with_reducible refine at_box 2 ?_); refine wpList_box_own O (M.mat 2 (a)) rfl ?_; clear O; intro g2 w1 O) | ((with_reducible refine at_box 3 ?_); refine wpList_box_own O (M.mat 2 (b)) rfl ?_; clear O; intro g3 w2 O))
 have OO := O
 clear O
 have O := OO
 clear OO
 refine region_T ((fun w2 => Own w_ w2 [(g3, 44, M.mat 2 b), (g2, 44, M.mat 2 a)])) [0, 1, 2, 3, 4, 5, 6, 7, 8, 9, 10] 12 [some 7, some 8, some 9, some 10, some 11, some 12, some 13, some 14, some 15, some 16, some 5] [.pointer (some ⟨g3, 0, none⟩), .int .i64 b0, .pointer (some ⟨g2, 0, none⟩), .int .i64 a0, .int .i64 w, .pointer (some ⟨g3, 1, none⟩), .int .i64 b1, .pointer (some ⟨g2, 1, none⟩), .int .i64 a1, .int .i64 h, .int .i64 w] 1 (by kernel_rfl) (by rfl) (by kernel_rfl) (by rfl) (by rfl) (O.drew) (fun F hF => ?_)
 simp only [fillD, Act.put, List.setIfInBounds_toArray, List.set_cons_zero, List.set_cons_succ] at hF
 subst hF
 refine ⟨⟨does_want rfl (by rfl) (fun w' O K hK => ?_), does_want rfl (by rfl) (fun w' O K hK => ?_), does_want rfl (by rfl) (fun w' O K hK => ?_), does_want rfl (by rfl) (fun w' O K hK => ?_), does_want rfl (by rfl) (fun w' O K hK => ?_), does_want rfl (by rfl) (fun w' O K hK => ?_), does_want rfl (by rfl) (fun w' O K hK => ?_), does_want rfl (by rfl) (fun w' O K hK => ?_), does_want rfl (by rfl) (fun w' O K hK => ?_), does_want rfl (by rfl) (fun w' O K hK => ?_), does_want rfl (by rfl) (fun w' O K hK => ?_), trivial⟩, fun w' O => ?_⟩
 ·
  go_simp
  exact hK _ O
 · exact wp_cell_h (v := .int .i64 (b0)) O.held 0 rfl Cb0.out rfl agg3 rfl (hK _ O)
 ·
  go_simp
  exact hK _ O
 · exact wp_cell_h (v := .int .i64 (a0)) O.held 1 rfl Ca0.out rfl agg3 rfl (hK _ O)
 ·
  obtain ⟨e1, e2⟩ := Hw.out
  go_simp
  first | exact hK _ O | (rw [e1, e2]; exact hK _ O) | (simp only [e1, e2]; exact hK _ O)
 ·
  go_simp
  exact hK _ O
 · exact wp_cell_h (v := .int .i64 (b1)) O.held 0 rfl Cb1.out rfl agg3 rfl (hK _ O)
 ·
  go_simp
  exact hK _ O
 · exact wp_cell_h (v := .int .i64 (a1)) O.held 1 rfl Ca1.out rfl agg3 rfl (hK _ O)
 ·
  obtain ⟨e1, e2⟩ := Hh.out
  go_simp
  first | exact hK _ O | (rw [e1, e2]; exact hK _ O) | (simp only [e1, e2]; exact hK _ O)
 ·
  go_simp
  exact hK _ O
 refine wpAny_one (i := 11) (by kernel_rfl) rfl (fun K hK => ?_)
 go_simp
 refine hK _ _ ?_
 clear hK K
 try simp only [Act.put, List.setIfInBounds_toArray, List.set_cons_zero, List.set_cons_succ]
 refine wpAny_done (by kernel_rfl) ?_ _
 clear Hw Hh
 have W1 := FW.out.1
 have W2 := FW.out.2.1
 have W1' := FW.out.2.2.1
 have W2' := FW.out.2.2.2
 obtain ⟨m1, m2, G1, G2⟩ := FM.out
 clear FM
 cases z
 ·
  have c1 := HE.out
  go_wp2_with fail
  go_ret
  exact ⟨rfl, O.below⟩
 ·
  have c1 := HE.out
  go_wp2_with fail
  go_ret
  exact ⟨rfl, O.below⟩
set_option maxRecDepth 100000 in
set_option maxHeartbeats 4000000 in
theorem ahead_any (u : Int) (h1 : -536870912 ≤ u) (h2 : u ≤ 536870912) (w : World) : Calls Tryz.prog 65 #[.int .i64 u] w fun e w' => e = .returned (.int .i64 (DM.ahd u)) ∧ w' = w := by
 obtain ⟨q, hq⟩ : ∃ z, u.tdiv 256 = z := ⟨_, rfl⟩
 have lq := (DM.quo_lim (X := u) (by omega) (by omega)).1
 rw [hq] at lq
 have ln_ := DM.ahd_near hq
 have HL := fun n => @DM.lt_ahd u n
 unfold DM.rel at HL
 obtain ⟨m, hm⟩ : ∃ z, DM.ahd u = z := ⟨_, rfl⟩
 rw [hm] at ln_ HL ⊢
 replace HL := Lib.hid HL
 obtain ⟨n1, n2⟩ := ln_
 obtain ⟨q1, q2⟩ := lq
 have W1 : wrap64 q = q := IntWalk.wrap64_in _ (by omega)
 have W2 : wrap64 (q - 3) = q - 3 := IntWalk.wrap64_in _ (by omega)
 have HM : Hid (q - 3 ≤ m ∧ m ≤ q + 2) := Lib.hid ⟨n1, n2⟩
 have HQ : Hid (-4194304 ≤ q ∧ q ≤ 4194304) := Lib.hid ⟨q1, q2⟩
 clear hm n1 n2 q1 q2
 go_enter Tryz.func65, Tryz.ntmps65
 go_wp2_with fail
 have WS := Lib.hid W2
 clear W1 W2
 go_loopw [3] (fun t wr => ∃ n : Int, q - 3 ≤ n ∧ n ≤ m ∧ t = .int .i64 n ∧ wr = w) (fun t _ => (m - intOf t).toNat)
 case atStart => exact ⟨q - 3, Int.le_refl _, HM.out.1, congrArg (Value.int IntKind.i64) WS.out, rfl⟩
 case round =>
  obtain ⟨n, p1, p2, rfl, rfl⟩ := hrel
  have b1 := HM.out
  have b2 := HQ.out
  have W3 : wrap64 (256 * n) = 256 * n := IntWalk.wrap64_in _ (by omega)
  have W4 : wrap64 (256 * n + 128) = 256 * n + 128 := IntWalk.wrap64_in _ (by omega)
  have W5 : wrap64 (n + 1) = n + 1 := IntWalk.wrap64_in _ (by omega)
  clear b1 b2
  by_cases hlt : n < m
  ·
   have c := (HL.out n).1 hlt
   have c2 : 256 * n + 128 < u := by omega
   clear c hq
   go_wp2_with fail
   go_roundw
   case rel => exact ⟨n + 1, by omega, by omega, congrArg (Value.int IntKind.i64) W5, trivial⟩
   case measure => simp [intOf]; omega
  ·
   have c := mt (HL.out n).2 hlt
   have c2 : ¬ 256 * n + 128 < u := by omega
   obtain rfl : n = m := by omega
   clear c hq hlt
   go_wp2_with fail
   go_ret
   exact ⟨rfl, rfl⟩
end Go.Proofs.YtpfhaocmcfnhnaaGreat
