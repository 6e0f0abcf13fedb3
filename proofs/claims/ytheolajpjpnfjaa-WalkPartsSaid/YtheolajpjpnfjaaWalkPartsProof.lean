/-
  WalkParts: the pixels of two parts of a line, before and behind a point of it, are the line's, one behind the other.
-/
import Derived.Test.YtheolajpjpnfjaaXt
import Derived.Deep.DeepCutAuto
namespace Go.Proofs.Ytheolajpjpnfjaa.walkParts
open Go.ChangeShapes Go.WideShapes Go.ChangeAt Go.RowKit
set_option linter.unusedVariables false
set_option linter.unusedSimpArgs false

theorem own : ownKnob Try.prog.godebug = none := by kernel_rfl

set_option maxRecDepth 100000 in
set_option maxHeartbeats 16000000 in
theorem walk (w : World) (a : Nat → Int) (d0 d1 n0 n1 : Int) (hn : (0 ≤ n0 ∧ n0 ≤ 255) ∧ (0 ≤ n1 ∧ n1 ≤ 255)) :
    Calls Try.prog 6 #[arr 2 a, .agg (two .i16 d0 d1).toArray, .agg (two .u8 n0 n1).toArray] w fun e w' => e = .returned (.bool true) ∧ Below w.heap.size w w' := by
  have O := Held.start w [] (by simp)
  obtain ⟨a0, ea0⟩ : ∃ z, a 0 = z := ⟨_, rfl⟩
  have Ca0 := cell_is (n := 2) ea0 (by decide)
  obtain ⟨a1, ea1⟩ : ∃ z, a 1 = z := ⟨_, rfl⟩
  have Ca1 := cell_is (n := 2) ea1 (by decide)
  have EA := Lib.hid (And.intro ea0 ea1)
  clear ea0 ea1
  have HN := Lib.hid hn
  clear hn
  cases k0 : decide (a0 < -1048576)
  · cases k1 : decide (1048576 < a0)
    · cases k2 : decide (a1 < -1048576)
      · cases k3 : decide (1048576 < a1)
        · cases k4 : decide (d0 < -100)
          · cases k5 : decide (100 < d0)
            · cases k6 : decide (d1 < -100)
              · cases k7 : decide (100 < d1)
                · have lim : ((-1048576 ≤ a0 ∧ a0 ≤ 1048576) ∧ (-1048576 ≤ a1 ∧ a1 ≤ 1048576)) ∧ ((-100 ≤ d0 ∧ d0 ≤ 100) ∧ (-100 ≤ d1 ∧ d1 ≤ 100)) := by
                    have := of_decide_eq_false k0
                    have := of_decide_eq_false k1
                    have := of_decide_eq_false k2
                    have := of_decide_eq_false k3
                    have := of_decide_eq_false k4
                    have := of_decide_eq_false k5
                    have := of_decide_eq_false k6
                    have := of_decide_eq_false k7
                    omega
                  obtain ⟨⟨u1, u2⟩, v1, v2⟩ := HN.out
                  obtain ⟨ea0, ea1⟩ := EA.out
                  obtain ⟨m, hm⟩ : ∃ z, n0.tmod 32 = z := ⟨_, rfl⟩
                  obtain ⟨k, hk⟩ : ∃ z, n1.tmod 32 = z := ⟨_, rfl⟩
                  have mb : 0 ≤ m ∧ m < 32 := by rw [← hm]; exact ⟨Int.tmod_nonneg _ u1, Int.tmod_lt_of_pos _ (by decide)⟩
                  have kb : 0 ≤ k ∧ k < 32 := by rw [← hk]; exact ⟨Int.tmod_nonneg _ v1, Int.tmod_lt_of_pos _ (by decide)⟩
                  have Hm : Hid (n0.tmod 32 = m ∧ IntKind.u8.wrap m = m ∧ IntKind.i64.wrap m = m ∧ n0 % 32 = m) := Lib.hid ⟨hm, IntWalk.u8_in _ (by omega), IntWalk.i64_in _ (by omega), by rw [← hm, Int.tmod_eq_emod_of_nonneg u1]⟩
                  have Hk : Hid (n1.tmod 32 = k ∧ IntKind.u8.wrap k = k ∧ IntKind.i64.wrap k = k ∧ n1 % 32 = k) := Lib.hid ⟨hk, IntWalk.u8_in _ (by omega), IntWalk.i64_in _ (by omega), by rw [← hk, Int.tmod_eq_emod_of_nonneg v1]⟩
                  obtain ⟨e0, he0⟩ : ∃ z, m * d0 = z := ⟨_, rfl⟩
                  have be0 : -3100 ≤ e0 ∧ e0 ≤ 3100 := by rw [← he0]; exact DM.mul_lim mb lim.2.1
                  obtain ⟨e1, he1⟩ : ∃ z, m * d1 = z := ⟨_, rfl⟩
                  have be1 : -3100 ≤ e1 ∧ e1 ≤ 3100 := by rw [← he1]; exact DM.mul_lim mb lim.2.2
                  obtain ⟨f0, hf0⟩ : ∃ z, k * d0 = z := ⟨_, rfl⟩
                  have bf0 : -3100 ≤ f0 ∧ f0 ≤ 3100 := by rw [← hf0]; exact DM.mul_lim kb lim.2.1
                  obtain ⟨f1, hf1⟩ : ∃ z, k * d1 = z := ⟨_, rfl⟩
                  have bf1 : -3100 ≤ f1 ∧ f1 ≤ 3100 := by rw [← hf1]; exact DM.mul_lim kb lim.2.2
                  obtain ⟨c0, hc0⟩ : ∃ z, a0 + e0 = z := ⟨_, rfl⟩
                  obtain ⟨c1, hc1⟩ : ∃ z, a1 + e1 = z := ⟨_, rfl⟩
                  obtain ⟨b0, hb0⟩ : ∃ z, c0 + f0 = z := ⟨_, rfl⟩
                  obtain ⟨b1, hb1⟩ : ∃ z, c1 + f1 = z := ⟨_, rfl⟩
                  obtain ⟨x0, hx0⟩ : ∃ z, min a0 b0 = z := ⟨_, rfl⟩
                  obtain ⟨y0, hy0⟩ : ∃ z, min a1 b1 = z := ⟨_, rfl⟩
                  obtain ⟨x1, hx1⟩ : ∃ z, max a0 b0 = z := ⟨_, rfl⟩
                  obtain ⟨y1, hy1⟩ : ∃ z, max a1 b1 = z := ⟨_, rfl⟩
                  obtain ⟨p0, hp0⟩ : ∃ z, x0.tdiv 256 = z := ⟨_, rfl⟩
                  have tp0 := DM.tdiv_lim x0
                  rw [hp0] at tp0
                  obtain ⟨q0, hq0⟩ : ∃ z, y0.tdiv 256 = z := ⟨_, rfl⟩
                  have tq0 := DM.tdiv_lim y0
                  rw [hq0] at tq0
                  obtain ⟨p1, hp1⟩ : ∃ z, x1.tdiv 256 = z := ⟨_, rfl⟩
                  have tp1 := DM.tdiv_lim x1
                  rw [hp1] at tp1
                  obtain ⟨q1, hq1⟩ : ∃ z, y1.tdiv 256 = z := ⟨_, rfl⟩
                  have tq1 := DM.tdiv_lim y1
                  rw [hq1] at tq1
                  obtain ⟨r0, hr0⟩ : ∃ z, p0 - 2 = z := ⟨_, rfl⟩
                  obtain ⟨r1, hr1⟩ : ∃ z, q0 - 2 = z := ⟨_, rfl⟩
                  obtain ⟨r2, hr2⟩ : ∃ z, p1 + 3 = z := ⟨_, rfl⟩
                  obtain ⟨r3, hr3⟩ : ∃ z, q1 + 3 = z := ⟨_, rfl⟩
                  have ra : DM.Rg a := by unfold DM.Rg; rw [ea0, ea1]; omega
                  have rc : DM.Rg (DM.t2 c0 c1) := by unfold DM.Rg; show (-536870912 ≤ c0 ∧ c0 ≤ 536870912) ∧ (-536870912 ≤ c1 ∧ c1 ≤ 536870912); omega
                  have rb : DM.Rg (DM.t2 b0 b1) := by unfold DM.Rg; show (-536870912 ≤ b0 ∧ b0 ≤ 536870912) ∧ (-536870912 ≤ b1 ∧ b1 ≤ 536870912); omega
                  have rs : r2 - r0 ≤ 1000 ∧ r3 - r1 ≤ 1000 := by omega
                  have rr : RC.right (RC.mk r0 r1 r2 r3) = true := RC.right_iff.2 (by
                    show ((-4194304 ≤ r0 ∧ r0 ≤ 4194304) ∧ (-4194304 ≤ r1 ∧ r1 ≤ 4194304) ∧ (-4194304 ≤ r2 ∧ r2 ≤ 4194304) ∧ (-4194304 ≤ r3 ∧ r3 ≤ 4194304)) ∧ r0 < r2 ∧ r1 < r3
                    omega)
                  have CL := fun w => within_any a (DM.t2 b0 b1) (RC.mk r0 r1 r2 r3) ra rb (fun _ => rs) w
                  have CP := fun w => within_any a (DM.t2 c0 c1) (RC.mk r0 r1 r2 r3) ra rc (fun _ => rs) w
                  have CQ := fun w => within_any (DM.t2 c0 c1) (DM.t2 b0 b1) (RC.mk r0 r1 r2 r3) rc rb (fun _ => rs) w
                  have NP := fun w => pcount_any a (DM.t2 c0 c1) ra rc w
                  have NQ := fun w => pcount_any (DM.t2 c0 c1) (DM.t2 b0 b1) rc rb w
                  rw [rr, if_pos rfl] at CL CP CQ
                  rw [ea0, ea1] at CL CP NP
                  change ∀ w, Calls Try.prog 12 #[arr 2 a, arr 2 (DM.t2 b0 b1), arr 4 (RC.mk r0 r1 r2 r3)] w (RetT w (DM.wth a0 a1 b0 b1 (RC.mk r0 r1 r2 r3))) at CL
                  change ∀ w, Calls Try.prog 12 #[arr 2 a, arr 2 (DM.t2 c0 c1), arr 4 (RC.mk r0 r1 r2 r3)] w (RetT w (DM.wth a0 a1 c0 c1 (RC.mk r0 r1 r2 r3))) at CP
                  change ∀ w, Calls Try.prog 12 #[arr 2 (DM.t2 c0 c1), arr 2 (DM.t2 b0 b1), arr 4 (RC.mk r0 r1 r2 r3)] w (RetT w (DM.wth c0 c1 b0 b1 (RC.mk r0 r1 r2 r3))) at CQ
                  change ∀ w, Calls Try.prog 16 #[arr 2 a, arr 2 (DM.t2 c0 c1)] w (fun e w' => e = .returned (.int .i64 (DM.cnt14 a0 a1 c0 c1)) ∧ Below w.heap.size w w') at NP
                  change ∀ w, Calls Try.prog 16 #[arr 2 (DM.t2 c0 c1), arr 2 (DM.t2 b0 b1)] w (fun e w' => e = .returned (.int .i64 (DM.cnt14 c0 c1 b0 b1)) ∧ Below w.heap.size w w') at NQ
                  have len := DM.wth_len (ax := a0) (ay := a1) (bx := b0) (by_ := b1) rr rs
                  obtain ⟨P, Q, ⟨eL, eP, eQ⟩, eNP, eNQ⟩ := DM.parts14 (r := RC.mk r0 r1 r2 r3) mb.1 kb.1 (show a0 + m * d0 = c0 by rw [he0]; exact hc0) (show a1 + m * d1 = c1 by rw [he1]; exact hc1) (show c0 + k * d0 = b0 by rw [hf0]; exact hb0) (show c1 + k * d1 = b1 by rw [hf1]; exact hb1)
                    (by show (256 * r0 + 257 ≤ a0 ∧ 256 * r0 + 257 ≤ b0) ∧ a0 < 256 * r2 ∧ b0 < 256 * r2; omega) (by show (256 * r1 + 257 ≤ a1 ∧ 256 * r1 + 257 ≤ b1) ∧ a1 < 256 * r3 ∧ b1 < 256 * r3; omega)
                  rw [eL] at CL len
                  rw [eP] at CP
                  rw [eQ] at CQ
                  rw [eNP] at NP
                  rw [eNQ] at NQ
                  unfold RetT at CL CP CQ
                  rw [DM.st_len, List.length_append] at CL len
                  rw [DM.st_len] at CP CQ
                  have HL := Lib.hid len
                  clear len eL eP eQ eNP eNQ rr rs ra rb rc ea0 ea1 EA
                  have W1 : wrap64 (d0) = d0 := by exact IntWalk.wrap64_in _ (by omega)
                  have W2 : wrap64 (d1) = d1 := by exact IntWalk.wrap64_in _ (by omega)
                  have W3 : wrap64 (m * d0) = e0 := by rw [he0]; exact IntWalk.wrap64_in _ (by omega)
                  have W4 : wrap64 (m * d1) = e1 := by rw [he1]; exact IntWalk.wrap64_in _ (by omega)
                  have W5 : wrap64 (k * d0) = f0 := by rw [hf0]; exact IntWalk.wrap64_in _ (by omega)
                  have W6 : wrap64 (k * d1) = f1 := by rw [hf1]; exact IntWalk.wrap64_in _ (by omega)
                  have W7 : wrap64 (a0 + e0) = c0 := by rw [hc0]; exact IntWalk.wrap64_in _ (by omega)
                  have W8 : wrap64 (a1 + e1) = c1 := by rw [hc1]; exact IntWalk.wrap64_in _ (by omega)
                  have W9 : wrap64 (c0 + f0) = b0 := by rw [hb0]; exact IntWalk.wrap64_in _ (by omega)
                  have W10 : wrap64 (c1 + f1) = b1 := by rw [hb1]; exact IntWalk.wrap64_in _ (by omega)
                  have W11 : wrap64 (x0.tdiv 256) = p0 := by rw [hp0]; exact IntWalk.wrap64_in _ (by omega)
                  have W12 : wrap64 (y0.tdiv 256) = q0 := by rw [hq0]; exact IntWalk.wrap64_in _ (by omega)
                  have W13 : wrap64 (x1.tdiv 256) = p1 := by rw [hp1]; exact IntWalk.wrap64_in _ (by omega)
                  have W14 : wrap64 (y1.tdiv 256) = q1 := by rw [hq1]; exact IntWalk.wrap64_in _ (by omega)
                  have W15 : wrap64 (p0 - 2) = r0 := by rw [hr0]; exact IntWalk.wrap64_in _ (by omega)
                  have W16 : wrap64 (q0 - 2) = r1 := by rw [hr1]; exact IntWalk.wrap64_in _ (by omega)
                  have W17 : wrap64 (p1 + 3) = r2 := by rw [hr2]; exact IntWalk.wrap64_in _ (by omega)
                  have W18 : wrap64 (q1 + 3) = r3 := by rw [hr3]; exact IntWalk.wrap64_in _ (by omega)
                  have G1 := congrArg (Value.int .i64) hx0
                  have K1 := congrArg (Value.int .i64) ((min_if a0 b0).trans hx0)
                  have G2 := congrArg (Value.int .i64) hy0
                  have K2 := congrArg (Value.int .i64) ((min_if a1 b1).trans hy0)
                  have G3 := congrArg (Value.int .i64) hx1
                  have K3 := congrArg (Value.int .i64) ((max_if a0 b0).trans hx1)
                  have G4 := congrArg (Value.int .i64) hy1
                  have K4 := congrArg (Value.int .i64) ((max_if a1 b1).trans hy1)
                  have FW := Lib.hid (And.intro W1 (And.intro W2 (And.intro W3 (And.intro W4 (And.intro W5 (And.intro W6 (And.intro W7 (And.intro W8 (And.intro W9 (And.intro W10 (And.intro W11 (And.intro W12 (And.intro W13 (And.intro W14 (And.intro W15 (And.intro W16 (And.intro W17 (And.intro W18 (And.intro G1 (And.intro G2 (And.intro G3 (And.intro G4 (And.intro K1 (And.intro K2 (And.intro K3 (K4))))))))))))))))))))))))))
                  clear lim u1 u2 v1 v2 hm hk mb kb he0 be0 he1 be1 hf0 bf0 hf1 bf1 hc0 hc1 hb0 hb1 hx0 hy0 hx1 hy1 hp0 hq0 hp1 hq1 hr0 hr1 hr2 hr3 tp0 tq0 tp1 tq1 W1 W2 W3 W4 W5 W6 W7 W8 W9 W10 W11 W12 W13 W14 W15 W16 W17 W18 G1 G2 G3 G4 K1 K2 K3 K4
                  go_enter Try.func6, Try.ntmps6
                  go_wp2_with (first | ((with_reducible refine at_box 3 ?_); refine wpList_box_h O (M.mat 2 (a)) rfl ?_; clear O; intro g3 w1 O) | ((with_reducible refine at_box 4 ?_); refine wpList_box_h O (two .i16 d0 d1) rfl ?_; clear O; intro g4 w2 O) | ((with_reducible refine at_box 5 ?_); refine wpList_box_h O (two .u8 n0 n1) rfl ?_; clear O; intro g5 w3 O) | ((with_reducible refine at_load 18 ?_); refine wpList_cell_h (v := .int .i64 (a0)) rfl O 2 rfl Ca0.out rfl agg3 rfl ?_) | ((with_reducible refine at_load 22 ?_); refine wpList_cell_h (v := .int .i64 (a0)) rfl O 2 rfl Ca0.out rfl agg3 rfl ?_) | ((with_reducible refine at_load 27 ?_); refine wpList_cell_h (v := .int .i64 (a1)) rfl O 2 rfl Ca1.out rfl agg3 rfl ?_) | ((with_reducible refine at_load 32 ?_); refine wpList_cell_h (v := .int .i64 (a1)) rfl O 2 rfl Ca1.out rfl agg3 rfl ?_) | ((with_reducible refine at_load 37 ?_); refine wpList_cell_h (v := .int .i16 d0) rfl O 1 rfl rfl rfl agg42 rfl ?_) | ((with_reducible refine at_load 42 ?_); refine wpList_cell_h (v := .int .i16 d0) rfl O 1 rfl rfl rfl agg42 rfl ?_) | ((with_reducible refine at_load 47 ?_); refine wpList_cell_h (v := .int .i16 d1) rfl O 1 rfl rfl rfl agg42 rfl ?_) | ((with_reducible refine at_load 52 ?_); refine wpList_cell_h (v := .int .i16 d1) rfl O 1 rfl rfl rfl agg42 rfl ?_))
                  have OO : Held w w3 [(g5, 44, two .u8 n0 n1), (g4, 43, two .i16 d0 d1), (g3, 23, M.mat 2 a)] nilRow [] := O
                  clear O k0 k1 k2 k3 k4 k5 k6 k7
                  have O := OO
                  clear OO
                  refine region_T ((fun w2 => Held w w2 [(g5, 44, two .u8 n0 n1), (g4, 43, two .i16 d0 d1), (g3, 23, M.mat 2 a)] nilRow [])) [0, 1, 2, 3, 4, 5, 6, 7, 8] 12 [some 56, some 57, some 58, some 59, some 60, some 61, some 62, some 63, some 7] [.pointer (some ⟨g5, 0, none⟩), .int .u8 n0, .int .u8 m, .int .i64 m, .pointer (some ⟨g5, 1, none⟩), .int .u8 n1, .int .u8 k, .int .i64 k, .int .i64 m] 1 (by kernel_rfl) (by rfl) (by kernel_rfl) (by rfl) (by rfl) (O.drew) (fun F hF => ?_)
                  simp only [fillD, Act.put, List.setIfInBounds_toArray, List.set_cons_zero, List.set_cons_succ] at hF
                  subst hF
                  refine ⟨⟨does_want rfl (by rfl) (fun w' O K hK => ?_), does_want rfl (by rfl) (fun w' O K hK => ?_), does_want rfl (by rfl) (fun w' O K hK => ?_), does_want rfl (by rfl) (fun w' O K hK => ?_), does_want rfl (by rfl) (fun w' O K hK => ?_), does_want rfl (by rfl) (fun w' O K hK => ?_), does_want rfl (by rfl) (fun w' O K hK => ?_), does_want rfl (by rfl) (fun w' O K hK => ?_), does_want rfl (by rfl) (fun w' O K hK => ?_), trivial⟩, fun w' O => ?_⟩
                  · first | (go_simp; exact hK _ O) | exact wp_ino Try.underlying44 sizeOf5 (by decide) 0 rfl rfl (by omega) (by omega) (hK _ O)
                  · exact wp_cell_h (v := .int .u8 n0) O 0 (i := 0) rfl rfl rfl agg5 rfl (hK _ O)
                  · obtain ⟨e1, e2, e3, e4⟩ := Hm.out
                    go_simp
                    first | exact hK _ O | (rw [e4]; exact hK _ O) | (rw [e4, e2]; exact hK _ O) | (rw [e1]; exact hK _ O) | (rw [e1, e2]; exact hK _ O) | (simp only [e1, e2, e3]; exact hK _ O) | (rw [e3]; exact hK _ O)
                  · obtain ⟨e1, e2, e3, e4⟩ := Hm.out
                    go_simp
                    first | exact hK _ O | (rw [e4]; exact hK _ O) | (rw [e4, e2]; exact hK _ O) | (rw [e1]; exact hK _ O) | (rw [e1, e2]; exact hK _ O) | (simp only [e1, e2, e3]; exact hK _ O) | (rw [e3]; exact hK _ O)
                  · first | (go_simp; exact hK _ O) | exact wp_ino Try.underlying44 sizeOf5 (by decide) 1 rfl rfl (by omega) (by omega) (hK _ O)
                  · exact wp_cell_h (v := .int .u8 n1) O 0 (i := 1) rfl rfl rfl agg5 rfl (hK _ O)
                  · obtain ⟨e1, e2, e3, e4⟩ := Hk.out
                    go_simp
                    first | exact hK _ O | (rw [e4]; exact hK _ O) | (rw [e4, e2]; exact hK _ O) | (rw [e1]; exact hK _ O) | (rw [e1, e2]; exact hK _ O) | (simp only [e1, e2, e3]; exact hK _ O) | (rw [e3]; exact hK _ O)
                  · obtain ⟨e1, e2, e3, e4⟩ := Hk.out
                    go_simp
                    first | exact hK _ O | (rw [e4]; exact hK _ O) | (rw [e4, e2]; exact hK _ O) | (rw [e1]; exact hK _ O) | (rw [e1, e2]; exact hK _ O) | (simp only [e1, e2, e3]; exact hK _ O) | (rw [e3]; exact hK _ O)
                  · go_simp
                    exact hK _ O
                  refine wpAny_one (i := 9) (by kernel_rfl) rfl (fun K hK => ?_)
                  go_simp
                  refine hK _ _ ?_
                  clear hK K
                  try simp only [Act.put, List.setIfInBounds_toArray, List.set_cons_zero, List.set_cons_succ]
                  refine wpAny_done (by kernel_rfl) ?_ _
                  clear Hm Hk
                  have W1 := FW.out.1
                  have W2 := FW.out.2.1
                  have W3 := FW.out.2.2.1
                  have W4 := FW.out.2.2.2.1
                  have W5 := FW.out.2.2.2.2.1
                  have W6 := FW.out.2.2.2.2.2.1
                  have W7 := FW.out.2.2.2.2.2.2.1
                  have W8 := FW.out.2.2.2.2.2.2.2.1
                  have W9 := FW.out.2.2.2.2.2.2.2.2.1
                  have W10 := FW.out.2.2.2.2.2.2.2.2.2.1
                  have W11 := FW.out.2.2.2.2.2.2.2.2.2.2.1
                  have W12 := FW.out.2.2.2.2.2.2.2.2.2.2.2.1
                  have W13 := FW.out.2.2.2.2.2.2.2.2.2.2.2.2.1
                  have W14 := FW.out.2.2.2.2.2.2.2.2.2.2.2.2.2.1
                  have W15 := FW.out.2.2.2.2.2.2.2.2.2.2.2.2.2.2.1
                  have W16 := FW.out.2.2.2.2.2.2.2.2.2.2.2.2.2.2.2.1
                  have W17 := FW.out.2.2.2.2.2.2.2.2.2.2.2.2.2.2.2.2.1
                  have W18 := FW.out.2.2.2.2.2.2.2.2.2.2.2.2.2.2.2.2.2.1
                  have G1 := FW.out.2.2.2.2.2.2.2.2.2.2.2.2.2.2.2.2.2.2.1
                  have G2 := FW.out.2.2.2.2.2.2.2.2.2.2.2.2.2.2.2.2.2.2.2.1
                  have G3 := FW.out.2.2.2.2.2.2.2.2.2.2.2.2.2.2.2.2.2.2.2.2.1
                  have G4 := FW.out.2.2.2.2.2.2.2.2.2.2.2.2.2.2.2.2.2.2.2.2.2.1
                  have K1 := FW.out.2.2.2.2.2.2.2.2.2.2.2.2.2.2.2.2.2.2.2.2.2.2.1
                  have K2 := FW.out.2.2.2.2.2.2.2.2.2.2.2.2.2.2.2.2.2.2.2.2.2.2.2.1
                  have K3 := FW.out.2.2.2.2.2.2.2.2.2.2.2.2.2.2.2.2.2.2.2.2.2.2.2.2.1
                  have K4 := FW.out.2.2.2.2.2.2.2.2.2.2.2.2.2.2.2.2.2.2.2.2.2.2.2.2.2
                  go_wp2_with (first | ((with_reducible refine at_load 65 ?_); refine wpList_cell_h (v := .int .i64 (a0)) rfl O 2 rfl Ca0.out rfl agg3 rfl ?_) | ((with_reducible refine at_load 68 ?_); refine wpList_cell_h (v := .int .i16 d0) rfl O 1 rfl rfl rfl agg42 rfl ?_) | ((with_reducible refine at_load 73 ?_); refine wpList_cell_h (v := .int .i64 (a1)) rfl O 2 rfl Ca1.out rfl agg3 rfl ?_) | ((with_reducible refine at_load 76 ?_); refine wpList_cell_h (v := .int .i16 d1) rfl O 1 rfl rfl rfl agg42 rfl ?_) | ((with_reducible refine at_build 80 ?_); refine wpList_build_g rfl ([(0, .int .i64 c0), (1, .int .i64 c1)]) ((M.mat 2 (DM.t2 c0 c1)).toArray) ?_ (builtP _ _) ?_; (focus (simp only [List.map_toArray, List.map_cons, List.map_nil]; rfl))) | ((with_reducible refine at_alloc 9 ?_); refine wpList_alloc_h O (M.mat 2 M.zero) zeroP ?_; clear O; intro g9 w4 O) | ((with_reducible refine at_store 9 ?_); refine wpList_put_h O 0 (M.mat 2 (DM.t2 c0 c1)) rfl rfl rfl (sP _) (M.mat_len2 _ _ _) (M.mat_one _ _) ?_; clear O; intro w5 O) | ((with_reducible refine at_load 82 ?_); refine wpList_cell_h (v := .int .i64 c0) rfl O 0 rfl rfl rfl agg3 rfl ?_) | ((with_reducible refine at_load 85 ?_); refine wpList_cell_h (v := .int .i16 d0) rfl O 2 rfl rfl rfl agg42 rfl ?_) | ((with_reducible refine at_load 90 ?_); refine wpList_cell_h (v := .int .i64 c1) rfl O 0 rfl rfl rfl agg3 rfl ?_) | ((with_reducible refine at_load 93 ?_); refine wpList_cell_h (v := .int .i16 d1) rfl O 2 rfl rfl rfl agg42 rfl ?_) | ((with_reducible refine at_build 97 ?_); refine wpList_build_g rfl ([(0, .int .i64 b0), (1, .int .i64 b1)]) ((M.mat 2 (DM.t2 b0 b1)).toArray) ?_ (builtP _ _) ?_; (focus (simp only [List.map_toArray, List.map_cons, List.map_nil]; rfl))) | ((with_reducible refine at_alloc 10 ?_); refine wpList_alloc_h O (M.mat 2 M.zero) zeroP ?_; clear O; intro g10 w6 O) | ((with_reducible refine at_store 10 ?_); refine wpList_put_h O 0 (M.mat 2 (DM.t2 b0 b1)) rfl rfl rfl (sP _) (M.mat_len2 _ _ _) (M.mat_one _ _) ?_; clear O; intro w7 O) | ((with_reducible refine at_load 99 ?_); refine wpList_cell_h (v := .int .i64 (a0)) rfl O 4 rfl Ca0.out rfl agg3 rfl ?_) | ((with_reducible refine at_load 101 ?_); refine wpList_cell_h (v := .int .i64 b0) rfl O 0 rfl rfl rfl agg3 rfl ?_) | ((with_reducible refine at_load 106 ?_); refine wpList_cell_h (v := .int .i64 (a1)) rfl O 4 rfl Ca1.out rfl agg3 rfl ?_) | ((with_reducible refine at_load 108 ?_); refine wpList_cell_h (v := .int .i64 b1) rfl O 0 rfl rfl rfl agg3 rfl ?_) | ((with_reducible refine at_load 113 ?_); refine wpList_cell_h (v := .int .i64 (a0)) rfl O 4 rfl Ca0.out rfl agg3 rfl ?_) | ((with_reducible refine at_load 115 ?_); refine wpList_cell_h (v := .int .i64 b0) rfl O 0 rfl rfl rfl agg3 rfl ?_) | ((with_reducible refine at_load 120 ?_); refine wpList_cell_h (v := .int .i64 (a1)) rfl O 4 rfl Ca1.out rfl agg3 rfl ?_) | ((with_reducible refine at_load 122 ?_); refine wpList_cell_h (v := .int .i64 b1) rfl O 0 rfl rfl rfl agg3 rfl ?_) | ((with_reducible refine at_build 126 ?_); refine wpList_build_g rfl ([(0, .int .i64 r0), (1, .int .i64 r1), (2, .int .i64 r2), (3, .int .i64 r3)]) ((M.mat 4 (RC.mk r0 r1 r2 r3)).toArray) ?_ (builtR _ _ _ _) ?_; (focus (simp only [List.map_toArray, List.map_cons, List.map_nil]; rfl))) | ((with_reducible refine at_alloc 11 ?_); refine wpList_alloc_h O (M.mat 4 M.zero) zeroR ?_; clear O; intro g11 w8 O) | ((with_reducible refine at_store 11 ?_); refine wpList_put_h O 0 (M.mat 4 (RC.mk r0 r1 r2 r3)) rfl rfl rfl (sR _) (M.mat_len2 _ _ _) (M.mat_one _ _) ?_; clear O; intro w9 O))
                  have OO : Held w w9 [(g11, 25, M.mat 4 (RC.mk r0 r1 r2 r3)), (g10, 23, M.mat 2 (DM.t2 b0 b1)), (g9, 23, M.mat 2 (DM.t2 c0 c1)), (g5, 44, two .u8 n0 n1), (g4, 43, two .i16 d0 d1), (g3, 23, M.mat 2 a)] nilRow [] := O
                  clear O FW Ca0 Ca1 W1 W2 W3 W4 W5 W6 W7 W8 W9 W10 W11 W12 W13 W14 W15 W16 W17 W18
                  try clear G1
                  try clear G2
                  try clear G3
                  try clear G4
                  try clear K1
                  try clear K2
                  try clear K3
                  try clear K4
                  have O := OO
                  clear OO
                  refine region_S (fun st w2 => LH w [(g11, 25, M.mat 4 (RC.mk r0 r1 r2 r3)), (g10, 23, M.mat 2 (DM.t2 b0 b1)), (g9, 23, M.mat 2 (DM.t2 c0 c1)), (g5, 44, two .u8 n0 n1), (g4, 43, two .i16 d0 d1), (g3, 23, M.mat 2 a)] [(3, DM.st (P ++ Q)), (7, DM.st P), (11, DM.st Q)] st w2) [3, 7, 11] 12 12 [some 127, some 128, some 129, some 130, some 131, some 132, some 133, some 134, some 135, some 136, some 137, some 138] (fun g => [arr 2 a, arr 2 (DM.t2 b0 b1), arr 4 (RC.mk r0 r1 r2 r3), g 3, arr 2 a, arr 2 (DM.t2 c0 c1), arr 4 (RC.mk r0 r1 r2 r3), g 7, arr 2 (DM.t2 c0 c1), arr 2 (DM.t2 b0 b1), arr 4 (RC.mk r0 r1 r2 r3), g 11]) 3 (by kernel_rfl) (by kernel_rfl) (by rfl) (by rfl) (fun _ => rfl) (by decide) ?_ (LH.start O.drew) (fun F hF => ?_)
                  · intro i hi
                    simp only [List.mem_cons, List.not_mem_nil, or_false] at hi
                    rcases hi with rfl | rfl | rfl
                    · exact ⟨fun _ => rfl, [0, 1, 2, 4, 5, 6, 7, 8, 9, 10, 11], by kernel_rfl, fun g v => ⟨rfl, rfl, rfl, rfl, rfl, rfl, rfl, rfl, rfl, rfl, rfl, trivial⟩⟩
                    · exact ⟨fun _ => rfl, [0, 1, 2, 3, 4, 5, 6, 8, 9, 10, 11], by kernel_rfl, fun g v => ⟨rfl, rfl, rfl, rfl, rfl, rfl, rfl, rfl, rfl, rfl, rfl, trivial⟩⟩
                    · exact ⟨fun _ => rfl, [0, 1, 2, 3, 4, 5, 6, 7, 8, 9, 10], by kernel_rfl, fun g v => ⟨rfl, rfl, rfl, rfl, rfl, rfl, rfl, rfl, rfl, rfl, rfl, trivial⟩⟩
                  simp only [fillD, Act.put, List.setIfInBounds_toArray, List.set_cons_zero, List.set_cons_succ] at hF
                  have hF2 := funext hF
                  clear hF
                  subst hF2
                  refine ⟨⟨doesN_want (by decide) rfl (fun g => rfl) (fun st w' hS hp K hK => ?_), doesN_want (by decide) rfl (fun g => rfl) (fun st w' hS hp K hK => ?_), doesN_want (by decide) rfl (fun g => rfl) (fun st w' hS hp K hK => ?_), doesC_want (by decide) rfl (fun g => rfl) (fun st w' hS hn hp K hK => ?_), doesN_want (by decide) rfl (fun g => rfl) (fun st w' hS hp K hK => ?_), doesN_want (by decide) rfl (fun g => rfl) (fun st w' hS hp K hK => ?_), doesN_want (by decide) rfl (fun g => rfl) (fun st w' hS hp K hK => ?_), doesC_want (by decide) rfl (fun g => rfl) (fun st w' hS hn hp K hK => ?_), doesN_want (by decide) rfl (fun g => rfl) (fun st w' hS hp K hK => ?_), doesN_want (by decide) rfl (fun g => rfl) (fun st w' hS hp K hK => ?_), doesN_want (by decide) rfl (fun g => rfl) (fun st w' hS hp K hK => ?_), doesC_want (by decide) rfl (fun g => rfl) (fun st w' hS hn hp K hK => ?_), trivial⟩, fun st w' hS hall => ?_⟩
                  · try dsimp only
                    exact wp_row_h hS.1 5 rfl rfl Try.underlying23 rfl (sP _) (hK _ hS)
                  · try dsimp only
                    exact wp_row_h hS.1 1 rfl rfl Try.underlying23 rfl (sP _) (hK _ hS)
                  · try dsimp only
                    exact wp_row_h hS.1 0 rfl rfl Try.underlying25 rfl (sR _) (hK _ hS)
                  · try dsimp only
                    go_simp
                    go_at_call 12
                    refine (CL _).mono ?_
                    rintro e w2 ⟨VA, vc, rfl, hL, hb⟩
                    have hS2 := hS.gain 0 rfl (by decide : [3, 7, 11].Nodup) hL hb
                    rw [DM.st_len, List.length_append] at hS2
                    exact hK _ _ hS2
                  · try dsimp only
                    exact wp_row_h hS.1 5 rfl rfl Try.underlying23 rfl (sP _) (hK _ hS)
                  · try dsimp only
                    exact wp_row_h hS.1 2 rfl rfl Try.underlying23 rfl (sP _) (hK _ hS)
                  · try dsimp only
                    exact wp_row_h hS.1 0 rfl rfl Try.underlying25 rfl (sR _) (hK _ hS)
                  · try dsimp only
                    go_simp
                    go_at_call 12
                    refine (CP _).mono ?_
                    rintro e w2 ⟨VA, vc, rfl, hL, hb⟩
                    have hS2 := hS.gain 1 rfl (by decide : [3, 7, 11].Nodup) hL hb
                    rw [DM.st_len] at hS2
                    exact hK _ _ hS2
                  · try dsimp only
                    exact wp_row_h hS.1 2 rfl rfl Try.underlying23 rfl (sP _) (hK _ hS)
                  · try dsimp only
                    exact wp_row_h hS.1 1 rfl rfl Try.underlying23 rfl (sP _) (hK _ hS)
                  · try dsimp only
                    exact wp_row_h hS.1 0 rfl rfl Try.underlying25 rfl (sR _) (hK _ hS)
                  · try dsimp only
                    go_simp
                    go_at_call 12
                    refine (CQ _).mono ?_
                    rintro e w2 ⟨VA, vc, rfl, hL, hb⟩
                    have hS2 := hS.gain 2 rfl (by decide : [3, 7, 11].Nodup) hL hb
                    rw [DM.st_len] at hS2
                    exact hK _ _ hS2
                  try dsimp only
                  obtain ⟨A, c_, s1, O1⟩ := hS.get 0 rfl (hall 3 (by decide))
                  obtain ⟨B, d_, s2, O2⟩ := hS.get 1 rfl (hall 7 (by decide))
                  obtain ⟨C, e_, s3, O3⟩ := hS.get 2 rfl (hall 11 (by decide))
                  have OO := Held.three O1 O2 O3
                  clear O O1 O2 O3
                  simp only [seen, s1, s2, s3, Option.getD_some]
                  clear hS hall s1 s2 s3
                  have O := OO
                  clear OO
                  rw [DM.st_len, DM.st_len, DM.st_len, List.length_append]
                  refine wpAny_one (i := 12) (by kernel_rfl) rfl (fun K hK => ?_)
                  go_simp
                  refine hK _ _ ?_
                  clear hK K
                  try simp only [Act.put, List.setIfInBounds_toArray, List.set_cons_zero, List.set_cons_succ]
                  refine wpAny_one (i := 13) (by kernel_rfl) rfl (fun K hK => ?_)
                  go_simp
                  refine hK _ _ ?_
                  clear hK K
                  try simp only [Act.put, List.setIfInBounds_toArray, List.set_cons_zero, List.set_cons_succ]
                  refine wpAny_one (i := 14) (by kernel_rfl) rfl (fun K hK => ?_)
                  go_simp
                  refine hK _ _ ?_
                  clear hK K
                  try simp only [Act.put, List.setIfInBounds_toArray, List.set_cons_zero, List.set_cons_succ]
                  refine wpAny_done (by kernel_rfl) ?_ _
                  clear CL CP CQ
                  have lenL := HL.out
                  obtain ⟨p_, hp_⟩ : ∃ z, P.length = z := ⟨_, rfl⟩
                  obtain ⟨q_, hq_⟩ : ∃ z, Q.length = z := ⟨_, rfl⟩
                  rw [hp_, hq_] at lenL
                  rw [hp_] at NP
                  rw [hq_] at NQ
                  rw [hp_, hq_]
                  have HPQ := Lib.hid (And.intro hp_ (And.intro hq_ lenL))
                  have lb1 : ((p_ : Int) != (p_ : Int)) = false := by simp
                  have lb2 : ((q_ : Int) != (q_ : Int)) = false := by simp
                  have lw : wrap64 ((p_ : Int) + q_) = ((p_ + q_ : Nat) : Int) := by rw [IntWalk.wrap64_in _ (by omega)]; omega
                  clear hp_ hq_ lenL HL
                  have tk0 : True := trivial
                  go_wp2_with (first | ((with_reducible refine at_load 141 ?_); refine wpList_rowg_h rfl O 5 rfl rfl Try.underlying23 rfl (sP _) ?_) | ((with_reducible refine at_load 142 ?_); refine wpList_rowg_h rfl O 2 rfl rfl Try.underlying23 rfl (sP _) ?_) | ((with_reducible refine at_load 148 ?_); refine wpList_rowg_h rfl O 2 rfl rfl Try.underlying23 rfl (sP _) ?_) | ((with_reducible refine at_load 149 ?_); refine wpList_rowg_h rfl O 1 rfl rfl Try.underlying23 rfl (sP _) ?_) | (go_at_call 16; clear tk0; have tk1 : True := trivial; refine (NP _).mono ?_; rintro e w20 ⟨rfl, hb⟩; replace O := O.call hb; clear hb) | (go_at_call 16; clear tk1; refine (NQ _).mono ?_; rintro e w21 ⟨rfl, hb⟩; replace O := O.call hb; clear hb))
                  clear NP NQ lb1 lb2 lw
                  obtain ⟨hp_, hq_, hb_⟩ := HPQ.out
                  obtain ⟨n_, hn_⟩ : ∃ z, p_ + q_ = z := ⟨_, rfl⟩
                  rw [hn_] at hb_
                  have eA : tE w.heap.size A c_ (DM.st (P ++ Q)) = ⟨w.heap.size, A, n_, c_, 3, tC (DM.st (P ++ Q))⟩ := by unfold tE; rw [DM.st_len, List.length_append, hp_, hq_, hn_]
                  have eB : tE w.heap.size B d_ (DM.st P) = ⟨w.heap.size, B, p_, d_, 3, tC (DM.st P)⟩ := by unfold tE; rw [DM.st_len, hp_]
                  have eC : tE w.heap.size C e_ (DM.st Q) = ⟨w.heap.size, C, q_, e_, 3, tC (DM.st Q)⟩ := by unfold tE; rw [DM.st_len, hq_]
                  rw [eA, eB, eC] at O
                  have HF : Hid (∀ i, i < p_ → ∃ x y : Int, (DM.st (P ++ Q))[i]? = some ((i : Int), x, y) ∧ (DM.st P)[i]? = some ((i : Int), x, y)) := Lib.hid fun i h => DM.st_fst (by omega)
                  have HG : Hid (∀ j, j < q_ → ∃ x y : Int, (DM.st (P ++ Q))[p_ + j]? = some (((p_ + j : Nat) : Int), x, y) ∧ (DM.st Q)[j]? = some ((j : Int), x, y)) := Lib.hid fun j h => by rw [← hp_]; exact DM.st_snd (by omega)
                  clear eA eB eC hp_ hq_ HPQ
                  rw [hn_]
                  generalize DM.st (P ++ Q) = l at *
                  generalize DM.st P = lp at *
                  generalize DM.st Q = lq at *
                  have OO : Held w w21 [(g11, 25, M.mat 4 (RC.mk r0 r1 r2 r3)), (g10, 23, M.mat 2 (DM.t2 b0 b1)), (g9, 23, M.mat 2 (DM.t2 c0 c1)), (g5, 44, two .u8 n0 n1), (g4, 43, two .i16 d0 d1), (g3, 23, M.mat 2 a)] nilRow [⟨w.heap.size, A, n_, c_, 3, tC l⟩, ⟨w.heap.size, B, p_, d_, 3, tC lp⟩, ⟨w.heap.size, C, q_, e_, 3, tC lq⟩] := O
                  clear O
                  have O := OO
                  clear OO
                  go_loopw [15] (fun t_ wr => ∃ i : Nat, i ≤ n_ ∧ t_ = .int .i64 i ∧ Held w wr [(g11, 25, M.mat 4 (RC.mk r0 r1 r2 r3)), (g10, 23, M.mat 2 (DM.t2 b0 b1)), (g9, 23, M.mat 2 (DM.t2 c0 c1)), (g5, 44, two .u8 n0 n1), (g4, 43, two .i16 d0 d1), (g3, 23, M.mat 2 a)] nilRow [⟨w.heap.size, A, n_, c_, 3, tC l⟩, ⟨w.heap.size, B, p_, d_, 3, tC lp⟩, ⟨w.heap.size, C, q_, e_, 3, tC lq⟩]) (fun t_ _ => n_ - (intOf t_).toNat)
                  case atStart => exact ⟨0, Nat.zero_le _, rfl, O⟩
                  case round =>
                    clear O
                    obtain ⟨i, hi, rfl, O⟩ := hrel
                    by_cases hlt : i < n_
                    · by_cases hp : i < p_
                      · obtain ⟨x, y, hx, hy⟩ := HF.out i hp
                        have kb : decide (i < p_) = true := decide_eq_true hp
                        have kg : decide (p_ ≤ i) = false := decide_eq_false (by omega)
                        go_wp2_with (first | ((with_reducible refine at_index_ 171 ?_); refine wpList_at_h rfl Try.underlying30 sizeOfT ⟨w.heap.size, A, n_, c_, 3, tC l⟩ (O.mem List.mem_cons_self) rfl i rfl rfl (by omega) rfl ?_) | ((with_reducible refine at_load 172 ?_); refine wpList_elem_h rfl ⟨w.heap.size, A, n_, c_, 3, tC l⟩ (O.mem List.mem_cons_self) (i * 3) (M.mat 3 (sF ((i : Int), x, y))) (tC_at hx) (by rw [M.mat_len]; decide) rfl Try.underlying34 rfl (sT _) ?_) | ((with_reducible refine at_alloc 16 ?_); refine wpList_alloc_h O (M.mat 3 M.zero) zeroT ?_; clear O; intro g16 w30 O) | ((with_reducible refine at_store 16 ?_); refine wpList_put_h O 0 (M.mat 3 (sF ((i : Int), x, y))) rfl rfl rfl (sT _) (M.mat_len2 _ _ _) (M.mat_one _ _) ?_; clear O; intro w31 O))
                        have OO : Held w w31 [(g16, 34, M.mat 3 (sF ((i : Int), x, y))), (g11, 25, M.mat 4 (RC.mk r0 r1 r2 r3)), (g10, 23, M.mat 2 (DM.t2 b0 b1)), (g9, 23, M.mat 2 (DM.t2 c0 c1)), (g5, 44, two .u8 n0 n1), (g4, 43, two .i16 d0 d1), (g3, 23, M.mat 2 a)] nilRow [⟨w.heap.size, A, n_, c_, 3, tC l⟩, ⟨w.heap.size, B, p_, d_, 3, tC lp⟩, ⟨w.heap.size, C, q_, e_, 3, tC lq⟩] := O
                        clear O
                        have O := OO
                        clear OO
                        refine region_T ((fun w2 => Held w w2 [(g16, 34, M.mat 3 (sF ((i : Int), x, y))), (g11, 25, M.mat 4 (RC.mk r0 r1 r2 r3)), (g10, 23, M.mat 2 (DM.t2 b0 b1)), (g9, 23, M.mat 2 (DM.t2 c0 c1)), (g5, 44, two .u8 n0 n1), (g4, 43, two .i16 d0 d1), (g3, 23, M.mat 2 a)] nilRow [⟨w.heap.size, A, n_, c_, 3, tC l⟩, ⟨w.heap.size, B, p_, d_, 3, tC lp⟩, ⟨w.heap.size, C, q_, e_, 3, tC lq⟩])) [0, 1, 2, 3, 4, 5, 6, 7, 8, 9, 10, 11, 12, 13, 14, 15, 16, 17] 12 [some 173, some 174, some 175, some 176, some 177, some 178, some 179, some 180, some 181, some 182, some 183, some 184, some 185, some 186, some 187, some 188, some 189, some 190] [.pointer (some ⟨g16, 0, none⟩), .int .i64 i, .int .i64 i, .bool false, .bool false, .int .i64 i, .slice B p_ d_, .int .i64 p_, .bool true, .bool true, arr 3 (sF ((i : Int), x, y)), .slice B p_ d_, .int .i64 i, .pointer (some ((adr B).add (i * 3))), arr 3 (sF ((i : Int), x, y)), .bool false, .bool false, .bool false] 0 (by kernel_rfl) (by rfl) (by kernel_rfl) (by rfl) (by rfl) (O.drew) (fun F hF => ?_)
                        simp only [fillD, Act.put, List.setIfInBounds_toArray, List.set_cons_zero, List.set_cons_succ] at hF
                        subst hF
                        refine ⟨⟨does_want rfl (by rfl) (fun w' O K hK => ?_), does_want rfl (by rfl) (fun w' O K hK => ?_), does_want rfl (by rfl) (fun w' O K hK => ?_), does_want rfl (by rfl) (fun w' O K hK => ?_), does_want rfl (by rfl) (fun w' O K hK => ?_), does_want rfl (by rfl) (fun w' O K hK => ?_), does_want rfl (by rfl) (fun w' O K hK => ?_), does_want rfl (by rfl) (fun w' O K hK => ?_), does_want rfl (by rfl) (fun w' O K hK => ?_), does_want rfl (by rfl) (fun w' O K hK => ?_), does_want rfl (by rfl) (fun w' O K hK => ?_), does_want rfl (by rfl) (fun w' O K hK => ?_), does_want rfl (by rfl) (fun w' O K hK => ?_), does_want rfl (by rfl) (fun w' O K hK => ?_), does_want rfl (by rfl) (fun w' O K hK => ?_), does_want rfl (by rfl) (fun w' O K hK => ?_), does_want rfl (by rfl) (fun w' O K hK => ?_), does_want rfl (by rfl) (fun w' O K hK => ?_), trivial⟩, fun w' O => ?_⟩
                        · go_simp
                          exact hK _ O
                        · exact wp_cell_h (v := .int .i64 (i : Int)) O 0 (i := 0) rfl rfl rfl agg3 rfl (hK _ O)
                        · go_simp
                          exact hK _ O
                        · go_simp
                          exact hK _ O
                        · go_simp
                          exact hK _ O
                        · go_simp
                          exact hK _ O
                        · go_simp
                          exact hK _ O
                        · go_simp
                          exact hK _ O
                        · go_simp
                          exact hK _ O
                        · go_simp
                          exact hK _ O
                        · exact wp_row_h O 0 rfl rfl Try.underlying34 rfl (sT _) (hK _ O)
                        · go_simp
                          exact hK _ O
                        · go_simp
                          exact hK _ O
                        · exact wp_at_h Try.underlying30 sizeOfT ⟨w.heap.size, B, p_, d_, 3, tC lp⟩ (O.mem (List.mem_cons_of_mem _ List.mem_cons_self)) rfl i rfl rfl (by omega) rfl (hK _ O)
                        · exact wp_elem_h ⟨w.heap.size, B, p_, d_, 3, tC lp⟩ (O.mem (List.mem_cons_of_mem _ List.mem_cons_self)) (i * 3) (M.mat 3 (sF ((i : Int), x, y))) (tC_at hy) (by rw [M.mat_len]; decide) rfl Try.underlying34 rfl (sT _) (hK _ O)
                        · refine wp_neqT (sF ((i : Int), x, y)) (sF ((i : Int), x, y)) rfl rfl ?_
                          rw [M.eqB_refl]
                          exact hK _ O
                        · go_simp
                          exact hK _ O
                        · go_simp
                          exact hK _ O
                        refine wpAny_done (by kernel_rfl) ?_ _
                        go_wp2_with fail
                        go_roundw
                        case rel => exact ⟨i + 1, by omega, by go_num, O.tail⟩
                        case measure => simp [intOf]; omega
                      · obtain ⟨j, hj⟩ : ∃ j, p_ + j = i := ⟨i - p_, by omega⟩
                        obtain ⟨x, y, hx, hy⟩ := HG.out j (by omega)
                        rw [hj] at hx
                        have jq : j < q_ := by omega
                        have kb : decide (i < p_) = false := decide_eq_false hp
                        have kg : decide (p_ ≤ i) = true := decide_eq_true (by omega)
                        have HJ : Hid ((i : Int) - (p_ : Int) = (j : Int) ∧ IntKind.i64.wrap (j : Int) = (j : Int)) := Lib.hid ⟨by omega, IntWalk.i64_in _ (by omega)⟩
                        have Hj2 : Hid (wrap64 ((i : Int) - (p_ : Int)) = (j : Int)) := Lib.hid (by rw [IntWalk.wrap64_in _ (by omega)]; omega)
                        clear hj
                        go_wp2_with (first | ((with_reducible refine at_index_ 171 ?_); refine wpList_at_h rfl Try.underlying30 sizeOfT ⟨w.heap.size, A, n_, c_, 3, tC l⟩ (O.mem List.mem_cons_self) rfl i rfl rfl (by omega) rfl ?_) | ((with_reducible refine at_load 172 ?_); refine wpList_elem_h rfl ⟨w.heap.size, A, n_, c_, 3, tC l⟩ (O.mem List.mem_cons_self) (i * 3) (M.mat 3 (sF ((i : Int), x, y))) (tC_at hx) (by rw [M.mat_len]; decide) rfl Try.underlying34 rfl (sT _) ?_) | ((with_reducible refine at_alloc 16 ?_); refine wpList_alloc_h O (M.mat 3 M.zero) zeroT ?_; clear O; intro g16 w30 O) | ((with_reducible refine at_store 16 ?_); refine wpList_put_h O 0 (M.mat 3 (sF ((i : Int), x, y))) rfl rfl rfl (sT _) (M.mat_len2 _ _ _) (M.mat_one _ _) ?_; clear O; intro w31 O))
                        have OO : Held w w31 [(g16, 34, M.mat 3 (sF ((i : Int), x, y))), (g11, 25, M.mat 4 (RC.mk r0 r1 r2 r3)), (g10, 23, M.mat 2 (DM.t2 b0 b1)), (g9, 23, M.mat 2 (DM.t2 c0 c1)), (g5, 44, two .u8 n0 n1), (g4, 43, two .i16 d0 d1), (g3, 23, M.mat 2 a)] nilRow [⟨w.heap.size, A, n_, c_, 3, tC l⟩, ⟨w.heap.size, B, p_, d_, 3, tC lp⟩, ⟨w.heap.size, C, q_, e_, 3, tC lq⟩] := O
                        clear O
                        have O := OO
                        clear OO
                        refine region_T ((fun w2 => Held w w2 [(g16, 34, M.mat 3 (sF ((i : Int), x, y))), (g11, 25, M.mat 4 (RC.mk r0 r1 r2 r3)), (g10, 23, M.mat 2 (DM.t2 b0 b1)), (g9, 23, M.mat 2 (DM.t2 c0 c1)), (g5, 44, two .u8 n0 n1), (g4, 43, two .i16 d0 d1), (g3, 23, M.mat 2 a)] nilRow [⟨w.heap.size, A, n_, c_, 3, tC l⟩, ⟨w.heap.size, B, p_, d_, 3, tC lp⟩, ⟨w.heap.size, C, q_, e_, 3, tC lq⟩])) [0, 1, 2, 3, 4, 5, 6, 7, 8, 9, 10, 11, 12, 13, 14, 15, 16, 17] 12 [some 173, some 174, some 175, some 176, some 177, some 178, some 179, some 180, some 181, some 182, some 183, some 184, some 185, some 186, some 187, some 188, some 189, some 190] [.pointer (some ⟨g16, 0, none⟩), .int .i64 i, .int .i64 i, .bool false, .bool false, .int .i64 i, .slice B p_ d_, .int .i64 p_, .bool false, .bool false, undef, undef, undef, undef, undef, undef, .bool false, .bool false] 0 (by kernel_rfl) (by rfl) (by kernel_rfl) (by rfl) (by rfl) (O.drew) (fun F hF => ?_)
                        simp only [fillD, Act.put, List.setIfInBounds_toArray, List.set_cons_zero, List.set_cons_succ] at hF
                        subst hF
                        refine ⟨⟨does_want rfl (by rfl) (fun w' O K hK => ?_), does_want rfl (by rfl) (fun w' O K hK => ?_), does_want rfl (by rfl) (fun w' O K hK => ?_), does_want rfl (by rfl) (fun w' O K hK => ?_), does_want rfl (by rfl) (fun w' O K hK => ?_), does_want rfl (by rfl) (fun w' O K hK => ?_), does_want rfl (by rfl) (fun w' O K hK => ?_), does_want rfl (by rfl) (fun w' O K hK => ?_), does_want rfl (by rfl) (fun w' O K hK => ?_), does_want rfl (by rfl) (fun w' O K hK => ?_), does_skip rfl (by rfl), does_skip rfl (by rfl), does_skip rfl (by rfl), does_skip rfl (by rfl), does_skip rfl (by rfl), does_skip rfl (by rfl), does_want rfl (by rfl) (fun w' O K hK => ?_), does_want rfl (by rfl) (fun w' O K hK => ?_), trivial⟩, fun w' O => ?_⟩
                        · go_simp
                          exact hK _ O
                        · exact wp_cell_h (v := .int .i64 (i : Int)) O 0 (i := 0) rfl rfl rfl agg3 rfl (hK _ O)
                        · go_simp
                          exact hK _ O
                        · go_simp
                          exact hK _ O
                        · go_simp
                          exact hK _ O
                        · go_simp
                          exact hK _ O
                        · go_simp
                          exact hK _ O
                        · go_simp
                          exact hK _ O
                        · go_simp
                          exact hK _ O
                        · go_simp
                          exact hK _ O
                        · go_simp
                          exact hK _ O
                        · go_simp
                          exact hK _ O
                        refine wpAny_done (by kernel_rfl) ?_ _
                        have wj := Hj2.out
                        have ej := HJ.out.1
                        go_wp2_with (first | ((with_reducible refine at_load 196 ?_); refine wpList_cell_h (v := .int .i64 (i : Int)) rfl O 0 rfl rfl rfl agg3 rfl ?_) | ((with_reducible refine at_store 200 ?_); refine wpList_set_h O 0 (i := 0) (.int .i64 (j : Int)) rfl (by rw [M.mat_len]; exact Nat.succ_pos _) rfl (by first | rfl | exact congrArg (Value.int .i64) wj | exact congrArg (Value.int .i64) ej) size3 rfl rfl ?_; clear O; intro w32 O))
                        clear wj ej Hj2
                        have OO : Held w w32 [(g16, 34, M.mat 3 (sF ((j : Int), x, y))), (g11, 25, M.mat 4 (RC.mk r0 r1 r2 r3)), (g10, 23, M.mat 2 (DM.t2 b0 b1)), (g9, 23, M.mat 2 (DM.t2 c0 c1)), (g5, 44, two .u8 n0 n1), (g4, 43, two .i16 d0 d1), (g3, 23, M.mat 2 a)] nilRow [⟨w.heap.size, A, n_, c_, 3, tC l⟩, ⟨w.heap.size, B, p_, d_, 3, tC lp⟩, ⟨w.heap.size, C, q_, e_, 3, tC lq⟩] := O
                        clear O
                        have O := OO
                        clear OO
                        refine region_T ((fun w2 => Held w w2 [(g16, 34, M.mat 3 (sF ((j : Int), x, y))), (g11, 25, M.mat 4 (RC.mk r0 r1 r2 r3)), (g10, 23, M.mat 2 (DM.t2 b0 b1)), (g9, 23, M.mat 2 (DM.t2 c0 c1)), (g5, 44, two .u8 n0 n1), (g4, 43, two .i16 d0 d1), (g3, 23, M.mat 2 a)] nilRow [⟨w.heap.size, A, n_, c_, 3, tC l⟩, ⟨w.heap.size, B, p_, d_, 3, tC lp⟩, ⟨w.heap.size, C, q_, e_, 3, tC lq⟩])) [0, 1, 2, 3, 4, 5, 6, 7, 8] 12 [some 201, some 202, some 203, some 204, some 205, some 206, some 207, some 208, some 209] [arr 3 (sF ((j : Int), x, y)), .slice C q_ e_, .int .i64 i, .slice B p_ d_, .int .i64 p_, .int .i64 (j : Int), .pointer (some ((adr C).add (j * 3))), arr 3 (sF ((j : Int), x, y)), .bool false] 0 (by kernel_rfl) (by rfl) (by kernel_rfl) (by rfl) (by rfl) (O.drew) (fun F hF => ?_)
                        simp only [fillD, Act.put, List.setIfInBounds_toArray, List.set_cons_zero, List.set_cons_succ] at hF
                        subst hF
                        refine ⟨⟨does_want rfl (by rfl) (fun w' O K hK => ?_), does_want rfl (by rfl) (fun w' O K hK => ?_), does_want rfl (by rfl) (fun w' O K hK => ?_), does_want rfl (by rfl) (fun w' O K hK => ?_), does_want rfl (by rfl) (fun w' O K hK => ?_), does_want rfl (by rfl) (fun w' O K hK => ?_), does_want rfl (by rfl) (fun w' O K hK => ?_), does_want rfl (by rfl) (fun w' O K hK => ?_), does_want rfl (by rfl) (fun w' O K hK => ?_), trivial⟩, fun w' O => ?_⟩
                        · exact wp_row_h O 0 rfl rfl Try.underlying34 rfl (sT _) (hK _ O)
                        · go_simp
                          exact hK _ O
                        · go_simp
                          exact hK _ O
                        · go_simp
                          exact hK _ O
                        · go_simp
                          exact hK _ O
                        · obtain ⟨e1, e2⟩ := HJ.out
                          go_simp
                          first | exact hK _ O | (rw [e1, e2]; exact hK _ O) | (simp only [e1, e2]; exact hK _ O) | (rw [e1]; exact hK _ O) | (rw [e2]; exact hK _ O)
                        · exact wp_at_h Try.underlying30 sizeOfT ⟨w.heap.size, C, q_, e_, 3, tC lq⟩ (O.mem (List.mem_cons_of_mem _ (List.mem_cons_of_mem _ List.mem_cons_self))) rfl j rfl rfl (by omega) rfl (hK _ O)
                        · exact wp_elem_h ⟨w.heap.size, C, q_, e_, 3, tC lq⟩ (O.mem (List.mem_cons_of_mem _ (List.mem_cons_of_mem _ List.mem_cons_self))) (j * 3) (M.mat 3 (sF ((j : Int), x, y))) (tC_at hy) (by rw [M.mat_len]; decide) rfl Try.underlying34 rfl (sT _) (hK _ O)
                        · refine wp_neqT (sF ((j : Int), x, y)) (sF ((j : Int), x, y)) rfl rfl ?_
                          rw [M.eqB_refl]
                          exact hK _ O
                        refine wpAny_done (by kernel_rfl) ?_ _
                        go_wp2_with fail
                        go_roundw
                        case rel => exact ⟨i + 1, by omega, by go_num, O.tail⟩
                        case measure => simp [intOf]; omega
                    · have q1 : ¬ (i : Int) < n_ := by omega
                      go_wp2_with (go_at_call 10; refine (awake_any _).mono ?_; rintro e w20 ⟨rfl, hb⟩; replace O := O.call hb; clear hb)
                      go_ret
                      exact ⟨rfl, O.below⟩
                · clear EA HN
                  go_enter Try.func6, Try.ntmps6
                  go_wp2_with (first | ((with_reducible refine at_box 3 ?_); refine wpList_box_h O (M.mat 2 (a)) rfl ?_; clear O; intro g3 w1 O) | ((with_reducible refine at_box 4 ?_); refine wpList_box_h O (two .i16 d0 d1) rfl ?_; clear O; intro g4 w2 O) | ((with_reducible refine at_box 5 ?_); refine wpList_box_h O (two .u8 n0 n1) rfl ?_; clear O; intro g5 w3 O) | ((with_reducible refine at_load 18 ?_); refine wpList_cell_h (v := .int .i64 (a0)) rfl O 2 rfl Ca0.out rfl agg3 rfl ?_) | ((with_reducible refine at_load 22 ?_); refine wpList_cell_h (v := .int .i64 (a0)) rfl O 2 rfl Ca0.out rfl agg3 rfl ?_) | ((with_reducible refine at_load 27 ?_); refine wpList_cell_h (v := .int .i64 (a1)) rfl O 2 rfl Ca1.out rfl agg3 rfl ?_) | ((with_reducible refine at_load 32 ?_); refine wpList_cell_h (v := .int .i64 (a1)) rfl O 2 rfl Ca1.out rfl agg3 rfl ?_) | ((with_reducible refine at_load 37 ?_); refine wpList_cell_h (v := .int .i16 d0) rfl O 1 rfl rfl rfl agg42 rfl ?_) | ((with_reducible refine at_load 42 ?_); refine wpList_cell_h (v := .int .i16 d0) rfl O 1 rfl rfl rfl agg42 rfl ?_) | ((with_reducible refine at_load 47 ?_); refine wpList_cell_h (v := .int .i16 d1) rfl O 1 rfl rfl rfl agg42 rfl ?_) | ((with_reducible refine at_load 52 ?_); refine wpList_cell_h (v := .int .i16 d1) rfl O 1 rfl rfl rfl agg42 rfl ?_) | (go_at_call 10; refine (awake_any _).mono ?_; rintro e w20 ⟨rfl, hb⟩; replace O := O.call hb; clear hb))
                  go_ret
                  exact ⟨rfl, O.below⟩
              · clear EA HN
                go_enter Try.func6, Try.ntmps6
                go_wp2_with (first | ((with_reducible refine at_box 3 ?_); refine wpList_box_h O (M.mat 2 (a)) rfl ?_; clear O; intro g3 w1 O) | ((with_reducible refine at_box 4 ?_); refine wpList_box_h O (two .i16 d0 d1) rfl ?_; clear O; intro g4 w2 O) | ((with_reducible refine at_box 5 ?_); refine wpList_box_h O (two .u8 n0 n1) rfl ?_; clear O; intro g5 w3 O) | ((with_reducible refine at_load 18 ?_); refine wpList_cell_h (v := .int .i64 (a0)) rfl O 2 rfl Ca0.out rfl agg3 rfl ?_) | ((with_reducible refine at_load 22 ?_); refine wpList_cell_h (v := .int .i64 (a0)) rfl O 2 rfl Ca0.out rfl agg3 rfl ?_) | ((with_reducible refine at_load 27 ?_); refine wpList_cell_h (v := .int .i64 (a1)) rfl O 2 rfl Ca1.out rfl agg3 rfl ?_) | ((with_reducible refine at_load 32 ?_); refine wpList_cell_h (v := .int .i64 (a1)) rfl O 2 rfl Ca1.out rfl agg3 rfl ?_) | ((with_reducible refine at_load 37 ?_); refine wpList_cell_h (v := .int .i16 d0) rfl O 1 rfl rfl rfl agg42 rfl ?_) | ((with_reducible refine at_load 42 ?_); refine wpList_cell_h (v := .int .i16 d0) rfl O 1 rfl rfl rfl agg42 rfl ?_) | ((with_reducible refine at_load 47 ?_); refine wpList_cell_h (v := .int .i16 d1) rfl O 1 rfl rfl rfl agg42 rfl ?_) | ((with_reducible refine at_load 52 ?_); refine wpList_cell_h (v := .int .i16 d1) rfl O 1 rfl rfl rfl agg42 rfl ?_) | (go_at_call 10; refine (awake_any _).mono ?_; rintro e w20 ⟨rfl, hb⟩; replace O := O.call hb; clear hb))
                go_ret
                exact ⟨rfl, O.below⟩
            · clear EA HN
              go_enter Try.func6, Try.ntmps6
              go_wp2_with (first | ((with_reducible refine at_box 3 ?_); refine wpList_box_h O (M.mat 2 (a)) rfl ?_; clear O; intro g3 w1 O) | ((with_reducible refine at_box 4 ?_); refine wpList_box_h O (two .i16 d0 d1) rfl ?_; clear O; intro g4 w2 O) | ((with_reducible refine at_box 5 ?_); refine wpList_box_h O (two .u8 n0 n1) rfl ?_; clear O; intro g5 w3 O) | ((with_reducible refine at_load 18 ?_); refine wpList_cell_h (v := .int .i64 (a0)) rfl O 2 rfl Ca0.out rfl agg3 rfl ?_) | ((with_reducible refine at_load 22 ?_); refine wpList_cell_h (v := .int .i64 (a0)) rfl O 2 rfl Ca0.out rfl agg3 rfl ?_) | ((with_reducible refine at_load 27 ?_); refine wpList_cell_h (v := .int .i64 (a1)) rfl O 2 rfl Ca1.out rfl agg3 rfl ?_) | ((with_reducible refine at_load 32 ?_); refine wpList_cell_h (v := .int .i64 (a1)) rfl O 2 rfl Ca1.out rfl agg3 rfl ?_) | ((with_reducible refine at_load 37 ?_); refine wpList_cell_h (v := .int .i16 d0) rfl O 1 rfl rfl rfl agg42 rfl ?_) | ((with_reducible refine at_load 42 ?_); refine wpList_cell_h (v := .int .i16 d0) rfl O 1 rfl rfl rfl agg42 rfl ?_) | ((with_reducible refine at_load 47 ?_); refine wpList_cell_h (v := .int .i16 d1) rfl O 1 rfl rfl rfl agg42 rfl ?_) | ((with_reducible refine at_load 52 ?_); refine wpList_cell_h (v := .int .i16 d1) rfl O 1 rfl rfl rfl agg42 rfl ?_) | (go_at_call 10; refine (awake_any _).mono ?_; rintro e w20 ⟨rfl, hb⟩; replace O := O.call hb; clear hb))
              go_ret
              exact ⟨rfl, O.below⟩
          · clear EA HN
            go_enter Try.func6, Try.ntmps6
            go_wp2_with (first | ((with_reducible refine at_box 3 ?_); refine wpList_box_h O (M.mat 2 (a)) rfl ?_; clear O; intro g3 w1 O) | ((with_reducible refine at_box 4 ?_); refine wpList_box_h O (two .i16 d0 d1) rfl ?_; clear O; intro g4 w2 O) | ((with_reducible refine at_box 5 ?_); refine wpList_box_h O (two .u8 n0 n1) rfl ?_; clear O; intro g5 w3 O) | ((with_reducible refine at_load 18 ?_); refine wpList_cell_h (v := .int .i64 (a0)) rfl O 2 rfl Ca0.out rfl agg3 rfl ?_) | ((with_reducible refine at_load 22 ?_); refine wpList_cell_h (v := .int .i64 (a0)) rfl O 2 rfl Ca0.out rfl agg3 rfl ?_) | ((with_reducible refine at_load 27 ?_); refine wpList_cell_h (v := .int .i64 (a1)) rfl O 2 rfl Ca1.out rfl agg3 rfl ?_) | ((with_reducible refine at_load 32 ?_); refine wpList_cell_h (v := .int .i64 (a1)) rfl O 2 rfl Ca1.out rfl agg3 rfl ?_) | ((with_reducible refine at_load 37 ?_); refine wpList_cell_h (v := .int .i16 d0) rfl O 1 rfl rfl rfl agg42 rfl ?_) | ((with_reducible refine at_load 42 ?_); refine wpList_cell_h (v := .int .i16 d0) rfl O 1 rfl rfl rfl agg42 rfl ?_) | ((with_reducible refine at_load 47 ?_); refine wpList_cell_h (v := .int .i16 d1) rfl O 1 rfl rfl rfl agg42 rfl ?_) | ((with_reducible refine at_load 52 ?_); refine wpList_cell_h (v := .int .i16 d1) rfl O 1 rfl rfl rfl agg42 rfl ?_) | (go_at_call 10; refine (awake_any _).mono ?_; rintro e w20 ⟨rfl, hb⟩; replace O := O.call hb; clear hb))
            go_ret
            exact ⟨rfl, O.below⟩
        · clear EA HN
          go_enter Try.func6, Try.ntmps6
          go_wp2_with (first | ((with_reducible refine at_box 3 ?_); refine wpList_box_h O (M.mat 2 (a)) rfl ?_; clear O; intro g3 w1 O) | ((with_reducible refine at_box 4 ?_); refine wpList_box_h O (two .i16 d0 d1) rfl ?_; clear O; intro g4 w2 O) | ((with_reducible refine at_box 5 ?_); refine wpList_box_h O (two .u8 n0 n1) rfl ?_; clear O; intro g5 w3 O) | ((with_reducible refine at_load 18 ?_); refine wpList_cell_h (v := .int .i64 (a0)) rfl O 2 rfl Ca0.out rfl agg3 rfl ?_) | ((with_reducible refine at_load 22 ?_); refine wpList_cell_h (v := .int .i64 (a0)) rfl O 2 rfl Ca0.out rfl agg3 rfl ?_) | ((with_reducible refine at_load 27 ?_); refine wpList_cell_h (v := .int .i64 (a1)) rfl O 2 rfl Ca1.out rfl agg3 rfl ?_) | ((with_reducible refine at_load 32 ?_); refine wpList_cell_h (v := .int .i64 (a1)) rfl O 2 rfl Ca1.out rfl agg3 rfl ?_) | ((with_reducible refine at_load 37 ?_); refine wpList_cell_h (v := .int .i16 d0) rfl O 1 rfl rfl rfl agg42 rfl ?_) | ((with_reducible refine at_load 42 ?_); refine wpList_cell_h (v := .int .i16 d0) rfl O 1 rfl rfl rfl agg42 rfl ?_) | ((with_reducible refine at_load 47 ?_); refine wpList_cell_h (v := .int .i16 d1) rfl O 1 rfl rfl rfl agg42 rfl ?_) | ((with_reducible refine at_load 52 ?_); refine wpList_cell_h (v := .int .i16 d1) rfl O 1 rfl rfl rfl agg42 rfl ?_) | (go_at_call 10; refine (awake_any _).mono ?_; rintro e w20 ⟨rfl, hb⟩; replace O := O.call hb; clear hb))
          go_ret
          exact ⟨rfl, O.below⟩
      · clear EA HN
        go_enter Try.func6, Try.ntmps6
        go_wp2_with (first | ((with_reducible refine at_box 3 ?_); refine wpList_box_h O (M.mat 2 (a)) rfl ?_; clear O; intro g3 w1 O) | ((with_reducible refine at_box 4 ?_); refine wpList_box_h O (two .i16 d0 d1) rfl ?_; clear O; intro g4 w2 O) | ((with_reducible refine at_box 5 ?_); refine wpList_box_h O (two .u8 n0 n1) rfl ?_; clear O; intro g5 w3 O) | ((with_reducible refine at_load 18 ?_); refine wpList_cell_h (v := .int .i64 (a0)) rfl O 2 rfl Ca0.out rfl agg3 rfl ?_) | ((with_reducible refine at_load 22 ?_); refine wpList_cell_h (v := .int .i64 (a0)) rfl O 2 rfl Ca0.out rfl agg3 rfl ?_) | ((with_reducible refine at_load 27 ?_); refine wpList_cell_h (v := .int .i64 (a1)) rfl O 2 rfl Ca1.out rfl agg3 rfl ?_) | ((with_reducible refine at_load 32 ?_); refine wpList_cell_h (v := .int .i64 (a1)) rfl O 2 rfl Ca1.out rfl agg3 rfl ?_) | ((with_reducible refine at_load 37 ?_); refine wpList_cell_h (v := .int .i16 d0) rfl O 1 rfl rfl rfl agg42 rfl ?_) | ((with_reducible refine at_load 42 ?_); refine wpList_cell_h (v := .int .i16 d0) rfl O 1 rfl rfl rfl agg42 rfl ?_) | ((with_reducible refine at_load 47 ?_); refine wpList_cell_h (v := .int .i16 d1) rfl O 1 rfl rfl rfl agg42 rfl ?_) | ((with_reducible refine at_load 52 ?_); refine wpList_cell_h (v := .int .i16 d1) rfl O 1 rfl rfl rfl agg42 rfl ?_) | (go_at_call 10; refine (awake_any _).mono ?_; rintro e w20 ⟨rfl, hb⟩; replace O := O.call hb; clear hb))
        go_ret
        exact ⟨rfl, O.below⟩
    · clear EA HN
      go_enter Try.func6, Try.ntmps6
      go_wp2_with (first | ((with_reducible refine at_box 3 ?_); refine wpList_box_h O (M.mat 2 (a)) rfl ?_; clear O; intro g3 w1 O) | ((with_reducible refine at_box 4 ?_); refine wpList_box_h O (two .i16 d0 d1) rfl ?_; clear O; intro g4 w2 O) | ((with_reducible refine at_box 5 ?_); refine wpList_box_h O (two .u8 n0 n1) rfl ?_; clear O; intro g5 w3 O) | ((with_reducible refine at_load 18 ?_); refine wpList_cell_h (v := .int .i64 (a0)) rfl O 2 rfl Ca0.out rfl agg3 rfl ?_) | ((with_reducible refine at_load 22 ?_); refine wpList_cell_h (v := .int .i64 (a0)) rfl O 2 rfl Ca0.out rfl agg3 rfl ?_) | ((with_reducible refine at_load 27 ?_); refine wpList_cell_h (v := .int .i64 (a1)) rfl O 2 rfl Ca1.out rfl agg3 rfl ?_) | ((with_reducible refine at_load 32 ?_); refine wpList_cell_h (v := .int .i64 (a1)) rfl O 2 rfl Ca1.out rfl agg3 rfl ?_) | ((with_reducible refine at_load 37 ?_); refine wpList_cell_h (v := .int .i16 d0) rfl O 1 rfl rfl rfl agg42 rfl ?_) | ((with_reducible refine at_load 42 ?_); refine wpList_cell_h (v := .int .i16 d0) rfl O 1 rfl rfl rfl agg42 rfl ?_) | ((with_reducible refine at_load 47 ?_); refine wpList_cell_h (v := .int .i16 d1) rfl O 1 rfl rfl rfl agg42 rfl ?_) | ((with_reducible refine at_load 52 ?_); refine wpList_cell_h (v := .int .i16 d1) rfl O 1 rfl rfl rfl agg42 rfl ?_) | (go_at_call 10; refine (awake_any _).mono ?_; rintro e w20 ⟨rfl, hb⟩; replace O := O.call hb; clear hb))
      go_ret
      exact ⟨rfl, O.below⟩
  · clear EA HN
    go_enter Try.func6, Try.ntmps6
    go_wp2_with (first | ((with_reducible refine at_box 3 ?_); refine wpList_box_h O (M.mat 2 (a)) rfl ?_; clear O; intro g3 w1 O) | ((with_reducible refine at_box 4 ?_); refine wpList_box_h O (two .i16 d0 d1) rfl ?_; clear O; intro g4 w2 O) | ((with_reducible refine at_box 5 ?_); refine wpList_box_h O (two .u8 n0 n1) rfl ?_; clear O; intro g5 w3 O) | ((with_reducible refine at_load 18 ?_); refine wpList_cell_h (v := .int .i64 (a0)) rfl O 2 rfl Ca0.out rfl agg3 rfl ?_) | ((with_reducible refine at_load 22 ?_); refine wpList_cell_h (v := .int .i64 (a0)) rfl O 2 rfl Ca0.out rfl agg3 rfl ?_) | ((with_reducible refine at_load 27 ?_); refine wpList_cell_h (v := .int .i64 (a1)) rfl O 2 rfl Ca1.out rfl agg3 rfl ?_) | ((with_reducible refine at_load 32 ?_); refine wpList_cell_h (v := .int .i64 (a1)) rfl O 2 rfl Ca1.out rfl agg3 rfl ?_) | ((with_reducible refine at_load 37 ?_); refine wpList_cell_h (v := .int .i16 d0) rfl O 1 rfl rfl rfl agg42 rfl ?_) | ((with_reducible refine at_load 42 ?_); refine wpList_cell_h (v := .int .i16 d0) rfl O 1 rfl rfl rfl agg42 rfl ?_) | ((with_reducible refine at_load 47 ?_); refine wpList_cell_h (v := .int .i16 d1) rfl O 1 rfl rfl rfl agg42 rfl ?_) | ((with_reducible refine at_load 52 ?_); refine wpList_cell_h (v := .int .i16 d1) rfl O 1 rfl rfl rfl agg42 rfl ?_) | (go_at_call 10; refine (awake_any _).mono ?_; rintro e w20 ⟨rfl, hb⟩; replace O := O.call hb; clear hb))
    go_ret
    exact ⟨rfl, O.below⟩

theorem readable : ∀ t ∈ Try.f6.params.toList, Try.prog.readableRec t = true ∧ t < Try.prog.types.size := by
  intro t ht
  rw [Try.params6] at ht
  simp only [List.mem_cons, List.not_mem_nil, or_false] at ht
  repeat (first | (rcases ht with rfl | ht; exact ⟨by kernel_rfl, of_decide_eq_true (by kernel_rfl)⟩) | (subst ht; exact ⟨by kernel_rfl, of_decide_eq_true (by kernel_rfl)⟩))
set_option maxRecDepth 100000 in
theorem lifted (os : Os) (started : os.Started) (H : Type) (enc : TypeId × Value → H) :
    ReturnsInHanded {} Try.checked os 6 .any (Rows.walkPartsSpec.pre6 enc Try.prog Try.f6 Rows.walkPartsRow.domain false) (Rows.walkPartsSpec.post enc Try.prog Try.f6 false true false false) := by
  refine returnsInHanded_of_change (C := Try.checked) own started (by kernel_rfl) Try.func6
    (ChangeSpec.witness6 (enc := enc) (C := Try.checked) false ⟨#[], #[.agg #[.int .i64 0, .int .i64 0], .agg #[.int .i16 0, .int .i16 0], .agg #[.int .u8 0, .int .u8 0]], []⟩ 8 (by kernel_rfl) (by kernel_rfl) (by kernel_rfl) (by kernel_rfl)) ?_
  intro W base args ds gs before hval0 hW hcnd _
  have hval : ∀ (j : Nat) t v, Try.f6.params[j]? = some t → args[j]? = some v → Value.okWide Try.prog W .any base t v := hval0
  have hW' := hW
  obtain ⟨p, q, hA0, hV, rfl, hfz, hnd⟩ := hW
  have hA : DataW.TrodAll enc Try.prog W 0 (fun _ => true) true Try.f6.params.toList args.toList ds p := hA0
  rw [Try.params6] at hA hval
  have hlt : ∀ x ∈ p ++ q, x.block < W.heap.size := fun x hx => hW'.lt x hx
  obtain ⟨v0, vs0, d0, ds0, p0, q0, hargs, rfl, rfl, h0, rr0⟩ := trodAll_cons hA
  obtain ⟨v1, vs1, d1, ds1, p1, q1, rfl, rfl, rfl, h1, rr1⟩ := trodAll_cons rr0
  obtain ⟨v2, vs2, d2, ds2, p2, q2, rfl, rfl, rfl, h2, rr2⟩ := trodAll_cons rr1
  obtain ⟨rfl, rfl, rfl⟩ := trodAll_nil rr2
  obtain rfl : args = #[v0, v1, v2] := by cases args; simp_all
  obtain ⟨rfl, rfl⟩ := trodVars_none hV
  obtain ⟨a0, rfl⟩ := openPoint (hval 0 23 v0 rfl rfl) h0
  obtain ⟨d1, d2, rfl, x1⟩ := openI16 (hval 1 43 v1 rfl rfl) h1
  obtain ⟨u2, v2_, rfl, x2⟩ := openU8 (hval 2 44 v2 rfl rfl) h2
  clear hA0 hval0
  refine (walk W a0 d1 d2 u2 v2_ x2).mono fun e W' ⟨he, hg⟩ => ?_
  subst he
  exact ⟨_, rfl, post_true (tb := 4) laid readable (by kernel_rfl) Try.underlying4 rfl (fun l hl => by
    match l, hl with
    | [_, _, _], _ => exact ⟨rfl, rfl, rfl⟩) hW' hg⟩

theorem over : Rows.walkPartsRow.holds Try.pinned (OpenSpec.ofChange Rows.walkPartsSpec) :=
  OpenClaim.holds_of_wide 6 Try.f6 rfl rfl rfl rfl rfl rfl rfl ⟨rfl, rfl, rfl, rfl, rfl⟩ rfl rfl rfl rfl rfl (by kernel_rfl) Try.func6 (by kernel_rfl)
    (of_decide_eq_true (by kernel_rfl)) (by unfold Func.isWrapper; first | (rw [if_pos (by decide +kernel)]; kernel_rfl) | (rw [if_neg (by decide +kernel)]; exact ⟨rfl, rfl⟩))
    (fun os started H enc _ => lifted os started H enc)

theorem proved : Rows.WalkPartsSaid :=
  over
#print axioms proved
end Go.Proofs.Ytheolajpjpnfjaa.walkParts
