/- Contract: the document's Spans. -/
import Derived.Test.YtndaijcgjhmiaaaJc
namespace Go.Proofs.Ytndaijcgjhmiaaa
open Go.ChangeShapes Go.WideShapes Go.ChangeAt Go.RowKit
set_option linter.unusedVariables false
set_option linter.unusedSimpArgs false

set_option maxRecDepth 100000 in
set_option maxHeartbeats 64000000 in
theorem rspans20 (a b c r : Nat → Int) (ha : TR.May a) (hb : TR.May b) (hc : TR.May c) (w : World) : Calls Try.prog 14 #[arr 7 a, arr 7 b, arr 7 c, arr 4 r] w (RetS w (TR.spans a b c r)) := by
  have O := Held.start w [] (by simp)
  have CQ := fun w => rright_any r w
  cases hq : RC.right r
  · rw [hq] at CQ
    rw [TR.spans_bad hq]
    clear hq ha hb hc
    go_enter Try.func14, Try.ntmps14
    go_wp2_with (first | ((with_reducible refine at_box 4 ?_); refine wpList_box_h O (M.mat 7 (a)) rfl ?_; clear O; intro g4 w1 O) | ((with_reducible refine at_box 5 ?_); refine wpList_box_h O (M.mat 7 (b)) rfl ?_; clear O; intro g5 w2 O) | ((with_reducible refine at_box 6 ?_); refine wpList_box_h O (M.mat 7 (c)) rfl ?_; clear O; intro g6 w3 O) | ((with_reducible refine at_box 7 ?_); refine wpList_box_h O (M.mat 4 (r)) rfl ?_; clear O; intro g7 w4 O) | ((with_reducible refine at_load 14 ?_); refine wpList_rowg_h rfl O 0 rfl rfl Try.underlying27 rfl (sR _) ?_) | (go_at_call 21; refine (CQ _).mono ?_; rintro e w5 ⟨rfl, hb⟩; replace O := O.call hb; clear hb))
    go_ret
    exact retS_nil O.below
  rw [hq] at CQ
  rw [TR.spans_ok hq, show SM.rows (TR.rw_ a b c r) 0 1 (r 1) (r 3) = TR.spk a b c r (r 3) from rfl]
  obtain ⟨hl, hx, hy⟩ := RC.right_iff.1 hq
  have CH := Lib.hid (fun x y hx hy w => rhas20 a b c ha hb hc x y hx hy w)
  have HLEN := Lib.hid (fun y (h : y < r 3) => Nat.le_trans (TR.spk_len a b c r y) (show (y - r 1).toNat ≤ 9000000 by omega))
  have HP := Lib.hid (fun y h => @TR.spk_step a b c r y h)
  have H0 := Lib.hid (TR.spk_start a b c r)
  obtain ⟨r0, er0⟩ : ∃ z, r 0 = z := ⟨_, rfl⟩
  have Cr0 := cell_is (n := 4) er0 (by decide)
  obtain ⟨r1, er1⟩ : ∃ z, r 1 = z := ⟨_, rfl⟩
  have Cr1 := cell_is (n := 4) er1 (by decide)
  obtain ⟨r2, er2⟩ : ∃ z, r 2 = z := ⟨_, rfl⟩
  have Cr2 := cell_is (n := 4) er2 (by decide)
  obtain ⟨r3, er3⟩ : ∃ z, r 3 = z := ⟨_, rfl⟩
  have Cr3 := cell_is (n := 4) er3 (by decide)
  rw [er0, er1, er2, er3] at hl
  rw [er0, er2] at hx
  rw [er1, er3] at hy
  simp only [er0, er1, er2, er3] at HLEN HP H0 ⊢
  generalize TR.has a b c = hs at *
  generalize TR.spk a b c r = PT at *
  have HRL := Lib.hid (And.intro hl (And.intro hx hy))
  clear hq hl hx hy ha hb hc er0 er1 er2 er3
  go_enter Try.func14, Try.ntmps14
  go_wp2_with (first | ((with_reducible refine at_box 4 ?_); refine wpList_box_h O (M.mat 7 (a)) rfl ?_; clear O; intro g4 w1 O) | ((with_reducible refine at_box 5 ?_); refine wpList_box_h O (M.mat 7 (b)) rfl ?_; clear O; intro g5 w2 O) | ((with_reducible refine at_box 6 ?_); refine wpList_box_h O (M.mat 7 (c)) rfl ?_; clear O; intro g6 w3 O) | ((with_reducible refine at_box 7 ?_); refine wpList_box_h O (M.mat 4 (r)) rfl ?_; clear O; intro g7 w4 O) | ((with_reducible refine at_load 14 ?_); refine wpList_rowg_h rfl O 0 rfl rfl Try.underlying27 rfl (sR _) ?_) | (go_at_call 21; refine (CQ _).mono ?_; rintro e w5 ⟨rfl, hb⟩; replace O := O.call hb; clear hb) | ((with_reducible refine at_load 18 ?_); refine wpList_cell_h (v := .int .i64 (r1)) rfl O 0 rfl Cr1.out rfl agg3 rfl ?_))
  have OX : Held w w5 [(g7, 27, M.mat 4 r), (g6, 34, M.mat 7 c), (g5, 34, M.mat 7 b), (g4, 34, M.mat 7 a)] nilRow [] := O
  have OO : Held w w5 [(g7, 27, M.mat 4 r), (g6, 34, M.mat 7 c), (g5, 34, M.mat 7 b), (g4, 34, M.mat 7 a)] (sR_ none 0 []) [] := OX.fresh 52 3
  clear O OX
  have O := OO
  clear OO CQ
  go_loopw [9, 10] (fun u t_ wr => ∃ (y : Int) (A : Option Addr) (cc : Nat), r1 ≤ y ∧ y ≤ r3 ∧ u = .slice A (PT y).length cc ∧ t_ = .int .i64 y ∧ Held w wr [(g7, 27, M.mat 4 r), (g6, 34, M.mat 7 c), (g5, 34, M.mat 7 b), (g4, 34, M.mat 7 a)] (sR_ A cc (PT y)) []) (fun _ t_ _ => (r3 - intOf t_).toNat)
  case atStart => exact ⟨r1, none, 0, Int.le_refl _, by have := HRL.out.2.2; omega, by rw [H0.out]; rfl, rfl, by rw [H0.out]; exact O⟩
  case round =>
    clear O
    obtain ⟨y, A0, c0, y0, y1, rfl, rfl, O⟩ := hrel
    by_cases hly : y < r3
    · have b1 := HRL.out
      have Wy : wrap64 (y + 1) = y + 1 := IntWalk.wrap64_in _ (by omega)
      have hyb : -4194304 ≤ y ∧ y ≤ 4194304 := by omega
      have hlen := HLEN.out y hly
      have HPy := HP.out y y0
      obtain ⟨LL, hLL⟩ : ∃ LL, PT y = LL := ⟨_, rfl⟩
      rw [hLL] at O hlen HPy ⊢
      have HLk : Hid (LL.length + 1 ≤ 1000000000) := Lib.hid (by omega)
      have HY := Lib.hid hyb
      have HPY := Lib.hid HPy
      obtain ⟨K_, hK_⟩ : ∃ K : Nat, (r2 - r0).toNat = K := ⟨_, rfl⟩
      have HKK : Hid ((r2 - r0).toNat = K_ ∧ r0 + (K_ : Int) = r2) := Lib.hid ⟨hK_, by omega⟩
      clear b1 hLL hlen hyb HPy hK_
      go_wp2_with (first | ((with_reducible refine at_load 21 ?_); refine wpList_cell_h (v := .int .i64 (r3)) rfl O 0 rfl Cr3.out rfl agg3 rfl ?_) | ((with_reducible refine at_build 26 ?_); refine wpList_build_g rfl ([(0, .int .i64 y)]) ((M.mat 3 (TR.sp y 0 0)).toArray) ?_ (builtS20y _) ?_; (focus (simp only [List.map_toArray, List.map_cons, List.map_nil]; rfl))) | ((with_reducible refine at_alloc 11 ?_); refine wpList_alloc_h O (M.mat 3 M.zero) zeroS20 ?_; clear O; intro g11 w7 O) | ((with_reducible refine at_store 11 ?_); refine wpList_put_h O 0 (M.mat 3 (TR.sp y 0 0)) rfl rfl rfl (sS20 _) (M.mat_len2 _ _ _) (M.mat_one _ _) ?_; clear O; intro w8 O) | ((with_reducible refine at_load 28 ?_); refine wpList_cell_h (v := .int .i64 (r0)) rfl O 1 rfl Cr0.out rfl agg3 rfl ?_))
      go_loopw [12, 13] (fun u t_ wr => ∃ (k : Nat) (X N P Q : Int), k ≤ K_ ∧ r0 + (k : Int) = X ∧ TR.acc (fun x => hs x y) r0 k = (N, P, Q) ∧ u = .int .i64 N ∧ t_ = .int .i64 X ∧ Held w wr ((g11, 52, M.mat 3 (TR.sp y P Q)) :: [(g7, 27, M.mat 4 r), (g6, 34, M.mat 7 c), (g5, 34, M.mat 7 b), (g4, 34, M.mat 7 a)]) (sR_ A0 c0 LL) []) (fun _ t_ _ => (r2 - intOf t_).toNat)
      case atStart => exact ⟨0, r0, 0, 0, 0, Nat.zero_le _, by omega, rfl, rfl, rfl, O⟩
      case round =>
        clear O
        obtain ⟨k, X, N, P, Q, hk, hX, hacc, rfl, rfl, O⟩ := hrel
        have hlim := TR.acc_lim (fun x => hs x y) r0 k
        rw [hacc] at hlim
        have hlim1 : 0 ≤ N := hlim.1
        have hlim2 : N ≤ k := hlim.2
        clear hlim
        by_cases hlx : X < r2
        · have b1 := HRL.out
          have b2 := HKK.out.2
          have Wx : wrap64 (X + 1) = X + 1 := IntWalk.wrap64_in _ (by omega)
          have Wn : wrap64 (N + 1) = N + 1 := IntWalk.wrap64_in _ (by omega)
          have CHx := CH.out X y (by omega) HY.out
          obtain ⟨z, hz⟩ : ∃ z, hs X y = z := ⟨_, rfl⟩
          rw [hz] at CHx
          have hz2 : (fun x => hs x y) (r0 + (k : Int)) = z := by rw [hX]; exact hz
          have hk2 : k + 1 ≤ K_ := by omega
          have hX2 : r0 + ((k + 1 : Nat) : Int) = X + 1 := by omega
          cases z
          · have HA := Lib.hid (show k + 1 ≤ K_ ∧ r0 + ((k + 1 : Nat) : Int) = X + 1 ∧ TR.acc (fun x => hs x y) r0 (k + 1) = (N, P, Q) from ⟨hk2, hX2, by rw [TR.acc_no hz2]; exact hacc⟩)
            clear b1 b2 hz hz2 hk2 hX2 hacc hlim1 hlim2 hk hX Wn
            go_wp2_with (first | ((with_reducible refine at_load 31 ?_); refine wpList_cell_h (v := .int .i64 (r2)) rfl O 1 rfl Cr2.out rfl agg3 rfl ?_) | ((with_reducible refine at_load 35 ?_); refine wpList_rowg_h rfl O 4 rfl rfl Try.underlying34 rfl (sW _) ?_) | ((with_reducible refine at_load 36 ?_); refine wpList_rowg_h rfl O 3 rfl rfl Try.underlying34 rfl (sW _) ?_) | ((with_reducible refine at_load 37 ?_); refine wpList_rowg_h rfl O 2 rfl rfl Try.underlying34 rfl (sW _) ?_) | (go_at_call 18; refine (CHx _).mono ?_; rintro e w9 ⟨rfl, hb⟩; replace O := O.call hb; clear hb))
            go_roundw
            case rel => first | exact ⟨k + 1, X + 1, N, P, Q, HA.out.1, HA.out.2.1, HA.out.2.2, by first | rfl | exact congrArg (Value.int IntKind.i64) Wn, by first | rfl | exact congrArg (Value.int IntKind.i64) Wx, O⟩ | ((repeat apply Exists.intro); exact ⟨⟨k + 1, X + 1, N, P, Q, HA.out.1, HA.out.2.1, HA.out.2.2, by first | rfl | exact congrArg (Value.int IntKind.i64) Wn, by first | rfl | exact congrArg (Value.int IntKind.i64) Wx, O⟩, rfl⟩)
            case measure => first | (rw [Wx]; simp only [intOf]; omega) | (simp only [intOf]; omega)
          · by_cases hn : N = 0
            · have KN : (N == 0) = true := by simpa using hn
              have HA := Lib.hid (show k + 1 ≤ K_ ∧ r0 + ((k + 1 : Nat) : Int) = X + 1 ∧ TR.acc (fun x => hs x y) r0 (k + 1) = (N + 1, X, X + 1) from ⟨hk2, hX2, by rw [TR.acc_yes hz2, hacc]; show (N + 1, if N = 0 then r0 + (k : Int) else P, r0 + (k : Int) + 1) = _; rw [if_pos hn, hX]⟩)
              clear b1 b2 hz hz2 hk2 hX2 hacc hlim1 hlim2 hk hX hn
              go_wp2_with (first | ((with_reducible refine at_load 31 ?_); refine wpList_cell_h (v := .int .i64 (r2)) rfl O 1 rfl Cr2.out rfl agg3 rfl ?_) | ((with_reducible refine at_load 35 ?_); refine wpList_rowg_h rfl O 4 rfl rfl Try.underlying34 rfl (sW _) ?_) | ((with_reducible refine at_load 36 ?_); refine wpList_rowg_h rfl O 3 rfl rfl Try.underlying34 rfl (sW _) ?_) | ((with_reducible refine at_load 37 ?_); refine wpList_rowg_h rfl O 2 rfl rfl Try.underlying34 rfl (sW _) ?_) | (go_at_call 18; refine (CHx _).mono ?_; rintro e w9 ⟨rfl, hb⟩; replace O := O.call hb; clear hb) | ((with_reducible refine at_store 45 ?_); refine wpList_set_h O 0 (i := 1) (.int .i64 (X)) rfl (by rw [M.mat_len]; omega) rfl (rfl) size3 rfl rfl ?_; clear O; intro w10 O; have O9 : Held w w10 ((g11, 52, M.mat 3 (TR.sp y X Q)) :: [(g7, 27, M.mat 4 r), (g6, 34, M.mat 7 c), (g5, 34, M.mat 7 b), (g4, 34, M.mat 7 a)]) _ _ := (by rw [← TR.sp_set1 y P Q]; exact O); clear O; have O := O9; clear O9) | ((with_reducible refine at_store 50 ?_); refine wpList_set_h O 0 (i := 2) (.int .i64 (X + 1)) rfl (by rw [M.mat_len]; omega) rfl (by first | rfl | exact congrArg (Value.int IntKind.i64) Wx) size3 rfl rfl ?_; clear O; intro w11 O; have O9 : Held w w11 ((g11, 52, M.mat 3 (TR.sp y X (X + 1))) :: [(g7, 27, M.mat 4 r), (g6, 34, M.mat 7 c), (g5, 34, M.mat 7 b), (g4, 34, M.mat 7 a)]) _ _ := (by rw [← TR.sp_set2 y X Q]; exact O); clear O; have O := O9; clear O9))
              go_roundw
              case rel => first | exact ⟨k + 1, X + 1, N + 1, X, X + 1, HA.out.1, HA.out.2.1, HA.out.2.2, by first | rfl | exact congrArg (Value.int IntKind.i64) Wn, by first | rfl | exact congrArg (Value.int IntKind.i64) Wx, O⟩ | ((repeat apply Exists.intro); exact ⟨⟨k + 1, X + 1, N + 1, X, X + 1, HA.out.1, HA.out.2.1, HA.out.2.2, by first | rfl | exact congrArg (Value.int IntKind.i64) Wn, by first | rfl | exact congrArg (Value.int IntKind.i64) Wx, O⟩, rfl⟩)
              case measure => first | (rw [Wx]; simp only [intOf]; omega) | (simp only [intOf]; omega)
            · have KN : (N == 0) = false := by simpa using hn
              have HA := Lib.hid (show k + 1 ≤ K_ ∧ r0 + ((k + 1 : Nat) : Int) = X + 1 ∧ TR.acc (fun x => hs x y) r0 (k + 1) = (N + 1, P, X + 1) from ⟨hk2, hX2, by rw [TR.acc_yes hz2, hacc]; show (N + 1, if N = 0 then r0 + (k : Int) else P, r0 + (k : Int) + 1) = _; rw [if_neg hn, hX]⟩)
              clear b1 b2 hz hz2 hk2 hX2 hacc hlim1 hlim2 hk hX hn
              go_wp2_with (first | ((with_reducible refine at_load 31 ?_); refine wpList_cell_h (v := .int .i64 (r2)) rfl O 1 rfl Cr2.out rfl agg3 rfl ?_) | ((with_reducible refine at_load 35 ?_); refine wpList_rowg_h rfl O 4 rfl rfl Try.underlying34 rfl (sW _) ?_) | ((with_reducible refine at_load 36 ?_); refine wpList_rowg_h rfl O 3 rfl rfl Try.underlying34 rfl (sW _) ?_) | ((with_reducible refine at_load 37 ?_); refine wpList_rowg_h rfl O 2 rfl rfl Try.underlying34 rfl (sW _) ?_) | (go_at_call 18; refine (CHx _).mono ?_; rintro e w9 ⟨rfl, hb⟩; replace O := O.call hb; clear hb) | ((with_reducible refine at_store 50 ?_); refine wpList_set_h O 0 (i := 2) (.int .i64 (X + 1)) rfl (by rw [M.mat_len]; omega) rfl (by first | rfl | exact congrArg (Value.int IntKind.i64) Wx) size3 rfl rfl ?_; clear O; intro w11 O; have O9 : Held w w11 ((g11, 52, M.mat 3 (TR.sp y P (X + 1))) :: [(g7, 27, M.mat 4 r), (g6, 34, M.mat 7 c), (g5, 34, M.mat 7 b), (g4, 34, M.mat 7 a)]) _ _ := (by rw [← TR.sp_set2 y P Q]; exact O); clear O; have O := O9; clear O9))
              go_roundw
              case rel => first | exact ⟨k + 1, X + 1, N + 1, P, X + 1, HA.out.1, HA.out.2.1, HA.out.2.2, by first | rfl | exact congrArg (Value.int IntKind.i64) Wn, by first | rfl | exact congrArg (Value.int IntKind.i64) Wx, O⟩ | ((repeat apply Exists.intro); exact ⟨⟨k + 1, X + 1, N + 1, P, X + 1, HA.out.1, HA.out.2.1, HA.out.2.2, by first | rfl | exact congrArg (Value.int IntKind.i64) Wn, by first | rfl | exact congrArg (Value.int IntKind.i64) Wx, O⟩, rfl⟩)
              case measure => first | (rw [Wx]; simp only [intOf]; omega) | (simp only [intOf]; omega)
        · have hke : k = K_ := by have := HKK.out.2; omega
          have hrow : TR.row (fun x => hs x y) r0 r2 y = if N = 0 then [] else [TR.sp y P Q] := by
            unfold TR.row
            rw [HKK.out.1, ← hke, hacc]
          by_cases hn : N = 0
          · rw [if_pos hn] at hrow
            have KN : decide (N > 0) = false := by simp; omega
            have KN2 : decide (0 < N) = false := by simp; omega
            have HR := Lib.hid (HPY.out.trans (by rw [hrow, List.append_nil]))
            clear hke hrow hn hacc hlim1 hlim2 hk hX
            go_wp2_with ((with_reducible refine at_load 31 ?_); refine wpList_cell_h (v := .int .i64 (r2)) rfl O 1 rfl Cr2.out rfl agg3 rfl ?_)
            go_roundw
            case rel => first | exact ⟨y + 1, A0, c0, by omega, by omega, by rw [HR.out], by first | rfl | exact congrArg (Value.int IntKind.i64) Wy, by rw [HR.out]; exact O.tail⟩ | ((repeat apply Exists.intro); exact ⟨⟨y + 1, A0, c0, by omega, by omega, by rw [HR.out], by first | rfl | exact congrArg (Value.int IntKind.i64) Wy, by rw [HR.out]; exact O.tail⟩, rfl⟩)
            case measure => first | (rw [Wy]; simp only [intOf]; omega) | (simp only [intOf]; omega)
          · rw [if_neg hn] at hrow
            have KN : decide (N > 0) = true := by simp; omega
            have KN2 : decide (0 < N) = true := by simp; omega
            have HR := Lib.hid (HPY.out.trans (by rw [hrow]))
            clear hke hrow hn hacc hlim1 hlim2 hk hX
            go_wp2_with (first | ((with_reducible refine at_load 31 ?_); refine wpList_cell_h (v := .int .i64 (r2)) rfl O 1 rfl Cr2.out rfl agg3 rfl ?_) | ((with_reducible refine at_load 54 ?_); refine wpList_rowg_h rfl O 0 rfl rfl Try.underlying52 rfl (sS20 _) ?_) | ((with_reducible refine at_lit 55 ?_); refine wpList_lit_h rfl O 3 (.agg (M.mat 3 M.zero).toArray) infoS20 Try.underlying37 [(0, arr 3 (TR.sp y P Q))] (sC_ [TR.sp y P Q]) rfl (sC_len _) (by decide) (by decide) (by kernel_rfl) ?_; clear O; intro g89 u5 O) | ((with_reducible refine at_app 56 ?_); refine wpList_app_huge rfl O (.agg (M.mat 3 M.zero).toArray) 24 infoS20b rfl (Nat.succ_pos _) Try.underlying37 rfl (sE_ w.heap.size (some ⟨g89, 0, none⟩) 1 [TR.sp y P Q]) (O.mem List.mem_cons_self) rfl rfl (sC_one _) (HLk.out) (by decide) ?_; clear O; intro va u6 O; obtain ⟨TA, Tc, e1, O2⟩ := sR_of (l := LL) (m := [TR.sp y P Q]) rfl (O.pick (es' := []) (fun y hy => List.mem_cons_of_mem _ hy)); subst e1; clear O; have O := O2; clear O2))
            go_roundw
            case rel => first | exact ⟨y + 1, TA, Tc, by omega, by omega, by rw [HR.out]; first | done | rfl | simp, by first | rfl | exact congrArg (Value.int IntKind.i64) Wy, by rw [HR.out]; exact O.tail⟩ | ((repeat apply Exists.intro); exact ⟨⟨y + 1, TA, Tc, by omega, by omega, by rw [HR.out]; first | done | rfl | simp, by first | rfl | exact congrArg (Value.int IntKind.i64) Wy, by rw [HR.out]; exact O.tail⟩, rfl⟩)
            case measure => first | (rw [Wy]; simp only [intOf]; omega) | (simp only [intOf]; omega)
    · have hye : y = r3 := by omega
      subst hye
      go_wp2_with ((with_reducible refine at_load 21 ?_); refine wpList_cell_h (v := .int .i64 (y)) rfl O 0 rfl Cr3.out rfl agg3 rfl ?_)
      obtain ⟨A2, c2, hv, OD⟩ := O.done
      dsimp only [sR_] at hv OD
      injection hv with e1 e2 e3
      subst e1 e3
      go_ret
      exact ⟨A0, c0, rfl, OD.arg List.mem_cons_self, O.below⟩
end Go.Proofs.Ytndaijcgjhmiaaa
