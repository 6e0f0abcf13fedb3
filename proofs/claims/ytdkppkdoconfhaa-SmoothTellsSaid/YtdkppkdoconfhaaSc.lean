/- Contracts: ef18: Right, Cover, Line. -/
import Derived.Test.YtdkppkdoconfhaaSd
namespace Go.Proofs.Ytdkppkdoconfhaa
open Go.ChangeShapes Go.WideShapes Go.ChangeAt Go.RowKit
set_option linter.unusedVariables false
set_option linter.unusedSimpArgs false

namespace SM
theorem inc_wrap {k : Nat} {I : Int} (h : k < 1000) (e : (k : Int) = I) : wrap64 (I + 1) = I + 1 := IntWalk.wrap64_in _ (by omega)
theorem meas8 {I : Int} (W : wrap64 (I + 1) = I + 1) (h : I < 8) : (8 - intOf (Value.int IntKind.i64 (wrap64 (I + 1)))).toNat < (8 - intOf (Value.int IntKind.i64 I)).toNat := by
  rw [W]
  simp only [intOf]
  omega
theorem meas8' {I : Int} (h : I < 8) : (8 - intOf (Value.int IntKind.i64 (I + 1))).toNat < (8 - intOf (Value.int IntKind.i64 I)).toNat := by
  simp only [intOf]
  omega
theorem samp {X I : Int} {i : Nat} (hX : -1073741824 ≤ X ∧ X ≤ 1073741824) (hi : i < 8) (e : (i : Int) = I) : ∃ m1 m2 s, wrap64 (32 * I) = m1 ∧ wrap64 (X + m1) = m2 ∧ wrap64 (m2 + 16) = s ∧ X + 32 * (i : Int) + 16 = s ∧ (-1073742080 ≤ s ∧ s ≤ 1073742080) :=
  ⟨32 * I, X + 32 * I, X + 32 * I + 16, IntWalk.wrap64_in _ (by omega), IntWalk.wrap64_in _ (by omega), IntWalk.wrap64_in _ (by omega), by omega, by omega⟩
end SM
theorem meas_lt {m j : Nat} (W : wrap64 ((j : Int) + 1) = (j : Int) + 1) (h : j < m) : m - (intOf (Value.int IntKind.i64 (wrap64 ((j : Int) + 1)))).toNat < m - (intOf (Value.int IntKind.i64 (j : Int))).toNat := by
  rw [W]
  simp only [intOf]
  omega
set_option maxHeartbeats 8000000 in
theorem rright18_any (a b : Nat → Int) (n : Int) (w : World) : Calls Try.prog 11 #[arr 7 a, arr 7 b, .int .i64 n] w fun e w' => e = .returned (.bool (SM.right a b n)) ∧ Below w.heap.size w w' := by
  have O := Own.start w
  have CR := fun w => rlright_any a b n (HM.t3 0 1 0) w
  unfold SM.right
  generalize WD.right a b n (HM.t3 0 1 0) = z at CR ⊢
  go_enter Try.func11, Try.ntmps11
  go_wp2_with (first | ((with_reducible refine at_box 3 ?_); refine wpList_box_own O (M.mat 7 (a)) rfl ?_; clear O; intro g3 w1 O) | ((with_reducible refine at_box 4 ?_); refine wpList_box_own O (M.mat 7 (b)) rfl ?_; clear O; intro g4 w2 O) | ((with_reducible refine at_load 7 ?_); refine wpList_whole rfl O 1 rfl rfl Try.underlying25 rfl (sW _) ?_) | ((with_reducible refine at_load 8 ?_); refine wpList_whole rfl O 0 rfl rfl Try.underlying25 rfl (sW _) ?_) | ((with_reducible refine at_build 10 ?_); refine wpList_build_g rfl ([(1, .int .i64 1)]) ((M.mat 3 (HM.t3 0 1 0)).toArray) ?_ (builtH17) ?_; (focus (simp only [List.map_toArray, List.map_cons, List.map_nil]; rfl))) | (go_at_call 22; refine (CR _).mono ?_; rintro e w3 ⟨rfl, hb⟩; replace O := O.call hb; clear hb))
  go_ret
  exact ⟨rfl, O.below⟩
set_option maxRecDepth 100000 in
set_option maxHeartbeats 16000000 in
theorem rcover_any (a b : Nat → Int) (n x y : Int) (hx : -4194304 ≤ x ∧ x ≤ 4194304) (hy : -4194304 ≤ y ∧ y ≤ 4194304) (w : World) :
    Calls Try.prog 16 #[arr 7 a, arr 7 b, .int .i64 n, .int .i64 x, .int .i64 y] w fun e w' => e = .returned (.int .i64 (SM.cvr a b n x y)) ∧ Below w.heap.size w w' := by
  have O := Own.start w
  have CR := fun w => rright18_any a b n w
  cases hr : SM.right a b n
  · rw [hr] at CR
    rw [SM.cvr_bad hr]
    clear hr hx hy
    go_enter Try.func16, Try.ntmps16
    go_wp2_with (first | ((with_reducible refine at_box 5 ?_); refine wpList_box_own O (M.mat 7 (a)) rfl ?_; clear O; intro g5 w1 O) | ((with_reducible refine at_box 6 ?_); refine wpList_box_own O (M.mat 7 (b)) rfl ?_; clear O; intro g6 w2 O) | ((with_reducible refine at_load 14 ?_); refine wpList_whole rfl O 1 rfl rfl Try.underlying25 rfl (sW _) ?_) | ((with_reducible refine at_load 15 ?_); refine wpList_whole rfl O 0 rfl rfl Try.underlying25 rfl (sW _) ?_) | (go_at_call 11; refine (CR _).mono ?_; rintro e w3 ⟨rfl, hb⟩; replace O := O.call hb; clear hb))
    go_ret
    exact ⟨rfl, O.below⟩
  · rw [hr] at CR
    obtain ⟨⟨hfa, hfb⟩, hn⟩ := SM.right_iff.1 hr
    have hcv : SM.cvr a b n x y = (SM.covk a b n x y 8 0 : Nat) := by unfold SM.cvr; rw [hr, if_pos rfl, SM.covk_end]
    rw [hcv]
    have CI := Lib.hid (fun x y hx hy w => rin_any a b n x y hfa hfb (by omega) hx hy w)
    have HS := Lib.hid (fun i k => SM.covk_step a b n x y i k)
    have HC := Lib.hid (fun i => SM.covk_col a b n x y i)
    have HL := Lib.hid (fun i k hi hk => @SM.covk_le a b n x y i k hi hk)
    have H0 : SM.covk a b n x y 0 0 = 0 := SM.covk_start a b n x y
    generalize SM.covk a b n x y = cv at *
    obtain ⟨X, hX⟩ : ∃ X, 256 * x = X := ⟨_, rfl⟩
    obtain ⟨Y, hY⟩ : ∃ Y, 256 * y = Y := ⟨_, rfl⟩
    have V1 : wrap64 (256 * x) = X := (IntWalk.wrap64_in _ (by omega)).trans hX
    have V2 : wrap64 (256 * y) = Y := (IntWalk.wrap64_in _ (by omega)).trans hY
    rw [hX, hY] at HS
    have HXY := Lib.hid (show (-1073741824 ≤ X ∧ X ≤ 1073741824) ∧ (-1073741824 ≤ Y ∧ Y ≤ 1073741824) by omega)
    clear hr hfa hfb hn hcv hX hY hx hy
    go_enter Try.func16, Try.ntmps16
    go_wp2_with (first | ((with_reducible refine at_box 5 ?_); refine wpList_box_own O (M.mat 7 (a)) rfl ?_; clear O; intro g5 w1 O) | ((with_reducible refine at_box 6 ?_); refine wpList_box_own O (M.mat 7 (b)) rfl ?_; clear O; intro g6 w2 O) | ((with_reducible refine at_load 14 ?_); refine wpList_whole rfl O 1 rfl rfl Try.underlying25 rfl (sW _) ?_) | ((with_reducible refine at_load 15 ?_); refine wpList_whole rfl O 0 rfl rfl Try.underlying25 rfl (sW _) ?_) | (go_at_call 11; refine (CR _).mono ?_; rintro e w3 ⟨rfl, hb⟩; replace O := O.call hb; clear hb))
    clear CR
    go_loopw [11, 12] (fun u t_ wr => ∃ (i : Nat) (I C : Int), i ≤ 8 ∧ (i : Int) = I ∧ ((cv i 0 : Nat) : Int) = C ∧ u = .int .i64 C ∧ t_ = .int .i64 I ∧ Own w wr [(g6, 25, M.mat 7 b), (g5, 25, M.mat 7 a)]) (fun _ t_ _ => (8 - intOf t_).toNat)
    case atStart => exact ⟨0, 0, 0, by decide, rfl, by rw [H0]; rfl, rfl, rfl, O⟩
    case round =>
      clear O
      obtain ⟨i, I, C, hi, hI, hC, rfl, rfl, O⟩ := hrel
      by_cases hli : i < 8
      · have q1 : I < 8 := by omega
        have Wi : wrap64 (I + 1) = I + 1 := SM.inc_wrap (Nat.lt_of_lt_of_le hli (by decide)) hI
        obtain ⟨m1, m2, sx, V3, V4, V5, hsx, bsx⟩ := SM.samp HXY.out.1 hli hI
        have HSi := HS.out i
        rw [hsx] at HSi
        have CIi := fun y hy w => CI.out sx y bsx hy w
        have HS2 := Lib.hid HSi
        have HC2 := Lib.hid (HC.out i)
        have CI2 := Lib.hid CIi
        have HI := Lib.hid (And.intro hli (And.intro hI hC))
        clear hsx bsx HSi CIi hli hI hC hi
        go_wp2_with fail
        go_loopw [11, 13] (fun u t_ wr => ∃ (k : Nat) (J D : Int), k ≤ 8 ∧ (k : Int) = J ∧ ((cv i k : Nat) : Int) = D ∧ u = .int .i64 D ∧ t_ = .int .i64 J ∧ Own w wr [(g6, 25, M.mat 7 b), (g5, 25, M.mat 7 a)]) (fun _ t_ _ => (8 - intOf t_).toNat)
        case atStart => exact ⟨0, 0, C, by decide, rfl, HI.out.2.2, rfl, rfl, O⟩
        case round =>
          clear O
          obtain ⟨k, J, D, hk, hJ, hD, rfl, rfl, O⟩ := hrel
          by_cases hlk : k < 8
          · have q3 : J < 8 := by omega
            have Wk : wrap64 (J + 1) = J + 1 := SM.inc_wrap (Nat.lt_of_lt_of_le hlk (by decide)) hJ
            obtain ⟨m3, m4, sy, V6, V7, V8, hsy, bsy⟩ := SM.samp HXY.out.2 hlk hJ
            have HK := HS2.out k
            rw [hsy] at HK
            have CK := CI2.out sy bsy
            have hle := HL.out i k (Nat.le_of_lt HI.out.1) hk
            have Wc : wrap64 (D + 1) = D + 1 := SM.inc_wrap (Nat.lt_of_le_of_lt hle (by decide)) hD
            clear hsy bsy hle
            generalize SM.strip a b n sx sy = z at HK CK
            cases z
            · have HQ := Lib.hid (show k + 1 ≤ 8 ∧ ((k + 1 : Nat) : Int) = J + 1 ∧ ((cv i (k + 1) : Nat) : Int) = D from ⟨hlk, by omega, by rw [HK]; exact hD⟩)
              clear HK hk hJ hD hlk
              go_wp2_with (first | ((with_reducible refine at_load 27 ?_); refine wpList_whole rfl O 1 rfl rfl Try.underlying25 rfl (sW _) ?_) | ((with_reducible refine at_load 28 ?_); refine wpList_whole rfl O 0 rfl rfl Try.underlying25 rfl (sW _) ?_) | (go_at_call 35; refine (CK _).mono ?_; rintro e w9 ⟨rfl, hb⟩; replace O := O.call hb; clear hb))
              go_roundw
              case rel => exact ⟨k + 1, J + 1, D, HQ.out.1, HQ.out.2.1, HQ.out.2.2, by first | rfl | exact congrArg (Value.int IntKind.i64) Wc, by first | rfl | exact congrArg (Value.int IntKind.i64) Wk, O⟩
              case measure => first | exact SM.meas8 Wk q3 | exact SM.meas8' q3
            · have HQ := Lib.hid (show k + 1 ≤ 8 ∧ ((k + 1 : Nat) : Int) = J + 1 ∧ ((cv i (k + 1) : Nat) : Int) = D + 1 from ⟨hlk, by omega, by rw [HK]; show ((cv i k + 1 : Nat) : Int) = D + 1; omega⟩)
              clear HK hk hJ hD hlk
              go_wp2_with (first | ((with_reducible refine at_load 27 ?_); refine wpList_whole rfl O 1 rfl rfl Try.underlying25 rfl (sW _) ?_) | ((with_reducible refine at_load 28 ?_); refine wpList_whole rfl O 0 rfl rfl Try.underlying25 rfl (sW _) ?_) | (go_at_call 35; refine (CK _).mono ?_; rintro e w9 ⟨rfl, hb⟩; replace O := O.call hb; clear hb))
              go_roundw
              case rel => exact ⟨k + 1, J + 1, D + 1, HQ.out.1, HQ.out.2.1, HQ.out.2.2, by first | rfl | exact congrArg (Value.int IntKind.i64) Wc, by first | rfl | exact congrArg (Value.int IntKind.i64) Wk, O⟩
              case measure => first | exact SM.meas8 Wk q3 | exact SM.meas8' q3
          · obtain rfl : k = 8 := by omega
            obtain rfl : J = 8 := by omega
            have q3 : ¬ (8 : Int) < 8 := by decide
            have HQ := Lib.hid (show i + 1 ≤ 8 ∧ ((i + 1 : Nat) : Int) = I + 1 ∧ ((cv (i + 1) 0 : Nat) : Int) = D from ⟨HI.out.1, by have := HI.out.2.1; omega, by rw [← HC2.out]; exact hD⟩)
            clear hk hJ hD hlk
            go_wp2_with fail
            go_roundw
            case rel => exact ⟨i + 1, I + 1, D, HQ.out.1, HQ.out.2.1, HQ.out.2.2, rfl, by first | rfl | exact congrArg (Value.int IntKind.i64) Wi, O⟩
            case measure => first | exact SM.meas8 Wi q1 | exact SM.meas8' q1
      · obtain rfl : i = 8 := by omega
        obtain rfl : I = 8 := by omega
        have q1 : ¬ (8 : Int) < 8 := by decide
        subst hC
        clear hI hi hli
        go_wp2_with fail
        go_ret
        exact ⟨rfl, O.below⟩
set_option maxRecDepth 100000 in
set_option maxHeartbeats 32000000 in
theorem rline18_any (a b : Nat → Int) (n : Int) (r : Nat → Int) (hs : RC.area r ≤ 100000) (w : World) :
    Calls Try.prog 14 #[arr 7 a, arr 7 b, .int .i64 n, arr 4 r] w (RetG w (SM.line a b n r)) := by
  have O := Held.start w [] (by simp)
  have CR := fun w => rright18_any a b n w
  have CQ := fun w => rright_any r w
  cases hr : SM.right a b n
  · rw [hr] at CR
    rw [SM.line_bad (by rw [hr]; rfl)]
    clear hr hs CQ
    go_enter Try.func14, Try.ntmps14
    go_wp2_with (first | ((with_reducible refine at_box 4 ?_); refine wpList_box_h O (M.mat 7 (a)) rfl ?_; clear O; intro g4 w1 O) | ((with_reducible refine at_box 5 ?_); refine wpList_box_h O (M.mat 7 (b)) rfl ?_; clear O; intro g5 w2 O) | ((with_reducible refine at_box 7 ?_); refine wpList_box_h O (M.mat 4 (r)) rfl ?_; clear O; intro g7 w3 O) | ((with_reducible refine at_load 15 ?_); refine wpList_rowg_h rfl O 2 rfl rfl Try.underlying25 rfl (sW _) ?_) | ((with_reducible refine at_load 16 ?_); refine wpList_rowg_h rfl O 1 rfl rfl Try.underlying25 rfl (sW _) ?_) | (go_at_call 11; refine (CR _).mono ?_; rintro e w4 ⟨rfl, hb⟩; replace O := O.call hb; clear hb))
    go_ret
    exact retG_nil O.below
  cases hq : RC.right r
  · rw [hr] at CR
    rw [hq] at CQ
    rw [SM.line_bad (by rw [hq, Bool.and_false])]
    clear hr hs hq
    go_enter Try.func14, Try.ntmps14
    go_wp2_with (first | ((with_reducible refine at_box 4 ?_); refine wpList_box_h O (M.mat 7 (a)) rfl ?_; clear O; intro g4 w1 O) | ((with_reducible refine at_box 5 ?_); refine wpList_box_h O (M.mat 7 (b)) rfl ?_; clear O; intro g5 w2 O) | ((with_reducible refine at_box 7 ?_); refine wpList_box_h O (M.mat 4 (r)) rfl ?_; clear O; intro g7 w3 O) | ((with_reducible refine at_load 15 ?_); refine wpList_rowg_h rfl O 2 rfl rfl Try.underlying25 rfl (sW _) ?_) | ((with_reducible refine at_load 16 ?_); refine wpList_rowg_h rfl O 1 rfl rfl Try.underlying25 rfl (sW _) ?_) | (go_at_call 11; refine (CR _).mono ?_; rintro e w4 ⟨rfl, hb⟩; replace O := O.call hb; clear hb) | ((with_reducible refine at_load 21 ?_); refine wpList_rowg_h rfl O 0 rfl rfl Try.underlying27 rfl (sR _) ?_) | (go_at_call 17; refine (CQ _).mono ?_; rintro e w5 ⟨rfl, hb⟩; replace O := O.call hb; clear hb))
    go_ret
    exact retG_nil O.below
  rw [hr] at CR
  rw [hq] at CQ
  rw [SM.line_ok hr hq]
  obtain ⟨⟨hfa, hfb⟩, hn⟩ := SM.right_iff.1 hr
  have CC := Lib.hid (fun x y hx hy w => rcover_any a b n x y hx hy w)
  have CX := Lib.hid (fun x y hx hy w => racross_any a b x y hfa hfb hx hy w)
  obtain ⟨hrl, hrl2, hrl3⟩ := RC.right_iff.1 hq
  rw [RC.area_in hq] at hs
  have Cr0 : Hid ((M.mat 4 r)[0]? = some (.int .i64 (r 0))) := cell_is rfl (by decide)
  have Cr1 : Hid ((M.mat 4 r)[1]? = some (.int .i64 (r 1))) := cell_is rfl (by decide)
  have Cr2 : Hid ((M.mat 4 r)[2]? = some (.int .i64 (r 2))) := cell_is rfl (by decide)
  have Cr3 : Hid ((M.mat 4 r)[3]? = some (.int .i64 (r 3))) := cell_is rfl (by decide)
  obtain ⟨r0, e0⟩ : ∃ z, r 0 = z := ⟨_, rfl⟩
  obtain ⟨r1, e1⟩ : ∃ z, r 1 = z := ⟨_, rfl⟩
  obtain ⟨r2, e2⟩ : ∃ z, r 2 = z := ⟨_, rfl⟩
  obtain ⟨r3, e3⟩ : ∃ z, r 3 = z := ⟨_, rfl⟩
  rw [e0] at Cr0 hrl hrl2 hs
  rw [e1] at Cr1 hrl hrl3 hs
  rw [e2] at Cr2 hrl hrl2 hs
  rw [e3] at Cr3 hrl hrl3 hs
  simp only [e0, e1, e2, e3]
  have HLEN := Lib.hid (fun x y hx hy => Nat.le_trans (SM.part_len (f := SM.px a b n) (x0 := r0) (x1 := r2) (y0 := r1) (y1 := r3) (x := x) (y := y) (SM.px_len a b n) hx hy) (show _ ≤ 100000 by
    have e : (((r2 - r0).toNat * (r3 - r1).toNat : Nat) : Int) = (r2 - r0) * (r3 - r1) := by
      rw [Int.natCast_mul, Int.toNat_of_nonneg (by omega), Int.toNat_of_nonneg (by omega)]
    omega))
  have HP := Lib.hid (fun y x (h : r0 ≤ x) => SM.part_step (f := SM.px a b n) (x0 := r0) (x1 := r2) (y0 := r1) (y := y) (x := x) h)
  have HW := Lib.hid (fun y (h : r1 ≤ y) => SM.part_row (f := SM.px a b n) (x0 := r0) (x1 := r2) (y0 := r1) (y := y) h)
  have HE := Lib.hid (SM.part_end (f := SM.px a b n) (x0 := r0) (x1 := r2) (y0 := r1) (y := r3))
  have H0 := Lib.hid (SM.part_start (f := SM.px a b n) (x0 := r0) (x1 := r2) (y0 := r1))
  have HN := Lib.hid (fun x y h => @SM.px_no a b n x y h)
  have HY := Lib.hid (fun x y h => @SM.px_yes a b n x y h)
  have HZ := Lib.hid (fun x y => @SM.cvr_lim a b n x y)
  generalize SM.part (SM.px a b n) r0 r2 r1 = PT at *
  have HRL := Lib.hid (And.intro hrl (And.intro hrl2 hrl3))
  clear hr hq hs hfa hfb hn e0 e1 e2 e3 hrl hrl2 hrl3
  go_enter Try.func14, Try.ntmps14
  go_wp2_with (first | ((with_reducible refine at_box 4 ?_); refine wpList_box_h O (M.mat 7 (a)) rfl ?_; clear O; intro g4 w1 O) | ((with_reducible refine at_box 5 ?_); refine wpList_box_h O (M.mat 7 (b)) rfl ?_; clear O; intro g5 w2 O) | ((with_reducible refine at_box 7 ?_); refine wpList_box_h O (M.mat 4 (r)) rfl ?_; clear O; intro g7 w3 O) | ((with_reducible refine at_load 15 ?_); refine wpList_rowg_h rfl O 2 rfl rfl Try.underlying25 rfl (sW _) ?_) | ((with_reducible refine at_load 16 ?_); refine wpList_rowg_h rfl O 1 rfl rfl Try.underlying25 rfl (sW _) ?_) | (go_at_call 11; refine (CR _).mono ?_; rintro e w4 ⟨rfl, hb⟩; replace O := O.call hb; clear hb) | ((with_reducible refine at_load 21 ?_); refine wpList_rowg_h rfl O 0 rfl rfl Try.underlying27 rfl (sR _) ?_) | (go_at_call 17; refine (CQ _).mono ?_; rintro e w5 ⟨rfl, hb⟩; replace O := O.call hb; clear hb) | ((with_reducible refine at_load 26 ?_); refine wpList_cell_h (v := .int .i64 (r1)) rfl O 0 rfl Cr1.out rfl agg3 rfl ?_))
  have OO : Held w w5 [(g7, 27, M.mat 4 r), (g5, 25, M.mat 7 b), (g4, 25, M.mat 7 a)] (gR none 0 []) [] := O.fresh 40 8
  clear O
  have O := OO
  clear OO CR CQ Cr1
  go_loopw [9, 10] (fun u t_ wr => ∃ (y : Int) (A : Option Addr) (c : Nat), r1 ≤ y ∧ y ≤ r3 ∧ u = .slice A (PT y r0).length c ∧ t_ = .int .i64 y ∧ Held w wr [(g7, 27, M.mat 4 r), (g5, 25, M.mat 7 b), (g4, 25, M.mat 7 a)] (gR A c (PT y r0)) []) (fun _ t_ _ => (r3 - intOf t_).toNat)
  case atStart => exact ⟨r1, none, 0, Int.le_refl _, by have := HRL.out.2.2; omega, by rw [H0.out]; rfl, rfl, by rw [H0.out]; exact O⟩
  case round =>
    clear O
    obtain ⟨y, A0, c0, y0, y1, rfl, rfl, O⟩ := hrel
    by_cases hly : y < r3
    · have b1 := HRL.out
      have Wy : wrap64 (y + 1) = y + 1 := IntWalk.wrap64_in _ (by omega)
      clear b1
      go_wp2_with (first | ((with_reducible refine at_load 29 ?_); refine wpList_cell_h (v := .int .i64 (r3)) rfl O 0 rfl Cr3.out rfl agg3 rfl ?_) | ((with_reducible refine at_load 34 ?_); refine wpList_cell_h (v := .int .i64 (r0)) rfl O 0 rfl Cr0.out rfl agg3 rfl ?_))
      go_loopw [9, 11] (fun u t_ wr => ∃ (x : Int) (A : Option Addr) (c : Nat), r0 ≤ x ∧ x ≤ r2 ∧ u = .slice A (PT y x).length c ∧ t_ = .int .i64 x ∧ Held w wr [(g7, 27, M.mat 4 r), (g5, 25, M.mat 7 b), (g4, 25, M.mat 7 a)] (gR A c (PT y x)) []) (fun _ t_ _ => (r2 - intOf t_).toNat)
      case atStart => exact ⟨r0, A0, c0, Int.le_refl _, by have := HRL.out.2.1; omega, rfl, rfl, O⟩
      case round =>
        clear O
        obtain ⟨x, A, c, x0, x1, rfl, rfl, O⟩ := hrel
        by_cases hlx : x < r2
        · have b1 := HRL.out
          have Wx : wrap64 (x + 1) = x + 1 := IntWalk.wrap64_in _ (by omega)
          have C1 := CC.out x y (by omega) (by omega)
          have C2 := CX.out x y (by omega) (by omega)
          have hlen := HLEN.out x y ⟨x0, x1⟩ ⟨y0, hly⟩
          have HPx := HP.out y x x0
          have HNx := HN.out x y
          have HYx := HY.out x y
          have HZx := HZ.out x y
          obtain ⟨LL, hLL⟩ : ∃ LL, PT y x = LL := ⟨_, rfl⟩
          rw [hLL] at O hlen HPx ⊢
          have HLk : Hid (LL.length + 1 ≤ 1000000000) := Lib.hid (by omega)
          clear b1 hLL hlen
          change ∀ w, Calls _ _ _ w (RetZ w (SM.zz a b x y) (SM.cc a b x y)) at C2
          generalize SM.zz a b x y = z at C2 HYx
          generalize SM.cc a b x y = q at C2 HYx
          generalize SM.cvr a b n x y = v at *
          by_cases hv : v = 0
          · have K1 : (v == 0) = true := by simpa using hv
            have HR := Lib.hid (HPx.trans (by rw [HNx hv, List.append_nil]))
            clear HPx HNx HYx HZx hv C2
            go_wp2_with (first | ((with_reducible refine at_load 37 ?_); refine wpList_cell_h (v := .int .i64 (r2)) rfl O 0 rfl Cr2.out rfl agg3 rfl ?_) | ((with_reducible refine at_load 41 ?_); refine wpList_rowg_h rfl O 2 rfl rfl Try.underlying25 rfl (sW _) ?_) | ((with_reducible refine at_load 42 ?_); refine wpList_rowg_h rfl O 1 rfl rfl Try.underlying25 rfl (sW _) ?_) | (go_at_call 16; refine (C1 _).mono ?_; rintro e w9 ⟨rfl, hb⟩; replace O := O.call hb; clear hb))
            go_roundw
            case rel => exact ⟨x + 1, A, c, by omega, by omega, by rw [HR.out], by go_num, by rw [HR.out]; exact O⟩
            case measure => simp [intOf]; omega
          · have K1 : (v == 0) = false := by simpa using hv
            have HR := Lib.hid (HPx.trans (by rw [HYx hv]))
            have HV : 0 ≤ v ∧ v ≤ 64 := HZx
            clear HPx HNx HYx HZx hv
            go_wp2_with (first | ((with_reducible refine at_load 37 ?_); refine wpList_cell_h (v := .int .i64 (r2)) rfl O 0 rfl Cr2.out rfl agg3 rfl ?_) | ((with_reducible refine at_load 41 ?_); refine wpList_rowg_h rfl O 2 rfl rfl Try.underlying25 rfl (sW _) ?_) | ((with_reducible refine at_load 42 ?_); refine wpList_rowg_h rfl O 1 rfl rfl Try.underlying25 rfl (sW _) ?_) | (go_at_call 16; refine (C1 _).mono ?_; rintro e w9 ⟨rfl, hb⟩; replace O := O.call hb; clear hb) | ((with_reducible refine at_load 50 ?_); refine wpList_rowg_h rfl O 2 rfl rfl Try.underlying25 rfl (sW _) ?_) | ((with_reducible refine at_load 51 ?_); refine wpList_rowg_h rfl O 1 rfl rfl Try.underlying25 rfl (sW _) ?_) | (go_at_call 33; refine (C2 _).mono ?_; rintro e w10 ⟨rfl, hb⟩; replace O := O.call hb; clear hb) | ((with_reducible refine at_alloc 14 ?_); refine wpList_alloc_h O (M.mat 4 M.zero) zeroC ?_; clear O; intro g14 w11 O) | ((with_reducible refine at_store 14 ?_); refine wpList_put_h O 0 (M.mat 4 (q)) rfl rfl rfl (sC _) (M.mat_len2 _ _ _) (M.mat_one _ _) ?_; clear O; intro w12 O) | ((with_reducible refine at_load 61 ?_); refine wpList_rowg_h rfl O 0 rfl rfl Try.underlying23 rfl (sC _) ?_) | ((with_reducible refine at_build 63 ?_); refine wpList_build_g rfl ([(0, .int .i64 x), (1, .int .i64 y), (2, .int .i64 z), (3, arr 4 q), (4, .int .i64 v)]) ((M.mat 8 (SM.fr x y z q v)).toArray) ?_ (builtF _ _ _ _ _) ?_; (focus (simp only [List.map_toArray, List.map_cons, List.map_nil]; rfl))) | ((with_reducible refine at_lit 64 ?_); refine wpList_lit_h rfl O 8 (.agg (M.mat 8 M.zero).toArray) infoG Try.underlying34 [(0, arr 8 (SM.fr x y z q v))] (gC [SM.fr x y z q v]) rfl (gC_len _) (by decide) (by decide) (by kernel_rfl) ?_; clear O; intro g64 u5 O) | ((with_reducible refine at_app 65 ?_); refine wpList_app_huge rfl O (.agg (M.mat 8 M.zero).toArray) 64 infoGb rfl (Nat.succ_pos _) Try.underlying34 rfl (gE w.heap.size (some ⟨g64, 0, none⟩) 1 [SM.fr x y z q v]) (O.mem List.mem_cons_self) rfl rfl (gC_one _) (HLk.out) (by decide) ?_; clear O; intro va u6 O; obtain ⟨TA, Tc, e1, O2⟩ := gR_of (l := LL) (m := [SM.fr x y z q v]) rfl (O.pick (es' := []) (fun y hy => List.mem_cons_of_mem _ hy)); subst e1; clear O; have O := O2; clear O2))
            go_roundw
            case rel => exact ⟨x + 1, TA, Tc, by omega, by omega, by rw [HR.out]; first | done | rfl | simp, by go_num, by rw [HR.out]; exact O.tail⟩
            case measure => simp [intOf]; omega
        · have hxe : x = r2 := by omega
          have HR := Lib.hid (show PT y x = PT (y + 1) r0 by rw [hxe]; exact HW.out y y0)
          clear hxe
          go_wp2_with ((with_reducible refine at_load 37 ?_); refine wpList_cell_h (v := .int .i64 (r2)) rfl O 0 rfl Cr2.out rfl agg3 rfl ?_)
          go_roundw
          case rel => exact ⟨y + 1, A, c, by omega, by omega, by rw [HR.out], by go_num, by rw [← HR.out]; exact O⟩
          case measure => simp [intOf]; omega
    · have hye : y = r3 := by omega
      have HE2 := Lib.hid (show PT y r0 = SM.rows (SM.px a b n) r0 r2 r1 r3 by rw [hye]; exact HE.out)
      clear hye
      go_wp2_with ((with_reducible refine at_load 29 ?_); refine wpList_cell_h (v := .int .i64 (r3)) rfl O 0 rfl Cr3.out rfl agg3 rfl ?_)
      obtain ⟨A2, c2, hv, OD⟩ := O.done
      dsimp only [gR] at hv OD
      injection hv with e1 e2 e3
      subst e1 e3
      go_ret
      exact ⟨A0, c0, by rw [← HE2.out]; rfl, by rw [← HE2.out]; exact OD.arg List.mem_cons_self, O.below⟩
end Go.Proofs.Ytdkppkdoconfhaa
