/- Contract: the program's cover. -/
import Derived.Test.YtlmgilcigbnbaaaGb
namespace Go.Proofs.Ytlmgilcigbnbaaa
open Go.ChangeShapes Go.WideShapes Go.ChangeAt Go.RowKit
set_option linter.unusedVariables false
set_option linter.unusedSimpArgs false

/-- A sample's place, seen from a point. -/
theorem DT.sampw {x c I : Int} {i : Nat} (hx : -4194304 ≤ x ∧ x ≤ 4194304) (hc : -268435456 ≤ c ∧ c ≤ 268435456) (hi : i < 8) (e : (i : Int) = I) : ∃ X m1 m2 sx p, wrap64 (256 * x) = X ∧ wrap64 (32 * I) = m1 ∧ wrap64 (X + m1) = m2 ∧ wrap64 (m2 + 16) = sx ∧ wrap64 (sx - c) = p ∧ 256 * x + 32 * (i : Int) + 16 = sx ∧ sx - c = p ∧ (-1600000000 ≤ p ∧ p ≤ 1600000000) :=
  ⟨256 * x, 32 * I, 256 * x + 32 * I, 256 * x + 32 * I + 16, 256 * x + 32 * I + 16 - c, IntWalk.wrap64_in _ (by omega), IntWalk.wrap64_in _ (by omega), IntWalk.wrap64_in _ (by omega), IntWalk.wrap64_in _ (by omega), IntWalk.wrap64_in _ (by omega), by omega, rfl, by omega⟩
theorem DT.near_of (v : Nat → Int) (s : Int) (X Y : Int) : DT.near (DT.flip v) s X Y = decide ((Y - v 0) * (Y - v 0) + (X - v 1) * (X - v 1) < (128 * s) * (128 * s)) := by
  rw [DT.near_flip]
  unfold DT.near
  rw [decide_eq_decide]
  unfold DT.nearP
  rw [Int.mul_assoc (128 * s) 128 s]
set_option maxRecDepth 100000 in
set_option maxHeartbeats 16000000 in
theorem pcover19 (v : Nat → Int) (s x y : Int) (hs : 1 ≤ s ∧ s ≤ 64) (l0 : -268435456 ≤ v 0 ∧ v 0 ≤ 268435456) (l1 : -268435456 ≤ v 1 ∧ v 1 ≤ 268435456) (hx : -4194304 ≤ x ∧ x ≤ 4194304) (hy : -4194304 ≤ y ∧ y ≤ 4194304) (w : World) : Calls Try.prog 37 #[arr 7 v, .int .i64 s, .int .i64 x, .int .i64 y] w fun e w' => e = .returned (.int .i64 (DT.cov v s x y : Nat)) ∧ Below w.heap.size w w' := by
  have O := Own.start w
  rw [← DT.cov_flip, ← DT.covk_end]
  have HS := Lib.hid (fun i k => DT.covk_step (DT.flip v) s y x i k)
  have HC := Lib.hid (fun i => DT.covk_col (DT.flip v) s y x i)
  have HL := Lib.hid (fun i k hi hk => @DT.covk_le (DT.flip v) s y x i k hi hk)
  have H0 : Hid (DT.covk (DT.flip v) s y x 0 0 = 0) := Lib.hid (DT.covk_start (DT.flip v) s y x)
  generalize DT.covk (DT.flip v) s y x = cv at *
  have HN := Lib.hid (fun X Y => DT.near_of v s X Y)
  generalize DT.near (DT.flip v) s = nr at *
  obtain ⟨v0, ev0⟩ : ∃ z, v 0 = z := ⟨_, rfl⟩
  have Cv0 := cell_is (n := 7) ev0 (by decide)
  obtain ⟨v1, ev1⟩ : ∃ z, v 1 = z := ⟨_, rfl⟩
  have Cv1 := cell_is (n := 7) ev1 (by decide)
  rw [ev0] at l0
  rw [ev1] at l1
  simp only [ev0, ev1] at HN
  obtain ⟨c, hc⟩ : ∃ z, 128 * s = z := ⟨_, rfl⟩
  have bs := SP.mul_lim (x := c) (y := c) (A := 8192) (B := 8192) (by omega) (by omega)
  obtain ⟨cc, hcc⟩ : ∃ z, c * c = z := ⟨_, rfl⟩
  rw [hc, hcc] at HN
  rw [hcc] at bs
  have T1 : wrap64 (128 * s) = c := (IntWalk.wrap64_in _ (by omega)).trans hc
  have T2 : wrap64 (c * c) = cc := (IntWalk.wrap64_in _ (by omega)).trans hcc
  have HXY := Lib.hid (And.intro (And.intro hx hy) (And.intro l0 l1))
  clear hs l0 l1 hx hy hc hcc bs ev0 ev1
  go_enter Try.func37, Try.ntmps37
  go_wp2_with ((with_reducible refine at_box 4 ?_); refine wpList_box_own O (M.mat 7 (v)) rfl ?_; clear O; intro g4 w1 O)
  simp only [T1]
  go_loopw [10, 17] (fun u t_ wr => ∃ (i : Nat) (I C : Int), i ≤ 8 ∧ (i : Int) = I ∧ ((cv i 0 : Nat) : Int) = C ∧ u = .int .i64 C ∧ t_ = .int .i64 I ∧ Own w wr [(g4, 25, M.mat 7 v)]) (fun _ t_ _ => (8 - intOf t_).toNat)
  case atStart => exact ⟨0, 0, 0, by decide, rfl, by rw [H0.out]; rfl, rfl, rfl, O⟩
  case round =>
    clear O
    obtain ⟨i, I, C, hi, hI, hC, rfl, rfl, O⟩ := hrel
    by_cases hli : i < 8
    · have q1 : I < 8 := by omega
      have Wi : wrap64 (I + 1) = I + 1 := DT.inc_wrap (Nat.lt_of_lt_of_le hli (by decide)) hI
      obtain ⟨Y, m1, m2, sy, p, V1, V2, V3, V4, V5, hsy, hp, bp⟩ := DT.sampw HXY.out.1.2 HXY.out.2.2 hli hI
      have HSi := HS.out i
      simp only [hsy] at HSi
      have HN1 := fun X => HN.out sy X
      simp only [hp] at HN1
      have HS2 := Lib.hid HSi
      have HN2 := Lib.hid HN1
      have HC2 := Lib.hid (HC.out i)
      have HI := Lib.hid (And.intro hli (And.intro hI hC))
      have Hp := Lib.hid bp
      clear hsy hp bp HSi HN1 hli hI hC hi
      go_wp2_with ((with_reducible refine at_load 27 ?_); refine wpList_cell_h (v := .int .i64 (v1)) rfl O.held 0 rfl Cv1.out rfl agg3 rfl ?_)
      simp only [V5]
      clear V1 V2 V3 V4 V5
      go_loopw [10, 29] (fun u t_ wr => ∃ (k : Nat) (J D : Int), k ≤ 8 ∧ (k : Int) = J ∧ ((cv i k : Nat) : Int) = D ∧ u = .int .i64 D ∧ t_ = .int .i64 J ∧ Own w wr [(g4, 25, M.mat 7 v)]) (fun _ t_ _ => (8 - intOf t_).toNat)
      case atStart => exact ⟨0, 0, C, by decide, rfl, HI.out.2.2, rfl, rfl, O⟩
      case round =>
        clear O
        obtain ⟨k, J, D, hk, hJ, hD, rfl, rfl, O⟩ := hrel
        by_cases hlk : k < 8
        · have q3 : J < 8 := by omega
          have Wk : wrap64 (J + 1) = J + 1 := DT.inc_wrap (Nat.lt_of_lt_of_le hlk (by decide)) hJ
          obtain ⟨X, n1, n2, sx, q, V6, V7, V8, V9, V10, hsx, hq, bq⟩ := DT.sampw HXY.out.1.1 HXY.out.2.1 hlk hJ
          have HK := HS2.out k
          rw [hsx, HN2.out sx, hq] at HK
          obtain ⟨qq, pp, e, Z1, Z2, Z3, hpq⟩ := DT.sqs (p := q) (q := p) (show -2147483648 ≤ q ∧ q ≤ 2147483648 by omega) Hp.out
          rw [hpq] at HK
          have hle := HL.out i k (Nat.le_of_lt HI.out.1) hk
          have Wc : wrap64 (D + 1) = D + 1 := DT.inc_wrap (Nat.lt_of_le_of_lt hle (by decide)) hD
          clear hsx hq bq hpq hle
          by_cases hz : e < cc
          · have Kz : decide (e < cc) = true := by simpa using hz
            have HQ := Lib.hid (show k + 1 ≤ 8 ∧ ((k + 1 : Nat) : Int) = J + 1 ∧ ((cv i (k + 1) : Nat) : Int) = D + 1 from ⟨hlk, by omega, by rw [HK, Kz]; show ((cv i k + 1 : Nat) : Int) = D + 1; omega⟩)
            clear HK hk hJ hD hlk hz
            go_wp2_with ((with_reducible refine at_load 39 ?_); refine wpList_cell_h (v := .int .i64 (v0)) rfl O.held 0 rfl Cv0.out rfl agg3 rfl ?_)
            go_roundw
            case rel => exact ⟨k + 1, J + 1, D + 1, HQ.out.1, HQ.out.2.1, HQ.out.2.2, by first | rfl | exact congrArg (Value.int IntKind.i64) Wc, by first | rfl | exact congrArg (Value.int IntKind.i64) Wk, O⟩
            case measure => first | exact DT.meas8 Wk q3 | exact DT.meas8' q3
          · have Kz : decide (e < cc) = false := by simpa using hz
            have HQ := Lib.hid (show k + 1 ≤ 8 ∧ ((k + 1 : Nat) : Int) = J + 1 ∧ ((cv i (k + 1) : Nat) : Int) = D from ⟨hlk, by omega, by rw [HK, Kz]; exact hD⟩)
            clear HK hk hJ hD hlk hz
            go_wp2_with ((with_reducible refine at_load 39 ?_); refine wpList_cell_h (v := .int .i64 (v0)) rfl O.held 0 rfl Cv0.out rfl agg3 rfl ?_)
            go_roundw
            case rel => exact ⟨k + 1, J + 1, D, HQ.out.1, HQ.out.2.1, HQ.out.2.2, by first | rfl | exact congrArg (Value.int IntKind.i64) Wc, by first | rfl | exact congrArg (Value.int IntKind.i64) Wk, O⟩
            case measure => first | exact DT.meas8 Wk q3 | exact DT.meas8' q3
        · obtain rfl : k = 8 := by omega
          obtain rfl : J = 8 := by omega
          have q3 : ¬ (8 : Int) < 8 := by decide
          have HQ := Lib.hid (show i + 1 ≤ 8 ∧ ((i + 1 : Nat) : Int) = I + 1 ∧ ((cv (i + 1) 0 : Nat) : Int) = D from ⟨HI.out.1, by have := HI.out.2.1; omega, by rw [← HC2.out]; exact hD⟩)
          clear hk hJ hD hlk
          go_wp2_with fail
          go_roundw
          case rel => first | exact ⟨i + 1, I + 1, D, HQ.out.1, HQ.out.2.1, HQ.out.2.2, rfl, by first | rfl | exact congrArg (Value.int IntKind.i64) Wi, O⟩ | ((repeat apply Exists.intro); exact ⟨⟨i + 1, I + 1, D, HQ.out.1, HQ.out.2.1, HQ.out.2.2, rfl, by first | rfl | exact congrArg (Value.int IntKind.i64) Wi, O⟩, rfl⟩)
          case measure => first | exact DT.meas8 Wi q1 | exact DT.meas8' q1 | (simp only [Wi, intOf]; omega) | (simp only [intOf]; omega)
    · obtain rfl : i = 8 := by omega
      obtain rfl : I = 8 := by omega
      have q1 : ¬ (8 : Int) < 8 := by decide
      subst hC
      clear hI hi hli
      go_wp2_with fail
      go_ret
      exact ⟨rfl, O.below⟩
end Go.Proofs.Ytlmgilcigbnbaaa
