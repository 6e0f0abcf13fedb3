/- Contracts: the pixels of a row, the cover of one. -/
import Derived.Test.YtdkppkdoconfhaaSi
namespace Go.Proofs.Ytdkppkdoconfhaa
open Go.ChangeShapes Go.WideShapes Go.ChangeAt Go.RowKit
set_option linter.unusedVariables false
set_option linter.unusedSimpArgs false

theorem sub_cells (r : Nat → Int) (i : Nat) : D.sub (i * 2) r 0 = r (2 * i) ∧ D.sub (i * 2) r 1 = r (2 * i + 1) := by
  unfold D.sub
  rw [show i * 2 + 0 = 2 * i by omega, show i * 2 + 1 = 2 * i + 1 by omega]
  exact ⟨rfl, rfl⟩
set_option maxRecDepth 100000 in
set_option maxHeartbeats 16000000 in
theorem prpix18 (r : Nat → Int) (h : ∀ j, j < 16 → -144115188075855872 ≤ r j ∧ r j ≤ 144115188075855872) (w : World) : Calls Try.prog 29 #[arr 16 r] w fun e w' => e = .returned (arr 2 (SP.pixels (SP.allk r 8))) ∧ Below w.heap.size w w' := by
  have O := Own.start w
  have CP := fun w => ppix18 (SP.allk r 8) (by
    have := SP.allk_lim h 8 (Nat.le_refl _)
    obtain ⟨a, b⟩ := this
    exact ⟨by omega, by omega⟩) w
  obtain ⟨res, hres⟩ : ∃ z, SP.pixels (SP.allk r 8) = z := ⟨_, rfl⟩
  rw [hres] at CP ⊢
  have HY := Lib.hid (fun k hk => @SP.allk_yes r k hk)
  have HN := Lib.hid (fun k hk => @SP.allk_no r k hk)
  have H0 : Hid (SP.allk r 0 = SP.mk 4294967296 (-4294967296)) := Lib.hid rfl
  have HC := Lib.hid (sub_cells r)
  generalize SP.allk r = ak at *
  clear h hres
  go_enter Try.func29, Try.ntmps29
  go_wp2_with (first | ((with_reducible refine at_box 1 ?_); refine wpList_box_own O (M.mat 16 (r)) rfl ?_; clear O; intro g1 w1 O) | ((with_reducible refine at_alloc 2 ?_); refine wpList_alloc_own O (M.mat 2 M.zero) zeroN18 ?_; clear O; intro g2 w2 O) | ((with_reducible refine at_build 6 ?_); refine wpList_build_g rfl ([(0, .int .i64 (4294967296)), (1, .int .i64 (-4294967296))]) ((M.mat 2 (SP.mk (4294967296) (-4294967296))).toArray) ?_ (builtN18 _ _) ?_; (focus (simp only [List.map_toArray, List.map_cons, List.map_nil]; rfl))) | ((with_reducible refine at_alloc 3 ?_); refine wpList_alloc_own O (M.mat 2 M.zero) zeroN18 ?_; clear O; intro g3 w3 O) | ((with_reducible refine at_store 3 ?_); refine wpList_put_own O 0 (M.mat 2 (SP.mk 4294967296 (-4294967296))) rfl rfl rfl (sN18 _) (M.mat_len2 _ _ _) (M.mat_one _ _) ?_; clear O; intro w4 O) | ((with_reducible refine at_load 7 ?_); refine wpList_whole rfl O 2 rfl rfl Try.underlying65 rfl (sV18 _) ?_))
  have O9 := Own.as O (l' := [(g3, 62, M.mat 2 (ak 0)), (g2, 62, M.mat 2 M.zero), (g1, 65, M.mat 16 r)]) (by rw [H0.out]; rfl)
  clear O H0
  have O := O9
  clear O9
  go_loopw [8] (fun t_ wr => ∃ (i : Nat) (I : Int), i ≤ 8 ∧ (i : Int) = I ∧ t_ = .int .i64 I ∧ Own w wr [(g3, 62, M.mat 2 (ak i)), (g2, 62, M.mat 2 M.zero), (g1, 65, M.mat 16 r)]) (fun t_ _ => (8 - intOf t_).toNat)
  case atStart => exact ⟨0, 0, by decide, rfl, rfl, O⟩
  case round =>
    clear O
    obtain ⟨i, I, hi, hI, rfl, O⟩ := hrel
    by_cases hli : i < 8
    · have q1 : I < 8 := by omega
      have q0 : Hid ((0 : Int) ≤ I) := Lib.hid (by omega)
      have Wi : wrap64 (I + 1) = I + 1 := SP.inc_wrap (Nat.lt_of_lt_of_le hli (by decide)) hI
      obtain ⟨c0, c1⟩ := HC.out i
      have HI := Lib.hid (And.intro hli hI.symm)
      have hy := HY.out i
      have hn := HN.out i
      rw [← c0, ← c1] at hy hn
      obtain ⟨s, hs⟩ : ∃ s, D.sub (i * 2) r = s := ⟨_, rfl⟩
      rw [hs] at hy hn
      clear c0 c1 hi hI hli
      obtain ⟨s0, es0⟩ : ∃ z, s 0 = z := ⟨_, rfl⟩
      have Cs0 := cell_is (n := 2) es0 (by decide)
      obtain ⟨s1, es1⟩ : ∃ z, s 1 = z := ⟨_, rfl⟩
      have Cs1 := cell_is (n := 2) es1 (by decide)
      rw [es0, es1] at hy hn
      have HS := Lib.hid hs
      clear hs es0 es1
      by_cases hle : s0 ≤ s1
      · have kl : decide (s0 ≤ s1) = true := by simpa using hle
        have HE := Lib.hid (hy hle)
        obtain ⟨A, hA⟩ : ∃ A, ak i = A := ⟨_, rfl⟩
        rw [hA] at HE O
        obtain ⟨a0, ea0⟩ : ∃ z, A 0 = z := ⟨_, rfl⟩
        have Ca0 := cell_is (n := 2) ea0 (by decide)
        obtain ⟨a1, ea1⟩ : ∃ z, A 1 = z := ⟨_, rfl⟩
        have Ca1 := cell_is (n := 2) ea1 (by decide)
        obtain ⟨m0, hm0⟩ : ∃ z, min a0 s0 = z := ⟨_, rfl⟩
        obtain ⟨m1, hm1⟩ : ∃ z, max a1 s1 = z := ⟨_, rfl⟩
        rw [ea0, ea1, hm0, hm1] at HE
        have G0 := (min_if a0 s0).trans hm0
        have G1 := (max_if a1 s1).trans hm1
        clear hy hn hle hA ea0 ea1
        go_wp2_with (first | ((with_reducible refine at_vindex 10 ?_); refine wpList_index_span r i HI.out.1 rfl rfl HI.out.2 ?_; rw [HS.out]) | ((with_reducible refine at_alloc 5 ?_); refine wpList_alloc_own O (M.mat 2 M.zero) zeroN18 ?_; clear O; intro g5 w5 O) | ((with_reducible refine at_store 5 ?_); refine wpList_put_own O 0 (M.mat 2 (s)) rfl rfl rfl (sN18 _) (M.mat_len2 _ _ _) (M.mat_one _ _) ?_; clear O; intro w6 O) | ((with_reducible refine at_load 12 ?_); refine wpList_cell_h (v := .int .i64 (s0)) rfl O.held 0 rfl Cs0.out rfl agg3 rfl ?_) | ((with_reducible refine at_load 14 ?_); refine wpList_cell_h (v := .int .i64 (s1)) rfl O.held 0 rfl Cs1.out rfl agg3 rfl ?_) | ((with_reducible refine at_load 17 ?_); refine wpList_cell_h (v := .int .i64 (a0)) rfl O.held 1 rfl Ca0.out rfl agg3 rfl ?_) | ((with_reducible refine at_load 19 ?_); refine wpList_cell_h (v := .int .i64 (s0)) rfl O.held 0 rfl Cs0.out rfl agg3 rfl ?_) | ((with_reducible refine at_load 22 ?_); refine wpList_cell_h (v := .int .i64 (a1)) rfl O.held 1 rfl Ca1.out rfl agg3 rfl ?_) | ((with_reducible refine at_load 24 ?_); refine wpList_cell_h (v := .int .i64 (s1)) rfl O.held 0 rfl Cs1.out rfl agg3 rfl ?_) | ((with_reducible refine at_build 26 ?_); refine wpList_build_g rfl ([(0, .int .i64 (m0)), (1, .int .i64 (m1))]) ((M.mat 2 (SP.mk (m0) (m1))).toArray) ?_ (builtN18 _ _) ?_; (focus (simp only [List.map_toArray, List.map_cons, List.map_nil]; rfl))) | ((with_reducible refine at_store 3 ?_); refine wpList_put_own O 1 (M.mat 2 (SP.mk m0 m1)) rfl rfl rfl (sN18 _) (M.mat_len2 _ _ _) (M.mat_one _ _) ?_; clear O; intro w7 O))
        have O9 := Own.as O.tail (l' := [(g3, 62, M.mat 2 (ak (i + 1))), (g2, 62, M.mat 2 M.zero), (g1, 65, M.mat 16 r)]) (by rw [HE.out]; first | done | rfl)
        clear O
        have O := O9
        clear O9
        go_roundw
        case rel => exact ⟨i + 1, I + 1, by have := HI.out.1; omega, by have := HI.out.2; omega, by first | rfl | exact congrArg (Value.int IntKind.i64) Wi, O⟩
        case measure => first | exact SP.meas8 Wi q1 | exact SP.meas8' q1
      · have kl : decide (s0 ≤ s1) = false := by simpa using hle
        have HE := Lib.hid (hn (by first | exact hle | exact Int.not_le.1 hle))
        clear hy hn hle
        go_wp2_with (first | ((with_reducible refine at_vindex 10 ?_); refine wpList_index_span r i HI.out.1 rfl rfl HI.out.2 ?_; rw [HS.out]) | ((with_reducible refine at_alloc 5 ?_); refine wpList_alloc_own O (M.mat 2 M.zero) zeroN18 ?_; clear O; intro g5 w5 O) | ((with_reducible refine at_store 5 ?_); refine wpList_put_own O 0 (M.mat 2 (s)) rfl rfl rfl (sN18 _) (M.mat_len2 _ _ _) (M.mat_one _ _) ?_; clear O; intro w6 O) | ((with_reducible refine at_load 12 ?_); refine wpList_cell_h (v := .int .i64 (s0)) rfl O.held 0 rfl Cs0.out rfl agg3 rfl ?_) | ((with_reducible refine at_load 14 ?_); refine wpList_cell_h (v := .int .i64 (s1)) rfl O.held 0 rfl Cs1.out rfl agg3 rfl ?_))
        have O9 := Own.as O.tail (l' := [(g3, 62, M.mat 2 (ak (i + 1))), (g2, 62, M.mat 2 M.zero), (g1, 65, M.mat 16 r)]) (by rw [HE.out]; first | done | rfl)
        clear O
        have O := O9
        clear O9
        go_roundw
        case rel => exact ⟨i + 1, I + 1, by have := HI.out.1; omega, by have := HI.out.2; omega, by first | rfl | exact congrArg (Value.int IntKind.i64) Wi, O⟩
        case measure => first | exact SP.meas8 Wi q1 | exact SP.meas8' q1
    · obtain rfl : i = 8 := by omega
      obtain rfl : I = 8 := by omega
      have q1 : ¬ (8 : Int) < 8 := by decide
      clear hI hi hli
      generalize ak 8 = A at *
      go_wp2_with (first | ((with_reducible refine at_load 28 ?_); refine wpList_whole rfl O 0 rfl rfl Try.underlying62 rfl (sN18 _) ?_) | (go_at_call 48; refine (CP _).mono ?_; rintro e w9 ⟨rfl, hb⟩; replace O := O.call hb; clear hb) | ((with_reducible refine at_store 2 ?_); refine wpList_put_own O 1 (M.mat 2 (res)) rfl rfl rfl (sN18 _) (M.mat_len2 _ _ _) (M.mat_one _ _) ?_; clear O; intro w10 O))
      exact bodyPost_ret (v := arr 2 res) (res_h rfl O.held 1 rfl rfl Try.underlying62 rfl (sN18 _)) rfl ⟨rfl, O.below⟩
theorem SP.cvk_wrap {n m : Int} {k : Nat} (hk : k ≤ 8) (h : 0 ≤ n ∧ n ≤ 8 * (k : Int)) (hm : 0 ≤ m ∧ m ≤ 8) : wrap64 (n + m) = n + m := IntWalk.wrap64_in _ (by omega)
theorem SP.cell_lim {f t x : Int} : 0 ≤ max 0 (min t (8 * x + 7) - max f (8 * x) + 1) ∧ max 0 (min t (8 * x + 7) - max f (8 * x) + 1) ≤ 8 := by omega
set_option maxRecDepth 100000 in
set_option maxHeartbeats 16000000 in
theorem prcov18 (r : Nat → Int) (x : Int) (h : ∀ j, j < 16 → -144115188075855872 ≤ r j ∧ r j ≤ 144115188075855872) (hx : -8388608 ≤ x ∧ x ≤ 8388608) (w : World) : Calls Try.prog 31 #[arr 16 r, .int .i64 x] w fun e w' => e = .returned (.int .i64 (SP.cvk r x 8)) ∧ Below w.heap.size w w' := by
  have O := Own.start w
  have HC := Lib.hid (sub_cells r)
  have HK : Hid (∀ k, SP.cvk r x (k + 1) = SP.cvk r x k + max 0 (min (r (2 * k + 1)) (8 * x + 7) - max (r (2 * k)) (8 * x) + 1)) := Lib.hid fun k => rfl
  have HL := Lib.hid (fun k => SP.cvk_lim r x k)
  have H0 : SP.cvk r x 0 = 0 := rfl
  have HB := Lib.hid h
  generalize SP.cvk r x = cv at *
  obtain ⟨X, hX⟩ : ∃ z, 8 * x = z := ⟨_, rfl⟩
  obtain ⟨Y, hY⟩ : ∃ z, X + 8 = z := ⟨_, rfl⟩
  obtain ⟨Z, hZ⟩ : ∃ z, Y - 1 = z := ⟨_, rfl⟩
  have U1 : wrap64 (8 * x) = X := (IntWalk.wrap64_in _ (by omega)).trans hX
  have U2 : wrap64 (X + 8) = Y := (IntWalk.wrap64_in _ (by omega)).trans hY
  have U3 : wrap64 (Y - 1) = Z := (IntWalk.wrap64_in _ (by omega)).trans hZ
  have HZ : Hid (8 * x = X ∧ 8 * x + 7 = Z ∧ (-67108864 ≤ X ∧ X ≤ 67108864)) := Lib.hid (by omega)
  clear h hx hX hY hZ
  go_enter Try.func31, Try.ntmps31
  go_wp2_with (first | ((with_reducible refine at_box 2 ?_); refine wpList_box_own O (M.mat 16 (r)) rfl ?_; clear O; intro g2 w1 O) | ((with_reducible refine at_load 9 ?_); refine wpList_whole rfl O 0 rfl rfl Try.underlying65 rfl (sV18 _) ?_))
  go_loopw [5, 10] (fun u t_ wr => ∃ (i : Nat) (I N : Int), i ≤ 8 ∧ (i : Int) = I ∧ cv i = N ∧ u = .int .i64 N ∧ t_ = .int .i64 I ∧ Own w wr [(g2, 65, M.mat 16 r)]) (fun _ t_ _ => (8 - intOf t_).toNat)
  case atStart => exact ⟨0, 0, 0, by decide, rfl, H0, rfl, rfl, O⟩
  case round =>
    clear O
    obtain ⟨i, I, N, hi, hI, hN, rfl, rfl, O⟩ := hrel
    by_cases hli : i < 8
    · have q1 : I < 8 := by omega
      have q0 : Hid ((0 : Int) ≤ I) := Lib.hid (by omega)
      have Wi : wrap64 (I + 1) = I + 1 := SP.inc_wrap (Nat.lt_of_lt_of_le hli (by decide)) hI
      obtain ⟨c0, c1⟩ := HC.out i
      have HI := Lib.hid (And.intro hli hI.symm)
      have b0 := HB.out (2 * i) (by omega)
      have b1 := HB.out (2 * i + 1) (by omega)
      have hk := HK.out i
      have hL := HL.out i
      have hL2 := SP.cell_lim (f := r (2 * i)) (t := r (2 * i + 1)) (x := x)
      rw [← c0] at b0 hk hL2
      rw [← c1] at b1 hk hL2
      rw [hN] at hk hL
      obtain ⟨s, hs⟩ : ∃ s, D.sub (i * 2) r = s := ⟨_, rfl⟩
      rw [hs] at b0 b1 hk hL2
      have CA := fun w => pand18 s (SP.mk X Z) w
      have HE : SP.and s (SP.mk X Z) = SP.mk (max (s 0) X) (min (s 1) Z) := rfl
      obtain ⟨z1, z2, z3⟩ := HZ.out
      rw [z2, z1] at hk hL2
      obtain ⟨f, hf⟩ : ∃ z, max (s 0) X = z := ⟨_, rfl⟩
      obtain ⟨t, ht⟩ : ∃ z, min (s 1) Z = z := ⟨_, rfl⟩
      rw [hf, ht] at hk hL2 HE
      rw [HE] at CA
      have bd : -1000000000000000000 ≤ t - f ∧ t - f ≤ 1000000000000000000 := by omega
      have Cf : Hid ((M.mat 2 (SP.mk f t))[0]? = some (.int .i64 f)) := cell_is rfl (by decide)
      have Ct : Hid ((M.mat 2 (SP.mk f t))[1]? = some (.int .i64 t)) := cell_is rfl (by decide)
      obtain ⟨d, hd⟩ : ∃ z, t - f = z := ⟨_, rfl⟩
      rw [hd] at hk hL2 bd
      obtain ⟨d1, hd1⟩ : ∃ z, d + 1 = z := ⟨_, rfl⟩
      rw [hd1] at hk hL2
      obtain ⟨m, hm⟩ : ∃ z, max 0 d1 = z := ⟨_, rfl⟩
      rw [hm] at hk hL2
      have V1 : wrap64 (t - f) = d := (IntWalk.wrap64_in _ (by omega)).trans hd
      have V2 : wrap64 (d + 1) = d1 := (IntWalk.wrap64_in _ (by omega)).trans hd1
      have G := (max_if 0 d1).trans hm
      have V3 := SP.cvk_wrap (k := i) (Nat.le_of_lt hli) hL hL2
      obtain ⟨N2, hN2⟩ : ∃ z, N + m = z := ⟨_, rfl⟩
      rw [hN2] at hk
      replace V3 := V3.trans hN2
      have HQ := Lib.hid hk
      have HS := Lib.hid hs
      clear c0 c1 hi hI hli b0 b1 hk hL hL2 hs HE z1 z2 z3 hf ht bd hd hd1 hN2 hN
      go_wp2_with (first | ((with_reducible refine at_vindex 12 ?_); refine wpList_index_span r i HI.out.1 rfl rfl HI.out.2 ?_; rw [HS.out]) | ((with_reducible refine at_alloc 7 ?_); refine wpList_alloc_own O (M.mat 2 M.zero) zeroN18 ?_; clear O; intro g7 w5 O) | ((with_reducible refine at_store 7 ?_); refine wpList_put_own O 0 (M.mat 2 (s)) rfl rfl rfl (sN18 _) (M.mat_len2 _ _ _) (M.mat_one _ _) ?_; clear O; intro w6 O) | ((with_reducible refine at_load 13 ?_); refine wpList_whole rfl O 0 rfl rfl Try.underlying62 rfl (sN18 _) ?_) | ((with_reducible refine at_build 20 ?_); refine wpList_build_g rfl ([(0, .int .i64 (X)), (1, .int .i64 (Z))]) ((M.mat 2 (SP.mk (X) (Z))).toArray) ?_ (builtN18 _ _) ?_; (focus (simp only [List.map_toArray, List.map_cons, List.map_nil]; rfl))) | (go_at_call 30; refine (CA _).mono ?_; rintro e w7 ⟨rfl, hb⟩; replace O := O.call hb; clear hb) | ((with_reducible refine at_alloc 8 ?_); refine wpList_alloc_own O (M.mat 2 M.zero) zeroN18 ?_; clear O; intro g8 w8 O) | ((with_reducible refine at_store 8 ?_); refine wpList_put_own O 0 (M.mat 2 (SP.mk f t)) rfl rfl rfl (sN18 _) (M.mat_len2 _ _ _) (M.mat_one _ _) ?_; clear O; intro w9 O) | ((with_reducible refine at_load 24 ?_); refine wpList_cell_h (v := .int .i64 (t)) rfl O.held 0 rfl Ct.out rfl agg3 rfl ?_) | ((with_reducible refine at_load 26 ?_); refine wpList_cell_h (v := .int .i64 (f)) rfl O.held 0 rfl Cf.out rfl agg3 rfl ?_))
      have O9 := O.tail.tail
      clear O
      have O := O9
      clear O9
      go_roundw
      case rel => exact ⟨i + 1, I + 1, N2, by have := HI.out.1; omega, by have := HI.out.2; omega, HQ.out, by first | rfl | exact congrArg (Value.int IntKind.i64) V3, by first | rfl | exact congrArg (Value.int IntKind.i64) Wi, O⟩
      case measure => first | exact SP.meas8 Wi q1 | exact SP.meas8' q1
    · obtain rfl : i = 8 := by omega
      obtain rfl : I = 8 := by omega
      have q1 : ¬ (8 : Int) < 8 := by decide
      subst hN
      clear hI hi hli
      go_wp2_with fail
      go_ret
      exact ⟨rfl, O.below⟩
end Go.Proofs.Ytdkppkdoconfhaa
