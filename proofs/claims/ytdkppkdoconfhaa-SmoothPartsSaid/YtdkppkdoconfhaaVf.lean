/- Contracts: the document's Along and Across. -/
import Derived.Test.YtdkppkdoconfhaaVd
namespace Go.Proofs.Ytdkppkdoconfhaa
open Go.ChangeShapes Go.WideShapes Go.ChangeAt Go.RowKit
set_option linter.unusedVariables false
set_option linter.unusedSimpArgs false

theorem VM.mul_lim {x y A B : Int} (hx : -A ≤ x ∧ x ≤ A) (hy : -B ≤ y ∧ y ≤ B) : -(A * B) ≤ x * y ∧ x * y ≤ A * B := by
  have h1 : x.natAbs ≤ A.natAbs := by omega
  have h2 : y.natAbs ≤ B.natAbs := by omega
  have h3 := Nat.mul_le_mul h1 h2
  rw [← Int.natAbs_mul] at h3
  have h4 : ((A.natAbs * B.natAbs : Nat) : Int) = A * B := by
    rw [Int.natCast_mul, Int.natAbs_of_nonneg (by omega), Int.natAbs_of_nonneg (by omega)]
  omega
set_option maxRecDepth 100000 in
set_option maxHeartbeats 8000000 in
theorem racross_any (a b : Nat → Int) (X Y : Int) (ha : VM.fit a = true) (hb : VM.fit b = true) (hX : -4194304 ≤ X ∧ X ≤ 4194304) (hY : -4194304 ≤ Y ∧ Y ≤ 4194304) (w : World) :
    Calls Try.prog 33 #[arr 7 a, arr 7 b, .int .i64 X, .int .i64 Y] w (RetZ w (VM.mid (a 2) (b 2) (VM.nC (a 0) (a 1) (b 0) (b 1) X Y) (VM.dC (a 0) (a 1) (b 0) (b 1))) (VM.col a b (VM.nC (a 0) (a 1) (b 0) (b 1) X Y) (VM.dC (a 0) (a 1) (b 0) (b 1)))) := by
  have O := Own.start w
  obtain ⟨la0, la1, -, -⟩ := VM.fit_lim ha
  obtain ⟨lb0, lb1, -, -⟩ := VM.fit_lim hb
  have CB := fun n d (hd : d < 9223372036854775808) w => rboth_any a b n d (VM.lim_of ha) (VM.lim_of hb) hd w
  clear ha hb
  obtain ⟨p0, ep0⟩ : ∃ z, a 0 = z := ⟨_, rfl⟩
  have Cp0 := cell_is (n := 7) ep0 (by decide)
  obtain ⟨p1, ep1⟩ : ∃ z, a 1 = z := ⟨_, rfl⟩
  have Cp1 := cell_is (n := 7) ep1 (by decide)
  obtain ⟨q0, eq0⟩ : ∃ z, b 0 = z := ⟨_, rfl⟩
  have Cq0 := cell_is (n := 7) eq0 (by decide)
  obtain ⟨q1, eq1⟩ : ∃ z, b 1 = z := ⟨_, rfl⟩
  have Cq1 := cell_is (n := 7) eq1 (by decide)
  rw [ep0] at la0 ⊢
  rw [ep1] at la1 ⊢
  rw [eq0] at lb0 ⊢
  rw [eq1] at lb1 ⊢
  clear ep0 ep1 eq0 eq1
  obtain ⟨W, hW⟩ : ∃ z, q0 - p0 = z := ⟨_, rfl⟩
  obtain ⟨H, hH⟩ : ∃ z, q1 - p1 = z := ⟨_, rfl⟩
  have DW : Hid (IntKind.i64.wrap (q0 - p0) = W) := Lib.hid ((IntWalk.i64_in _ (by omega)).trans hW)
  have DH : Hid (IntKind.i64.wrap (q1 - p1) = H) := Lib.hid ((IntWalk.i64_in _ (by omega)).trans hH)
  obtain ⟨X1, hX1⟩ : ∃ z, 256 * X = z := ⟨_, rfl⟩
  have F1 : wrap64 (256 * X) = X1 := (IntWalk.wrap64_in _ (by omega)).trans hX1
  obtain ⟨X2, hX2⟩ : ∃ z, X1 + 128 = z := ⟨_, rfl⟩
  have F2 : wrap64 (X1 + 128) = X2 := (IntWalk.wrap64_in _ (by omega)).trans hX2
  obtain ⟨nx, hnx⟩ : ∃ z, X2 - p0 = z := ⟨_, rfl⟩
  have F3 : wrap64 (X2 - p0) = nx := (IntWalk.wrap64_in _ (by omega)).trans hnx
  have l1 := VM.mul_lim (x := nx) (y := W) (A := 2147483648) (B := 536870912) (by omega) (by omega)
  have l2 := VM.mul_lim (x := W) (y := W) (A := 536870912) (B := 536870912) (by omega) (by omega)
  obtain ⟨Y1, hY1⟩ : ∃ z, 256 * Y = z := ⟨_, rfl⟩
  have G1 : wrap64 (256 * Y) = Y1 := (IntWalk.wrap64_in _ (by omega)).trans hY1
  obtain ⟨Y2, hY2⟩ : ∃ z, Y1 + 128 = z := ⟨_, rfl⟩
  have G2 : wrap64 (Y1 + 128) = Y2 := (IntWalk.wrap64_in _ (by omega)).trans hY2
  obtain ⟨ny, hny⟩ : ∃ z, Y2 - p1 = z := ⟨_, rfl⟩
  have G3 : wrap64 (Y2 - p1) = ny := (IntWalk.wrap64_in _ (by omega)).trans hny
  have l3 := VM.mul_lim (x := ny) (y := H) (A := 2147483648) (B := 536870912) (by omega) (by omega)
  have l4 := VM.mul_lim (x := H) (y := H) (A := 536870912) (B := 536870912) (by omega) (by omega)
  obtain ⟨s1, hs1⟩ : ∃ z, nx * W = z := ⟨_, rfl⟩
  have P1 : wrap64 (nx * W) = s1 := (IntWalk.wrap64_in _ (by omega)).trans hs1
  obtain ⟨s2, hs2⟩ : ∃ z, ny * H = z := ⟨_, rfl⟩
  have P2 : wrap64 (ny * H) = s2 := (IntWalk.wrap64_in _ (by omega)).trans hs2
  obtain ⟨n, hn⟩ : ∃ z, s1 + s2 = z := ⟨_, rfl⟩
  have P3 : wrap64 (s1 + s2) = n := (IntWalk.wrap64_in _ (by omega)).trans hn
  obtain ⟨t1, ht1⟩ : ∃ z, W * W = z := ⟨_, rfl⟩
  have P4 : wrap64 (W * W) = t1 := (IntWalk.wrap64_in _ (by omega)).trans ht1
  obtain ⟨t2, ht2⟩ : ∃ z, H * H = z := ⟨_, rfl⟩
  have P5 : wrap64 (H * H) = t2 := (IntWalk.wrap64_in _ (by omega)).trans ht2
  obtain ⟨d, hd⟩ : ∃ z, t1 + t2 = z := ⟨_, rfl⟩
  have P6 : wrap64 (t1 + t2) = d := (IntWalk.wrap64_in _ (by omega)).trans hd
  have en : VM.nC p0 p1 q0 q1 X Y = n := by unfold VM.nC; rw [hW, hH, hX1, hX2, hnx, hY1, hY2, hny, hs1, hs2, hn]
  have ed : VM.dC p0 p1 q0 q1 = d := by unfold VM.dC; rw [hW, hH, ht1, ht2, hd]
  rw [en, ed]
  have CC := CB n d (by omega)
  generalize VM.mid (a 2) (b 2) n d = z at CC ⊢
  generalize VM.col a b n d = c at CC ⊢
  have CD := Lib.hid CC
  clear CB CC en ed la0 la1 lb0 lb1 hX hY hW hH hX1 hX2 hnx hY1 hY2 hny l1 l2 l3 l4 hs1 hs2 hn ht1 ht2 hd
  go_enter Try.func33, Try.ntmps33
  go_wp2_with (first | ((with_reducible refine at_box 4 ?_); refine wpList_box_own O (M.mat 7 (a)) rfl ?_; clear O; intro g4 w1 O) | ((with_reducible refine at_box 5 ?_); refine wpList_box_own O (M.mat 7 (b)) rfl ?_; clear O; intro g5 w2 O) | ((with_reducible refine at_alloc 9 ?_); refine wpList_alloc_own O (M.mat 4 M.zero) zeroC ?_; clear O; intro g9 w3 O))
  refine region_T ((fun w2 => Own w w2 [(g9, 23, M.mat 4 M.zero), (g5, 25, M.mat 7 b), (g4, 25, M.mat 7 a)])) [0, 1, 2, 3, 4, 5, 6, 7, 8, 9, 10] 12 [some 12, some 13, some 14, some 15, some 16, some 17, some 18, some 19, some 20, some 21, some 10] [.pointer (some ⟨g5, 0, none⟩), .int .i64 q0, .pointer (some ⟨g4, 0, none⟩), .int .i64 p0, .int .i64 W, .pointer (some ⟨g5, 1, none⟩), .int .i64 q1, .pointer (some ⟨g4, 1, none⟩), .int .i64 p1, .int .i64 H, .int .i64 W] 1 (by kernel_rfl) (by rfl) (by kernel_rfl) (by rfl) (by rfl) (O.drew) (fun F hF => ?_)
  simp only [fillD, Act.put, List.setIfInBounds_toArray, List.set_cons_zero, List.set_cons_succ] at hF
  subst hF
  refine ⟨⟨does_want rfl (by rfl) (fun w' O K hK => ?_), does_want rfl (by rfl) (fun w' O K hK => ?_), does_want rfl (by rfl) (fun w' O K hK => ?_), does_want rfl (by rfl) (fun w' O K hK => ?_), does_want rfl (by rfl) (fun w' O K hK => ?_), does_want rfl (by rfl) (fun w' O K hK => ?_), does_want rfl (by rfl) (fun w' O K hK => ?_), does_want rfl (by rfl) (fun w' O K hK => ?_), does_want rfl (by rfl) (fun w' O K hK => ?_), does_want rfl (by rfl) (fun w' O K hK => ?_), does_want rfl (by rfl) (fun w' O K hK => ?_), trivial⟩, fun w' O => ?_⟩
  · go_simp
    exact hK _ O
  · exact wp_cell_h (v := .int .i64 (q0)) O.held 1 rfl Cq0.out rfl agg3 rfl (hK _ O)
  · go_simp
    exact hK _ O
  · exact wp_cell_h (v := .int .i64 (p0)) O.held 2 rfl Cp0.out rfl agg3 rfl (hK _ O)
  · go_simp
    simp only [DW.out]
    exact hK _ O
  · go_simp
    exact hK _ O
  · exact wp_cell_h (v := .int .i64 (q1)) O.held 1 rfl Cq1.out rfl agg3 rfl (hK _ O)
  · go_simp
    exact hK _ O
  · exact wp_cell_h (v := .int .i64 (p1)) O.held 2 rfl Cp1.out rfl agg3 rfl (hK _ O)
  · go_simp
    simp only [DH.out]
    exact hK _ O
  · go_simp
    exact hK _ O
  refine wpAny_one (i := 11) (by kernel_rfl) rfl (fun K hK => ?_)
  go_simp
  refine hK _ _ ?_
  clear hK K
  try simp only [Act.put, List.setIfInBounds_toArray, List.set_cons_zero, List.set_cons_succ]
  refine wpAny_done (by kernel_rfl) ?_ _
  go_wp2_with (first | ((with_reducible refine at_load 22 ?_); refine wpList_whole rfl O 2 rfl rfl Try.underlying25 rfl (sW _) ?_) | ((with_reducible refine at_load 23 ?_); refine wpList_whole rfl O 1 rfl rfl Try.underlying25 rfl (sW _) ?_) | ((with_reducible refine at_load 28 ?_); refine wpList_cell_h (v := .int .i64 (p0)) rfl O.held 2 rfl Cp0.out rfl agg3 rfl ?_) | ((with_reducible refine at_load 36 ?_); refine wpList_cell_h (v := .int .i64 (p1)) rfl O.held 2 rfl Cp1.out rfl agg3 rfl ?_) | (go_at_call 52; refine (CD.out _).mono ?_; rintro e w9 ⟨rfl, hb⟩; replace O := O.call hb; clear hb) | ((with_reducible refine at_store 9 ?_); refine wpList_put_own O 0 (M.mat 4 (c)) rfl rfl rfl (sC _) (M.mat_len2 _ _ _) (M.mat_one _ _) ?_; clear O; intro w10 O))
  exact bodyPost_ret (v := .tuple #[.int .i64 z, arr 4 c]) (res_t2 rfl O 0 rfl rfl Try.underlying23 rfl (sC _) rfl) rfl ⟨rfl, O.below⟩
end Go.Proofs.Ytdkppkdoconfhaa
