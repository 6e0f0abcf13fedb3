/- The contracts of the program: Count, At. -/
import Derived.Test.YtheolajpjpnfjaaYh
import Derived.Test.YtheolajpjpnfjaaXi
import Derived.Test.YtheolajpjpnfjaaXg
namespace Go.Proofs.Ytheolajpjpnfjaa
open Go.ChangeShapes Go.WideShapes Go.ChangeAt Go.RowKit
set_option linter.unusedVariables false
set_option linter.unusedSimpArgs false

theorem field_n (a0 a1 b0 b1 t f s n : Int) (w : World) : (Instr.field 52 (.agg #[.int .i64 a0, .int .i64 a1, .int .i64 b0, .int .i64 b1, .int .i64 t, .int .i64 f, .int .i64 s, .int .i64 n]) 5).run Try.prog w = .ok (.int .i64 n) w := by kernel_rfl
attribute [local go_sem] field_n
set_option maxRecDepth 100000 in
set_option maxHeartbeats 8000000 in
theorem pcount_any (a b : Nat → Int) (ha : DM.Rg a) (hb : DM.Rg b) (w_ : World) : Calls Try.prog 16 #[arr 2 a, arr 2 b] w_ fun e w' => e = .returned (.int .i64 (DM.cnt14 (a 0) (a 1) (b 0) (b 1))) ∧ Below w_.heap.size w_ w' := by
  have O := Own.start w_
  have CM := fun w => measure_any a b ha hb w
  unfold RetM at CM
  obtain ⟨t, ht⟩ : ∃ t, DM.tall (b 0 - a 0) (b 1 - a 1) = t := ⟨_, rfl⟩
  rw [ht] at CM
  simp only [wl] at CM
  clear ht ha hb
  obtain ⟨c, hc⟩ : ∃ z, DM.cnt14 (a 0) (a 1) (b 0) (b 1) = z := ⟨_, rfl⟩
  have HC := Lib.hid hc
  rw [hc]
  clear hc
  go_enter Try.func16, Try.ntmps16
  go_wp2_with (first | ((with_reducible refine at_box 2 ?_); refine wpList_box_own O (M.mat 2 (a)) rfl ?_; clear O; intro g3 w1 O) | ((with_reducible refine at_box 3 ?_); refine wpList_box_own O (M.mat 2 (b)) rfl ?_; clear O; intro g4 w2 O) | ((with_reducible refine at_load 5 ?_); refine wpList_whole rfl O 1 rfl rfl Try.underlying23 rfl (sP _) ?_) | ((with_reducible refine at_load 6 ?_); refine wpList_whole rfl O 0 rfl rfl Try.underlying23 rfl (sP _) ?_) | (go_at_call 21; refine (CM _).mono ?_; rintro e w4 ⟨f, s, n, rfl, hL, hb⟩; replace O := O.call hb; clear hb; have HL := Lib.hid hL; clear hL))
  go_ret
  rw [← HC.out, ← HL.out.1]
  exact ⟨rfl, O.below⟩
theorem DM.at14_of {ax ay bx by_ f s n k : Int} {t : Bool} (hL : DM.Lin ax ay bx by_ f s n) (ht : DM.tall (bx - ax) (by_ - ay) = t) (h0 : 0 ≤ k) (h1 : k < n) :
    DM.at14 ax ay bx by_ k = ((k, DM.pxl t (DM.mn t ax ay) (DM.cr t ax ay) (DM.mn t bx by_) (DM.cr t bx by_) (f + k * s)), true) := by
  obtain ⟨hn, hU, hP⟩ := hL.2.2.2.2 k h0 h1
  unfold DM.at14
  rw [if_neg (by omega), hP, ht]
theorem pat_px {a b : Nat → Int} {f s n k : Int} {t : Bool} (ha : DM.Rg (DM.t2 (a 0) (a 1))) (hb : DM.Rg (DM.t2 (b 0) (b 1))) (ht : DM.tall (b 0 - a 0) (b 1 - a 1) = t) (hL : DM.Lin (a 0) (a 1) (b 0) (b 1) f s n) {q : (Int × Int × Int) × Bool} (hq : DM.at14 (a 0) (a 1) (b 0) (b 1) k = q) (h0 : 0 ≤ k) (h1 : k < n) (w : World) :
    Calls Try.prog 28 #[.agg (wl (a 0) (a 1) (b 0) (b 1) (DM.wv t) f s n).toArray, .int .i64 k] w fun e w' => e = .returned (arr 3 (sF q.1)) ∧ Below w.heap.size w w' := by
  obtain ⟨hn, hU, hP⟩ := hL.2.2.2.2 k h0 h1
  have hW := DM.way_of hn
  rw [ht] at hW hU
  have hf := hL.2.2.1
  have CP := pixel_any (a 0) (a 1) (b 0) (b 1) t f s n k _ hW ha hb hU rfl (by omega) w
  rw [← hq, DM.at14_of hL ht h0 h1]
  exact CP
set_option maxRecDepth 100000 in
set_option maxHeartbeats 8000000 in
theorem pat_any (a b : Nat → Int) (k : Int) (ha : DM.Rg a) (hb : DM.Rg b) (hk : k < 9223372036854775808) (hk0 : -9223372036854775808 ≤ k) (w_ : World) : Calls Try.prog 14 #[arr 2 a, arr 2 b, .int .i64 k] w_ (RetS w_ (DM.at14 (a 0) (a 1) (b 0) (b 1) k)) := by
  have O := Own.start w_
  have CM := fun w => measure_any a b ha hb w
  have HA : Hid (DM.Rg (DM.t2 (a 0) (a 1))) := Lib.hid ha
  have HB : Hid (DM.Rg (DM.t2 (b 0) (b 1))) := Lib.hid hb
  unfold RetM at CM
  obtain ⟨t, ht⟩ : ∃ t, DM.tall (b 0 - a 0) (b 1 - a 1) = t := ⟨_, rfl⟩
  rw [ht] at CM
  have HT := Lib.hid ht
  clear ht ha hb hk hk0
  obtain ⟨q, hq⟩ : ∃ q, DM.at14 (a 0) (a 1) (b 0) (b 1) k = q := ⟨_, rfl⟩
  rw [hq]
  have HQ := Lib.hid hq
  clear hq
  unfold RetS
  go_enter Try.func14, Try.ntmps14
  have HZ : Hid (arr 3 (sF (0, 0, 0)) = arr 3 M.zero) := Lib.hid (by
    unfold arr
    congr 2)
  by_cases h0 : k < 0
  · have HF : Hid (q = ((0, 0, 0), false)) := Lib.hid (HQ.out.symm.trans (DM.at14_neg h0))
    have c0 : decide (k < 0) = true := decide_eq_true h0
    clear h0
    go_wp2_with (first | ((with_reducible refine at_box 3 ?_); refine wpList_box_own O (M.mat 2 (a)) rfl ?_; clear O; intro g3 w1 O) | ((with_reducible refine at_box 4 ?_); refine wpList_box_own O (M.mat 2 (b)) rfl ?_; clear O; intro g4 w2 O) | ((with_reducible refine at_alloc 6 ?_); refine wpList_alloc_own O (M.mat 3 M.zero) zeroT ?_; clear O; intro g6 w3 O) | ((with_reducible refine at_load 9 ?_); refine wpList_whole rfl O 2 rfl rfl Try.underlying23 rfl (sP _) ?_) | ((with_reducible refine at_load 10 ?_); refine wpList_whole rfl O 1 rfl rfl Try.underlying23 rfl (sP _) ?_) | (go_at_call 21; refine (CM _).mono ?_; rintro e w4 ⟨f, s, n, rfl, hL, hb⟩; replace O := O.call hb; clear hb; have CPX := fun h0 h1 => pat_px HA.out HB.out HT.out hL HQ.out h0 h1; have HQ1 : Hid (0 ≤ k → k < n → q.2 = true) := Lib.hid (fun h0 h1 => by rw [← HQ.out, DM.at14_of hL HT.out h0 h1]); have HQ2 : Hid (n ≤ k → q = ((0, 0, 0), false)) := Lib.hid (fun h => by rw [← HQ.out, DM.at14_over (by rw [← hL.1]; exact h)]); clear hL) | ((with_reducible refine at_alloc 8 ?_); refine wpList_alloc_own O (wl 0 0 0 0 0 0 0 0) zeroWl ?_; clear O; intro g8 w5 O) | ((with_reducible refine at_store 8 ?_); refine wpList_put_own O 0 (wl (a 0) (a 1) (b 0) (b 1) (DM.wv t) f s n) rfl rfl rfl (sWl (a 0) (a 1) (b 0) (b 1) (DM.wv t) f s n) rfl (wl_one (a 0) (a 1) (b 0) (b 1) (DM.wv t) f s n) ?_; clear O; intro w6 O) | ((with_reducible refine at_load 17 ?_); refine wpList_cell_h (v := .int .i64 n) rfl O.held 0 rfl (i := 7) rfl rfl agg3 rfl ?_) | ((with_reducible refine at_build 20 ?_); refine wpList_build_g rfl ([]) ((M.mat 3 M.zero).toArray) ?_ (builtTz) ?_; (focus (simp only [List.map_toArray, List.map_cons, List.map_nil]; rfl))) | ((with_reducible refine at_store 6 ?_); refine wpList_put_own O 1 (M.mat 3 (M.zero)) rfl rfl rfl (sT _) (M.mat_len2 _ _ _) (M.mat_one _ _) ?_; clear O; intro w7 O))
    exact bodyPost_ret (v := .tuple #[arr 3 M.zero, .bool false]) (res_h2 rfl O.held 1 rfl rfl Try.underlying34 rfl (sT _) rfl) rfl ⟨by rw [HF.out, HZ.out], O.below⟩
  · have H9 := Lib.hid (show 0 ≤ k by omega)
    have c0 : decide (k < 0) = false := decide_eq_false h0
    clear h0
    go_wp2_with (first | ((with_reducible refine at_box 3 ?_); refine wpList_box_own O (M.mat 2 (a)) rfl ?_; clear O; intro g3 w1 O) | ((with_reducible refine at_box 4 ?_); refine wpList_box_own O (M.mat 2 (b)) rfl ?_; clear O; intro g4 w2 O) | ((with_reducible refine at_alloc 6 ?_); refine wpList_alloc_own O (M.mat 3 M.zero) zeroT ?_; clear O; intro g6 w3 O) | ((with_reducible refine at_load 9 ?_); refine wpList_whole rfl O 2 rfl rfl Try.underlying23 rfl (sP _) ?_) | ((with_reducible refine at_load 10 ?_); refine wpList_whole rfl O 1 rfl rfl Try.underlying23 rfl (sP _) ?_) | (go_at_call 21; refine (CM _).mono ?_; rintro e w4 ⟨f, s, n, rfl, hL, hb⟩; replace O := O.call hb; clear hb; have CPX := fun h0 h1 => pat_px HA.out HB.out HT.out hL HQ.out h0 h1; have HQ1 : Hid (0 ≤ k → k < n → q.2 = true) := Lib.hid (fun h0 h1 => by rw [← HQ.out, DM.at14_of hL HT.out h0 h1]); have HQ2 : Hid (n ≤ k → q = ((0, 0, 0), false)) := Lib.hid (fun h => by rw [← HQ.out, DM.at14_over (by rw [← hL.1]; exact h)]); clear hL) | ((with_reducible refine at_alloc 8 ?_); refine wpList_alloc_own O (wl 0 0 0 0 0 0 0 0) zeroWl ?_; clear O; intro g8 w5 O) | ((with_reducible refine at_store 8 ?_); refine wpList_put_own O 0 (wl (a 0) (a 1) (b 0) (b 1) (DM.wv t) f s n) rfl rfl rfl (sWl (a 0) (a 1) (b 0) (b 1) (DM.wv t) f s n) rfl (wl_one (a 0) (a 1) (b 0) (b 1) (DM.wv t) f s n) ?_; clear O; intro w6 O) | ((with_reducible refine at_load 17 ?_); refine wpList_cell_h (v := .int .i64 n) rfl O.held 0 rfl (i := 7) rfl rfl agg3 rfl ?_) | ((with_reducible refine at_build 20 ?_); refine wpList_build_g rfl ([]) ((M.mat 3 M.zero).toArray) ?_ (builtTz) ?_; (focus (simp only [List.map_toArray, List.map_cons, List.map_nil]; rfl))) | ((with_reducible refine at_store 6 ?_); refine wpList_put_own O 1 (M.mat 3 (M.zero)) rfl rfl rfl (sT _) (M.mat_len2 _ _ _) (M.mat_one _ _) ?_; clear O; intro w7 O) | ((with_reducible refine at_load 21 ?_); refine wpList_whole rfl O 0 rfl rfl Try.underlying52 rfl (sWl (a 0) (a 1) (b 0) (b 1) (DM.wv t) f s n) ?_) | (go_at_call 28; refine (CPX H9.out (by first | assumption | omega) _).mono ?_; rintro e w8 ⟨rfl, hb⟩; replace O := O.call hb; clear hb) | ((with_reducible refine at_store 6 ?_); refine wpList_put_own O 1 (M.mat 3 (sF q.1)) rfl rfl rfl (sT _) (M.mat_len2 _ _ _) (M.mat_one _ _) ?_; clear O; intro w9 O))
    · have hq := HQ2.out (by omega)
      exact bodyPost_ret (v := .tuple #[arr 3 M.zero, .bool false]) (res_h2 rfl O.held 1 rfl rfl Try.underlying34 rfl (sT _) rfl) rfl ⟨by rw [hq, HZ.out], O.below⟩
    · have hq := HQ1.out H9.out (by omega)
      exact bodyPost_ret (v := .tuple #[arr 3 (sF q.1), .bool true]) (res_h2 rfl O.held 1 rfl rfl Try.underlying34 rfl (sT _) rfl) rfl ⟨by rw [hq], O.below⟩
end Go.Proofs.Ytheolajpjpnfjaa
