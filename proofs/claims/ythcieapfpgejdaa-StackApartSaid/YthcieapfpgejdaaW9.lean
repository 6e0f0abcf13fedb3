/- Contracts: Top, New. -/
import Derived.Test.YthcieapfpgejdaaW8
namespace Go.Proofs.Ythcieapfpgejdaa
open Go.ChangeShapes Go.WideShapes Go.ChangeAt Go.RowKit
set_option linter.unusedVariables false
set_option linter.unusedSimpArgs false

set_option maxRecDepth 100000 in
set_option maxHeartbeats 4000000 in
theorem top_any (m : Int) (L : Nat → Ent) (d : Int) (w : World) (hL : ∀ i, i < 2 → Lies w [] (L i)) : Calls Try.prog 9 #[.agg (sv m L).toArray, .int .i64 d] w (RetTwo 16 w (Stk.top (stk m L) d)) := by
  have O := OwnL.start w [L 0, L 1] (two_all hL)
  have hu2 := Try.underlying25
  have hu3 := Try.underlying27
  clear hL
  cases hr : Stk.right (stk m L)
  · have HE : Hid (Stk.top (stk m L) d = (M.zero, 1)) := by show _ = _; simp [Stk.top, hr]
    have HR := Lib.hid hr
    clear hr
    go_enter Try.func9, Try.ntmps9
    go_wp2_with (first | ((with_reducible refine at_box 2 ?_); refine wpList_box_ls O (sv m L) rfl ?_; clear O; intro g2 w1 O) | ((with_reducible refine at_alloc 4 ?_); refine wpList_alloc_ls O (M.mat 16 M.zero) zero23 ?_; clear O; intro g4 w2 O) | ((with_reducible refine at_load 6 ?_); refine wpList_rowg_ls rfl O 1 rfl rfl Try.underlying25 rfl (s25 _ _) ?_) | (go_at_call 22; refine (right6_any m L _ O.twoL).mono ?_; rw [HR.out]; rintro e w3 ⟨rfl, hb⟩; replace O := O.call hb; clear hb) | ((with_reducible refine at_build 14 ?_); refine wpList_build_own [] (M.mat 16 M.zero).toArray ?_ built23z ?_; (focus simp)) | ((with_reducible refine at_store 4 ?_); refine wpList_put_ls O 0 (M.mat 16 (M.zero)) rfl rfl rfl (s23 _) (M.mat_len2 _ _ _) (M.mat_one _ _) ?_; clear O; intro w4 O))
    refine bodyPost_ret (v := .tuple #[arr 16 M.zero, .int .i64 1]) (res_ls3 rfl O 0 rfl rfl Try.underlying27 rfl (s23 _) rfl) rfl ?_
    rw [HE.out]
    exact ⟨rfl, O.below⟩
  cases hd : Stk.isMode d
  · have HE : Hid (Stk.top (stk m L) d = (M.zero, 1)) := by show _ = _; simp [Stk.top, hd]
    have HR := Lib.hid hr
    have HD := Lib.hid hd
    clear hr hd
    go_enter Try.func9, Try.ntmps9
    go_wp2_with (first | ((with_reducible refine at_box 2 ?_); refine wpList_box_ls O (sv m L) rfl ?_; clear O; intro g2 w1 O) | ((with_reducible refine at_alloc 4 ?_); refine wpList_alloc_ls O (M.mat 16 M.zero) zero23 ?_; clear O; intro g4 w2 O) | ((with_reducible refine at_load 6 ?_); refine wpList_rowg_ls rfl O 1 rfl rfl Try.underlying25 rfl (s25 _ _) ?_) | (go_at_call 22; refine (right6_any m L _ O.twoL).mono ?_; rw [HR.out]; rintro e w3 ⟨rfl, hb⟩; replace O := O.call hb; clear hb) | (go_at_call 30; refine (isMode_any d _).mono ?_; rw [HD.out]; rintro e w6 ⟨rfl, rfl⟩) | ((with_reducible refine at_build 14 ?_); refine wpList_build_own [] (M.mat 16 M.zero).toArray ?_ built23z ?_; (focus simp)) | ((with_reducible refine at_store 4 ?_); refine wpList_put_ls O 0 (M.mat 16 (M.zero)) rfl rfl rfl (s23 _) (M.mat_len2 _ _ _) (M.mat_one _ _) ?_; clear O; intro w4 O))
    refine bodyPost_ret (v := .tuple #[arr 16 M.zero, .int .i64 1]) (res_ls3 rfl O 0 rfl rfl Try.underlying27 rfl (s23 _) rfl) rfl ?_
    rw [HE.out]
    exact ⟨rfl, O.below⟩
  obtain ⟨i, hi, rfl⟩ := Stk.isMode_nat hd
  have hlen := right_len hr
  have hli := hlen i hi
  have hne : (L i).l ≠ [] := len_ne hli.1
  have HE : Hid (Stk.top (stk m L) i = (Stk.last (L i).l, 0)) := by show _ = _; simp only [Stk.top, hr, hd, Bool.and_true, if_true]; rw [show (i : Int).toNat = i by omega]; rfl
  have HR := Lib.hid hr
  have HD := Lib.hid hd
  have HI := Lib.hid hli
  have HNE := Lib.hid hne
  clear hr hd hlen hli hne
  go_enter Try.func9, Try.ntmps9
  go_wp2_with (first | ((with_reducible refine at_box 2 ?_); refine wpList_box_ls O (sv m L) rfl ?_; clear O; intro g2 w1 O) | ((with_reducible refine at_alloc 4 ?_); refine wpList_alloc_ls O (M.mat 16 M.zero) zero23 ?_; clear O; intro g4 w2 O) | ((with_reducible refine at_load 6 ?_); refine wpList_rowg_ls rfl O 1 rfl rfl Try.underlying25 rfl (s25 _ _) ?_) | (go_at_call 22; refine (right6_any m L _ O.twoL).mono ?_; rw [HR.out]; rintro e w3 ⟨rfl, hb⟩; replace O := O.call hb; clear hb) | (go_at_call 30; refine (isMode_any i _).mono ?_; rw [HD.out]; rintro e w6 ⟨rfl, rfl⟩) | ((with_reducible refine at_index 17 ?_); refine wpList_in_ls rfl Try.underlying23 sizeOf22 (by decide) (i) rfl rfl (rfl) (hi) ?_) | ((with_reducible refine at_load 18 ?_); refine wpList_cell_ls rfl O 1 rfl (sv_at _ _ hi) rfl agg22 rfl ?_) | (go_at_call 31; refine (last_any (L i) _ (O.ret i (twoL_at L _ hi)) HNE.out (by have := HI.out; omega)).mono ?_; rintro e w7 ⟨rfl, hb⟩; replace O := O.call hb; clear hb) | ((with_reducible refine at_store 4 ?_); refine wpList_put_ls O 0 (M.mat 16 (Stk.last (L i).l)) rfl rfl rfl (s23 _) (M.mat_len2 _ _ _) (M.mat_one _ _) ?_; clear O; intro w8 O))
  refine bodyPost_ret (v := .tuple #[arr 16 (Stk.last (L i).l), .int .i64 0]) (res_ls3 rfl O 0 rfl rfl Try.underlying27 rfl (s23 _) rfl) rfl ?_
  rw [HE.out]
  exact ⟨rfl, O.below⟩
set_option maxRecDepth 100000 in
set_option maxHeartbeats 4000000 in
theorem new_any (w : World) : Calls Try.prog 24 #[] w (RetS w Stk.new) := by
  have O := OwnL.start w [] (by simp)
  have hu2 := Try.underlying25
  have hu3 := Try.underlying27
  go_enter Try.func24, Try.ntmps24
  go_wp2_with (first | ((with_reducible refine at_alloc 0 ?_); refine wpList_alloc_ls O (sv 0 (noL 0)) zero25 ?_; clear O; intro g0 w1 O) | ((with_reducible refine at_alloc 1 ?_); refine wpList_alloc_ls O (sv 0 (noL 0)) zero25 ?_; clear O; intro g1 w2 O))
  go_loopw [3] (fun u wr => ∃ k : Nat, k ≤ 2 ∧ u = .int .i64 k ∧ ∃ (L : Nat → Ent) (ls : List Ent), OwnL w wr [(g1, 25, sv 0 L), (g0, 25, sv 0 (noL 0))] ls ∧ ∀ i, i < k → L i ∈ ls ∧ (L i).lo = w.heap.size ∧ (L i).l = [M.unit]) (fun u _ => 2 - (intOf u).toNat)
  case atStart => exact ⟨0, by omega, rfl, noL 0, [], O, fun i hi => absurd hi (by omega)⟩
  case round =>
    clear O
    obtain ⟨k, hk, rfl, L, ls, O, hall⟩ := hrel
    have HA := Lib.hid hall
    clear hall
    have q0 : (0 : Int) ≤ k := by omega
    by_cases hlt : k < 2
    · have q1 : (k : Int) < 2 := by omega
      go_wp2_with (first | (go_at_call 38; refine (unit_any _).mono ?_; rintro e w6 ⟨rfl, hb⟩; replace O := O.call hb; clear hb) | ((with_reducible refine at_lit 8 ?_); refine wpList_lit_ls rfl O M.unit rfl ?_; clear O; intro g7 w7 O) | ((with_reducible refine at_index 10 ?_); refine wpList_in_ls rfl Try.underlying23 sizeOf22 (by decide) (k) rfl rfl (rfl) (hlt) ?_) | ((with_reducible refine at_store 10 ?_); refine wpList_set_ls O 0 (Ent.val ⟨w.heap.size, some ⟨g7, 0, none⟩, 1, [M.unit]⟩) rfl (by simp only [sv, List.length_cons, List.length_nil]; omega) rfl rfl size22 rfl rfl ?_; clear O; intro w9 O; simp only [List.set_cons_zero, List.set_cons_succ, sv_set _ _ hlt] at O))
      go_roundw
      case rel =>
        refine ⟨k + 1, by omega, by go_num, _, _, O, fun i hi => ?_⟩
        by_cases e : i = k
        · subst e
          rw [putL_at]
          exact ⟨List.mem_cons_self, rfl, rfl⟩
        · rw [show putL L k _ i = L i by simp [putL, e]]
          obtain ⟨h1, h2, h3⟩ := HA.out i (by omega)
          exact ⟨List.mem_cons_of_mem _ h1, h2, h3⟩
      case measure => simp [intOf]; omega
    · have q1 : ¬ (k : Int) < 2 := by omega
      obtain rfl : k = 2 := by omega
      go_wp2_with (first | ((with_reducible refine at_load 12 ?_); refine wpList_rowg_ls rfl O 0 rfl rfl Try.underlying25 rfl (s25 _ _) ?_) | ((with_reducible refine at_store 0 ?_); refine wpList_put_ls O 1 (sv (0) (L)) rfl rfl rfl (s25 _ _) (sv_len _ _ _ _) (sv_one _ _) ?_; clear O; intro w5 O))
      exact bodyPost_ret (v := .agg (sv 0 L).toArray) (res_ls rfl O 1 rfl rfl Try.underlying25 rfl (s25 _ _)) rfl ⟨_, rfl, newS_of (s := Stk.new) O L (fun i hi => (HA.out i hi).1) (fun i hi => (HA.out i hi).2), O.below⟩
end Go.Proofs.Ythcieapfpgejdaa
