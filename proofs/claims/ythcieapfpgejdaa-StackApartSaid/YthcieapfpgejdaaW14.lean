/- Contract: the document's Choose. -/
import Derived.Test.YthcieapfpgejdaaW13
namespace Go.Proofs.Ythcieapfpgejdaa
open Go.ChangeShapes Go.WideShapes Go.ChangeAt Go.RowKit
set_option linter.unusedVariables false
set_option linter.unusedSimpArgs false

set_option maxRecDepth 100000 in
set_option maxHeartbeats 4000000 in
theorem rchoose_any (m : Int) (L : Nat → Ent) (d : Int) (w : World) (hL : ∀ i, i < 2 → Lies w [] (L i)) : Calls Try.prog 12 #[.agg (sv m L).toArray, .int .i64 d] w (RetSE w (Stk.choose (stk m L) d)) := by
  have O := OwnL.start w [L 0, L 1] (two_all hL)
  have hu2 := Try.underlying25
  have hu3 := Try.underlying27
  clear hL
  cases hr : Stk.right (stk m L)
  · have HE : Hid (Stk.choose (stk m L) d = (Stk.none_, 1)) := by show _ = _; simp [Stk.choose, hr]
    have HR := Lib.hid hr
    clear hr
    go_enter Try.func12, Try.ntmps12
    go_wp2_with (first | ((with_reducible refine at_box 2 ?_); refine wpList_box_ls O (sv m L) rfl ?_; clear O; intro g2 w1 O) | ((with_reducible refine at_alloc 4 ?_); refine wpList_alloc_ls O (sv 0 (noL 0)) zero25 ?_; clear O; intro g4 w2 O) | ((with_reducible refine at_load 6 ?_); refine wpList_rowg_ls rfl O 1 rfl rfl Try.underlying25 rfl (s25 _ _) ?_) | (go_at_call 23; refine (rright6_any m L _ O.twoL).mono ?_; rw [HR.out]; rintro e w3 ⟨rfl, hb⟩; replace O := O.call hb; clear hb) | ((with_reducible refine at_build 17 ?_); refine wpList_build_own [] (sv 0 (noL 0)).toArray ?_ built25z ?_; (focus simp)) | ((with_reducible refine at_store 4 ?_); refine wpList_put_ls O 0 (sv (0) (noL 0)) rfl rfl rfl (s25 _ _) (sv_len _ _ _ _) (sv_one _ _) ?_; clear O; intro w4 O))
    refine bodyPost_ret (v := .tuple #[.agg (sv 0 (noL 0)).toArray, .int .i64 1]) (res_ls3 rfl O 0 rfl rfl Try.underlying25 rfl (s25 _ _) rfl) rfl ?_
    rw [HE.out]
    exact ⟨_, rfl, newS_none _ _, O.below⟩
  have HR := Lib.hid hr
  cases hd : Stk.isMode d
  · have HE : Hid (Stk.choose (stk m L) d = (Stk.none_, 1)) := by show _ = _; simp [Stk.choose, hd]
    clear hr
    rcases mode_no hd with q1 | ⟨q1, q2⟩
    all_goals
      clear hd
      go_enter Try.func12, Try.ntmps12
      go_wp2_with (first | ((with_reducible refine at_box 2 ?_); refine wpList_box_ls O (sv m L) rfl ?_; clear O; intro g2 w1 O) | ((with_reducible refine at_alloc 4 ?_); refine wpList_alloc_ls O (sv 0 (noL 0)) zero25 ?_; clear O; intro g4 w2 O) | ((with_reducible refine at_load 6 ?_); refine wpList_rowg_ls rfl O 1 rfl rfl Try.underlying25 rfl (s25 _ _) ?_) | (go_at_call 23; refine (rright6_any m L _ O.twoL).mono ?_; rw [HR.out]; rintro e w3 ⟨rfl, hb⟩; replace O := O.call hb; clear hb) | ((with_reducible refine at_build 17 ?_); refine wpList_build_own [] (sv 0 (noL 0)).toArray ?_ built25z ?_; (focus simp)) | ((with_reducible refine at_store 4 ?_); refine wpList_put_ls O 0 (sv (0) (noL 0)) rfl rfl rfl (s25 _ _) (sv_len _ _ _ _) (sv_one _ _) ?_; clear O; intro w4 O))
      refine bodyPost_ret (v := .tuple #[.agg (sv 0 (noL 0)).toArray, .int .i64 1]) (res_ls3 rfl O 0 rfl rfl Try.underlying25 rfl (s25 _ _) rfl) rfl ?_
      rw [HE.out]
      exact ⟨_, rfl, newS_none _ _, O.below⟩
  obtain ⟨i, hi, rfl⟩ := Stk.isMode_nat hd
  have hlen := right_len hr
  have HE : Hid (Stk.choose (stk m L) i = (⟨i, (stk m L).l⟩, 0)) := by show _ = _; simp [Stk.choose, hr, hd]
  have q1 : decide ((i : Int) < 0) = false := by simp
  have q2 : decide ((1 : Int) < i) = false := by simp; omega
  have HN := Lib.hid hlen
  clear hr hd hlen
  go_enter Try.func12, Try.ntmps12
  go_wp2_with (first | ((with_reducible refine at_box 2 ?_); refine wpList_box_ls O (sv m L) rfl ?_; clear O; intro g2 w1 O) | ((with_reducible refine at_alloc 4 ?_); refine wpList_alloc_ls O (sv 0 (noL 0)) zero25 ?_; clear O; intro g4 w2 O) | ((with_reducible refine at_load 6 ?_); refine wpList_rowg_ls rfl O 1 rfl rfl Try.underlying25 rfl (s25 _ _) ?_) | (go_at_call 23; refine (rright6_any m L _ O.twoL).mono ?_; rw [HR.out]; rintro e w3 ⟨rfl, hb⟩; replace O := O.call hb; clear hb) | ((with_reducible refine at_load 18 ?_); refine wpList_rowg_ls rfl O 1 rfl rfl Try.underlying25 rfl (s25 _ _) ?_) | (go_at_call 33; refine (rows_any _ L _ O.twoL (fun k hk => by have := HN.out k hk; omega)).mono ?_; rintro e w5 ⟨G, C, c, rfl, hO, hC⟩; have O2 := O.join hO; clear O hO; have O := O2; clear O2; simp only [rowsB, List.cons_append, List.nil_append] at O; have HC := Lib.hid hC; clear hC) | ((with_reducible refine at_store 2 ?_); refine wpList_put_ls O 3 (sv (m) (rowE w G c L)) rfl rfl rfl (s25 _ _) (sv_len _ _ _ _) (sv_one _ _) ?_; clear O; intro w6 O) | ((with_reducible refine at_store 21 ?_); refine wpList_set_ls O 3 (.int .i64 i) rfl (by simp only [sv, List.length_cons, List.length_nil]; omega) rfl rfl size3 rfl rfl ?_; clear O; intro w7 O; simp only [List.set_cons_zero, List.set_cons_succ, sv_mode] at O) | ((with_reducible refine at_load 22 ?_); refine wpList_rowg_ls rfl O 3 rfl rfl Try.underlying25 rfl (s25 _ _) ?_) | ((with_reducible refine at_store 4 ?_); refine wpList_put_ls O 2 (sv (i) (rowE w G c L)) rfl rfl rfl (s25 _ _) (sv_len _ _ _ _) (sv_one _ _) ?_; clear O; intro w8 O))
  refine bodyPost_ret (v := .tuple #[.agg (sv i (rowE w G c L)).toArray, .int .i64 0]) (res_ls3 rfl O 2 rfl rfl Try.underlying25 rfl (s25 _ _) rfl) rfl ?_
  rw [HE.out]
  exact ⟨_, rfl, newS_rows O HC.out ⟨i, (stk m L).l⟩ (fun k hk => rfl), O.below⟩
end Go.Proofs.Ythcieapfpgejdaa
