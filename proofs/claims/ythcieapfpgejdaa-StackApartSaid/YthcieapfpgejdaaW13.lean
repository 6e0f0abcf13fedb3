/- Contract: the document's Top. -/
import Derived.Test.YthcieapfpgejdaaW12
namespace Go.Proofs.Ythcieapfpgejdaa
open Go.ChangeShapes Go.WideShapes Go.ChangeAt Go.RowKit
set_option linter.unusedVariables false
set_option linter.unusedSimpArgs false

theorem rows_at {G : Nat → Nat} {C : Nat → List Value} {bs : List (Nat × TypeId × List Value)} {i : Nat} (h : i < 2) : ((G 0, 27, C 0) :: (G 1, 27, C 1) :: bs)[i]? = some (G i, 27, C i) := by
  rcases i with _ | _ | i
  · rfl
  · rfl
  · omega
theorem newS_rows {w w' : World} {G : Nat → Nat} {C : Nat → List Value} {c : Nat → Nat} {L : Nat → Ent} {bs : List (Nat × TypeId × List Value)} {ls : List Ent} (O : OwnL w w' ((G 0, 27, C 0) :: (G 1, 27, C 1) :: bs) ls) (hC : ∀ i, i < 2 → RowC (C i) (c i) (L i).l) (s : Stk) (hs : ∀ i, i < 2 → (L i).l = s.l i) :
    NewS w s w' (.agg (sv s.m (rowE w G c L)).toArray) :=
  ⟨rowE w G c L, rfl, fun i hi => ⟨rfl, hs i hi, blk_lies O i (rows_at hi) (hC i hi) (O.ge i (rows_at hi))⟩⟩
theorem mode_nat {i : Nat} (h : i < 2) : ((i : Int) < 0) = False ∧ ((1 : Int) < i) = False := ⟨by simp, by simp; omega⟩
theorem mode_no {d : Int} (h : Stk.isMode d = false) : d < 0 ∨ (¬ d < 0 ∧ 1 < d) := by
  simp only [Stk.isMode, Bool.or_eq_false_iff, decide_eq_false_iff_not] at h
  omega
/-- The address of an element of a row in a block of its own. -/
theorem wp_atb {w : World} {Q : Exit → Act → World → Prop} {a : Act} {dst : Option Tmp} {ty : TypeId} {pos : String} {after : Array Edge} {K : Act → World → Prop} {x y : Operand} {gd : Option (Nat × Bool)} {g n c : Nat} (hx : a.eval x = .slice (some ⟨g, 0, none⟩) n c) {kd : IntKind} {z : Int} (i : Nat) (hy : a.eval y = .int kd z) (hz : z = (i : Int)) (hi : i < n)
    (h : K (a.put dst (.pointer (some ⟨g, i * 16, none⟩))) w) : Oper.wp Try.prog ⟨dst, .indexAddr 22 x y, ty, pos, after, gd⟩ a w K Q := by
  subst hz
  have hr : (Instr.indexAt 22 (.slice (some ⟨g, 0, none⟩) n c) (.int kd i)).run Try.prog w = .ok (.pointer (some ⟨g, i * 16, none⟩)) w := by
    have h1 : (0 : Int) ≤ i ∧ (i : Int) < n := by omega
    have ha : (⟨g, 0, none⟩ : Addr).add (i * 16) = ⟨g, i * 16, none⟩ := by unfold Addr.add; split <;> simp_all
    unfold Instr.indexAt
    simp [asIntOf, Sem.run_bind, run_underlying Try.underlying22, sizeOf27 w, hi, ha]
  unfold Oper.wp execOp
  simp only [hx, hy, Sem.run_bind, hr, Result.andThen_ok]
  exact h
set_option maxRecDepth 100000 in
set_option maxHeartbeats 4000000 in
theorem rtop_any (m : Int) (L : Nat → Ent) (d : Int) (w : World) (hL : ∀ i, i < 2 → Lies w [] (L i)) : Calls Try.prog 10 #[.agg (sv m L).toArray, .int .i64 d] w (RetTwo 16 w (Stk.top (stk m L) d)) := by
  have O := OwnL.start w [L 0, L 1] (two_all hL)
  have hu2 := Try.underlying25
  have hu3 := Try.underlying27
  clear hL
  cases hr : Stk.right (stk m L)
  · have HE : Hid (Stk.top (stk m L) d = (M.zero, 1)) := by show _ = _; simp [Stk.top, hr]
    have HR := Lib.hid hr
    clear hr
    go_enter Try.func10, Try.ntmps10
    go_wp2_with (first | ((with_reducible refine at_box 2 ?_); refine wpList_box_ls O (sv m L) rfl ?_; clear O; intro g2 w1 O) | ((with_reducible refine at_alloc 4 ?_); refine wpList_alloc_ls O (M.mat 16 M.zero) zero23 ?_; clear O; intro g4 w2 O) | ((with_reducible refine at_load 6 ?_); refine wpList_rowg_ls rfl O 1 rfl rfl Try.underlying25 rfl (s25 _ _) ?_) | (go_at_call 23; refine (rright6_any m L _ O.twoL).mono ?_; rw [HR.out]; rintro e w3 ⟨rfl, hb⟩; replace O := O.call hb; clear hb) | ((with_reducible refine at_build 17 ?_); refine wpList_build_own [] (M.mat 16 M.zero).toArray ?_ built23z ?_; (focus simp)) | ((with_reducible refine at_store 4 ?_); refine wpList_put_ls O 0 (M.mat 16 (M.zero)) rfl rfl rfl (s23 _) (M.mat_len2 _ _ _) (M.mat_one _ _) ?_; clear O; intro w4 O))
    refine bodyPost_ret (v := .tuple #[arr 16 M.zero, .int .i64 1]) (res_ls3 rfl O 0 rfl rfl Try.underlying27 rfl (s23 _) rfl) rfl ?_
    rw [HE.out]
    exact ⟨rfl, O.below⟩
  have HR := Lib.hid hr
  cases hd : Stk.isMode d
  · have HE : Hid (Stk.top (stk m L) d = (M.zero, 1)) := by show _ = _; simp [Stk.top, hd]
    clear hr
    rcases mode_no hd with q1 | ⟨q1, q2⟩
    all_goals
      clear hd
      go_enter Try.func10, Try.ntmps10
      go_wp2_with (first | ((with_reducible refine at_box 2 ?_); refine wpList_box_ls O (sv m L) rfl ?_; clear O; intro g2 w1 O) | ((with_reducible refine at_alloc 4 ?_); refine wpList_alloc_ls O (M.mat 16 M.zero) zero23 ?_; clear O; intro g4 w2 O) | ((with_reducible refine at_load 6 ?_); refine wpList_rowg_ls rfl O 1 rfl rfl Try.underlying25 rfl (s25 _ _) ?_) | (go_at_call 23; refine (rright6_any m L _ O.twoL).mono ?_; rw [HR.out]; rintro e w3 ⟨rfl, hb⟩; replace O := O.call hb; clear hb) | ((with_reducible refine at_build 17 ?_); refine wpList_build_own [] (M.mat 16 M.zero).toArray ?_ built23z ?_; (focus simp)) | ((with_reducible refine at_store 4 ?_); refine wpList_put_ls O 0 (M.mat 16 (M.zero)) rfl rfl rfl (s23 _) (M.mat_len2 _ _ _) (M.mat_one _ _) ?_; clear O; intro w4 O))
      refine bodyPost_ret (v := .tuple #[arr 16 M.zero, .int .i64 1]) (res_ls3 rfl O 0 rfl rfl Try.underlying27 rfl (s23 _) rfl) rfl ?_
      rw [HE.out]
      exact ⟨rfl, O.below⟩
  obtain ⟨i, hi, rfl⟩ := Stk.isMode_nat hd
  have hlen := right_len hr
  have hli := hlen i hi
  have hne : (L i).l ≠ [] := len_ne hli.1
  have HE : Hid (Stk.top (stk m L) i = (Stk.last (L i).l, 0)) := by show _ = _; simp only [Stk.top, hr, hd, Bool.and_true, if_true]; rw [show (i : Int).toNat = i by omega]; rfl
  have q1 : decide ((i : Int) < 0) = false := by simp
  have q2 : decide ((1 : Int) < i) = false := by simp; omega
  obtain ⟨n, hn⟩ : ∃ n : Nat, (L i).l.length = n + 1 := ⟨(L i).l.length - 1, by omega⟩
  have EV : (L i).val = .slice (L i).A (n + 1) (L i).c := by rw [← hn]; rfl
  have HV := Lib.hid (Stk.last_mem hne)
  have e1 : wrap64 (n : Int) = n := by unfold wrap64; omega
  have e2 : IntKind.i64.wrap (n : Int) = n := IntWalk.i64_in _ (by omega)
  have HNN := Lib.hid hn
  clear hr hd hlen hli hne hn
  go_enter Try.func10, Try.ntmps10
  go_wp2_with (first | ((with_reducible refine at_box 2 ?_); refine wpList_box_ls O (sv m L) rfl ?_; clear O; intro g2 w1 O) | ((with_reducible refine at_alloc 4 ?_); refine wpList_alloc_ls O (M.mat 16 M.zero) zero23 ?_; clear O; intro g4 w2 O) | ((with_reducible refine at_load 6 ?_); refine wpList_rowg_ls rfl O 1 rfl rfl Try.underlying25 rfl (s25 _ _) ?_) | (go_at_call 23; refine (rright6_any m L _ O.twoL).mono ?_; rw [HR.out]; rintro e w3 ⟨rfl, hb⟩; replace O := O.call hb; clear hb))
  refine region_T (fun w2 => OwnL w w2 [(g4, 27, M.mat 16 M.zero), (g2, 25, sv m L)] [L 0, L 1]) [0, 1, 2, 3, 4, 5, 6, 7, 8, 9, 10, 11] 12 [some 18, some 19, some 20, some 21, some 22, some 23, some 24, some 25, some 26, some 27, some 28, some 29] [.int .i64 i, .pointer (some ⟨g2, 1, none⟩), .pointer (some ⟨g2, 1 + i, none⟩), .slice (L i).A (n + 1) (L i).c, .int .i64 i, .pointer (some ⟨g2, 1, none⟩), .pointer (some ⟨g2, 1 + i, none⟩), .slice (L i).A (n + 1) (L i).c, .int .i64 ((n : Int) + 1), .int .i64 n, .pointer (some ((adr (L i).A).add (n * 16))), arr 16 (Stk.last (L i).l)] 2 (by kernel_rfl) (by rfl) (by kernel_rfl) (by rfl) (by rfl) (O.drew) (fun F hF => ?_)
  simp only [fillD, Act.put, List.setIfInBounds_toArray, List.set_cons_zero, List.set_cons_succ] at hF
  subst hF
  refine ⟨⟨does_want rfl (by rfl) (fun w' O K hK => ?_), does_want rfl (by rfl) (fun w' O K hK => ?_), does_want rfl (by rfl) (fun w' O K hK => ?_), does_want rfl (by rfl) (fun w' O K hK => ?_), does_want rfl (by rfl) (fun w' O K hK => ?_), does_want rfl (by rfl) (fun w' O K hK => ?_), does_want rfl (by rfl) (fun w' O K hK => ?_), does_want rfl (by rfl) (fun w' O K hK => ?_), does_want rfl (by rfl) (fun w' O K hK => ?_), does_want rfl (by rfl) (fun w' O K hK => ?_), does_want rfl (by rfl) (fun w' O K hK => ?_), does_want rfl (by rfl) (fun w' O K hK => ?_), trivial⟩, fun w' O => ?_⟩
  · go_simp
    exact hK _ O
  · go_simp
    exact hK _ O
  · exact wp_in_ls Try.underlying23 sizeOf22 (by decide) i rfl rfl rfl hi (hK _ O)
  · exact wp_cell_ls O 1 rfl ((sv_at _ _ hi).trans (congrArg some EV)) rfl agg22 rfl (hK _ O)
  · go_simp
    exact hK _ O
  · go_simp
    exact hK _ O
  · exact wp_in_ls Try.underlying23 sizeOf22 (by decide) i rfl rfl rfl hi (hK _ O)
  · exact wp_cell_ls O 1 rfl ((sv_at _ _ hi).trans (congrArg some EV)) rfl agg22 rfl (hK _ O)
  · go_simp
    exact hK _ O
  · go_simp
    exact hK _ O
  · exact wp_at_ls Try.underlying22 sizeOf27 O i (twoL_at L _ hi) rfl n rfl rfl (by omega) (by have := HNN.out; omega) (hK _ O)
  · exact wp_elem_ls O i (twoL_at L _ hi) n (by have := HV.out; rwa [HNN.out, Nat.add_sub_cancel] at this) rfl Try.underlying27 rfl size23 (hK _ O)
  refine wpAny_want (i := 12) (by kernel_rfl) rfl (by rfl) (fun K hK => ?_)
  refine wp_put_ls O 0 (M.mat 16 (Stk.last (L i).l)) rfl rfl rfl (s23 _) (M.mat_len2 _ _ _) (M.mat_one _ _) fun w9 O9 => hK _ _ ?_
  clear O
  have O := O9
  clear O9
  clear hK K
  try simp only [Act.put, List.setIfInBounds_toArray, List.set_cons_zero, List.set_cons_succ]
  refine wpAny_one (i := 13) (by kernel_rfl) rfl (fun K hK => ?_)
  go_simp
  refine hK _ _ ?_
  clear hK K
  try simp only [Act.put, List.setIfInBounds_toArray, List.set_cons_zero, List.set_cons_succ]
  refine wpAny_done (by kernel_rfl) ?_ _
  go_wp2_with fail
  refine bodyPost_ret (v := .tuple #[arr 16 (Stk.last (L i).l), .int .i64 0]) (res_ls3 rfl O 0 rfl rfl Try.underlying27 rfl (s23 _) rfl) rfl ?_
  rw [HE.out]
  exact ⟨rfl, O.below⟩
end Go.Proofs.Ythcieapfpgejdaa
