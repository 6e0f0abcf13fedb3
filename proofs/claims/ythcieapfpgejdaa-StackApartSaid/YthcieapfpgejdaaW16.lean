/- Contract: the document's Pop. -/
import Derived.Test.YthcieapfpgejdaaW15
namespace Go.Proofs.Ythcieapfpgejdaa
open Go.ChangeShapes Go.WideShapes Go.ChangeAt Go.RowKit
set_option linter.unusedVariables false
set_option linter.unusedSimpArgs false

set_option maxRecDepth 100000 in
set_option maxHeartbeats 4000000 in
theorem rpop_any (m : Int) (L : Nat → Ent) (w : World) (hL : ∀ i, i < 2 → Lies w [] (L i)) : Calls Try.prog 21 #[.agg (sv m L).toArray] w (RetSE w (Stk.pop (stk m L))) := by
  have O := OwnL.start w [L 0, L 1] (two_all hL)
  have hu2 := Try.underlying25
  have hu3 := Try.underlying27
  clear hL
  cases hr : Stk.right (stk m L)
  · have HE : Hid (Stk.pop (stk m L) = (Stk.none_, 1)) := by show _ = _; simp [Stk.pop, hr]
    have HR := Lib.hid hr
    clear hr
    go_enter Try.func21, Try.ntmps21
    go_wp2_with (first | ((with_reducible refine at_box 1 ?_); refine wpList_box_ls O (sv m L) rfl ?_; clear O; intro g2 w1 O) | ((with_reducible refine at_alloc 2 ?_); refine wpList_alloc_ls O (sv 0 (noL 0)) zero25 ?_; clear O; intro g4 w2 O) | ((with_reducible refine at_load 5 ?_); refine wpList_rowg_ls rfl O 1 rfl rfl Try.underlying25 rfl (s25 _ _) ?_) | (go_at_call 23; refine (rright6_any m L _ O.twoL).mono ?_; rw [HR.out]; rintro e w3 ⟨rfl, hb⟩; replace O := O.call hb; clear hb) | ((with_reducible refine at_build 8 ?_); refine wpList_build_own [] (sv 0 (noL 0)).toArray ?_ built25z ?_; (focus simp)) | ((with_reducible refine at_store 2 ?_); refine wpList_put_ls O 0 (sv (0) (noL 0)) rfl rfl rfl (s25 _ _) (sv_len _ _ _ _) (sv_one _ _) ?_; clear O; intro w4 O))
    refine bodyPost_ret (v := .tuple #[.agg (sv 0 (noL 0)).toArray, .int .i64 1]) (res_ls3 rfl O 0 rfl rfl Try.underlying25 rfl (s25 _ _) rfl) rfl ?_
    rw [HE.out]
    exact ⟨_, rfl, newS_none _ _, O.below⟩
  obtain ⟨i, hi, rfl⟩ := Stk.isMode_nat (Stk.isMode_iff.2 (Stk.right_iff.1 hr).1)
  have hlen := right_len hr
  have hli := hlen i hi
  have hne : (L i).l ≠ [] := len_ne hli.1
  have hmt : (stk i L).meant = (L i).l := by show (L (i : Int).toNat).l = _; rw [show (i : Int).toNat = i by omega]
  obtain ⟨n, hn⟩ : ∃ n : Nat, (L i).l.length = n + 1 := ⟨(L i).l.length - 1, by omega⟩
  have EV : (L i).val = .slice (L i).A (n + 1) (L i).c := by rw [← hn]; rfl
  have e1 : wrap64 (n : Int) = n := by unfold wrap64; omega
  have e2 : IntKind.i64.wrap (n : Int) = n := IntWalk.i64_in _ (by omega)
  have HNN := Lib.hid hn
  by_cases h8 : n = 0
  · subst h8
    have HE : Hid (Stk.pop (stk i L) = (Stk.none_, 7)) := by show _ = _; simp [Stk.pop, hr, hmt, hn]
    have HR := Lib.hid hr
    clear hr hlen hli hne hmt hn e1 e2
    go_enter Try.func21, Try.ntmps21
    go_wp2_with (first | ((with_reducible refine at_box 1 ?_); refine wpList_box_ls O (sv i L) rfl ?_; clear O; intro g2 w1 O) | ((with_reducible refine at_alloc 2 ?_); refine wpList_alloc_ls O (sv 0 (noL 0)) zero25 ?_; clear O; intro g4 w2 O) | ((with_reducible refine at_load 5 ?_); refine wpList_rowg_ls rfl O 1 rfl rfl Try.underlying25 rfl (s25 _ _) ?_) | (go_at_call 23; refine (rright6_any i L _ O.twoL).mono ?_; rw [HR.out]; rintro e w3 ⟨rfl, hb⟩; replace O := O.call hb; clear hb) | ((with_reducible refine at_load 10 ?_); refine wpList_cell_ls rfl O 1 rfl (rfl) rfl agg3 rfl ?_) | ((with_reducible refine at_index 12 ?_); refine wpList_in_ls rfl Try.underlying23 sizeOf22 (by decide) (i) rfl rfl (rfl) (hi) ?_) | ((with_reducible refine at_load 13 ?_); refine wpList_cell_ls rfl O 1 rfl ((sv_at _ _ hi).trans (congrArg some EV)) rfl agg22 rfl ?_) | ((with_reducible refine at_build 18 ?_); refine wpList_build_own [] (sv 0 (noL 0)).toArray ?_ built25z ?_; (focus simp)) | ((with_reducible refine at_store 2 ?_); refine wpList_put_ls O 0 (sv (0) (noL 0)) rfl rfl rfl (s25 _ _) (sv_len _ _ _ _) (sv_one _ _) ?_; clear O; intro w4 O))
    refine bodyPost_ret (v := .tuple #[.agg (sv 0 (noL 0)).toArray, .int .i64 7]) (res_ls3 rfl O 0 rfl rfl Try.underlying25 rfl (s25 _ _) rfl) rfl ?_
    rw [HE.out]
    exact ⟨_, rfl, newS_none _ _, O.below⟩
  have HE : Hid (Stk.pop (stk i L) = ((stk i L).put (L i).l.dropLast, 0)) := by show _ = _; simp [Stk.pop, hr, hmt, hn, h8]
  have q8 : ((n : Int) == 0) = false := by simp; omega
  clear h8
  have HR := Lib.hid hr
  have HN := Lib.hid hlen
  have HI := Lib.hid hli
  have HNE := Lib.hid hne
  clear hr hlen hli hne hmt hn
  go_enter Try.func21, Try.ntmps21
  go_wp2_with (first | ((with_reducible refine at_box 1 ?_); refine wpList_box_ls O (sv i L) rfl ?_; clear O; intro g2 w1 O) | ((with_reducible refine at_alloc 2 ?_); refine wpList_alloc_ls O (sv 0 (noL 0)) zero25 ?_; clear O; intro g4 w2 O) | ((with_reducible refine at_load 5 ?_); refine wpList_rowg_ls rfl O 1 rfl rfl Try.underlying25 rfl (s25 _ _) ?_) | (go_at_call 23; refine (rright6_any i L _ O.twoL).mono ?_; rw [HR.out]; rintro e w3 ⟨rfl, hb⟩; replace O := O.call hb; clear hb) | ((with_reducible refine at_load 10 ?_); refine wpList_cell_ls rfl O 1 rfl (rfl) rfl agg3 rfl ?_) | ((with_reducible refine at_index 12 ?_); refine wpList_in_ls rfl Try.underlying23 sizeOf22 (by decide) (i) rfl rfl (rfl) (hi) ?_) | ((with_reducible refine at_load 13 ?_); refine wpList_cell_ls rfl O 1 rfl ((sv_at _ _ hi).trans (congrArg some EV)) rfl agg22 rfl ?_) | ((with_reducible refine at_load 19 ?_); refine wpList_rowg_ls rfl O 1 rfl rfl Try.underlying25 rfl (s25 _ _) ?_) | (go_at_call 33; refine (rows_any _ L _ O.twoL (fun k hk => by have := HN.out k hk; omega)).mono ?_; rintro e w5 ⟨G, C, c, rfl, hO, hC⟩; have O2 := O.join hO; clear O hO; have O := O2; clear O2; simp only [rowsB, List.cons_append, List.nil_append] at O; have HC := Lib.hid hC; clear hC) | ((with_reducible refine at_store 1 ?_); refine wpList_put_ls O 3 (sv (i) (rowE w G c L)) rfl rfl rfl (s25 _ _) (sv_len _ _ _ _) (sv_one _ _) ?_; clear O; intro w6 O))
  have HRW : Hid ((rowE w G c L i).val = .slice (some ⟨G i, 0, none⟩) (n + 1) (c i)) := by show _ = _; rw [← HNN.out]; rfl
  refine region_T (fun w2 => OwnL w w2 ((G 0, 27, C 0) :: (G 1, 27, C 1) :: [(g4, 25, sv 0 (noL 0)), (g2, 25, sv i (rowE w G c L))]) [L 0, L 1]) [0, 1, 2, 3, 4, 5, 6, 7, 8, 9, 10] 12 [some 21, some 22, some 23, some 24, some 25, some 26, some 27, some 28, some 29, some 30, some 31] [.pointer (some ⟨g2, 0, none⟩), .int .i64 i, .pointer (some ⟨g2, 0, none⟩), .int .i64 i, .pointer (some ⟨g2, 1, none⟩), .pointer (some ⟨g2, 1 + i, none⟩), .slice (some ⟨G i, 0, none⟩) (n + 1) (c i), .int .i64 n, .slice (some ⟨G i, 0, none⟩) n (c i), .pointer (some ⟨g2, 1, none⟩), .pointer (some ⟨g2, 1 + i, none⟩)] 1 (by kernel_rfl) (by rfl) (by kernel_rfl) (by rfl) (by rfl) (O.drew) (fun F hF => ?_)
  simp only [fillD, Act.put, List.setIfInBounds_toArray, List.set_cons_zero, List.set_cons_succ] at hF
  subst hF
  refine ⟨⟨does_want rfl (by rfl) (fun w' O K hK => ?_), does_want rfl (by rfl) (fun w' O K hK => ?_), does_want rfl (by rfl) (fun w' O K hK => ?_), does_want rfl (by rfl) (fun w' O K hK => ?_), does_want rfl (by rfl) (fun w' O K hK => ?_), does_want rfl (by rfl) (fun w' O K hK => ?_), does_want rfl (by rfl) (fun w' O K hK => ?_), does_want rfl (by rfl) (fun w' O K hK => ?_), does_want rfl (by rfl) (fun w' O K hK => ?_), does_want rfl (by rfl) (fun w' O K hK => ?_), does_want rfl (by rfl) (fun w' O K hK => ?_), trivial⟩, fun w' O => ?_⟩
  · go_simp
    exact hK _ O
  · exact wp_cell_ls O 3 rfl (i := 0) rfl rfl agg3 rfl (hK _ O)
  · go_simp
    exact hK _ O
  · exact wp_cell_ls O 3 rfl (i := 0) rfl rfl agg3 rfl (hK _ O)
  · go_simp
    exact hK _ O
  · exact wp_in_ls Try.underlying23 sizeOf22 (by decide) i rfl rfl rfl hi (hK _ O)
  · exact wp_cell_ls O 3 rfl ((sv_at _ _ hi).trans (congrArg some HRW.out)) rfl agg22 rfl (hK _ O)
  · go_simp
    exact hK _ O
  · have hcut := run_cut6 (some ⟨G i, 0, none⟩) (n := n + 1) (c := c i) (k := n) (by have h2 := (HC.out i hi).le; have h3 := HNN.out; omega)
    go_simp
    exact hK _ O
  · go_simp
    exact hK _ O
  · exact wp_in_ls Try.underlying23 sizeOf22 (by decide) i rfl rfl rfl hi (hK _ O)
  refine wpAny_want (i := 11) (by kernel_rfl) rfl (by rfl) (fun K hK => ?_)
  refine wp_set_ls O 3 (Ent.val (rowE w G c (putE L i (L i).l.dropLast) i)) rfl (by simp only [sv, List.length_cons, List.length_nil]; omega) rfl (by show Value.slice _ _ _ = Value.slice _ _ _; simp [rowE, putE, HNN.out]) size22 rfl rfl fun w9 O9 => hK _ _ ?_
  clear O
  have O := O9
  clear O9
  simp only [List.set_cons_zero, List.set_cons_succ, sv_set _ _ hi] at O
  clear hK K
  try simp only [Act.put, List.setIfInBounds_toArray, List.set_cons_zero, List.set_cons_succ]
  refine wpAny_done (by kernel_rfl) ?_ _
  have ES : putL (rowE w G c L) i (rowE w G c (putE L i (L i).l.dropLast) i) = rowE w G c (putE L i (L i).l.dropLast) := by
    funext j
    by_cases e : j = i
    · subst e
      simp [putL]
    · simp [putL, e, rowE, putE]
  rw [ES] at O
  clear ES
  go_wp2_with (first | ((with_reducible refine at_load 32 ?_); refine wpList_rowg_ls rfl O 3 rfl rfl Try.underlying25 rfl (s25 _ _) ?_) | ((with_reducible refine at_store 2 ?_); refine wpList_put_ls O 2 (sv (i) (rowE w G c (putE L i (L i).l.dropLast))) rfl rfl rfl (s25 _ _) (sv_len _ _ _ _) (sv_one _ _) ?_; clear O; intro w8 O))
  refine bodyPost_ret (v := .tuple #[.agg (sv i (rowE w G c (putE L i (L i).l.dropLast))).toArray, .int .i64 0]) (res_ls3 rfl O 2 rfl rfl Try.underlying25 rfl (s25 _ _) rfl) rfl ?_
  rw [HE.out]
  refine ⟨_, rfl, newS_rows (L := putE L i (L i).l.dropLast) O (fun j hj => ?_) ((stk i L).put (L i).l.dropLast) (putE_stk L _), O.below⟩
  by_cases e : j = i
  · subst e
    simpa [putE] using (HC.out j hj).cut
  · simpa [putE, e] using HC.out j hj
end Go.Proofs.Ythcieapfpgejdaa
