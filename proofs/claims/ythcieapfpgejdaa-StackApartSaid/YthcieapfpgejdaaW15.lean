/- Contract: the document's Load. -/
import Derived.Test.YthcieapfpgejdaaW14
namespace Go.Proofs.Ythcieapfpgejdaa
open Go.ChangeShapes Go.WideShapes Go.ChangeAt Go.RowKit
set_option linter.unusedVariables false
set_option linter.unusedSimpArgs false

/-- The last matrix of a row is another one. -/
theorem RowC.last {cs : List Value} {c n : Nat} {l : List (Nat → Int)} (h : RowC cs c l) (hn : l.length = n + 1) (x : Nat → Int) : RowC (cs.take (n * 16) ++ M.mat 16 x ++ cs.drop (n * 16 + 16)) c (l.dropLast ++ [x]) := by
  have h1 := h.le
  have h2 := h.len
  have hl : (l.dropLast ++ [x]).length = n + 1 := by simp [hn]
  have e1 : cs.take (n * 16) = M.cells l.dropLast := by
    rw [List.dropLast_eq_take, hn, Nat.add_sub_cancel, M.cells_take, ← h.take, List.take_take, hn]
    congr 1
    omega
  have e2 : (cs.take (n * 16) ++ M.mat 16 x).length = (n + 1) * 16 := by
    rw [List.length_append, M.mat_len, List.length_take]
    omega
  refine ⟨?_, ?_, by omega, h.max⟩
  · rw [hl, ← e2, List.take_left, e1, M.cells_app]
    simp [M.cells]
  · rw [List.length_append, e2, List.length_drop]
    omega
theorem RowC.cut {cs : List Value} {c : Nat} {l : List (Nat → Int)} (h : RowC cs c l) : RowC cs c l.dropLast := by
  have h1 := h.le
  refine ⟨?_, h.len, by simp only [List.length_dropLast]; omega, h.max⟩
  rw [List.length_dropLast, List.dropLast_eq_take, M.cells_take, ← h.take, List.take_take]
  congr 1
  omega
/-- One of the two lists another one. -/
def putE (L : Nat → Ent) (i : Nat) (l : List (Nat → Int)) (j : Nat) : Ent := if j = i then ⟨(L j).lo, (L j).A, (L j).c, l⟩ else L j
theorem rows_set {G : Nat → Nat} {C : Nat → List Value} {bs : List (Nat × TypeId × List Value)} {i : Nat} (h : i < 2) (cs : List Value) : ((G 0, 27, C 0) :: (G 1, 27, C 1) :: bs).set i (G i, 27, cs) = (G 0, 27, (fun j => if j = i then cs else C j) 0) :: (G 1, 27, (fun j => if j = i then cs else C j) 1) :: bs := by
  rcases i with _ | _ | i
  · rfl
  · rfl
  · omega
theorem putE_rows {C : Nat → List Value} {c : Nat → Nat} {L : Nat → Ent} {i : Nat} (hC : ∀ j, j < 2 → RowC (C j) (c j) (L j).l) {cs : List Value} {l : List (Nat → Int)} (h : RowC cs (c i) l) : ∀ j, j < 2 → RowC ((fun j => if j = i then cs else C j) j) (c j) (putE L i l j).l := fun j hj => by
  by_cases e : j = i
  · subst e
    simpa [putE] using h
  · simpa [putE, e] using hC j hj
theorem putE_stk {i : Nat} (L : Nat → Ent) (l : List (Nat → Int)) : ∀ j, j < 2 → (putE L i l j).l = ((stk i L).put l).l j := fun j _ => by
  show _ = if j = (i : Int).toNat then l else (L j).l
  by_cases e : j = i
  · subst e
    simp [putE]
  · rw [if_neg (by omega)]
    simp [putE, e]
theorem sv_putE {w : World} {G c : Nat → Nat} (m : Int) (L : Nat → Ent) {i : Nat} {l : List (Nat → Int)} (h : l.length = (L i).l.length) : sv m (rowE w G c L) = sv m (rowE w G c (putE L i l)) := by
  have : ∀ j, (rowE w G c L j).val = (rowE w G c (putE L i l) j).val := fun j => by
    by_cases e : j = i
    · subst e
      simp [rowE, putE, Ent.val, h]
    · simp [rowE, putE, e]
  simp [sv, this]
set_option maxRecDepth 100000 in
set_option maxHeartbeats 4000000 in
theorem rload_any (m : Int) (L : Nat → Ent) (x : Nat → Int) (w : World) (hL : ∀ i, i < 2 → Lies w [] (L i)) : Calls Try.prog 15 #[.agg (sv m L).toArray, arr 16 x] w (RetSE w (Stk.load (stk m L) x)) := by
  have O := OwnL.start w [L 0, L 1] (two_all hL)
  have hu2 := Try.underlying25
  have hu3 := Try.underlying27
  clear hL
  cases hr : Stk.right (stk m L)
  · have HE : Hid (Stk.load (stk m L) x = (Stk.none_, 1)) := by show _ = _; simp [Stk.load, hr]
    have HR := Lib.hid hr
    clear hr
    go_enter Try.func15, Try.ntmps15
    go_wp2_with (first | ((with_reducible refine at_box 2 ?_); refine wpList_box_ls O (sv m L) rfl ?_; clear O; intro g2 w1 O) | ((with_reducible refine at_box 3 ?_); refine wpList_box_ls O (M.mat 16 x) rfl ?_; clear O; intro g3 w1 O) | ((with_reducible refine at_alloc 4 ?_); refine wpList_alloc_ls O (sv 0 (noL 0)) zero25 ?_; clear O; intro g4 w2 O) | ((with_reducible refine at_load 6 ?_); refine wpList_rowg_ls rfl O 2 rfl rfl Try.underlying25 rfl (s25 _ _) ?_) | (go_at_call 23; refine (rright6_any m L _ O.twoL).mono ?_; rw [HR.out]; rintro e w3 ⟨rfl, hb⟩; replace O := O.call hb; clear hb) | ((with_reducible refine at_load 10 ?_); refine wpList_rowg_ls rfl O 1 rfl rfl Try.underlying27 rfl (s23 _) ?_) | ((with_reducible refine at_build 14 ?_); refine wpList_build_own [] (sv 0 (noL 0)).toArray ?_ built25z ?_; (focus simp)) | ((with_reducible refine at_store 4 ?_); refine wpList_put_ls O 0 (sv (0) (noL 0)) rfl rfl rfl (s25 _ _) (sv_len _ _ _ _) (sv_one _ _) ?_; clear O; intro w4 O))
    refine bodyPost_ret (v := .tuple #[.agg (sv 0 (noL 0)).toArray, .int .i64 1]) (res_ls3 rfl O 0 rfl rfl Try.underlying25 rfl (s25 _ _) rfl) rfl ?_
    rw [HE.out]
    exact ⟨_, rfl, newS_none _ _, O.below⟩
  cases hx : M.right x
  · have HE : Hid (Stk.load (stk m L) x = (Stk.none_, 1)) := by show _ = _; simp [Stk.load, hx]
    have HR := Lib.hid hr
    have HX := Lib.hid hx
    clear hr hx
    go_enter Try.func15, Try.ntmps15
    go_wp2_with (first | ((with_reducible refine at_box 2 ?_); refine wpList_box_ls O (sv m L) rfl ?_; clear O; intro g2 w1 O) | ((with_reducible refine at_box 3 ?_); refine wpList_box_ls O (M.mat 16 x) rfl ?_; clear O; intro g3 w1 O) | ((with_reducible refine at_alloc 4 ?_); refine wpList_alloc_ls O (sv 0 (noL 0)) zero25 ?_; clear O; intro g4 w2 O) | ((with_reducible refine at_load 6 ?_); refine wpList_rowg_ls rfl O 2 rfl rfl Try.underlying25 rfl (s25 _ _) ?_) | (go_at_call 23; refine (rright6_any m L _ O.twoL).mono ?_; rw [HR.out]; rintro e w3 ⟨rfl, hb⟩; replace O := O.call hb; clear hb) | ((with_reducible refine at_load 10 ?_); refine wpList_rowg_ls rfl O 1 rfl rfl Try.underlying27 rfl (s23 _) ?_) | (go_at_call 28; refine (rright_any x _).mono ?_; rw [HX.out]; rintro e w4 ⟨rfl, hb⟩; replace O := O.call hb; clear hb) | ((with_reducible refine at_build 14 ?_); refine wpList_build_own [] (sv 0 (noL 0)).toArray ?_ built25z ?_; (focus simp)) | ((with_reducible refine at_store 4 ?_); refine wpList_put_ls O 0 (sv (0) (noL 0)) rfl rfl rfl (s25 _ _) (sv_len _ _ _ _) (sv_one _ _) ?_; clear O; intro w4 O))
    refine bodyPost_ret (v := .tuple #[.agg (sv 0 (noL 0)).toArray, .int .i64 1]) (res_ls3 rfl O 0 rfl rfl Try.underlying25 rfl (s25 _ _) rfl) rfl ?_
    rw [HE.out]
    exact ⟨_, rfl, newS_none _ _, O.below⟩
  obtain ⟨i, hi, rfl⟩ := Stk.isMode_nat (Stk.isMode_iff.2 (Stk.right_iff.1 hr).1)
  have hlen := right_len hr
  have hli := hlen i hi
  have hne : (L i).l ≠ [] := len_ne hli.1
  have hmt : (stk i L).meant = (L i).l := by show (L (i : Int).toNat).l = _; rw [show (i : Int).toNat = i by omega]
  have HE : Hid (Stk.load (stk i L) x = ((stk i L).put ((L i).l.dropLast ++ [x]), 0)) := by show _ = _; simp [Stk.load, hr, hx, hmt]
  have HX := Lib.hid hx
  clear hx
  obtain ⟨n, hn⟩ : ∃ n : Nat, (L i).l.length = n + 1 := ⟨(L i).l.length - 1, by omega⟩
  have EV : (L i).val = .slice (L i).A (n + 1) (L i).c := by rw [← hn]; rfl
  have e1 : wrap64 (n : Int) = n := by unfold wrap64; omega
  have e2 : IntKind.i64.wrap (n : Int) = n := IntWalk.i64_in _ (by omega)
  have HNN := Lib.hid hn
  have HR := Lib.hid hr
  have HN := Lib.hid hlen
  have HI := Lib.hid hli
  have HNE := Lib.hid hne
  clear hr hlen hli hne hmt hn
  go_enter Try.func15, Try.ntmps15
  go_wp2_with (first | ((with_reducible refine at_box 2 ?_); refine wpList_box_ls O (sv i L) rfl ?_; clear O; intro g2 w1 O) | ((with_reducible refine at_box 3 ?_); refine wpList_box_ls O (M.mat 16 x) rfl ?_; clear O; intro g3 w1 O) | ((with_reducible refine at_alloc 4 ?_); refine wpList_alloc_ls O (sv 0 (noL 0)) zero25 ?_; clear O; intro g4 w2 O) | ((with_reducible refine at_load 6 ?_); refine wpList_rowg_ls rfl O 2 rfl rfl Try.underlying25 rfl (s25 _ _) ?_) | (go_at_call 23; refine (rright6_any i L _ O.twoL).mono ?_; rw [HR.out]; rintro e w3 ⟨rfl, hb⟩; replace O := O.call hb; clear hb) | ((with_reducible refine at_load 10 ?_); refine wpList_rowg_ls rfl O 1 rfl rfl Try.underlying27 rfl (s23 _) ?_) | (go_at_call 28; refine (rright_any x _).mono ?_; rw [HX.out]; rintro e w4 ⟨rfl, hb⟩; replace O := O.call hb; clear hb) | ((with_reducible refine at_load 15 ?_); refine wpList_rowg_ls rfl O 2 rfl rfl Try.underlying25 rfl (s25 _ _) ?_) | (go_at_call 33; refine (rows_any _ L _ O.twoL (fun k hk => by have := HN.out k hk; omega)).mono ?_; rintro e w5 ⟨G, C, c, rfl, hO, hC⟩; have O2 := O.join hO; clear O hO; have O := O2; clear O2; simp only [rowsB, List.cons_append, List.nil_append] at O; have HC := Lib.hid hC; clear hC) | ((with_reducible refine at_store 2 ?_); refine wpList_put_ls O 4 (sv (i) (rowE w G c L)) rfl rfl rfl (s25 _ _) (sv_len _ _ _ _) (sv_one _ _) ?_; clear O; intro w6 O))
  have HRW : Hid ((rowE w G c L i).val = .slice (some ⟨G i, 0, none⟩) (n + 1) (c i)) := by show _ = _; rw [← HNN.out]; rfl
  refine region_T (fun w2 => OwnL w w2 ((G 0, 27, C 0) :: (G 1, 27, C 1) :: [(g4, 25, sv 0 (noL 0)), (g3, 27, M.mat 16 x), (g2, 25, sv i (rowE w G c L))]) [L 0, L 1]) [0, 1, 2, 3, 4, 5, 6, 7, 8, 9, 10, 11, 12, 13] 12 [some 17, some 18, some 19, some 20, some 21, some 22, some 23, some 24, some 25, some 26, some 27, some 28, some 29, some 30] [.pointer (some ⟨g2, 0, none⟩), .int .i64 i, .pointer (some ⟨g2, 1, none⟩), .pointer (some ⟨g2, 1 + i, none⟩), .slice (some ⟨G i, 0, none⟩) (n + 1) (c i), .pointer (some ⟨g2, 0, none⟩), .int .i64 i, .pointer (some ⟨g2, 1, none⟩), .pointer (some ⟨g2, 1 + i, none⟩), .slice (some ⟨G i, 0, none⟩) (n + 1) (c i), .int .i64 ((n : Int) + 1), .int .i64 n, arr 16 x, .pointer (some ⟨G i, n * 16, none⟩)] 1 (by kernel_rfl) (by rfl) (by kernel_rfl) (by rfl) (by rfl) (O.drew) (fun F hF => ?_)
  simp only [fillD, Act.put, List.setIfInBounds_toArray, List.set_cons_zero, List.set_cons_succ] at hF
  subst hF
  refine ⟨⟨does_want rfl (by rfl) (fun w' O K hK => ?_), does_want rfl (by rfl) (fun w' O K hK => ?_), does_want rfl (by rfl) (fun w' O K hK => ?_), does_want rfl (by rfl) (fun w' O K hK => ?_), does_want rfl (by rfl) (fun w' O K hK => ?_), does_want rfl (by rfl) (fun w' O K hK => ?_), does_want rfl (by rfl) (fun w' O K hK => ?_), does_want rfl (by rfl) (fun w' O K hK => ?_), does_want rfl (by rfl) (fun w' O K hK => ?_), does_want rfl (by rfl) (fun w' O K hK => ?_), does_want rfl (by rfl) (fun w' O K hK => ?_), does_want rfl (by rfl) (fun w' O K hK => ?_), does_want rfl (by rfl) (fun w' O K hK => ?_), does_want rfl (by rfl) (fun w' O K hK => ?_), trivial⟩, fun w' O => ?_⟩
  · go_simp
    exact hK _ O
  · exact wp_cell_ls O 4 rfl (i := 0) rfl rfl agg3 rfl (hK _ O)
  · go_simp
    exact hK _ O
  · exact wp_in_ls Try.underlying23 sizeOf22 (by decide) i rfl rfl rfl hi (hK _ O)
  · exact wp_cell_ls O 4 rfl ((sv_at _ _ hi).trans (congrArg some HRW.out)) rfl agg22 rfl (hK _ O)
  · go_simp
    exact hK _ O
  · exact wp_cell_ls O 4 rfl (i := 0) rfl rfl agg3 rfl (hK _ O)
  · go_simp
    exact hK _ O
  · exact wp_in_ls Try.underlying23 sizeOf22 (by decide) i rfl rfl rfl hi (hK _ O)
  · exact wp_cell_ls O 4 rfl ((sv_at _ _ hi).trans (congrArg some HRW.out)) rfl agg22 rfl (hK _ O)
  · go_simp
    exact hK _ O
  · go_simp
    exact hK _ O
  · exact wp_row_ls O 3 rfl rfl Try.underlying27 rfl (s23 _) (hK _ O)
  · exact wp_atb rfl n rfl rfl (by omega) (hK _ O)
  refine wpAny_want (i := 14) (by kernel_rfl) rfl (by rfl) (fun K hK => ?_)
  refine wp_into_ls O i (M.mat 16 x) (rows_at hi) rfl rfl (s23 _) (by have h1 := (HC.out i hi).len; have h2 := (HC.out i hi).le; have h3 := HNN.out; rw [M.mat_len]; omega) (M.mat_one _ _) fun w9 O9 => hK _ _ ?_
  clear O
  have O := O9
  clear O9
  rw [rows_set hi, M.mat_len] at O
  clear hK K
  try simp only [Act.put, List.setIfInBounds_toArray, List.set_cons_zero, List.set_cons_succ]
  refine wpAny_done (by kernel_rfl) ?_ _
  have ES := sv_putE (w := w) (G := G) (c := c) (i : Int) L (i := i) (l := (L i).l.dropLast ++ [x]) (by have := HI.out; simp; omega)
  rw [ES] at O
  clear ES
  go_wp2_with (first | ((with_reducible refine at_load 31 ?_); refine wpList_rowg_ls rfl O 4 rfl rfl Try.underlying25 rfl (s25 _ _) ?_) | ((with_reducible refine at_store 4 ?_); refine wpList_put_ls O 2 (sv (i) (rowE w G c (putE L i ((L i).l.dropLast ++ [x])))) rfl rfl rfl (s25 _ _) (sv_len _ _ _ _) (sv_one _ _) ?_; clear O; intro w8 O))
  refine bodyPost_ret (v := .tuple #[.agg (sv i (rowE w G c (putE L i ((L i).l.dropLast ++ [x])))).toArray, .int .i64 0]) (res_ls3 rfl O 2 rfl rfl Try.underlying25 rfl (s25 _ _) rfl) rfl ?_
  rw [HE.out]
  exact ⟨_, rfl, newS_rows (L := putE L i ((L i).l.dropLast ++ [x])) (C := fun j => if j = i then _ else C j) O (putE_rows HC.out ((HC.out i hi).last HNN.out x)) ((stk i L).put ((L i).l.dropLast ++ [x])) (putE_stk L _), O.below⟩
end Go.Proofs.Ythcieapfpgejdaa
