/- Contract: Choose. -/
import Derived.Test.YthcieapfpgejdaaW4
namespace Go.Proofs.Ythcieapfpgejdaa
open Go.ChangeShapes Go.WideShapes Go.ChangeAt Go.RowKit
set_option linter.unusedVariables false
set_option linter.unusedSimpArgs false

theorem OwnL.twoL {w0 w : World} {bs : List (Nat × TypeId × List Value)} {ls : List Ent} {L : Nat → Ent} (h : OwnL w0 w bs (L 0 :: L 1 :: ls)) : ∀ i, i < 2 → Lies w [] (L i) := fun i hi => by
  rcases i with _ | _ | i
  · exact h.ret 0 rfl
  · exact h.ret 1 rfl
  · omega
theorem right_len {m : Int} {L : Nat → Ent} (h : Stk.right (stk m L) = true) : ∀ i, i < 2 → 1 ≤ (L i).l.length ∧ (L i).l.length ≤ 8 := fun i hi =>
  ⟨(Stk.okL_iff.1 ((Stk.right_iff.1 h).2 i hi)).1, (Stk.okL_iff.1 ((Stk.right_iff.1 h).2 i hi)).2.1⟩
theorem len_ne {l : List (Nat → Int)} (h : 1 ≤ l.length) : l ≠ [] := fun e => by rw [e] at h; exact absurd h (by decide)
theorem twoL_at (L : Nat → Ent) (ls : List Ent) {i : Nat} (h : i < 2) : (L 0 :: L 1 :: ls)[i]? = some (L i) := by
  rcases i with _ | _ | i
  · rfl
  · rfl
  · omega
def nil_ : Ent := ⟨0, none, 0, []⟩
theorem nil_lies (w : World) : Lies w [] nil_ := Lies.nil
set_option maxRecDepth 100000 in
set_option maxHeartbeats 4000000 in
theorem choose_any (m : Int) (L : Nat → Ent) (d : Int) (w : World) (hL : ∀ i, i < 2 → Lies w [] (L i)) : Calls Try.prog 11 #[.agg (sv m L).toArray, .int .i64 d] w (RetSE w (Stk.choose (stk m L) d)) := by
  have O := OwnL.start w [L 0, L 1] (two_all hL)
  have hu2 := Try.underlying25
  have hu3 := Try.underlying27
  clear hL
  cases hr : Stk.right (stk m L)
  · have HE : Hid (Stk.choose (stk m L) d = (Stk.none_, 1)) := by show _ = _; simp [Stk.choose, hr]
    have HR := Lib.hid hr
    clear hr
    go_enter Try.func11, Try.ntmps11
    go_wp2_with (first | ((with_reducible refine at_box 2 ?_); refine wpList_box_ls O (sv m L) rfl ?_; clear O; intro g2 w1 O) | ((with_reducible refine at_alloc 4 ?_); refine wpList_alloc_ls O (sv 0 (noL 0)) zero25 ?_; clear O; intro g4 w2 O) | ((with_reducible refine at_load 6 ?_); refine wpList_rowg_ls rfl O 1 rfl rfl Try.underlying25 rfl (s25 _ _) ?_) | (go_at_call 22; refine (right6_any m L _ O.twoL).mono ?_; rw [HR.out]; rintro e w3 ⟨rfl, hb⟩; replace O := O.call hb; clear hb) | ((with_reducible refine at_build 14 ?_); refine wpList_build_own [] (sv 0 (noL 0)).toArray ?_ built25z ?_; (focus simp)) | ((with_reducible refine at_store 4 ?_); refine wpList_put_ls O 0 (sv (0) (noL 0)) rfl rfl rfl (s25 _ _) (sv_len _ _ _ _) (sv_one _ _) ?_; clear O; intro w4 O))
    refine bodyPost_ret (v := .tuple #[.agg (sv 0 (noL 0)).toArray, .int .i64 1]) (res_ls3 rfl O 0 rfl rfl Try.underlying25 rfl (s25 _ _) rfl) rfl ?_
    rw [HE.out]
    exact ⟨_, rfl, newS_none _ _, O.below⟩
  cases hd : Stk.isMode d
  · have HE : Hid (Stk.choose (stk m L) d = (Stk.none_, 1)) := by show _ = _; simp [Stk.choose, hd]
    have HR := Lib.hid hr
    have HD := Lib.hid hd
    clear hr hd
    go_enter Try.func11, Try.ntmps11
    go_wp2_with (first | ((with_reducible refine at_box 2 ?_); refine wpList_box_ls O (sv m L) rfl ?_; clear O; intro g2 w1 O) | ((with_reducible refine at_alloc 4 ?_); refine wpList_alloc_ls O (sv 0 (noL 0)) zero25 ?_; clear O; intro g4 w2 O) | ((with_reducible refine at_load 6 ?_); refine wpList_rowg_ls rfl O 1 rfl rfl Try.underlying25 rfl (s25 _ _) ?_) | (go_at_call 22; refine (right6_any m L _ O.twoL).mono ?_; rw [HR.out]; rintro e w3 ⟨rfl, hb⟩; replace O := O.call hb; clear hb) | (go_at_call 30; refine (isMode_any d _).mono ?_; rw [HD.out]; rintro e w6 ⟨rfl, rfl⟩) | ((with_reducible refine at_build 14 ?_); refine wpList_build_own [] (sv 0 (noL 0)).toArray ?_ built25z ?_; (focus simp)) | ((with_reducible refine at_store 4 ?_); refine wpList_put_ls O 0 (sv (0) (noL 0)) rfl rfl rfl (s25 _ _) (sv_len _ _ _ _) (sv_one _ _) ?_; clear O; intro w4 O))
    refine bodyPost_ret (v := .tuple #[.agg (sv 0 (noL 0)).toArray, .int .i64 1]) (res_ls3 rfl O 0 rfl rfl Try.underlying25 rfl (s25 _ _) rfl) rfl ?_
    rw [HE.out]
    exact ⟨_, rfl, newS_none _ _, O.below⟩
  obtain ⟨i, hi, rfl⟩ := Stk.isMode_nat hd
  have HE : Hid (Stk.choose (stk m L) i = (⟨i, (stk m L).l⟩, 0)) := by show _ = _; simp [Stk.choose, hr, hd]
  have hlen := right_len hr
  have HR := Lib.hid hr
  have HD := Lib.hid hd
  have HN := Lib.hid hlen
  clear hr hd hlen
  go_enter Try.func11, Try.ntmps11
  go_wp2_with (first | ((with_reducible refine at_box 2 ?_); refine wpList_box_ls O (sv m L) rfl ?_; clear O; intro g2 w1 O) | ((with_reducible refine at_alloc 4 ?_); refine wpList_alloc_ls O (sv 0 (noL 0)) zero25 ?_; clear O; intro g4 w2 O) | ((with_reducible refine at_load 6 ?_); refine wpList_rowg_ls rfl O 1 rfl rfl Try.underlying25 rfl (s25 _ _) ?_) | (go_at_call 22; refine (right6_any m L _ O.twoL).mono ?_; rw [HR.out]; rintro e w3 ⟨rfl, hb⟩; replace O := O.call hb; clear hb) | (go_at_call 30; refine (isMode_any i _).mono ?_; rw [HD.out]; rintro e w6 ⟨rfl, rfl⟩) | ((with_reducible refine at_store 16 ?_); refine wpList_set_ls O 1 (.int .i64 i) rfl (by simp only [sv, List.length_cons, List.length_nil]; omega) rfl rfl size3 rfl rfl ?_; clear O; intro w7 O; simp only [List.set_cons_zero, List.set_cons_succ, sv_mode] at O))
  refine region_T (fun w2 => OwnL w w2 [(g4, 25, sv 0 (noL 0)), (g2, 25, sv i L)] [L 0, L 1]) [0, 1, 2, 3, 4] 12 [some 17, some 18, some 19, some 20, some 21] [.agg (sv i L).toArray, .int .i64 i, .pointer (some ⟨g2, 1, none⟩), .pointer (some ⟨g2, 1 + i, none⟩), (L i).val] 3 (by kernel_rfl) (by rfl) (by kernel_rfl) (by rfl) (by rfl) (O.drew) (fun F hF => ?_)
  simp only [fillD, Act.put, List.setIfInBounds_toArray, List.set_cons_zero, List.set_cons_succ] at hF
  subst hF
  refine ⟨⟨does_want rfl (by rfl) (fun w' O K hK => ?_), does_want rfl (by rfl) (fun w' O K hK => ?_), does_want rfl (by rfl) (fun w' O K hK => ?_), does_want rfl (by rfl) (fun w' O K hK => ?_), does_want rfl (by rfl) (fun w' O K hK => ?_), trivial⟩, fun w' O => ?_⟩
  · exact wp_row_ls O 1 rfl rfl Try.underlying25 rfl (s25 _ _) (hK _ O)
  · go_simp
    exact hK _ O
  · go_simp
    exact hK _ O
  · exact wp_in_ls Try.underlying23 sizeOf22 (by decide) i rfl rfl rfl hi (hK _ O)
  · exact wp_cell_ls O 1 rfl (sv_at _ _ hi) rfl agg22 rfl (hK _ O)
  refine wpAny_want (i := 5) (by kernel_rfl) rfl (by rfl) (fun K hK => ?_)
  go_simp
  go_at_call 32
  refine (with_any i hi L (L i) (nil_) _ O.twoL (O.ret i (twoL_at L _ hi)) (nil_lies _) (fun k hk => by have := HN.out k hk; omega) (by have := HN.out i hi; omega) (by decide)).mono ?_
  rintro e w3 ⟨v, rfl, hv, hb⟩
  obtain ⟨L', rfl, hL', O2⟩ := O.gainS hv hb
  clear O hv hb
  have O := O2
  clear O2
  refine hK _ _ ?_
  clear hK K
  try simp only [Act.put, List.setIfInBounds_toArray, List.set_cons_zero, List.set_cons_succ]
  refine wpAny_want (i := 6) (by kernel_rfl) rfl (by rfl) (fun K hK => ?_)
  refine wp_put_ls O 0 (sv (i) (L')) rfl rfl rfl (s25 _ _) rfl (sv_one _ _) fun w9 O9 => hK _ _ ?_
  clear O
  have O := O9
  clear O9
  clear hK K
  try simp only [Act.put, List.setIfInBounds_toArray, List.set_cons_zero, List.set_cons_succ]
  refine wpAny_one (i := 7) (by kernel_rfl) rfl (fun K hK => ?_)
  go_simp
  refine hK _ _ ?_
  clear hK K
  try simp only [Act.put, List.setIfInBounds_toArray, List.set_cons_zero, List.set_cons_succ]
  refine wpAny_done (by kernel_rfl) ?_ _
  go_wp2_with fail
  refine bodyPost_ret (v := .tuple #[.agg (sv i L').toArray, .int .i64 0]) (res_ls3 rfl O 0 rfl rfl Try.underlying25 rfl (s25 _ _) rfl) rfl ?_
  rw [HE.out]
  refine ⟨_, rfl, newS_of (s := ⟨i, (stk m L).l⟩) O L' (fun k hk => ?_) (fun k hk => ⟨(hL' k hk).1, (hL' k hk).2.trans ?_⟩), O.below⟩
  · rcases k with _ | _ | k
    · simp
    · simp
    · omega
  · show (if k = (i : Int).toNat then (L i).l ++ [] else (L k).l) = (L k).l
    by_cases h : k = i
    · subst h
      rw [if_pos (by omega), List.append_nil]
    · rw [if_neg (by omega)]
end Go.Proofs.Ythcieapfpgejdaa
