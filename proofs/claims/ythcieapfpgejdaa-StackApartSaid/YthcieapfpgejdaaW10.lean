/- Contract: Mult. -/
import Derived.Test.YthcieapfpgejdaaW9
namespace Go.Proofs.Ythcieapfpgejdaa
open Go.ChangeShapes Go.WideShapes Go.ChangeAt Go.RowKit
set_option linter.unusedVariables false
set_option linter.unusedSimpArgs false

/-- How far a region has come that makes a matrix in a block of its own and writes it. -/
def PutSt (w : World) (bs : List (Nat × TypeId × List Value)) (ls : List Ent) (a b : Option Value) (q : Nat → Int) (w2 : World) : Prop :=
  (a = none ∧ b = none ∧ OwnL w w2 bs ls) ∨ (∃ g, a = some (.pointer (some ⟨g, 0, none⟩)) ∧ b = none ∧ OwnL w w2 ((g, 27, M.mat 16 M.zero) :: bs) ls) ∨
  (∃ g v, a = some (.pointer (some ⟨g, 0, none⟩)) ∧ b = some v ∧ OwnL w w2 ((g, 27, M.mat 16 q) :: bs) ls)
theorem PutSt.own {w w2 : World} {bs : List (Nat × TypeId × List Value)} {ls : List Ent} {a b : Option Value} {q : Nat → Int} (h : PutSt w bs ls a b q w2) : OwnL w w2 bs ls := by
  rcases h with ⟨_, _, h⟩ | ⟨g, _, _, h⟩ | ⟨g, v, _, _, h⟩
  · exact h
  · exact h.tail
  · exact h.tail
theorem PutSt.call {w w2 w3 : World} {bs : List (Nat × TypeId × List Value)} {ls : List Ent} {a b : Option Value} {q : Nat → Int} (h : PutSt w bs ls a b q w2) (hb : Below w2.heap.size w2 w3) : PutSt w bs ls a b q w3 := by
  rcases h with ⟨h1, h2, h⟩ | ⟨g, h1, h2, h⟩ | ⟨g, v, h1, h2, h⟩
  · exact .inl ⟨h1, h2, h.call hb⟩
  · exact .inr (.inl ⟨g, h1, h2, h.call hb⟩)
  · exact .inr (.inr ⟨g, v, h1, h2, h.call hb⟩)
set_option maxRecDepth 100000 in
set_option maxHeartbeats 4000000 in
theorem mult_any (m : Int) (L : Nat → Ent) (x : Nat → Int) (w : World) (hL : ∀ i, i < 2 → Lies w [] (L i)) : Calls Try.prog 16 #[.agg (sv m L).toArray, arr 16 x] w (RetSE w (Stk.mult (stk m L) x)) := by
  have O := OwnL.start w [L 0, L 1] (two_all hL)
  have hu2 := Try.underlying25
  have hu3 := Try.underlying27
  clear hL
  cases hr : Stk.right (stk m L)
  · have HE : Hid (Stk.mult (stk m L) x = (Stk.none_, 1)) := by show _ = _; simp [Stk.mult, hr]
    have HR := Lib.hid hr
    clear hr
    go_enter Try.func16, Try.ntmps16
    go_wp2_with (first | ((with_reducible refine at_box 2 ?_); refine wpList_box_ls O (sv m L) rfl ?_; clear O; intro g2 w1 O) | ((with_reducible refine at_box 3 ?_); refine wpList_box_ls O (M.mat 16 x) rfl ?_; clear O; intro g3 w1 O) | ((with_reducible refine at_alloc 4 ?_); refine wpList_alloc_ls O (sv 0 (noL 0)) zero25 ?_; clear O; intro g4 w2 O) | ((with_reducible refine at_load 8 ?_); refine wpList_rowg_ls rfl O 2 rfl rfl Try.underlying25 rfl (s25 _ _) ?_) | (go_at_call 22; refine (right6_any m L _ O.twoL).mono ?_; rw [HR.out]; rintro e w3 ⟨rfl, hb⟩; replace O := O.call hb; clear hb) | ((with_reducible refine at_build 11 ?_); refine wpList_build_own [] (sv 0 (noL 0)).toArray ?_ built25z ?_; (focus simp)) | ((with_reducible refine at_store 4 ?_); refine wpList_put_ls O 0 (sv (0) (noL 0)) rfl rfl rfl (s25 _ _) (sv_len _ _ _ _) (sv_one _ _) ?_; clear O; intro w4 O))
    refine bodyPost_ret (v := .tuple #[.agg (sv 0 (noL 0)).toArray, .int .i64 1]) (res_ls3 rfl O 0 rfl rfl Try.underlying25 rfl (s25 _ _) rfl) rfl ?_
    rw [HE.out]
    exact ⟨_, rfl, newS_none _ _, O.below⟩
  obtain ⟨i, hi, rfl⟩ := Stk.isMode_nat (Stk.isMode_iff.2 (Stk.right_iff.1 hr).1)
  have hlen := right_len hr
  have hli := hlen i hi
  have hne : (L i).l ≠ [] := len_ne hli.1
  have hmt : (stk i L).meant = (L i).l := by show (L (i : Int).toNat).l = _; rw [show (i : Int).toNat = i by omega]
  obtain ⟨p, hp⟩ : ∃ p, M.mul (Stk.last (L i).l) x = p := ⟨_, rfl⟩
  have HE : Hid (Stk.mult (stk i L) x = if p.2 = 0 then ((stk i L).put ((L i).l.dropLast ++ [p.1]), 0) else (Stk.none_, p.2)) := by show _ = _; simp only [Stk.mult, hr, hmt, hp, if_true]
  have HP := Lib.hid hp
  clear hp
  have HR := Lib.hid hr
  have HN := Lib.hid hlen
  have HI := Lib.hid hli
  have HNE := Lib.hid hne
  clear hr hlen hli hne hmt
  go_enter Try.func16, Try.ntmps16
  go_wp2_with (first | ((with_reducible refine at_box 2 ?_); refine wpList_box_ls O (sv i L) rfl ?_; clear O; intro g2 w1 O) | ((with_reducible refine at_box 3 ?_); refine wpList_box_ls O (M.mat 16 x) rfl ?_; clear O; intro g3 w1 O) | ((with_reducible refine at_alloc 4 ?_); refine wpList_alloc_ls O (sv 0 (noL 0)) zero25 ?_; clear O; intro g4 w2 O) | ((with_reducible refine at_load 8 ?_); refine wpList_rowg_ls rfl O 2 rfl rfl Try.underlying25 rfl (s25 _ _) ?_) | (go_at_call 22; refine (right6_any i L _ O.twoL).mono ?_; rw [HR.out]; rintro e w3 ⟨rfl, hb⟩; replace O := O.call hb; clear hb))
  refine region_S (fun st w2 => PutSt w [(g4, 25, sv 0 (noL 0)), (g3, 27, M.mat 16 x), (g2, 25, sv i L)] [L 0, L 1] (st 11) (st 12) p.1 w2) [11, 12] 12 13 [some 13, some 14, some 15, some 16, some 17, some 18, some 19, some 20, some 12, some 21, some 22, some 6, none] (fun g => [.pointer (some ⟨g2, 0, none⟩), .int .i64 i, .pointer (some ⟨g2, 1, none⟩), .pointer (some ⟨g2, 1 + i, none⟩), (L i).val, arr 16 (Stk.last (L i).l), arr 16 x, .tuple #[arr 16 p.1, .int .i64 p.2], .tuple #[arr 16 p.1, .int .i64 p.2], arr 16 p.1, .int .i64 p.2, g 11, g 12]) 1 (by kernel_rfl) (by kernel_rfl) (by rfl) (by rfl) (fun _ => rfl) (by decide) ?_ (.inl ⟨rfl, rfl, O.drew⟩) (fun F hF => ?_)
  · intro i hi
    simp only [List.mem_cons, List.not_mem_nil, or_false] at hi
    rcases hi with rfl | rfl
    · exact ⟨fun _ => rfl, [0, 1, 2, 3, 4, 5, 6, 7, 8, 9, 10, 12], by kernel_rfl, fun g v => ⟨rfl, rfl, rfl, rfl, rfl, rfl, rfl, rfl, rfl, rfl, rfl, rfl, trivial⟩⟩
    · exact ⟨fun _ => rfl, [0, 1, 2, 3, 4, 5, 6, 7, 8, 9, 10, 11], by kernel_rfl, fun g v => ⟨rfl, rfl, rfl, rfl, rfl, rfl, rfl, rfl, rfl, rfl, rfl, rfl, trivial⟩⟩
  simp only [fillD, Act.put, List.setIfInBounds_toArray, List.set_cons_zero, List.set_cons_succ] at hF
  have hF2 := funext hF
  clear hF
  subst hF2
  refine ⟨⟨doesN_want (by decide) rfl (fun g => rfl) (fun st w' hS hp K hK => ?_), doesN_want (by decide) rfl (fun g => rfl) (fun st w' hS hp K hK => ?_), doesN_want (by decide) rfl (fun g => rfl) (fun st w' hS hp K hK => ?_), doesN_want (by decide) rfl (fun g => rfl) (fun st w' hS hp K hK => ?_), doesN_want (by decide) rfl (fun g => rfl) (fun st w' hS hp K hK => ?_), doesN_want (by decide) rfl (fun g => rfl) (fun st w' hS hp K hK => ?_), doesN_want (by decide) rfl (fun g => rfl) (fun st w' hS hp K hK => ?_), doesN_want (by decide) rfl (fun g => rfl) (fun st w' hS hp K hK => ?_), doesN_want (by decide) rfl (fun g => rfl) (fun st w' hS hp K hK => ?_), doesN_want (by decide) rfl (fun g => rfl) (fun st w' hS hp K hK => ?_), doesN_want (by decide) rfl (fun g => rfl) (fun st w' hS hp K hK => ?_), doesC_want (by decide) rfl (fun g => rfl) (fun st w' hS hn hp K hK => ?_), doesC_want (by decide) rfl (fun g => rfl) (fun st w' hS hn hp K hK => ?_), trivial⟩, fun st w' hS hall => ?_⟩
  · try dsimp only
    go_simp
    exact hK _ hS
  · try dsimp only
    exact wp_cell_ls hS.own 2 rfl (i := 0) rfl rfl agg3 rfl (hK _ hS)
  · try dsimp only
    go_simp
    exact hK _ hS
  · try dsimp only
    exact wp_in_ls Try.underlying23 sizeOf22 (by decide) i rfl rfl rfl hi (hK _ hS)
  · try dsimp only
    exact wp_cell_ls hS.own 2 rfl (sv_at _ _ hi) rfl agg22 rfl (hK _ hS)
  · try dsimp only
    go_simp
    go_at_call 31
    refine (last_any (L i) _ (hS.own.ret i (twoL_at L _ hi)) HNE.out (by have := HI.out; omega)).mono ?_
    rintro e w3 ⟨rfl, hb⟩
    exact hK _ (hS.call hb)
  · try dsimp only
    exact wp_row_ls hS.own 1 rfl rfl Try.underlying27 rfl (s23 _) (hK _ hS)
  · try dsimp only
    go_simp
    go_at_call 36
    refine (mul_any (Stk.last (L i).l) x _).mono ?_
    rw [HP.out]
    rintro e w3 ⟨rfl, hb⟩
    exact hK _ (hS.call hb)
  · try dsimp only
    go_simp
    exact hK _ hS
  · try dsimp only
    go_simp
    exact hK _ hS
  · try dsimp only
    go_simp
    exact hK _ hS
  · try dsimp only
    have hcs := hn
    rcases hS with ⟨h1, h2, O⟩ | ⟨g, h1, h2, O⟩ | ⟨g, v, h1, h2, O⟩
    · refine wp_alloc_ls O (M.mat 16 M.zero) zero23 fun g w3 O3 => hK _ w3 (.inr (.inl ⟨g, upd_same _ _ _, (upd_other _ _ (by decide)).trans h2, O3⟩))
    · rw [h1] at hcs; cases hcs
    · rw [h1] at hcs; cases hcs
  · try dsimp only
    have hcs := hn
    have hp1 := hp 11 (by decide) (by kernel_rfl)
    rcases hS with ⟨h1, h2, O⟩ | ⟨g, h1, h2, O⟩ | ⟨g, v, h1, h2, O⟩
    · rw [h1] at hp1; cases hp1
    · have es : seen st 11 = .pointer (some ⟨g, 0, none⟩) := by simp [seen, h1]
      refine wp_put_ls O 0 (M.mat 16 p.1) rfl es rfl (s23 _) (M.mat_len2 _ _ _) (M.mat_one _ _) fun w3 O3 => hK _ w3 (.inr (.inr ⟨g, _, (upd_other _ _ (by decide)).trans h1, upd_same _ _ _, O3⟩))
    · rw [h2] at hcs; cases hcs
  try dsimp only
  have hp1 := hall 11 (by decide)
  have hp2 := hall 12 (by decide)
  rcases hS with ⟨h1, h2, O⟩ | ⟨g, h1, h2, O⟩ | ⟨g6, v, h1, h2, O⟩
  · rw [h1] at hp1; cases hp1
  · rw [h2] at hp2; cases hp2
  have es : seen st 11 = .pointer (some ⟨g6, 0, none⟩) := by simp [seen, h1]
  rw [es]
  clear hp1 hp2 h1 h2 es hall
  refine wpAny_one (i := 13) (by kernel_rfl) rfl (fun K hK => ?_)
  go_simp
  refine hK _ _ ?_
  clear hK K
  try simp only [Act.put, List.setIfInBounds_toArray, List.set_cons_zero, List.set_cons_succ]
  refine wpAny_done (by kernel_rfl) ?_ _
  by_cases he : p.2 = 0
  · rw [he]
    have HE2 : Hid (Stk.mult (stk i L) x = ((stk i L).put ((L i).l.dropLast ++ [p.1]), 0)) := by show _ = _; rw [HE.out, if_pos he]
    clear HE
    have HE := HE2
    clear HE2 he
    go_wp2
    refine region_S (fun st w2 => LitSt w [(g6, 27, M.mat 16 p.1), (g4, 25, sv 0 (noL 0)), (g3, 27, M.mat 16 x), (g2, 25, sv i L)] [L 0, L 1] (st 8) p.1 w2) [8] 12 9 [some 27, some 28, some 29, some 30, some 31, some 32, some 33, some 34, some 35] (fun g => [.agg (sv i L).toArray, .pointer (some ⟨g2, 0, none⟩), .int .i64 i, .pointer (some ⟨g2, 1, none⟩), .pointer (some ⟨g2, 1 + i, none⟩), (L i).val, Ent.val ⟨(L i).lo, (L i).A, (L i).c, (L i).l.dropLast⟩, arr 16 (p.1), g 8]) 3 (by kernel_rfl) (by kernel_rfl) (by rfl) (by rfl) (fun _ => rfl) (by decide) ?_ (.inl ⟨rfl, O.drew⟩) (fun F hF => ?_)
    · intro i hi
      simp only [List.mem_cons, List.not_mem_nil, or_false] at hi
      rcases hi with rfl
      · exact ⟨fun _ => rfl, [0, 1, 2, 3, 4, 5, 6, 7], by kernel_rfl, fun g v => ⟨rfl, rfl, rfl, rfl, rfl, rfl, rfl, rfl, trivial⟩⟩
    simp only [fillD, Act.put, List.setIfInBounds_toArray, List.set_cons_zero, List.set_cons_succ] at hF
    have hF2 := funext hF
    clear hF
    subst hF2
    refine ⟨⟨doesN_want (by decide) rfl (fun g => rfl) (fun st w' hS hp K hK => ?_), doesN_want (by decide) rfl (fun g => rfl) (fun st w' hS hp K hK => ?_), doesN_want (by decide) rfl (fun g => rfl) (fun st w' hS hp K hK => ?_), doesN_want (by decide) rfl (fun g => rfl) (fun st w' hS hp K hK => ?_), doesN_want (by decide) rfl (fun g => rfl) (fun st w' hS hp K hK => ?_), doesN_want (by decide) rfl (fun g => rfl) (fun st w' hS hp K hK => ?_), doesN_want (by decide) rfl (fun g => rfl) (fun st w' hS hp K hK => ?_), doesN_want (by decide) rfl (fun g => rfl) (fun st w' hS hp K hK => ?_), doesC_want (by decide) rfl (fun g => rfl) (fun st w' hS hn hp K hK => ?_), trivial⟩, fun st w' hS hall => ?_⟩
    · try dsimp only
      exact wp_row_ls hS.own 3 rfl rfl Try.underlying25 rfl (s25 _ _) (hK _ hS)
    · try dsimp only
      go_simp
      exact hK _ hS
    · try dsimp only
      exact wp_cell_ls hS.own 3 rfl (i := 0) rfl rfl agg3 rfl (hK _ hS)
    · try dsimp only
      go_simp
      exact hK _ hS
    · try dsimp only
      exact wp_in_ls Try.underlying23 sizeOf22 (by decide) i rfl rfl rfl hi (hK _ hS)
    · try dsimp only
      exact wp_cell_ls hS.own 3 rfl (sv_at _ _ hi) rfl agg22 rfl (hK _ hS)
    · try dsimp only
      go_simp
      go_at_call 35
      refine (below_any (L i) _ (hS.own.ret i (twoL_at L _ hi)) HNE.out (by have := HI.out; omega)).mono ?_
      rintro e w3 ⟨rfl, rfl⟩
      exact hK _ hS
    · try dsimp only
      exact wp_row_ls hS.own 0 rfl rfl Try.underlying27 rfl (s23 _) (hK _ hS)
    · try dsimp only
      have hcs := hn
      rcases hS with ⟨h1, O⟩ | ⟨g, h1, O⟩
      · refine wp_lit_ls O (p.1) rfl fun g w3 O3 => hK _ w3 (.inr ⟨g, upd_same _ _ _, O3⟩)
      · rw [h1] at hcs; cases hcs
    try dsimp only
    have hp1 := hall 8 (by decide)
    rcases hS with ⟨h1, O⟩ | ⟨g, h1, O⟩
    · rw [h1] at hp1; cases hp1
    have es : seen st 8 = .slice (some ⟨g, 0, none⟩) 1 1 := by simp [seen, h1]
    rw [es]
    clear hp1 h1 es hall
    refine wpAny_want (i := 9) (by kernel_rfl) rfl (by rfl) (fun K hK => ?_)
    go_simp
    go_at_call 32
    refine (with_any i hi L (⟨(L i).lo, (L i).A, (L i).c, (L i).l.dropLast⟩) (⟨w.heap.size, some ⟨g, 0, none⟩, 1, [p.1]⟩) _ (O.pick (fun x hx => List.mem_cons_of_mem _ hx)).twoL (by have := (O.ret (1 + i) (show (_ :: L 0 :: L 1 :: [])[1 + i]? = some (L i) by rw [Nat.add_comm]; exact twoL_at L _ hi)).cut (k := (L i).l.length - 1) (by omega); rwa [← List.dropLast_eq_take] at this) (O.ret 0 rfl) (fun k hk => by have := HN.out k hk; omega) (by have := HI.out; simp only [List.length_dropLast]; omega) (by simp)).mono ?_
    rintro e w3 ⟨v, rfl, hv, hb⟩
    obtain ⟨L', rfl, hL', O2⟩ := O.gainS hv hb
    clear O hv hb
    have O := O2
    clear O2
    refine hK _ _ ?_
    clear hK K
    try simp only [Act.put, List.setIfInBounds_toArray, List.set_cons_zero, List.set_cons_succ]
    refine wpAny_want (i := 10) (by kernel_rfl) rfl (by rfl) (fun K hK => ?_)
    refine wp_put_ls O 1 (sv (i) (L')) rfl rfl rfl (s25 _ _) rfl (sv_one _ _) fun w9 O9 => hK _ _ ?_
    clear O
    have O := O9
    clear O9
    clear hK K
    try simp only [Act.put, List.setIfInBounds_toArray, List.set_cons_zero, List.set_cons_succ]
    refine wpAny_one (i := 11) (by kernel_rfl) rfl (fun K hK => ?_)
    go_simp
    refine hK _ _ ?_
    clear hK K
    try simp only [Act.put, List.setIfInBounds_toArray, List.set_cons_zero, List.set_cons_succ]
    refine wpAny_done (by kernel_rfl) ?_ _
    go_wp2_with fail
    refine bodyPost_ret (v := .tuple #[.agg (sv i L').toArray, .int .i64 0]) (res_ls3 rfl O 1 rfl rfl Try.underlying25 rfl (s25 _ _) rfl) rfl ?_
    rw [HE.out]
    refine ⟨_, rfl, newS_of (s := (stk i L).put ((L i).l.dropLast ++ [p.1])) O L' (fun k hk => ?_) (fun k hk => ⟨(hL' k hk).1, (hL' k hk).2⟩), O.below⟩
    rcases k with _ | _ | k
    · simp
    · simp
    · omega
  · have HE2 : Hid (Stk.mult (stk i L) x = (Stk.none_, p.2)) := by show _ = _; rw [HE.out, if_neg he]
    clear HE
    have HE := HE2
    clear HE2
    have b8 : (p.2 != 0) = true := by simpa using he
    go_wp2_with (first | ((with_reducible refine at_build 25 ?_); refine wpList_build_own [] (sv 0 (noL 0)).toArray ?_ built25z ?_; (focus simp)) | ((with_reducible refine at_store 4 ?_); refine wpList_put_ls O 1 (sv (0) (noL 0)) rfl rfl rfl (s25 _ _) (sv_len _ _ _ _) (sv_one _ _) ?_; clear O; intro w4 O))
    refine bodyPost_ret (v := .tuple #[.agg (sv 0 (noL 0)).toArray, .int .i64 p.2]) (res_ls3 rfl O 1 rfl rfl Try.underlying25 rfl (s25 _ _) rfl) rfl ?_
    rw [HE.out]
    exact ⟨_, rfl, newS_none _ _, O.below⟩
end Go.Proofs.Ythcieapfpgejdaa
