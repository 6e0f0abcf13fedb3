/- Contract: Push. -/
import Derived.Test.YthcieapfpgejdaaW6
namespace Go.Proofs.Ythcieapfpgejdaa
open Go.ChangeShapes Go.WideShapes Go.ChangeAt Go.RowKit
set_option linter.unusedVariables false
set_option linter.unusedSimpArgs false

set_option maxRecDepth 100000 in
set_option maxHeartbeats 4000000 in
theorem push_any (m : Int) (L : Nat → Ent) (w : World) (hL : ∀ i, i < 2 → Lies w [] (L i)) : Calls Try.prog 18 #[.agg (sv m L).toArray] w (RetSE w (Stk.push (stk m L))) := by
  have O := OwnL.start w [L 0, L 1] (two_all hL)
  have hu2 := Try.underlying25
  have hu3 := Try.underlying27
  clear hL
  cases hr : Stk.right (stk m L)
  · have HE : Hid (Stk.push (stk m L) = (Stk.none_, 1)) := by show _ = _; simp [Stk.push, hr]
    have HR := Lib.hid hr
    clear hr
    go_enter Try.func18, Try.ntmps18
    go_wp2_with (first | ((with_reducible refine at_box 1 ?_); refine wpList_box_ls O (sv m L) rfl ?_; clear O; intro g2 w1 O) | ((with_reducible refine at_alloc 2 ?_); refine wpList_alloc_ls O (sv 0 (noL 0)) zero25 ?_; clear O; intro g4 w2 O) | ((with_reducible refine at_load 5 ?_); refine wpList_rowg_ls rfl O 1 rfl rfl Try.underlying25 rfl (s25 _ _) ?_) | (go_at_call 22; refine (right6_any m L _ O.twoL).mono ?_; rw [HR.out]; rintro e w3 ⟨rfl, hb⟩; replace O := O.call hb; clear hb) | ((with_reducible refine at_build 8 ?_); refine wpList_build_own [] (sv 0 (noL 0)).toArray ?_ built25z ?_; (focus simp)) | ((with_reducible refine at_store 2 ?_); refine wpList_put_ls O 0 (sv (0) (noL 0)) rfl rfl rfl (s25 _ _) (sv_len _ _ _ _) (sv_one _ _) ?_; clear O; intro w4 O))
    refine bodyPost_ret (v := .tuple #[.agg (sv 0 (noL 0)).toArray, .int .i64 1]) (res_ls3 rfl O 0 rfl rfl Try.underlying25 rfl (s25 _ _) rfl) rfl ?_
    rw [HE.out]
    exact ⟨_, rfl, newS_none _ _, O.below⟩
  obtain ⟨i, hi, rfl⟩ := Stk.isMode_nat (Stk.isMode_iff.2 (Stk.right_iff.1 hr).1)
  have hlen := right_len hr
  have hli := hlen i hi
  have hne : (L i).l ≠ [] := len_ne hli.1
  have hmt : (stk i L).meant = (L i).l := by show (L (i : Int).toNat).l = _; rw [show (i : Int).toNat = i by omega]
  by_cases h8 : (L i).l.length = 8
  · have HE : Hid (Stk.push (stk i L) = (Stk.none_, 7)) := by show _ = _; simp [Stk.push, hr, hmt, h8]
    have q8 : (((L i).l.length : Int) == 8) = true := by simp; omega
    have EV : (L i).val = .slice (L i).A (L i).l.length (L i).c := rfl
    have HR := Lib.hid hr
    clear hr hlen hli hne hmt h8
    go_enter Try.func18, Try.ntmps18
    go_wp2_with (first | ((with_reducible refine at_box 1 ?_); refine wpList_box_ls O (sv i L) rfl ?_; clear O; intro g2 w1 O) | ((with_reducible refine at_alloc 2 ?_); refine wpList_alloc_ls O (sv 0 (noL 0)) zero25 ?_; clear O; intro g4 w2 O) | ((with_reducible refine at_load 5 ?_); refine wpList_rowg_ls rfl O 1 rfl rfl Try.underlying25 rfl (s25 _ _) ?_) | (go_at_call 22; refine (right6_any i L _ O.twoL).mono ?_; rw [HR.out]; rintro e w3 ⟨rfl, hb⟩; replace O := O.call hb; clear hb) | ((with_reducible refine at_load 10 ?_); refine wpList_cell_ls rfl O 1 rfl (rfl) rfl agg3 rfl ?_) | ((with_reducible refine at_index 12 ?_); refine wpList_in_ls rfl Try.underlying23 sizeOf22 (by decide) (i) rfl rfl (rfl) (hi) ?_) | ((with_reducible refine at_load 13 ?_); refine wpList_cell_ls rfl O 1 rfl (sv_at _ _ hi) rfl agg22 rfl ?_) | ((with_reducible refine at_build 17 ?_); refine wpList_build_own [] (sv 0 (noL 0)).toArray ?_ built25z ?_; (focus simp)) | ((with_reducible refine at_store 2 ?_); refine wpList_put_ls O 0 (sv (0) (noL 0)) rfl rfl rfl (s25 _ _) (sv_len _ _ _ _) (sv_one _ _) ?_; clear O; intro w4 O))
    refine bodyPost_ret (v := .tuple #[.agg (sv 0 (noL 0)).toArray, .int .i64 7]) (res_ls3 rfl O 0 rfl rfl Try.underlying25 rfl (s25 _ _) rfl) rfl ?_
    rw [HE.out]
    exact ⟨_, rfl, newS_none _ _, O.below⟩
  have HE : Hid (Stk.push (stk i L) = ((stk i L).put ((L i).l ++ [Stk.last (L i).l]), 0)) := by show _ = _; simp [Stk.push, hr, hmt, h8]
  have q8 : (((L i).l.length : Int) == 8) = false := by simp; omega
  have EV : (L i).val = .slice (L i).A (L i).l.length (L i).c := rfl
  clear h8
  have HR := Lib.hid hr
  have HN := Lib.hid hlen
  have HI := Lib.hid hli
  have HNE := Lib.hid hne
  clear hr hlen hli hne hmt
  go_enter Try.func18, Try.ntmps18
  go_wp2_with (first | ((with_reducible refine at_box 1 ?_); refine wpList_box_ls O (sv i L) rfl ?_; clear O; intro g2 w1 O) | ((with_reducible refine at_alloc 2 ?_); refine wpList_alloc_ls O (sv 0 (noL 0)) zero25 ?_; clear O; intro g4 w2 O) | ((with_reducible refine at_load 5 ?_); refine wpList_rowg_ls rfl O 1 rfl rfl Try.underlying25 rfl (s25 _ _) ?_) | (go_at_call 22; refine (right6_any i L _ O.twoL).mono ?_; rw [HR.out]; rintro e w3 ⟨rfl, hb⟩; replace O := O.call hb; clear hb) | ((with_reducible refine at_load 10 ?_); refine wpList_cell_ls rfl O 1 rfl (rfl) rfl agg3 rfl ?_) | ((with_reducible refine at_index 12 ?_); refine wpList_in_ls rfl Try.underlying23 sizeOf22 (by decide) (i) rfl rfl (rfl) (hi) ?_) | ((with_reducible refine at_load 13 ?_); refine wpList_cell_ls rfl O 1 rfl (sv_at _ _ hi) rfl agg22 rfl ?_))
  refine region_S (fun st w2 => LitSt w [(g4, 25, sv 0 (noL 0)), (g2, 25, sv i L)] [L 0, L 1] (st 4) (Stk.last (L i).l) w2) [4] 12 5 [some 18, some 19, some 20, some 21, some 22] (fun g => [.agg (sv i L).toArray, .slice (L i).A (L i).l.length (L i).c, .slice (L i).A (L i).l.length (L i).c, arr 16 (Stk.last (L i).l), g 4]) 3 (by kernel_rfl) (by kernel_rfl) (by rfl) (by rfl) (fun _ => rfl) (by decide) ?_ (.inl ⟨rfl, O.drew⟩) (fun F hF => ?_)
  · intro i hi
    simp only [List.mem_cons, List.not_mem_nil, or_false] at hi
    rcases hi with rfl
    · exact ⟨fun _ => rfl, [0, 1, 2, 3], by kernel_rfl, fun g v => ⟨rfl, rfl, rfl, rfl, trivial⟩⟩
  simp only [fillD, Act.put, List.setIfInBounds_toArray, List.set_cons_zero, List.set_cons_succ] at hF
  have hF2 := funext hF
  clear hF
  subst hF2
  refine ⟨⟨doesN_want (by decide) rfl (fun g => rfl) (fun st w' hS hp K hK => ?_), doesN_want (by decide) rfl (fun g => rfl) (fun st w' hS hp K hK => ?_), doesN_want (by decide) rfl (fun g => rfl) (fun st w' hS hp K hK => ?_), doesN_want (by decide) rfl (fun g => rfl) (fun st w' hS hp K hK => ?_), doesC_want (by decide) rfl (fun g => rfl) (fun st w' hS hn hp K hK => ?_), trivial⟩, fun st w' hS hall => ?_⟩
  · try dsimp only
    exact wp_row_ls hS.own 1 rfl rfl Try.underlying25 rfl (s25 _ _) (hK _ hS)
  · try dsimp only
    go_simp
    exact hK _ hS
  · try dsimp only
    go_simp
    exact hK _ hS
  · try dsimp only
    go_simp
    go_at_call 31
    refine (last_any (L i) _ (hS.own.ret i (twoL_at L _ hi)) HNE.out (by have := HI.out; omega)).mono ?_
    rintro e w3 ⟨rfl, hb⟩
    exact hK _ (hS.call hb)
  · try dsimp only
    have hcs := hn
    rcases hS with ⟨h1, O⟩ | ⟨g, h1, O⟩
    · refine wp_lit_ls O (Stk.last (L i).l) rfl fun g w3 O3 => hK _ w3 (.inr ⟨g, upd_same _ _ _, O3⟩)
    · rw [h1] at hcs; cases hcs
  try dsimp only
  have hp1 := hall 4 (by decide)
  rcases hS with ⟨h1, O⟩ | ⟨g, h1, O⟩
  · rw [h1] at hp1; cases hp1
  have es : seen st 4 = .slice (some ⟨g, 0, none⟩) 1 1 := by simp [seen, h1]
  rw [es]
  clear hp1 h1 es hall
  refine wpAny_want (i := 5) (by kernel_rfl) rfl (by rfl) (fun K hK => ?_)
  go_simp
  go_at_call 32
  refine (with_any i hi L (L i) (⟨w.heap.size, some ⟨g, 0, none⟩, 1, [Stk.last (L i).l]⟩) _ (O.pick (fun x hx => List.mem_cons_of_mem _ hx)).twoL (O.ret (1 + i) (by rw [Nat.add_comm]; exact twoL_at L _ hi)) (O.ret 0 rfl) (fun k hk => by have := HN.out k hk; omega) (by have := HI.out; omega) (by simp)).mono ?_
  rintro e w3 ⟨v, rfl, hv, hb⟩
  obtain ⟨L', rfl, hL', O2⟩ := O.gainS hv hb
  clear O hv hb
  have O := O2
  clear O2
  refine hK _ _ ?_
  clear hK K
  try simp only [Act.put, List.setIfInBounds_toArray, List.set_cons_zero, List.set_cons_succ]
  refine wpAny_want (i := 6) (by kernel_rfl) rfl (by rfl) (fun K hK => ?_)
  refine wp_put_ls O 0 (sv (i) (L')) rfl rfl rfl (s25 _ _) rfl (sv_one _ _) fun w9 O9 => hK _ _ ?_
  clear O
  have O := O9
  clear O9
  clear hK K
  try simp only [Act.put, List.setIfInBounds_toArray, List.set_cons_zero, List.set_cons_succ]
  refine wpAny_one (i := 7) (by kernel_rfl) rfl (fun K hK => ?_)
  go_simp
  refine hK _ _ ?_
  clear hK K
  try simp only [Act.put, List.setIfInBounds_toArray, List.set_cons_zero, List.set_cons_succ]
  refine wpAny_done (by kernel_rfl) ?_ _
  go_wp2_with fail
  refine bodyPost_ret (v := .tuple #[.agg (sv i L').toArray, .int .i64 0]) (res_ls3 rfl O 0 rfl rfl Try.underlying25 rfl (s25 _ _) rfl) rfl ?_
  rw [HE.out]
  refine ⟨_, rfl, newS_of (s := (stk i L).put ((L i).l ++ [Stk.last (L i).l])) O L' (fun k hk => ?_) (fun k hk => ⟨(hL' k hk).1, (hL' k hk).2⟩), O.below⟩
  rcases k with _ | _ | k
  · simp
  · simp
  · omega
end Go.Proofs.Ythcieapfpgejdaa
