/- Contracts: a call of the document. -/
import Derived.Test.YthcieapfpgejdaaW22
namespace Go.Proofs.Ythcieapfpgejdaa
open Go.ChangeShapes Go.WideShapes Go.ChangeAt Go.RowKit
set_option linter.unusedVariables false
set_option linter.unusedSimpArgs false

set_option maxRecDepth 100000 in
set_option maxHeartbeats 4000000 in
theorem want_any (m : Int) (L : Nat → Ent) (a : Deed) (w : World) (hL : ∀ i, i < 2 → Lies w [] (L i)) : Calls Try.prog 27 #[.agg (sv m L).toArray, .agg a.cells.toArray] w (RetSE w (Stk.deed (stk m L) a)) := by
  have O := OwnL.start w [] (by simp)
  have hu2 := Try.underlying25
  have hu3 := Try.underlying43
  have HL := Lib.hid hL
  clear hL
  obtain ⟨k, n, x⟩ := a
  obtain ⟨p, hp⟩ : ∃ p, Stk.deed (stk m L) ⟨k, n, x⟩ = p := ⟨_, rfl⟩
  rw [hp]
  by_cases k0 : k = 0
  · subst k0
    have HP : Hid (Stk.choose (stk m L) n = p) := by show _ = _; rw [← hp]; simp [Stk.deed]
    clear hp 
    go_enter Try.func27, Try.ntmps27
    go_wp2_with (first | ((with_reducible refine at_box 2 ?_); refine wpList_box_ls O (sv m L) rfl ?_; clear O; intro g2 w1 O) | ((with_reducible refine at_box 3 ?_); refine wpList_box_ls O (Deed.cells ⟨0, n, x⟩) rfl ?_; clear O; intro g3 w1 O) | ((with_reducible refine at_alloc 4 ?_); refine wpList_alloc_ls O (sv 0 (noL 0)) zero25 ?_; clear O; intro g4 w2 O) | ((with_reducible refine at_load 7 ?_); refine wpList_cell_ls rfl O 1 rfl (rfl) rfl agg3 rfl ?_) | ((with_reducible refine at_load 10 ?_); refine wpList_rowg_ls rfl O 2 rfl rfl Try.underlying25 rfl (s25 _ _) ?_) | ((with_reducible refine at_load 12 ?_); refine wpList_cell_ls rfl O 1 rfl (rfl) rfl agg3 rfl ?_) | (go_at_call 12; refine (rchoose_any m L n _ (fun i hi => O.old (HL.out i hi))).mono ?_; rw [HP.out]; rintro e w6 ⟨v, rfl, hv, hb⟩; obtain ⟨L', rfl, hL', O2⟩ := O.gainS hv hb; clear O hv hb; have O := O2; clear O2) | ((with_reducible refine at_store 4 ?_); refine wpList_put_ls O 0 (sv (p.1.m) (L')) rfl rfl rfl (s25 _ _) (sv_len _ _ _ _) (sv_one _ _) ?_; clear O; intro w8 O))
    refine bodyPost_ret (v := .tuple #[.agg (sv p.1.m L').toArray, .int .i64 p.2]) (res_ls3 rfl O 0 rfl rfl Try.underlying25 rfl (s25 _ _) rfl) rfl ⟨_, rfl, newS_of (s := p.1) O L' (fun i hi => ?_) (fun i hi => hL' i hi), O.below⟩
    rcases i with _ | _ | i
    · simp
    · simp
    · omega
  have b0 : (k == 0) = false := by simpa using k0
  by_cases k1 : k = 1
  · subst k1
    have HP : Hid (Stk.load (stk m L) x = p) := by show _ = _; rw [← hp]; simp [Stk.deed]
    clear hp 
    go_enter Try.func27, Try.ntmps27
    go_wp2_with (first | ((with_reducible refine at_box 2 ?_); refine wpList_box_ls O (sv m L) rfl ?_; clear O; intro g2 w1 O) | ((with_reducible refine at_box 3 ?_); refine wpList_box_ls O (Deed.cells ⟨1, n, x⟩) rfl ?_; clear O; intro g3 w1 O) | ((with_reducible refine at_alloc 4 ?_); refine wpList_alloc_ls O (sv 0 (noL 0)) zero25 ?_; clear O; intro g4 w2 O) | ((with_reducible refine at_load 7 ?_); refine wpList_cell_ls rfl O 1 rfl (rfl) rfl agg3 rfl ?_) | ((with_reducible refine at_load 18 ?_); refine wpList_rowg_ls rfl O 2 rfl rfl Try.underlying25 rfl (s25 _ _) ?_) | ((with_reducible refine at_load 20 ?_); refine wpList_mid_ls rfl O 1 rfl (M.mat 16 x) (fun j u hu => deed_mat ⟨1, n, x⟩ hu) rfl Try.underlying27 rfl (s23 _) ?_) | (go_at_call 15; refine (rload_any m L x _ (fun i hi => O.old (HL.out i hi))).mono ?_; rw [HP.out]; rintro e w6 ⟨v, rfl, hv, hb⟩; obtain ⟨L', rfl, hL', O2⟩ := O.gainS hv hb; clear O hv hb; have O := O2; clear O2) | ((with_reducible refine at_store 4 ?_); refine wpList_put_ls O 0 (sv (p.1.m) (L')) rfl rfl rfl (s25 _ _) (sv_len _ _ _ _) (sv_one _ _) ?_; clear O; intro w8 O))
    refine bodyPost_ret (v := .tuple #[.agg (sv p.1.m L').toArray, .int .i64 p.2]) (res_ls3 rfl O 0 rfl rfl Try.underlying25 rfl (s25 _ _) rfl) rfl ⟨_, rfl, newS_of (s := p.1) O L' (fun i hi => ?_) (fun i hi => hL' i hi), O.below⟩
    rcases i with _ | _ | i
    · simp
    · simp
    · omega
  have b1 : (k == 1) = false := by simpa using k1
  by_cases k2 : k = 2
  · subst k2
    have HP : Hid (Stk.mult (stk m L) x = p) := by show _ = _; rw [← hp]; simp [Stk.deed]
    clear hp 
    go_enter Try.func27, Try.ntmps27
    go_wp2_with (first | ((with_reducible refine at_box 2 ?_); refine wpList_box_ls O (sv m L) rfl ?_; clear O; intro g2 w1 O) | ((with_reducible refine at_box 3 ?_); refine wpList_box_ls O (Deed.cells ⟨2, n, x⟩) rfl ?_; clear O; intro g3 w1 O) | ((with_reducible refine at_alloc 4 ?_); refine wpList_alloc_ls O (sv 0 (noL 0)) zero25 ?_; clear O; intro g4 w2 O) | ((with_reducible refine at_load 7 ?_); refine wpList_cell_ls rfl O 1 rfl (rfl) rfl agg3 rfl ?_) | ((with_reducible refine at_load 26 ?_); refine wpList_rowg_ls rfl O 2 rfl rfl Try.underlying25 rfl (s25 _ _) ?_) | ((with_reducible refine at_load 28 ?_); refine wpList_mid_ls rfl O 1 rfl (M.mat 16 x) (fun j u hu => deed_mat ⟨2, n, x⟩ hu) rfl Try.underlying27 rfl (s23 _) ?_) | (go_at_call 17; refine (rmult_any m L x _ (fun i hi => O.old (HL.out i hi))).mono ?_; rw [HP.out]; rintro e w6 ⟨v, rfl, hv, hb⟩; obtain ⟨L', rfl, hL', O2⟩ := O.gainS hv hb; clear O hv hb; have O := O2; clear O2) | ((with_reducible refine at_store 4 ?_); refine wpList_put_ls O 0 (sv (p.1.m) (L')) rfl rfl rfl (s25 _ _) (sv_len _ _ _ _) (sv_one _ _) ?_; clear O; intro w8 O))
    refine bodyPost_ret (v := .tuple #[.agg (sv p.1.m L').toArray, .int .i64 p.2]) (res_ls3 rfl O 0 rfl rfl Try.underlying25 rfl (s25 _ _) rfl) rfl ⟨_, rfl, newS_of (s := p.1) O L' (fun i hi => ?_) (fun i hi => hL' i hi), O.below⟩
    rcases i with _ | _ | i
    · simp
    · simp
    · omega
  have b2 : (k == 2) = false := by simpa using k2
  by_cases k3 : k = 3
  · subst k3
    have HP : Hid (Stk.push (stk m L) = p) := by show _ = _; rw [← hp]; simp [Stk.deed]
    clear hp 
    go_enter Try.func27, Try.ntmps27
    go_wp2_with (first | ((with_reducible refine at_box 2 ?_); refine wpList_box_ls O (sv m L) rfl ?_; clear O; intro g2 w1 O) | ((with_reducible refine at_box 3 ?_); refine wpList_box_ls O (Deed.cells ⟨3, n, x⟩) rfl ?_; clear O; intro g3 w1 O) | ((with_reducible refine at_alloc 4 ?_); refine wpList_alloc_ls O (sv 0 (noL 0)) zero25 ?_; clear O; intro g4 w2 O) | ((with_reducible refine at_load 7 ?_); refine wpList_cell_ls rfl O 1 rfl (rfl) rfl agg3 rfl ?_) | ((with_reducible refine at_load 34 ?_); refine wpList_rowg_ls rfl O 2 rfl rfl Try.underlying25 rfl (s25 _ _) ?_) | (go_at_call 19; refine (rpush_any m L _ (fun i hi => O.old (HL.out i hi))).mono ?_; rw [HP.out]; rintro e w6 ⟨v, rfl, hv, hb⟩; obtain ⟨L', rfl, hL', O2⟩ := O.gainS hv hb; clear O hv hb; have O := O2; clear O2) | ((with_reducible refine at_store 4 ?_); refine wpList_put_ls O 0 (sv (p.1.m) (L')) rfl rfl rfl (s25 _ _) (sv_len _ _ _ _) (sv_one _ _) ?_; clear O; intro w8 O))
    refine bodyPost_ret (v := .tuple #[.agg (sv p.1.m L').toArray, .int .i64 p.2]) (res_ls3 rfl O 0 rfl rfl Try.underlying25 rfl (s25 _ _) rfl) rfl ⟨_, rfl, newS_of (s := p.1) O L' (fun i hi => ?_) (fun i hi => hL' i hi), O.below⟩
    rcases i with _ | _ | i
    · simp
    · simp
    · omega
  have b3 : (k == 3) = false := by simpa using k3
  have HP : Hid (Stk.pop (stk m L) = p) := by show _ = _; rw [← hp]; simp [Stk.deed, k0, k1, k2, k3]
  clear hp k0 k1 k2 k3
  go_enter Try.func27, Try.ntmps27
  go_wp2_with (first | ((with_reducible refine at_box 2 ?_); refine wpList_box_ls O (sv m L) rfl ?_; clear O; intro g2 w1 O) | ((with_reducible refine at_box 3 ?_); refine wpList_box_ls O (Deed.cells ⟨k, n, x⟩) rfl ?_; clear O; intro g3 w1 O) | ((with_reducible refine at_alloc 4 ?_); refine wpList_alloc_ls O (sv 0 (noL 0)) zero25 ?_; clear O; intro g4 w2 O) | ((with_reducible refine at_load 7 ?_); refine wpList_cell_ls rfl O 1 rfl (rfl) rfl agg3 rfl ?_) | ((with_reducible refine at_load 38 ?_); refine wpList_rowg_ls rfl O 2 rfl rfl Try.underlying25 rfl (s25 _ _) ?_) | (go_at_call 21; refine (rpop_any m L _ (fun i hi => O.old (HL.out i hi))).mono ?_; rw [HP.out]; rintro e w6 ⟨v, rfl, hv, hb⟩; obtain ⟨L', rfl, hL', O2⟩ := O.gainS hv hb; clear O hv hb; have O := O2; clear O2) | ((with_reducible refine at_store 4 ?_); refine wpList_put_ls O 0 (sv (p.1.m) (L')) rfl rfl rfl (s25 _ _) (sv_len _ _ _ _) (sv_one _ _) ?_; clear O; intro w8 O))
  refine bodyPost_ret (v := .tuple #[.agg (sv p.1.m L').toArray, .int .i64 p.2]) (res_ls3 rfl O 0 rfl rfl Try.underlying25 rfl (s25 _ _) rfl) rfl ⟨_, rfl, newS_of (s := p.1) O L' (fun i hi => ?_) (fun i hi => hL' i hi), O.below⟩
  rcases i with _ | _ | i
  · simp
  · simp
  · omega
end Go.Proofs.Ythcieapfpgejdaa
