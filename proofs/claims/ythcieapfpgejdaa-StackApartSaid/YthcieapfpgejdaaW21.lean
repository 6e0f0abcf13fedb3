/- Contract: awake. -/
import Derived.Test.YthcieapfpgejdaaW20
namespace Go.Proofs.Ythcieapfpgejdaa
open Go.ChangeShapes Go.WideShapes Go.ChangeAt Go.RowKit
set_option linter.unusedVariables false
set_option linter.unusedSimpArgs false

theorem new_lists {L : Nat → Ent} {n : Nat} (h : ∀ i, i < 2 → (L i).lo = n ∧ (L i).l = Stk.new.l i) : ∀ i, i < 2 → (stk 0 L).l i = [M.unit] := fun i hi => (h i hi).2
theorem okL_unit : Stk.okL [M.unit] = true := by kernel_rfl
theorem okL_unit2 : Stk.okL [M.unit, M.unit] = true := by kernel_rfl
theorem new_right {L : Nat → Ent} (h : ∀ i, i < 2 → (stk 0 L).l i = [M.unit]) : Stk.right (stk 0 L) = true := Stk.right_iff.2 ⟨.inl rfl, fun i hi => by rw [h i hi]; exact okL_unit⟩
theorem new_meant {L : Nat → Ent} (h : ∀ i, i < 2 → (stk 0 L).l i = [M.unit]) : (stk 0 L).meant = [M.unit] := h 0 (by decide)
theorem pop_new {L : Nat → Ent} (h : ∀ i, i < 2 → (stk 0 L).l i = [M.unit]) : Stk.pop (stk 0 L) = (Stk.none_, 7) := by
  rw [Stk.pop, new_right h, new_meant h]
  rfl
theorem push_new {L : Nat → Ent} (h : ∀ i, i < 2 → (stk 0 L).l i = [M.unit]) : Stk.push (stk 0 L) = ((stk 0 L).put [M.unit, M.unit], 0) := by
  rw [Stk.push, new_right h, new_meant h]
  rfl
theorem pushed_right {L L' : Nat → Ent} {n : Nat} (h : ∀ i, i < 2 → (stk 0 L).l i = [M.unit]) (h' : ∀ i, i < 2 → (L' i).lo = n ∧ (L' i).l = ((stk 0 L).put [M.unit, M.unit]).l i) :
    Stk.right (stk 0 L') = true ∧ (L' 0).val = .slice (L' 0).A 2 (L' 0).c ∧ (L' 1).val = .slice (L' 1).A 1 (L' 1).c := by
  have h0 : (L' 0).l = [M.unit, M.unit] := (h' 0 (by decide)).2
  have h1 : (L' 1).l = [M.unit] := (h' 1 (by decide)).2.trans (h 1 (by decide))
  refine ⟨Stk.right_iff.2 ⟨.inl rfl, fun i hi => ?_⟩, by rw [Ent.val, h0]; rfl, by rw [Ent.val, h1]; rfl⟩
  rcases i with _ | _ | i
  · show Stk.okL (L' 0).l = true
    rw [h0]
    exact okL_unit2
  · show Stk.okL (L' 1).l = true
    rw [h1]
    exact okL_unit
  · omega
set_option maxRecDepth 100000 in
set_option maxHeartbeats 4000000 in
theorem awake_any (w : World) : Calls Try.prog 8 #[] w fun e w' => e = .returned (.bool true) ∧ Below w.heap.size w w' := by
  have O := OwnL.start w [] (by simp)
  have hu2 := Try.underlying25
  go_enter Try.func8, Try.ntmps8
  go_wp2_with (first | (go_at_call 24; refine (new_any _).mono ?_; rintro e w3 ⟨v, rfl, hv, hb⟩; obtain ⟨L1, rfl, hL1, O2⟩ := O.gainS hv hb; clear O hv hb; have O := O2; clear O2; have HU := Lib.hid (new_lists hL1); clear hL1) | (go_at_call 20; refine (pop_any 0 L1 _ O.twoL).mono ?_; rw [pop_new HU.out]; rintro e w4 ⟨v, rfl, hv, hb⟩; obtain ⟨L2, rfl, hL2, O2⟩ := O.gainS hv hb; clear O hv hb; have O := O2; clear O2; clear hL2) | (go_at_call 18; refine (push_any 0 L1 _ O.twoL).mono ?_; rw [push_new HU.out]; rintro e w5 ⟨v, rfl, hv, hb⟩; obtain ⟨L3, rfl, hL3, O2⟩ := O.gainS hv hb; clear O hv hb; have O := O2; clear O2; obtain ⟨hr3, E0, E1⟩ := pushed_right HU.out hL3; have HR := Lib.hid hr3; clear hr3 hL3) | ((with_reducible refine at_alloc 1 ?_); refine wpList_alloc_ls O (sv 0 (noL 0)) zero25 ?_; clear O; intro g1 w6 O) | ((with_reducible refine at_store 1 ?_); refine wpList_put_ls O 0 (sv (0) (L2)) rfl rfl rfl (s25 _ _) (sv_len _ _ _ _) (sv_one _ _) ?_; clear O; intro w7 O) | ((with_reducible refine at_alloc 3 ?_); refine wpList_alloc_ls O (sv 0 (noL 0)) zero25 ?_; clear O; intro g3 w8 O) | ((with_reducible refine at_store 3 ?_); refine wpList_put_ls O 0 (sv (0) (L3)) rfl rfl rfl (s25 _ _) (sv_len _ _ _ _) (sv_one _ _) ?_; clear O; intro w9 O) | ((with_reducible refine at_load 22 ?_); refine wpList_rowg_ls rfl O 0 rfl rfl Try.underlying25 rfl (s25 _ _) ?_) | (go_at_call 22; refine (right6_any 0 L3 _ O.twoL).mono ?_; rw [HR.out]; rintro e w10 ⟨rfl, hb⟩; replace O := O.call hb; clear hb) | ((with_reducible refine at_index 27 ?_); refine wpList_in_ls rfl Try.underlying23 sizeOf22 (by decide) (0) rfl rfl (rfl) (by omega) ?_) | ((with_reducible refine at_load 28 ?_); refine wpList_cell_ls rfl O 0 rfl (rfl) rfl agg22 rfl ?_) | ((with_reducible refine at_index 34 ?_); refine wpList_in_ls rfl Try.underlying23 sizeOf22 (by decide) (1) rfl rfl (rfl) (by omega) ?_) | ((with_reducible refine at_load 35 ?_); refine wpList_cell_ls rfl O 0 rfl (rfl) rfl agg22 rfl ?_))
  go_ret
  exact ⟨rfl, O.below⟩
end Go.Proofs.Ythcieapfpgejdaa
