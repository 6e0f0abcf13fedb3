/- Contract: whether the line has come to a rectangle. -/
import Derived.Test.YtheolajpjpnfjaaXz
import Derived.Test.YtheolajpjpnfjaaXw
import Derived.Test.YtheolajpjpnfjaaXr
namespace Go.Proofs.Ytheolajpjpnfjaa
open Go.ChangeShapes Go.WideShapes Go.ChangeAt Go.RowKit
set_option linter.unusedVariables false
set_option linter.unusedSimpArgs false

/-- Blocks that lay there from the start, as a world's own: for what is read. -/
theorem old1 {w w' : World} {bs : List (Nat × TypeId × List Value)} (O : Own w w' bs) {g : Nat} {t : TypeId} {cs : List Value} (h : w.heap[g]? = some (.cells cs.toArray t (0, 0))) : Own { w' with heap := #[] } w' [(g, t, cs)] := by
  refine ⟨⟨rfl, rfl, rfl, Nat.zero_le _, fun k hk => absurd hk (Nat.not_lt_zero k)⟩, by simp, fun x hx => ?_⟩
  obtain rfl := List.mem_singleton.1 hx
  exact ⟨Nat.zero_le _, (O.1.block g (Array.getElem?_eq_some_iff.1 h).1).trans h⟩
theorem see1 {w : World} {g : Nat} {t : TypeId} {cs : List Value} (h : w.heap[g]? = some (.cells cs.toArray t (0, 0))) : Own { w with heap := #[] } w [(g, t, cs)] := old1 (Own.start w) h
namespace DM
/-- Has the line come to a rectangle? -/
def prd (ax ay bx by_ : Int) (r0 r1 r2 r3 : Int) (z : Int × Int) : Bool := reached (bx - ax) z.1 r0 r2 && reached (by_ - ay) z.2 r1 r3
end DM
set_option maxRecDepth 100000 in
set_option maxHeartbeats 8000000 in
theorem reach1_any (a0 a1 b0 b1 : Int) (tv f s n k X Y r0 r1 r2 r3 : Int) (gl gr : Nat) (w : World) (hl : w.heap[gl]? = some (.cells (wl a0 a1 b0 b1 tv f s n).toArray 52 (0, 0))) (hr : w.heap[gr]? = some (.cells (M.mat 4 (RC.mk r0 r1 r2 r3)).toArray 25 (0, 0)))
    (la : -1073741824 ≤ b0 - a0 ∧ b0 - a0 ≤ 1073741824) (lb : -1073741824 ≤ b1 - a1 ∧ b1 - a1 ≤ 1073741824)
    (CP : ∀ w, Calls Try.prog 28 #[.agg (wl a0 a1 b0 b1 tv f s n).toArray, .int .i64 k] w fun e w' => e = .returned (arr 3 (DM.t3 k X Y)) ∧ Below w.heap.size w w') :
    Calls Try.prog 38 #[.int .i64 k, .pointer (some ⟨gl, 0, none⟩), .pointer (some ⟨gr, 0, none⟩)] w fun e w' => e = .returned (.bool (DM.prd a0 a1 b0 b1 r0 r1 r2 r3 (X, Y))) ∧ Below w.heap.size w w' := by
  have O := Own.start w
  have C1 := fun w => reached_any (b0 - a0) X r0 r2 w
  have C2 := fun w => reached_any (b1 - a1) Y r1 r3 w
  have W1 : wrap64 (b0 - a0) = b0 - a0 := IntWalk.wrap64_in _ (by omega)
  have W2 : wrap64 (b1 - a1) = b1 - a1 := IntWalk.wrap64_in _ (by omega)
  clear la lb
  unfold DM.prd
  dsimp only
  have K1 := cell_is (n := 3) (i := 1) (a := DM.t3 k X Y) (z := X) rfl (by decide)
  have K2 := cell_is (n := 3) (i := 2) (a := DM.t3 k X Y) (z := Y) rfl (by decide)
  obtain ⟨d0, hd0⟩ : ∃ z, b0 - a0 = z := ⟨_, rfl⟩
  obtain ⟨d1, hd1⟩ : ∃ z, b1 - a1 = z := ⟨_, rfl⟩
  rw [hd0] at C1 W1 ⊢
  rw [hd1] at C2 W2 ⊢
  have tok0 : True := trivial
  obtain ⟨p, hp⟩ : ∃ z, DM.reached d0 X r0 r2 = z := ⟨_, rfl⟩
  obtain ⟨q, hq⟩ : ∃ z, DM.reached d1 Y r1 r3 = z := ⟨_, rfl⟩
  rw [hp] at C1 ⊢
  rw [hq] at C2 ⊢
  clear hp hq
  cases p
  · clear C2
    go_enter Try.func38, Try.ntmps38
    go_wp2_with (first | ((with_reducible refine at_load 6 ?_); refine wpList_whole rfl (old1 O hl) 0 rfl rfl Try.underlying52 rfl (sWl a0 a1 b0 b1 tv f s n) ?_) | (go_at_call 28; refine (CP _).mono ?_; rintro e w1 ⟨rfl, hb⟩; replace O := O.call hb; clear hb) | ((with_reducible refine at_alloc 5 ?_); refine wpList_alloc_own O (M.mat 3 M.zero) zeroT ?_; clear O; intro g5 w2 O) | ((with_reducible refine at_store 5 ?_); refine wpList_put_own O 0 (M.mat 3 (DM.t3 k X Y)) rfl rfl rfl (sT _) (M.mat_len2 _ _ _) (M.mat_one _ _) ?_; clear O; intro w3 O) | ((with_reducible refine at_load 11 ?_); refine wpList_cell_h (v := .int .i64 b0) rfl (old1 O hl).held 0 rfl (i := 2) rfl rfl agg3 rfl ?_) | ((with_reducible refine at_load 14 ?_); refine wpList_cell_h (v := .int .i64 a0) rfl (old1 O hl).held 0 rfl (i := 0) rfl rfl agg3 rfl ?_) | ((with_reducible refine at_load 17 ?_); refine wpList_cell_h (v := .int .i64 (X)) rfl O.held 0 rfl K1.out rfl agg3 rfl ?_) | ((with_reducible refine at_load 19 ?_); refine wpList_cell_h (v := .int .i64 r0) rfl (old1 O hr).held 0 rfl (i := 0) rfl rfl agg3 rfl ?_) | ((with_reducible refine at_load 21 ?_); refine wpList_cell_h (v := .int .i64 r2) rfl (old1 O hr).held 0 rfl (i := 2) rfl rfl agg3 rfl ?_) | (go_at_call 39; clear tok0; have tok1 : True := trivial; refine (C1 _).mono ?_; rintro e w' ⟨rfl, rfl⟩))
    go_ret
    exact ⟨rfl, O.below⟩
  · go_enter Try.func38, Try.ntmps38
    go_wp2_with (first | ((with_reducible refine at_load 6 ?_); refine wpList_whole rfl (old1 O hl) 0 rfl rfl Try.underlying52 rfl (sWl a0 a1 b0 b1 tv f s n) ?_) | (go_at_call 28; refine (CP _).mono ?_; rintro e w1 ⟨rfl, hb⟩; replace O := O.call hb; clear hb) | ((with_reducible refine at_alloc 5 ?_); refine wpList_alloc_own O (M.mat 3 M.zero) zeroT ?_; clear O; intro g5 w2 O) | ((with_reducible refine at_store 5 ?_); refine wpList_put_own O 0 (M.mat 3 (DM.t3 k X Y)) rfl rfl rfl (sT _) (M.mat_len2 _ _ _) (M.mat_one _ _) ?_; clear O; intro w3 O) | ((with_reducible refine at_load 11 ?_); refine wpList_cell_h (v := .int .i64 b0) rfl (old1 O hl).held 0 rfl (i := 2) rfl rfl agg3 rfl ?_) | ((with_reducible refine at_load 14 ?_); refine wpList_cell_h (v := .int .i64 a0) rfl (old1 O hl).held 0 rfl (i := 0) rfl rfl agg3 rfl ?_) | ((with_reducible refine at_load 17 ?_); refine wpList_cell_h (v := .int .i64 (X)) rfl O.held 0 rfl K1.out rfl agg3 rfl ?_) | ((with_reducible refine at_load 19 ?_); refine wpList_cell_h (v := .int .i64 r0) rfl (old1 O hr).held 0 rfl (i := 0) rfl rfl agg3 rfl ?_) | ((with_reducible refine at_load 21 ?_); refine wpList_cell_h (v := .int .i64 r2) rfl (old1 O hr).held 0 rfl (i := 2) rfl rfl agg3 rfl ?_) | (go_at_call 39; clear tok0; have tok1 : True := trivial; refine (C1 _).mono ?_; rintro e w' ⟨rfl, rfl⟩) | ((with_reducible refine at_load 26 ?_); refine wpList_cell_h (v := .int .i64 b1) rfl (old1 O hl).held 0 rfl (i := 3) rfl rfl agg3 rfl ?_) | ((with_reducible refine at_load 29 ?_); refine wpList_cell_h (v := .int .i64 a1) rfl (old1 O hl).held 0 rfl (i := 1) rfl rfl agg3 rfl ?_) | ((with_reducible refine at_load 32 ?_); refine wpList_cell_h (v := .int .i64 (Y)) rfl O.held 0 rfl K2.out rfl agg3 rfl ?_) | ((with_reducible refine at_load 34 ?_); refine wpList_cell_h (v := .int .i64 r1) rfl (old1 O hr).held 0 rfl (i := 1) rfl rfl agg3 rfl ?_) | ((with_reducible refine at_load 36 ?_); refine wpList_cell_h (v := .int .i64 r3) rfl (old1 O hr).held 0 rfl (i := 3) rfl rfl agg3 rfl ?_) | (go_at_call 39; clear tok1; have tok2 : True := trivial; refine (C2 _).mono ?_; rintro e w' ⟨rfl, rfl⟩))
    go_ret
    exact ⟨rfl, O.below⟩
end Go.Proofs.Ytheolajpjpnfjaa
