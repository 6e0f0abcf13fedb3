/- Contract: whether the line has come to a rectangle. Plain: what of a line is told in a rectangle. Contract: the library's Search. Contracts: where a line comes to a rectangle; its iterator. A fence without a bound: operations are carried out as everywhere. The iterator's contract. Within: what stands between two rounds. Contracts: where a line comes to a rectangle, by its number; the iterator. -/
import Derived.Test.YtpfhaocmcfnhnaaGreatXz
import Derived.Test.YtpfhaocmcfnhnaaGreatXw
import Derived.Test.YtpfhaocmcfnhnaaGreatXr
import Derived.Test.YtpfhaocmcfnhnaaGreatXv
import Derived.RangeFuncNested
import Derived.Shelf.Abstract
import Derived.OwnWalkIn
import Derived.OrdersIn
import Derived.RangeFuncCalls
import Derived.RangeFuncLeaves
import Derived.LoopNIn
import Derived.LoopIn
import Derived.TacticsInMore
import Derived.RangeFuncBox
namespace Go.Proofs.YtpfhaocmcfnhnaaGreat
open Go.ChangeShapes Go.WideShapes Go.ChangeAt Go.RowKit
set_option linter.unusedVariables false
set_option linter.unusedSimpArgs false

/-- Blocks that lay there from the start, as a world's own: for what is read. -/
theorem old1 {w w' : World} {bs : List (Nat × TypeId × List Value)} (O : Own w w' bs) {g : Nat} {t : TypeId} {cs : List Value} (h : w.heap[g]? = some (.cells cs.toArray t (0, 0))) : Own { w' with heap := #[] } w' [(g, t, cs)] := by
 refine ⟨⟨rfl, rfl, rfl, Nat.zero_le _, fun k hk => absurd hk (Nat.not_lt_zero k)⟩, by simp, fun x hx => ?_⟩
 obtain rfl := List.mem_singleton.1 hx
 exact ⟨Nat.zero_le _, (O.1.block g (Array.getElem?_eq_some_iff.1 h).1).trans h⟩
theorem see1 {w : World} {g : Nat} {t : TypeId} {cs : List Value} (h : w.heap[g]? = some (.cells cs.toArray t (0, 0))) : Own { w with heap := #[] } w [(g, t, cs)] := old1 (Own.start w) h
namespace DM
/-- Has the line come to a rectangle? -/
def prd (ax ay bx by_ : Int) (r0 r1 r2 r3 : Int) (z : Int × Int) : Bool := reached (bx - ax) z.1 r0 r2 && reached (by_ - ay) z.2 r1 r3
end DM
set_option maxRecDepth 100000 in
set_option maxHeartbeats 8000000 in
theorem reach1_any (a0 a1 b0 b1 : Int) (tv f s n k X Y r0 r1 r2 r3 : Int) (gl gr : Nat) (w : World) (hl : w.heap[gl]? = some (.cells (wl a0 a1 b0 b1 tv f s n).toArray 78 (0, 0))) (hr : w.heap[gr]? = some (.cells (M.mat 4 (RC.mk r0 r1 r2 r3)).toArray 29 (0, 0)))
  (la : -1073741824 ≤ b0 - a0 ∧ b0 - a0 ≤ 1073741824) (lb : -1073741824 ≤ b1 - a1 ∧ b1 - a1 ≤ 1073741824)
  (CP : ∀ w, Calls Tryz.prog 60 #[.agg (wl a0 a1 b0 b1 tv f s n).toArray, .int .i64 k] w fun e w' => e = .returned (arr 3 (DM.t3 k X Y)) ∧ Below w.heap.size w w') :
  Calls Tryz.prog 62 #[.int .i64 k, .pointer (some ⟨gl, 0, none⟩), .pointer (some ⟨gr, 0, none⟩)] w fun e w' => e = .returned (.bool (DM.prd a0 a1 b0 b1 r0 r1 r2 r3 (X, Y))) ∧ Below w.heap.size w w' := by
 have O := Own.start w
 have C1 := fun w => reached_any (b0 - a0) X r0 r2 w
 have C2 := fun w => reached_any (b1 - a1) Y r1 r3 w
 have W1 : wrap64 (b0 - a0) = b0 - a0 := IntWalk.wrap64_in _ (by omega)
 have W2 : wrap64 (b1 - a1) = b1 - a1 := IntWalk.wrap64_in _ (by omega)
 clear la lb
 unfold DM.prd
 dsimp only
 have K1 := cell_is (n := 3) (i := 1) (a := DM.t3 k X Y) (z := X) rfl (by decide)
 have K2 := cell_is (n := 3) (i := 2) (a := DM.t3 k X Y) (z := Y) rfl (by decide)
 obtain ⟨d0, hd0⟩ : ∃ z, b0 - a0 = z := ⟨_, rfl⟩
 obtain ⟨d1, hd1⟩ : ∃ z, b1 - a1 = z := ⟨_, rfl⟩
 rw [hd0] at C1 W1 ⊢
 rw [hd1] at C2 W2 ⊢
 have tok0 : True := trivial
 obtain ⟨p, hp⟩ : ∃ z, DM.reached d0 X r0 r2 = z := ⟨_, rfl⟩
 obtain ⟨q, hq⟩ : ∃ z, DM.reached d1 Y r1 r3 = z := ⟨_, rfl⟩
 rw [hp] at C1 ⊢
 rw [hq] at C2 ⊢
 clear hp hq
 cases p
 ·
  clear C2
  go_enter Tryz.func62, Tryz.ntmps62
  go_wp2_with (first | ((with_reducible refine at_load 6 ?_); refine wpList_whole rfl (old1 O hl) 0 rfl rfl Tryz.underlying78 rfl (sWl a0 a1 b0 b1 tv f s n) ?_) | (go_at_call 60; refine (CP _).mono ?_; rintro e w1 ⟨rfl, hb⟩; replace O := O.call hb; clear hb) | ((with_reducible refine at_alloc 5 ?_); refine wpList_alloc_own O (M.mat 3 M.zero) zeroT ?_; clear O; intro g5 w2 O) | ((with_reducible refine at_store 5 ?_); refine wpList_put_own O 0 (M.mat 3 (DM.t3 k X Y)) rfl rfl rfl (sT _) (M.mat_len2 _ _ _) (M.mat_one _ _) ?_; clear O; intro w3 O) | ((with_reducible refine at_load 11 ?_); refine wpList_cell_h (v := .int .i64 b0) rfl (old1 O hl).held 0 rfl (i := 2) rfl rfl agg3 rfl ?_) | ((with_reducible refine at_load 14 ?_); refine wpList_cell_h (v := .int .i64 a0) rfl (old1 O hl).held 0 rfl (i := 0) rfl rfl agg3 rfl ?_) | ((with_reducible refine at_load 17 ?_); refine wpList_cell_h (v := .int .i64 (X)) rfl O.held 0 rfl K1.out rfl agg3 rfl ?_) | ((with_reducible refine at_load 19 ?_); refine wpList_cell_h (v := .int .i64 r0) rfl (old1 O hr).held 0 rfl (i := 0) rfl rfl agg3 rfl ?_) | ((with_reducible refine at_load 21 ?_); refine wpList_cell_h (v := .int .i64 r2) rfl (old1 O hr).held 0 rfl (i := 2) rfl rfl agg3 rfl ?_) | (go_at_call 63; clear tok0; have tok1 : True := trivial; refine (C1 _).mono ?_; rintro e w' ⟨rfl, rfl⟩))
  go_ret
  exact ⟨rfl, O.below⟩
 ·
  go_enter Tryz.func62, Tryz.ntmps62
  go_wp2_with (first | ((with_reducible refine at_load 6 ?_); refine wpList_whole rfl (old1 O hl) 0 rfl rfl Tryz.underlying78 rfl (sWl a0 a1 b0 b1 tv f s n) ?_) | (go_at_call 60; refine (CP _).mono ?_; rintro e w1 ⟨rfl, hb⟩; replace O := O.call hb; clear hb) | ((with_reducible refine at_alloc 5 ?_); refine wpList_alloc_own O (M.mat 3 M.zero) zeroT ?_; clear O; intro g5 w2 O) | ((with_reducible refine at_store 5 ?_); refine wpList_put_own O 0 (M.mat 3 (DM.t3 k X Y)) rfl rfl rfl (sT _) (M.mat_len2 _ _ _) (M.mat_one _ _) ?_; clear O; intro w3 O) | ((with_reducible refine at_load 11 ?_); refine wpList_cell_h (v := .int .i64 b0) rfl (old1 O hl).held 0 rfl (i := 2) rfl rfl agg3 rfl ?_) | ((with_reducible refine at_load 14 ?_); refine wpList_cell_h (v := .int .i64 a0) rfl (old1 O hl).held 0 rfl (i := 0) rfl rfl agg3 rfl ?_) | ((with_reducible refine at_load 17 ?_); refine wpList_cell_h (v := .int .i64 (X)) rfl O.held 0 rfl K1.out rfl agg3 rfl ?_) | ((with_reducible refine at_load 19 ?_); refine wpList_cell_h (v := .int .i64 r0) rfl (old1 O hr).held 0 rfl (i := 0) rfl rfl agg3 rfl ?_) | ((with_reducible refine at_load 21 ?_); refine wpList_cell_h (v := .int .i64 r2) rfl (old1 O hr).held 0 rfl (i := 2) rfl rfl agg3 rfl ?_) | (go_at_call 63; clear tok0; have tok1 : True := trivial; refine (C1 _).mono ?_; rintro e w' ⟨rfl, rfl⟩) | ((with_reducible refine at_load 26 ?_); refine wpList_cell_h (v := .int .i64 b1) rfl (old1 O hl).held 0 rfl (i := 3) rfl rfl agg3 rfl ?_) | ((with_reducible refine at_load 29 ?_); refine wpList_cell_h (v := .int .i64 a1) rfl (old1 O hl).held 0 rfl (i := 1) rfl rfl agg3 rfl ?_) | ((with_reducible refine at_load 32 ?_); refine wpList_cell_h (v := .int .i64 (Y)) rfl O.held 0 rfl K2.out rfl agg3 rfl ?_) | ((with_reducible refine at_load 34 ?_); refine wpList_cell_h (v := .int .i64 r1) rfl (old1 O hr).held 0 rfl (i := 1) rfl rfl agg3 rfl ?_) | ((with_reducible refine at_load 36 ?_); refine wpList_cell_h (v := .int .i64 r3) rfl (old1 O hr).held 0 rfl (i := 3) rfl rfl agg3 rfl ?_) | (go_at_call 63; clear tok1; have tok2 : True := trivial; refine (C2 _).mono ?_; rintro e w' ⟨rfl, rfl⟩))
  go_ret
  exact ⟨rfl, O.below⟩
end Go.Proofs.YtpfhaocmcfnhnaaGreat
namespace Go.Proofs.YtpfhaocmcfnhnaaGreat
open Go.ChangeShapes Go.WideShapes Go.ChangeAt Go.RowKit
set_option linter.unusedVariables false
set_option linter.unusedSimpArgs false

namespace DM
theorem nth {α : Type} {l : List α} {i : Nat} {x : α} (h : l[i]? = some x) : ∃ hi : i < l.length, l[i] = x := List.getElem?_eq_some_iff.1 h
/-- A line does not turn back. -/
theorem pixs_mono {ax ay bx by_ f s n : Int} (hL : Lin ax ay bx by_ f s n) {i j : Nat} (hij : i ≤ j) {p q : Int × Int} (hi : (pixs ax ay bx by_)[i]? = some p) (hj : (pixs ax ay bx by_)[j]? = some q) :
  ((0 ≤ bx - ax → p.1 ≤ q.1) ∧ (bx - ax < 0 → q.1 ≤ p.1)) ∧ ((0 ≤ by_ - ay → p.2 ≤ q.2) ∧ (by_ - ay < 0 → q.2 ≤ p.2)) := by
 obtain ⟨L1, L2, L3, L4, L5⟩ := hL
 have n1 := (nth hi).1
 have n2 := (nth hj).1
 unfold cnt14 at L1
 obtain ⟨hn, _, hP⟩ := L5 i (by omega) (by omega)
 obtain ⟨_, _, hQ⟩ := L5 j (by omega) (by omega)
 rw [show ((i : Int).toNat) = i by omega, hi, Option.some.injEq] at hP
 rw [show ((j : Int).toNat) = j by omega, hj, Option.some.injEq] at hQ
 have ei := pixs_at hn hi
 have ej := pixs_at hn hj
 unfold num at ei ej
 have hw := way_of hn
 generalize f + (i : Int) * s = u at hP
 generalize f + (j : Int) * s = u' at hQ
 clear L1 L2 L3 L4 L5 n1 n2 hi hj
 unfold pxl at hP hQ
 generalize tall (bx - ax) (by_ - ay) = t at *
 subst hP
 subst hQ
 dsimp only at ei ej ⊢
 rw [(mn_cr_back t _ _).1] at ei ej
 have hp : pl (mn t ax ay) (mn t bx by_) u ≤ pl (mn t ax ay) (mn t bx by_) u' := by omega
 have hm := @colV_mono t _ _ _ _ u hw u' hp
 unfold pl at hp
 unfold way at hw
 cases t
 ·
  simp only [mn, cr, Bool.false_eq_true, if_false] at *
  split at hp <;> omega
 ·
  simp only [mn, cr, if_true] at *
  split at hp <;> omega
theorem prd_mono {ax ay bx by_ f s n r0 r1 r2 r3 : Int} (hL : Lin ax ay bx by_ f s n) {i j : Nat} (hij : i ≤ j) {p q : Int × Int} (hi : (pixs ax ay bx by_)[i]? = some p) (hj : (pixs ax ay bx by_)[j]? = some q) (h : prd ax ay bx by_ r0 r1 r2 r3 p = true) : prd ax ay bx by_ r0 r1 r2 r3 q = true := by
 have hm := pixs_mono hL hij hi hj
 unfold prd reached at *
 rw [Bool.and_eq_true] at *
 obtain ⟨h1, h2⟩ := h
 refine ⟨?_, ?_⟩
 ·
  by_cases hd : bx - ax < 0
  ·
   rw [if_pos hd, decide_eq_true_eq] at h1 ⊢
   have := hm.1.2 hd
   omega
  ·
   rw [if_neg hd, decide_eq_true_eq] at h1 ⊢
   have := hm.1.1 (by omega)
   omega
 ·
  by_cases hd : by_ - ay < 0
  ·
   rw [if_pos hd, decide_eq_true_eq] at h2 ⊢
   have := hm.2.2 hd
   omega
  ·
   rw [if_neg hd, decide_eq_true_eq] at h2 ⊢
   have := hm.2.1 (by omega)
   omega
/-- Which pixel is the first that is not ahead of a rectangle any more. -/
def fstR (ax ay bx by_ : Int) (r : Nat → Int) : Nat := (pixs ax ay bx by_).findIdx (prd ax ay bx by_ (r 0) (r 1) (r 2) (r 3))
theorem fstR_is {ax ay bx by_ f s n : Int} {r : Nat → Int} (hL : Lin ax ay bx by_ f s n) {i : Int} (hi : 0 ≤ i ∧ i ≤ n) (h0 : 0 < i → ∀ z, (pixs ax ay bx by_)[(i - 1).toNat]? = some z → prd ax ay bx by_ (r 0) (r 1) (r 2) (r 3) z = false)
  (h1 : i < n → ∀ z, (pixs ax ay bx by_)[i.toNat]? = some z → prd ax ay bx by_ (r 0) (r 1) (r 2) (r 3) z = true) : i = fstR ax ay bx by_ r := by
 have hn := hL.1
 unfold cnt14 at hn
 unfold fstR
 have hF := @List.findIdx_le_length _ (prd ax ay bx by_ (r 0) (r 1) (r 2) (r 3)) (pixs ax ay bx by_)
 have hmono := fun i j hij p q hi hj => @prd_mono ax ay bx by_ f s n (r 0) (r 1) (r 2) (r 3) hL i j hij p q hi hj
 generalize prd ax ay bx by_ (r 0) (r 1) (r 2) (r 3) = p at *
 rcases (by omega : i.toNat < (pixs ax ay bx by_).findIdx p ∨ (pixs ax ay bx by_).findIdx p < i.toNat ∨ i = (pixs ax ay bx by_).findIdx p) with h | h | h
 ·
  exfalso
  have hlt : i.toNat < (pixs ax ay bx by_).length := by omega
  have := h1 (by omega) _ (List.getElem?_eq_getElem hlt)
  have := List.not_of_lt_findIdx h
  simp_all
 ·
  exfalso
  have hlt : (pixs ax ay bx by_).findIdx p < (pixs ax ay bx by_).length := by omega
  have e1 := @List.findIdx_getElem _ p (pixs ax ay bx by_) hlt
  have hl2 : (i - 1).toNat < (pixs ax ay bx by_).length := by omega
  have e2 := h0 (by omega) _ (List.getElem?_eq_getElem hl2)
  have := hmono _ _ (show (pixs ax ay bx by_).findIdx p ≤ (i - 1).toNat by omega) _ _ (List.getElem?_eq_getElem hlt) (List.getElem?_eq_getElem hl2) e1
  rw [this] at e2
  cases e2
 · exact h
theorem fstR_le (ax ay bx by_ : Int) (r : Nat → Int) : fstR ax ay bx by_ r ≤ (pixs ax ay bx by_).length := List.findIdx_le_length
/-- What is told of a line, from the first pixel on that is not ahead. -/
def tailR (ax ay bx by_ : Int) (r : Nat → Int) : List (Int × Int × Int) := (steps ax ay bx by_).drop (fstR ax ay bx by_ r)
theorem steps_at {ax ay bx by_ : Int} {j : Nat} {y : Int × Int × Int} (h : (steps ax ay bx by_)[j]? = some y) : (pixs ax ay bx by_)[j]? = some (y.2.1, y.2.2) ∧ y.1 = j := by
 rw [steps_get] at h
 obtain ⟨z, hz, rfl⟩ := Option.map_eq_some_iff.1 h
 exact ⟨hz, rfl⟩
theorem ahead_out {ax ay bx by_ : Int} {r : Nat → Int} {j : Nat} (hj : j < fstR ax ay bx by_ r) {y : Int × Int × Int} (h : (steps ax ay bx by_)[j]? = some y) : inR4 r y = false := by
 obtain ⟨hp, _⟩ := steps_at h
 have h1 := List.not_of_lt_findIdx hj
 obtain ⟨hl, e⟩ := nth hp
 rw [e] at h1
 unfold prd reached at h1
 unfold inR4
 rw [← Bool.not_eq_true] at *
 intro h2
 simp only [Bool.and_eq_true, decide_eq_true_eq] at h2
 apply h1
 rw [Bool.and_eq_true]
 refine ⟨?_, ?_⟩ <;> split <;> simp only [decide_eq_true_eq] <;> omega
theorem past_out {ax ay bx by_ f s n : Int} {r : Nat → Int} (hL : Lin ax ay bx by_ f s n) {j k : Nat} (hj : fstR ax ay bx by_ r ≤ j) (hjk : j ≤ k) {y z : Int × Int × Int} (hy : (steps ax ay bx by_)[j]? = some y) (hz : (steps ax ay bx by_)[k]? = some z) (h : inR4 r y = false) : inR4 r z = false := by
 obtain ⟨hp, _⟩ := steps_at hy
 obtain ⟨hq, _⟩ := steps_at hz
 have hm := pixs_mono hL hjk hp hq
 have hlt : fstR ax ay bx by_ r < (pixs ax ay bx by_).length := Nat.lt_of_le_of_lt hj (nth hp).1
 have e1 := @List.findIdx_getElem _ (prd ax ay bx by_ (r 0) (r 1) (r 2) (r 3)) (pixs ax ay bx by_) hlt
 have e2 := prd_mono hL hj (List.getElem?_eq_getElem hlt) hp e1
 unfold prd reached at e2
 unfold inR4 at *
 rw [← Bool.not_eq_true] at *
 intro h2
 apply h
 simp only [Bool.and_eq_true, decide_eq_true_eq] at h2 e2 hm ⊢
 obtain ⟨e3, e4⟩ := e2
 refine ⟨?_, ?_⟩
 · split at e3 <;> simp only [decide_eq_true_eq] at e3 <;> omega
 · split at e4 <;> simp only [decide_eq_true_eq] at e4 <;> omega
theorem has_in (r : Nat → Int) (y : Int × Int × Int) : RC.has r y.2.1 y.2.2 = (RC.right r && inR4 r y) := by
 unfold RC.has inR4
 rw [Bool.and_assoc]
theorem take_out (ax ay bx by_ : Int) (r : Nat → Int) : ((steps ax ay bx by_).take (fstR ax ay bx by_ r)).filter (inR4 r) = [] := by
 rw [List.filter_eq_nil_iff]
 intro y hy
 obtain ⟨j, hj⟩ := List.mem_iff_getElem?.1 hy
 rw [List.getElem?_take] at hj
 split at hj
 ·
  rename_i h
  rw [ahead_out h hj]
  decide
 · cases hj
/-- All that is told lies in the rectangle. -/
theorem within_done {ax ay bx by_ : Int} {r : Nat → Int} (h : ∀ y ∈ tailR ax ay bx by_ r, RC.has r y.2.1 y.2.2 = true) : (if RC.right r then wth ax ay bx by_ r else []) = tailR ax ay bx by_ r := by
 cases hr : RC.right r
 ·
  rw [if_neg (by decide)]
  cases ht : tailR ax ay bx by_ r with
  | nil => rfl
  | cons y l =>
   have := h y (by rw [ht]; exact List.mem_cons_self)
   rw [has_in, hr] at this
   cases this
 ·
  rw [if_pos rfl]
  unfold wth
  rw [← List.take_append_drop (fstR ax ay bx by_ r) (steps ax ay bx by_), List.filter_append, take_out, List.nil_append]
  refine List.filter_eq_self.2 fun y hy => ?_
  have := h y hy
  rw [has_in, hr, Bool.true_and] at this
  exact this
/-- What is told, up to the first one that does not. -/
theorem within_stop {ax ay bx by_ f s n : Int} {r : Nat → Int} (hL : Lin ax ay bx by_ f s n) {pre : List (Int × Int × Int)} {x : Int × Int × Int} (hp : pre ++ [x] <+: tailR ax ay bx by_ r) (h : ∀ y ∈ pre, RC.has r y.2.1 y.2.2 = true) (hx : RC.has r x.2.1 x.2.2 = false) :
  (if RC.right r then wth ax ay bx by_ r else []) = pre := by
 obtain ⟨l, hl⟩ := hp
 cases hr : RC.right r
 ·
  rw [if_neg (by decide)]
  cases pre with
  | nil => rfl
  | cons y l' =>
   have := h y List.mem_cons_self
   rw [has_in, hr] at this
   cases this
 ·
  rw [if_pos rfl]
  unfold wth
  rw [← List.take_append_drop (fstR ax ay bx by_ r) (steps ax ay bx by_), List.filter_append, take_out, List.nil_append]
  have e : (steps ax ay bx by_).drop (fstR ax ay bx by_ r) = pre ++ x :: l := by
   have := hl.symm
   unfold tailR at this
   rw [this, List.append_assoc]
   rfl
  rw [e, List.filter_append]
  have hq : pre.filter (inR4 r) = pre := List.filter_eq_self.2 fun y hy => by
   have := h y hy
   rw [has_in, hr, Bool.true_and] at this
   exact this
  rw [has_in, hr, Bool.true_and] at hx
  have hgx : (steps ax ay bx by_)[fstR ax ay bx by_ r + pre.length]? = some x := by
   rw [← List.getElem?_drop, e, List.getElem?_append_right (Nat.le_refl _), Nat.sub_self]
   rfl
  have hz : (x :: l).filter (inR4 r) = [] := by
   rw [List.filter_eq_nil_iff]
   intro y hy
   obtain ⟨j, hj⟩ := List.mem_iff_getElem?.1 hy
   have hgy : (steps ax ay bx by_)[fstR ax ay bx by_ r + (pre.length + j)]? = some y := by
    rw [← List.getElem?_drop, e, List.getElem?_append_right (Nat.le_add_right _ _), Nat.add_sub_cancel_left]
    exact hj
   rw [past_out hL (by omega) (by omega) hgx hgy hx]
   decide
  rw [hq, hz, List.append_nil]
end DM
end Go.Proofs.YtpfhaocmcfnhnaaGreat
namespace Go.Proofs.YtpfhaocmcfnhnaaGreat
open Go.ChangeShapes Go.WideShapes Go.ChangeAt Go.RowKit
set_option linter.unusedVariables false
set_option linter.unusedSimpArgs false

set_option maxRecDepth 100000 in
set_option maxHeartbeats 8000000 in
theorem search_any (n : Int) (hn0 : 0 ≤ n) (hn1 : n ≤ 4194320) (gl gr : Nat) (prd : Int → Bool) (R : World → Prop)
  (hR : ∀ k, 0 ≤ k → k < n → ∀ w, R w → Calls Tryz.prog 62 #[.int .i64 k, .pointer (some ⟨gl, 0, none⟩), .pointer (some ⟨gr, 0, none⟩)] w fun e w' => e = .returned (.bool (prd k)) ∧ Below w.heap.size w w')
  (hRb : ∀ w w', R w → Below w.heap.size w w' → R w') (w : World) (h0 : R w) :
  Calls Tryz.prog 61 #[.int .i64 n, .func (.func 62) #[] #[.pointer (some ⟨gl, 0, none⟩), .pointer (some ⟨gr, 0, none⟩)]] w fun e w' => ∃ i : Int, e = .returned (.int .i64 i) ∧ (0 ≤ i ∧ i ≤ n) ∧ (0 < i → prd (i - 1) = false) ∧ (i < n → prd i = true) ∧ Below w.heap.size w w' := by
 have hcf : ∀ args w, (callFunc 62 args).run Tryz.prog w = .ok (.enter 62 args) w := enters_of Tryz.func62 (by kernel_rfl) rfl
 replace hR := Lib.hid hR
 replace hRb := Lib.hid hRb
 go_enter Tryz.func61, Tryz.ntmps61
 go_wp2_with fail
 go_loopw [5, 6, 7] (fun t5 t6 t7 wr => ∃ i j : Int, t5 = .int .i64 i ∧ t6 = .int .i64 j ∧ (0 ≤ i ∧ i ≤ j ∧ j ≤ n) ∧ (0 < i → prd (i - 1) = false) ∧ (j < n → prd j = true) ∧ R wr ∧ Below w.heap.size w wr) (fun t5 t6 t7 _ => (intOf t6 - intOf t5).toNat)
 case atStart => exact ⟨0, n, rfl, rfl, ⟨Int.le_refl _, hn0, Int.le_refl _⟩, fun h => absurd h (by decide), fun h => absurd h (by omega), h0, Below.refl _ _⟩
 case round =>
  obtain ⟨i, j, rfl, rfl, ⟨i0, ij, jn⟩, pi, pj, hRw, hb⟩ := hrel
  replace pi := Lib.hid pi
  replace pj := Lib.hid pj
  by_cases hlt : i < j
  ·
   obtain ⟨h, hh⟩ : ∃ h, (i + j) / 2 = h := ⟨_, rfl⟩
   have lh : i ≤ h ∧ h < j := by omega
   have hh2 := Lib.hid hh
   go_wp2_with fail
   clear hh
   refine (hR.out h (by omega) (by omega) wr hRw).mono ?_
   rintro e w2 ⟨rfl, hb2⟩
   have hR2 := hRb.out _ _ hRw hb2
   have hb3 := hb.trans (hb2.mono hb.size)
   cases hp : prd h
   ·
    have HP := Lib.hid hp
    clear hp
    have W1 : wrap64 (h + 1) = h + 1 := IntWalk.wrap64_in _ (by omega)
    go_wp2_with fail
    go_roundw
    case rel => exact ⟨h + 1, j, by go_num, rfl, ⟨by omega, by omega, jn⟩, fun _ => by rw [show h + 1 - 1 = h by omega]; exact HP.out, pj.out, hR2, hb3⟩
    case measure => simp [intOf]; omega
   ·
    have HP := Lib.hid hp
    clear hp
    go_wp2_with fail
    go_roundw
    case rel => exact ⟨i, h, rfl, rfl, ⟨by omega, by omega, by omega⟩, pi.out, fun _ => HP.out, hR2, hb3⟩
    case measure => simp [intOf]; omega
  ·
   go_wp2_with fail
   obtain rfl : i = j := by omega
   go_ret
   exact ⟨i, rfl, ⟨i0, jn⟩, pi.out, pj.out, hb⟩
end Go.Proofs.YtpfhaocmcfnhnaaGreat
namespace Go.Proofs.YtpfhaocmcfnhnaaGreat
open Go.ChangeShapes Go.WideShapes Go.ChangeAt Go.RowKit
set_option linter.unusedVariables false
set_option linter.unusedSimpArgs false

set_option maxRecDepth 100000 in
set_option maxHeartbeats 8000000 in
/-- The first pixel that is not ahead of a rectangle any more. -/
theorem reaching_any (a0 a1 b0 b1 : Int) (t : Bool) (f s n r0 r1 r2 r3 : Int) (ht : DM.tall (b0 - a0) (b1 - a1) = t) (hL : DM.Lin a0 a1 b0 b1 f s n) (ha : DM.Rg (DM.t2 a0 a1)) (hb : DM.Rg (DM.t2 b0 b1)) (w : World) :
  Calls Tryz.prog 40 #[.agg (wl a0 a1 b0 b1 (DM.wv t) f s n).toArray, arr 4 (RC.mk r0 r1 r2 r3)] w fun e w' => ∃ i : Int, e = .returned (.int .i64 i) ∧ (0 ≤ i ∧ i ≤ n) ∧
   (0 < i → ∀ z, (DM.pixs a0 a1 b0 b1)[(i - 1).toNat]? = some z → DM.prd a0 a1 b0 b1 r0 r1 r2 r3 z = false) ∧ (i < n → ∀ z, (DM.pixs a0 a1 b0 b1)[i.toNat]? = some z → DM.prd a0 a1 b0 b1 r0 r1 r2 r3 z = true) ∧ Below w.heap.size w w' := by
 have O := Own.start w
 obtain ⟨L1, L2, L3, L4, L5⟩ := hL
 have la := ha
 have lb := hb
 unfold DM.Rg at la lb
 have P0 : DM.t2 a0 a1 0 = a0 := rfl
 have P1 : DM.t2 a0 a1 1 = a1 := rfl
 have P2 : DM.t2 b0 b1 0 = b0 := rfl
 have P3 : DM.t2 b0 b1 1 = b1 := rfl
 rw [P0, P1] at la
 rw [P2, P3] at lb
 clear P0 P1 P2 P3
 obtain ⟨pr, hpr⟩ : ∃ q : Int → Bool, (fun k : Int => DM.prd a0 a1 b0 b1 r0 r1 r2 r3 (DM.pxl t (DM.mn t a0 a1) (DM.cr t a0 a1) (DM.mn t b0 b1) (DM.cr t b0 b1) (f + k * s))) = q := ⟨_, rfl⟩
 have CS : ∀ gl gr w, w.heap[gl]? = some (.cells (wl a0 a1 b0 b1 (DM.wv t) f s n).toArray 78 (0, 0)) → w.heap[gr]? = some (.cells (M.mat 4 (RC.mk r0 r1 r2 r3)).toArray 29 (0, 0)) → Calls Tryz.prog 61 #[.int .i64 n, .func (.func 62) #[] #[.pointer (some ⟨gl, 0, none⟩), .pointer (some ⟨gr, 0, none⟩)]] w fun e w' => ∃ i : Int, e = .returned (.int .i64 i) ∧ (0 ≤ i ∧ i ≤ n) ∧ (0 < i → pr (i - 1) = false) ∧ (i < n → pr i = true) ∧ Below w.heap.size w w' := by
  intro gl gr w hl hr
  refine search_any n L4.1 L4.2 gl gr pr (fun w => w.heap[gl]? = some (.cells (wl a0 a1 b0 b1 (DM.wv t) f s n).toArray 78 (0, 0)) ∧ w.heap[gr]? = some (.cells (M.mat 4 (RC.mk r0 r1 r2 r3)).toArray 29 (0, 0))) (fun k k0 k1 w hw => ?_) (fun w w' hw hb => ⟨(hb.block gl (Array.getElem?_eq_some_iff.1 hw.1).1).trans hw.1, (hb.block gr (Array.getElem?_eq_some_iff.1 hw.2).1).trans hw.2⟩) w ⟨hl, hr⟩
  obtain ⟨hn, hU, hP⟩ := L5 k k0 k1
  have hW := DM.way_of hn
  rw [ht] at hW hU
  have hks : -8388640 ≤ k * s ∧ k * s ≤ 8388640 := by rcases L2 with e | e <;> rw [e] <;> omega
  have CP := fun w => pixel_any a0 a1 b0 b1 t f s n k (f + k * s) hW ha hb hU rfl (by omega) w
  rw [← hpr]
  exact reach1_any a0 a1 b0 b1 (DM.wv t) f s n k _ _ r0 r1 r2 r3 gl gr w hw.1 hw.2 (by omega) (by omega) CP
 have HP : Hid (∀ k, 0 ≤ k → k < n → ∀ z, (DM.pixs a0 a1 b0 b1)[k.toNat]? = some z → DM.prd a0 a1 b0 b1 r0 r1 r2 r3 z = pr k) := Lib.hid (fun k k0 k1 z hz => by
  obtain ⟨hn, hU, hPx⟩ := L5 k k0 k1
  rw [hz, ht, Option.some.injEq] at hPx
  rw [hPx, ← hpr])
 generalize DM.wv t = tv at *
 clear L1 L2 L3 L4 L5 la lb ha hb hpr ht
 go_enter Tryz.func40, Tryz.ntmps40
 go_wp2_with (first | ((with_reducible refine at_box 2 ?_); refine wpList_box_own O (wl a0 a1 b0 b1 tv f s n) rfl ?_; clear O; intro g2 w1 O) | ((with_reducible refine at_box 3 ?_); refine wpList_box_own O (M.mat 4 (RC.mk r0 r1 r2 r3)) rfl ?_; clear O; intro g3 w2 O) | ((with_reducible refine at_load 6 ?_); refine wpList_cell_h (v := .int .i64 n) rfl O.held 1 rfl (i := 7) rfl rfl agg3 rfl ?_) | (go_at_call 61; refine (CS _ _ _ (O.2.2 _ (List.mem_cons_of_mem _ List.mem_cons_self)).2 (O.2.2 _ List.mem_cons_self).2).mono ?_; rintro e w3 ⟨i, rfl, hi, hi1, hi2, hb⟩; replace O := O.call hb; clear hb))
 go_ret
 exact ⟨i, rfl, hi, fun h z hz => by rw [HP.out (i - 1) (by omega) (by omega) z hz]; exact hi1 h, fun h z hz => by rw [HP.out i hi.1 h z hz]; exact hi2 h, O.below⟩
set_option maxHeartbeats 4000000 in
/-- The iterator: it has the line and a number in boxes of its own. -/
theorem from_any (a0 a1 b0 b1 tv f s n k : Int) (w : World) : Calls Tryz.prog 39 #[.agg (wl a0 a1 b0 b1 tv f s n).toArray, .int .i64 k] w fun e w' => ∃ gl gk, e = .returned (.func (.func 59) #[] #[.pointer (some ⟨gk, 0, none⟩), .pointer (some ⟨gl, 0, none⟩)]) ∧
  w'.heap[gl]? = some (.cells (wl a0 a1 b0 b1 tv f s n).toArray 78 (0, 0)) ∧ w'.heap[gk]? = some (.cells #[.int .i64 k] 3 (0, 0)) ∧ w.heap.size ≤ gl ∧ w.heap.size ≤ gk ∧ Below w.heap.size w w' := by
 have O1 := (Own.start w).alloc 78 (wl a0 a1 b0 b1 tv f s n)
 have O2 := O1.alloc 3 [.int .i64 k]
 have HO := Lib.hid O2
 clear O1 O2
 go_enter Tryz.func39, Tryz.ntmps39
 go_wp2_with fail
 go_ret
 have O2 := HO.out
 have h2 := (O2.2.2 _ List.mem_cons_self).2
 dsimp only at h2
 rw [World.size_alloc] at h2
 exact ⟨w.heap.size, w.heap.size + 1, rfl, (O2.2.2 _ (List.mem_cons_of_mem _ List.mem_cons_self)).2, h2, Nat.le_refl _, Nat.le_succ _, O2.below⟩
end Go.Proofs.YtpfhaocmcfnhnaaGreat
namespace Go.Proofs.YtpfhaocmcfnhnaaGreat
open Go.ChangeShapes Go.WideShapes Go.ChangeAt Go.RowKit
set_option linter.unusedVariables false
set_option linter.unusedSimpArgs false

section
variable {P : Program} {n : Nat}
theorem Oper.wpIn_of {F : Fence} (hf : ∀ f, F.fn f) (hdp : F.depth = none) (hc : ∀ m f args w R, Calls P f args w R → CallsIn F m P f args w R) (hrw : ∀ m row args w R, Rows P row args w R → RowsIn F m P row args w R)
  {o : Oper} (hd : ∀ c, o.op ≠ .defer c) {a : Act} {w : World} {K : Act → World → Prop} {Q : Exit → Act → World → Prop} (h : o.wp P a w K Q) : o.wpIn F n P a w K Q := by
 unfold Oper.wp at h
 unfold Oper.wpIn
 refine ⟨fun f _ => hf f, ?_⟩
 rw [Oper.semAt_plain F a.eval o hd]
 generalize (execOp a.eval o).run P w = r at h ⊢
 have hdd : F.depth.isSome = true → 1 ≤ n := fun e => by rw [hdp] at e; cases e
 cases r with
 | ok x w' =>
  cases x
  case value v => exact h
  case skip => exact h
  case defer d => exact h
  case enter f args => exact ⟨hdd, hc _ _ _ _ _ h⟩
  case row row args => exact ⟨hdd, hrw _ _ _ _ _ h⟩
  all_goals exact h.elim
 | halt x w' =>
  cases x
  case panic v => exact h
  all_goals exact h.elim
theorem rowsIn_of (m : Nat) (row : String) (args : Array Value) (w : World) (R : Value → World → Prop) (h : Rows P row args w R) : RowsIn Fence.wide m P row args w R :=
 fun c cs _ => let ⟨v, w', r, s⟩ := h c cs; ⟨v, w', r, stepsIn_wide.2 s⟩
theorem Oper.wpIn_wide' {o : Oper} (hd : ∀ c, o.op ≠ .defer c) {a : Act} {w : World} {K : Act → World → Prop} {Q : Exit → Act → World → Prop} (h : o.wp P a w K Q) : o.wpIn Fence.wide n P a w K Q :=
 Oper.wpIn_of (fun _ => trivial) rfl (fun _ _ _ _ _ h => callsIn_wide.2 h) rowsIn_of hd h
theorem Oper.wpIn_round' {l : Nat} {o : Oper} (hd : ∀ c, o.op ≠ .defer c) {a : Act} {w : World} {K : Act → World → Prop} {Q : Exit → Act → World → Prop} (h : o.wp P a w K Q) : o.wpIn (Fence.wide.inRound l) n P a w K Q :=
 Oper.wpIn_of (fun _ => trivial) rfl (fun _ _ _ _ _ h => CallsIn.inRound l (callsIn_wide.2 h)) (fun m row args w R h => rowsIn_of m row args w R h) hd h
/-- An operation, carried out within a fence as everywhere. -/
theorem wpListIn_one {ops : Array Oper} {rest : List Oper} {o : Oper} {a : Act} {w : World} {Q : Exit → Act → World → Prop} (hw : Region.wanted o (yielded ops a.tmps) = true) (hd : ∀ c, o.op ≠ .defer c)
  (h : ∀ K : Act → World → Prop, (∀ a w, wpListIn Fence.wide n P ops Q rest a w → K a w) → o.wp P a w K Q) : wpListIn Fence.wide n P ops Q (o :: rest) a w :=
 wpListIn_step fun K hK => by rw [if_pos hw]; exact Oper.wpIn_wide' hd (h K hK)
/-- A list of operations, carried out in a round as everywhere. -/
theorem wpListIn_round {l : Nat} {ops : Array Oper} {Q : Exit → Act → World → Prop} (hQ : ¬ LetsOut Q) : ∀ {rest : List Oper} {a : Act} {w : World}, (∀ o ∈ rest, ∀ c, o.op ≠ .defer c) → wpList P ops Q rest a w → wpListIn (Fence.wide.inRound l) n P ops Q rest a w := by
 intro rest
 induction rest with
 | nil => exact fun _ h => h
 | cons o rest ih =>
  intro a w hd h
  unfold wpListIn
  unfold wpList at h
  split at h
  ·
   rename_i hw
   rw [if_pos hw]
   rcases h with h | h
   · exact Oper.wpIn_mono (fun a w => ih (fun o ho => hd o (List.mem_cons_of_mem _ ho))) (Oper.wpIn_round' (hd o List.mem_cons_self) h)
   · exact absurd h.2 hQ
  ·
   rename_i hw
   rw [if_neg hw]
   exact ⟨fun f _ => trivial, ih (fun o ho => hd o (List.mem_cons_of_mem _ ho)) h⟩
end
end Go.Proofs.YtpfhaocmcfnhnaaGreat
namespace Go.Proofs.YtpfhaocmcfnhnaaGreat
open Go.ChangeShapes Go.WideShapes Go.ChangeAt Go.RowKit
set_option linter.unusedVariables false
set_option linter.unusedSimpArgs false

attribute [local go_sem] Oper.semAt_some
theorem at_load_in (d : Nat) {F : Fence} {m : Nat} {ops : Array Oper} {Q : Exit → Act → World → Prop} {a : Act} {w : World} {rest : List Oper} {ty : TypeId} {pos : String} {after : Array Edge} {t : TypeId} {x : Operand} {gd : Option (Nat × Bool)}
  (h : wpListIn F m Tryz.prog ops Q (⟨some d, .load t x, ty, pos, after, gd⟩ :: rest) a w) : wpListIn F m Tryz.prog ops Q (⟨some d, .load t x, ty, pos, after, gd⟩ :: rest) a w := h
set_option maxRecDepth 100000 in
set_option maxHeartbeats 8000000 in
theorem from1_any (m : Nat) (a0 a1 b0 b1 tv f s n k0 : Int) (gl gk : Nat) (xs : List (Int × Int × Int)) (hk0 : 0 ≤ k0) (hn0 : n ≤ 4194320) (hn : k0 + xs.length = n)
  (HP : ∀ (j : Nat) x, xs[j]? = some x → ∀ w, Calls Tryz.prog 60 #[.agg (wl a0 a1 b0 b1 tv f s n).toArray, .int .i64 (k0 + j)] w fun e w' => e = .returned (arr 3 (sF x)) ∧ Below w.heap.size w w')
  (l : Nat) (J Jx : List (Int × Int × Int) → World → Prop) (hJ : ∀ pre w w', J pre w → Below w.heap.size w w' → J pre w')
  (hY : ∀ pre x W, J pre W → pre.length < xs.length → YieldAt Fence.wide (m - 1) Tryz.prog l #[arr 3 (sF x)] W fun e W' => (e = .returned (.bool true) ∧ J (pre ++ [x]) W' ∧ W'.heap[gl]? = W.heap[gl]?) ∨ (e = .returned (.bool false) ∧ Jx (pre ++ [x]) W'))
  (W : World) (hl : W.heap[gl]? = some (.cells (wl a0 a1 b0 b1 tv f s n).toArray 78 (0, 0))) (hk : W.heap[gk]? = some (.cells #[.int .i64 k0] 3 (0, 0))) (h0 : J [] W) :
  CallsIn Fence.wide m Tryz.prog 59 #[.func (.yield l) #[] #[], .pointer (some ⟨gk, 0, none⟩), .pointer (some ⟨gl, 0, none⟩)] W fun e W' => (∃ v, e = .returned v) ∧ ((∃ ys, ys = xs ∧ J ys W') ∨ (∃ pre, pre <+: xs ∧ Jx pre W')) := by
 have hkc : W.cell? ⟨gk, 0, none⟩ = some (.int .i64 k0) := by simp [World.cell?, hk]
 replace hJ := Lib.hid hJ
 replace hY := Lib.hid hY
 replace HP := Lib.hid HP
 have HLN := Lib.hid hn
 clear hk
 refine callsIn_of_wp Tryz.func59 rfl trivial ?_ rfl
 simp only [Tryz.ntmps59, List.size_toArray, List.length_cons, List.length_nil, Nat.reduceAdd, Nat.reduceSub, Array.replicate_succ, Array.replicate_zero, List.push_toArray, List.append_toArray, List.nil_append, List.cons_append]
 gi_wp2
 gi_loopw [4] (fun p wr => ∃ j : Nat, p = .int .i64 (k0 + j) ∧ j ≤ xs.length ∧ J (xs.take j) wr ∧ wr.heap[gl]? = some (.cells (wl a0 a1 b0 b1 tv f s n).toArray 78 (0, 0))) (fun p _ => xs.length - (intOf p - k0).toNat)
 case atStart =>
  exact ⟨0, by simp, Nat.zero_le _, h0, hl⟩
 case round =>
  obtain ⟨j, rfl, hj, hJs, hg⟩ := hrel
  have hc : wr.cell? ⟨gl, 7, none⟩ = some (.int .i64 n) := (see1 hg).cell 0 rfl rfl
  by_cases hlt : j < xs.length
  ·
   have c1 : k0 + j < n := by omega
   obtain ⟨x, hx⟩ : ∃ x, xs[j]? = some x := ⟨xs[j], List.getElem?_eq_getElem hlt⟩
   have CP := HP.out j x hx
   gi_wp2_with (first | ((with_reducible refine at_load_in 12 ?_); refine wpListIn_one rfl (by intro c h; cases h) (fun K hK => ?_); refine wp_whole (see1 hg) 0 rfl rfl Tryz.underlying78 rfl (sWl a0 a1 b0 b1 tv f s n) (hK _ _ ?_)) | (refine ⟨trivial, fun h => (by cases h), ?_⟩; gi_at_call 60; refine (callsIn_wide.2 (CP _)).mono ?_; rintro e w2 ⟨rfl, hb⟩; have hJ2 := hJ.out _ _ _ hJs hb; obtain ⟨fn, tmps, assign, body, hy, hR⟩ := hY.out _ x w2 hJ2 (by rw [List.length_take]; omega); have hg2 := (hb.block gl (Array.getElem?_eq_some_iff.1 hg).1).trans hg))
   refine ⟨fun h => (by cases h), ?_⟩
   refine hR.mono ?_
   rintro e W3 (⟨rfl, hJ3, hk3⟩ | ⟨rfl, hJx3⟩)
   ·
    have W1 : wrap64 (k0 + j + 1) = k0 + j + 1 := IntWalk.wrap64_in _ (by omega)
    gi_wp2
    go_roundw
    case rel => exact ⟨j + 1, by go_num, by omega, by rw [List.take_add_one, hx]; exact hJ3, hk3.trans hg2⟩
    case measure => simp [intOf]; omega
   ·
    gi_wp2
    go_end0
    exact ⟨⟨_, rfl⟩, .inr ⟨xs.take j ++ [x], ⟨xs.drop (j + 1), by rw [List.append_assoc]; exact (cut_at hx).symm⟩, hJx3⟩⟩
  ·
   have c1 : ¬ k0 + j < n := by omega
   gi_wp2
   refine ⟨trivial, ?_⟩
   gi_wp2
   refine ⟨fun f h => (by cases h), ?_⟩
   gi_wp2
   go_end0
   exact ⟨⟨_, rfl⟩, .inl ⟨xs.take j, by rw [List.take_of_length_le (by omega)], hJs⟩⟩
end Go.Proofs.YtpfhaocmcfnhnaaGreat
namespace Go.Proofs.YtpfhaocmcfnhnaaGreat
open Go.ChangeShapes Go.WideShapes Go.ChangeAt Go.RowKit
set_option linter.unusedVariables false
set_option linter.unusedSimpArgs false

/-- The box of a variable. -/
def Bx (W : World) (B : Nat) (v : Value) : Prop := W.heap[B]? = some (.cells #[v] 52 (0, 0))
/-- Between two rounds: what has come lies in the variable's row; the rectangle and the line lie as they lay. -/
def WI (w0 : World) (B gr gl : Nat) (r : Nat → Int) (Lc : List Value) (pre : List (Int × Int × Int)) (W : World) : Prop :=
 Below w0.heap.size w0 W ∧ (∃ v, Bx W B v ∧ W.ownsRow w0.heap.size 56 3 v pre.length (tC pre)) ∧ W.heap[gr]? = some (.cells (M.mat 4 r).toArray 29 (0, 0)) ∧ W.heap[gl]? = some (.cells Lc.toArray 78 (0, 0)) ∧ w0.heap.size ≤ B ∧ ∀ y ∈ pre, RC.has r y.2.1 y.2.2 = true
section
variable {w0 W W' : World} {B gr gl g : Nat} {r : Nat → Int} {Lc : List Value} {pre : List (Int × Int × Int)} {v v' : Value} {k : Nat} {xs : List Value}
theorem bx_not_row (h : Bx W B v') (hr : W.ownsRow w0.heap.size 56 3 v k xs) : some B ≠ v.ownBlock := by
 rcases hr.2 with ⟨rfl, _⟩ | ⟨g, cap, cur, rfl, _, hg, _⟩
 · simp [Value.ownBlock]
 ·
  intro e
  have e' : B = g := by simpa [Value.ownBlock] using e
  subst e'
  unfold Bx at h
  rw [h] at hg
  simp at hg
theorem cells_not_row {t : TypeId} {cs : Array Value} (h : W.heap[g]? = some (.cells cs t (0, 0))) (ht : t ≠ 56) (hr : W.ownsRow w0.heap.size 56 3 v k xs) : some g ≠ v.ownBlock := by
 rcases hr.2 with ⟨rfl, _⟩ | ⟨b, cap, cur, rfl, _, hg, _⟩
 · simp [Value.ownBlock]
 ·
  intro e
  have e' : g = b := by simpa [Value.ownBlock] using e
  subst e'
  rw [h] at hg
  simp at hg
  exact ht hg.2
theorem cells_ne {row : Option Nat} {cs : Array Value} {t : TypeId} (h : W.heap[g]? = some (.cells cs t (0, 0))) (hr : ∀ q, row = some q → ∃ o : Obj, W.heap[q]? = some o ∧ o.isCells = false) : some g ≠ row := fun e => by
 obtain ⟨o, ho, hc⟩ := hr g e.symm
 rw [h] at ho
 cases ho
 cases hc
theorem lt_of {o : Obj} (h : W.heap[g]? = some o) : g < W.heap.size := (Array.getElem?_eq_some_iff.1 h).1
theorem WI.grown (h : WI w0 B gr gl r Lc pre W) {row : Option Nat} (hg : W.grownBy W' row) (hr : ∀ q, row = some q → w0.heap.size ≤ q ∧ ∃ o : Obj, W.heap[q]? = some o ∧ o.isCells = false) : WI w0 B gr gl r Lc pre W' := by
 obtain ⟨h1, ⟨v, h2, h3⟩, h4, h5, h6, h7⟩ := h
 have hr2 := fun q e => (hr q e).2
 refine ⟨grown_below h1 h1.size hg (fun q e => (hr q e).1), ⟨v, (hg.block B (lt_of h2) (cells_ne h2 hr2)).trans h2, h3.kept hg ?_⟩, (hg.block gr (lt_of h4) (cells_ne h4 hr2)).trans h4, (hg.block gl (lt_of h5) (cells_ne h5 hr2)).trans h5, h6, h7⟩
 rcases h3.2 with ⟨rfl, _⟩ | ⟨b, cap, cur, rfl, _, hb, _⟩
 · exact .inl rfl
 · exact .inr (cells_ne hb hr2)
theorem WI.below (h : WI w0 B gr gl r Lc pre W) (hb : Below W.heap.size W W') : WI w0 B gr gl r Lc pre W' := h.grown (below_grown hb) (fun q e => by cases e)
theorem WI.ownFrom {D : Nat} (hD : w0.heap.size ≤ D) : OwnFrom D (WI w0 B gr gl r Lc) := fun s A C row hs hg hr => hs.grown hg (fun q e => ⟨Nat.le_trans hD (hr q e).1, (hr q e).2⟩)
/-- One more is appended. -/
theorem WI.push {w1 : World} {x : Int × Int × Int} (h : WI w0 B gr gl r Lc pre W) (hx : RC.has r x.2.1 x.2.2 = true) (hv : Bx W B v) (hrow : W.ownsRow w0.heap.size 56 3 v pre.length (tC pre)) (hown : w1.ownsRow w0.heap.size 56 3 v' (pre.length + 1) (tC pre ++ tC [x])) (hg : W.grownBy w1 v.ownBlock) :
  Bx w1 B v ∧ WI w0 B gr gl r Lc (pre ++ [x]) (w1.setCell ⟨B, 0, none⟩ v') ∧ KeepsOthers W (w1.setCell ⟨B, 0, none⟩ v') := by
 obtain ⟨h1, _, h4, h5, h6, h7⟩ := h
 have b1 : Bx w1 B v := (hg.block B (lt_of hv) (bx_not_row hv hrow)).trans hv
 have hs : w1.grownBy (w1.setCell ⟨B, 0, none⟩ v') (some B) := grownBy_setCell' w1 B v'
 have r4 : w1.heap[gr]? = some (.cells (M.mat 4 r).toArray 29 (0, 0)) := (hg.block gr (lt_of h4) (cells_not_row h4 (by decide) hrow)).trans h4
 have r5 : w1.heap[gl]? = some (.cells Lc.toArray 78 (0, 0)) := (hg.block gl (lt_of h5) (cells_not_row h5 (by decide) hrow)).trans h5
 have n4 : some gr ≠ some B := fun e => by
  have e' : gr = B := Option.some.inj e
  subst e'
  unfold Bx at b1
  rw [b1] at r4
  simp at r4
 have n5 : some gl ≠ some B := fun e => by
  have e' : gl = B := Option.some.inj e
  subst e'
  unfold Bx at b1
  rw [b1] at r5
  simp at r5
 refine ⟨b1, ⟨grown_below (grown_below h1 h1.size hg (fun q e => ?_)) (Nat.le_trans h1.size hg.size) hs (fun q e => by cases e; exact h6), ⟨v', Boxed.set (t := 52) v' b1, ?_⟩, (hs.block gr (lt_of r4) n4).trans r4, (hs.block gl (lt_of r5) n5).trans r5, h6, fun y hy => ?_⟩, (KeepsOthers.of_grownBy hg (fun j o e hj => ?_)).trans (KeepsOthers.setCell _ _ _)⟩
 · exact (hrow.lt q e).1
 ·
  rw [tC_app, List.length_append]
  exact hown.kept hs (.inr (bx_not_row b1 hown).symm)
 ·
  rcases List.mem_append.1 hy with hy | hy
  · exact h7 y hy
  ·
   rw [List.mem_singleton.1 hy]
   exact hx
 ·
  rcases hrow.2 with ⟨rfl, _⟩ | ⟨b, cap, cur, rfl, _, hb, _⟩
  · simp [Value.ownBlock] at e
  ·
   have e' : b = j := by simpa [Value.ownBlock] using e
   subst e'
   rw [hb] at hj
   cases hj
   rfl
/-- What is handed back. -/
theorem WI.ret (h : WI w0 B gr gl r Lc pre W) (hv : Bx W B v) : RetT w0 pre (.returned v) W := by
 obtain ⟨h1, ⟨u, h2, h3⟩, _⟩ := h
 obtain rfl : u = v := by
  unfold Bx at hv h2
  rw [hv] at h2
  simpa using h2.symm
 obtain ⟨A, c, hA, hl⟩ := row_lies (R := ⟨u, 56, 3, pre.length, tC pre⟩) (w0 := w0) (w := W) h3
 dsimp only at hA
 subst hA
 exact ⟨A, c, rfl, hl free (fun _ _ h => h), h1⟩
theorem keeps_below {D : Nat} (h : Below W.heap.size W W') : KeepsFrom D W W' := ⟨h.size, fun k o _ hk _ => (h.block k (lt_of hk)).trans hk⟩
end
end Go.Proofs.YtpfhaocmcfnhnaaGreat
namespace Go.Proofs.YtpfhaocmcfnhnaaGreat
open Go.ChangeShapes Go.WideShapes Go.ChangeAt Go.RowKit
set_option linter.unusedVariables false
set_option linter.unusedSimpArgs false

set_option maxRecDepth 100000 in
set_option maxHeartbeats 16000000 in
/-- The first pixel that is not ahead of a rectangle, by its number. -/
theorem reach_any (a0 a1 b0 b1 : Int) (t : Bool) (f s n : Int) (r : Nat → Int) (ht : DM.tall (b0 - a0) (b1 - a1) = t) (hL : DM.Lin a0 a1 b0 b1 f s n) (ha : DM.Rg (DM.t2 a0 a1)) (hb : DM.Rg (DM.t2 b0 b1)) (w : World) :
  Calls Tryz.prog 40 #[.agg (wl a0 a1 b0 b1 (DM.wv t) f s n).toArray, arr 4 r] w fun e w' => e = .returned (.int .i64 (DM.fstR a0 a1 b0 b1 r : Int)) ∧ Below w.heap.size w w' := by
 have er : arr 4 r = arr 4 (RC.mk (r 0) (r 1) (r 2) (r 3)) := rfl
 rw [er]
 refine (reaching_any a0 a1 b0 b1 t f s n (r 0) (r 1) (r 2) (r 3) ht hL ha hb w).mono ?_
 rintro e w' ⟨i, rfl, hi, h0, h1, hb⟩
 rw [DM.fstR_is (r := r) hL hi h0 h1]
 exact ⟨rfl, hb⟩
/-- The iterator's contract. -/
theorem from_stops (m : Nat) (a0 a1 b0 b1 : Int) (t : Bool) (f s n : Int) (r : Nat → Int) (gl gk : Nat) (ht : DM.tall (b0 - a0) (b1 - a1) = t) (hL : DM.Lin a0 a1 b0 b1 f s n) (ha : DM.Rg (DM.t2 a0 a1)) (hb : DM.Rg (DM.t2 b0 b1)) (w : World)
  (hl : w.heap[gl]? = some (.cells (wl a0 a1 b0 b1 (DM.wv t) f s n).toArray 78 (0, 0))) (hk : w.heap[gk]? = some (.cells #[.int .i64 (DM.fstR a0 a1 b0 b1 r : Int)] 3 (0, 0))) :
  SeqStopsK Fence.wide m Tryz.prog 59 #[.pointer (some ⟨gk, 0, none⟩), .pointer (some ⟨gl, 0, none⟩)] (fun x => #[arr 3 (sF x)]) (fun W W' => W'.heap[gl]? = W.heap[gl]?) (fun ys => ys = DM.tailR a0 a1 b0 b1 r) (fun pre => pre <+: DM.tailR a0 a1 b0 b1 r) (DM.tailR a0 a1 b0 b1 r).length w := by
 intro l J Jx W hW hJ hJx hY h0
 have hn := hL.1
 unfold DM.cnt14 at hn
 have hF := DM.fstR_le a0 a1 b0 b1 r
 have hlen : (DM.tailR a0 a1 b0 b1 r).length = (DM.pixs a0 a1 b0 b1).length - DM.fstR a0 a1 b0 b1 r := by
  unfold DM.tailR
  rw [List.length_drop, DM.steps_len]
 refine from1_any m a0 a1 b0 b1 (DM.wv t) f s n (DM.fstR a0 a1 b0 b1 r) gl gk (DM.tailR a0 a1 b0 b1 r) (by omega) hL.2.2.2.1.2 (by omega) ?_ l J Jx (fun pre w w' h hb => hJ pre w w' none h (below_grown hb) (fun q e => by cases e)) hY W ((hW.block gl (lt_of hl)).trans hl) ((hW.block gk (lt_of hk)).trans hk) h0
 intro j x hx w
 have hx2 : (DM.steps a0 a1 b0 b1)[DM.fstR a0 a1 b0 b1 r + j]? = some x := by rw [← List.getElem?_drop]; exact hx
 obtain ⟨hp, hq⟩ := DM.steps_at hx2
 have hlt := (DM.nth hp).1
 obtain ⟨h1, h2, h3⟩ := hL.2.2.2.2 ((DM.fstR a0 a1 b0 b1 r : Int) + j) (by omega) (by omega)
 rw [show (((DM.fstR a0 a1 b0 b1 r : Int) + j).toNat) = DM.fstR a0 a1 b0 b1 r + j by omega, hp, ht, Option.some.injEq] at h3
 have hW := DM.way_of h1
 rw [ht] at h2 hW
 have hs := hL.2.1
 have hf := hL.2.2.1
 have CP := pixel_any a0 a1 b0 b1 t f s n ((DM.fstR a0 a1 b0 b1 r : Int) + j) _ hW ha hb h2 rfl (by omega) w
 rw [← h3] at CP
 unfold sF
 rw [hq, show (((DM.fstR a0 a1 b0 b1 r + j : Nat) : Int)) = (DM.fstR a0 a1 b0 b1 r : Int) + j by omega]
 exact CP
end Go.Proofs.YtpfhaocmcfnhnaaGreat
