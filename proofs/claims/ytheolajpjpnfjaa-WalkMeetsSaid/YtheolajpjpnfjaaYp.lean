/- Plain: what of a line is told in a rectangle. -/
import Derived.Test.YtheolajpjpnfjaaYa
import Derived.Test.YtheolajpjpnfjaaXv
namespace Go.Proofs.Ytheolajpjpnfjaa
open Go.ChangeShapes Go.WideShapes Go.ChangeAt Go.RowKit
set_option linter.unusedVariables false
set_option linter.unusedSimpArgs false

namespace DM
theorem nth {α : Type} {l : List α} {i : Nat} {x : α} (h : l[i]? = some x) : ∃ hi : i < l.length, l[i] = x := List.getElem?_eq_some_iff.1 h
/-- A line does not turn back. -/
theorem pixs_mono {ax ay bx by_ f s n : Int} (hL : Lin ax ay bx by_ f s n) {i j : Nat} (hij : i ≤ j) {p q : Int × Int} (hi : (pixs ax ay bx by_)[i]? = some p) (hj : (pixs ax ay bx by_)[j]? = some q) :
    ((0 ≤ bx - ax → p.1 ≤ q.1) ∧ (bx - ax < 0 → q.1 ≤ p.1)) ∧ ((0 ≤ by_ - ay → p.2 ≤ q.2) ∧ (by_ - ay < 0 → q.2 ≤ p.2)) := by
  obtain ⟨L1, L2, L3, L4, L5⟩ := hL
  have n1 := (nth hi).1
  have n2 := (nth hj).1
  unfold cnt14 at L1
  obtain ⟨hn, _, hP⟩ := L5 i (by omega) (by omega)
  obtain ⟨_, _, hQ⟩ := L5 j (by omega) (by omega)
  rw [show ((i : Int).toNat) = i by omega, hi, Option.some.injEq] at hP
  rw [show ((j : Int).toNat) = j by omega, hj, Option.some.injEq] at hQ
  have ei := pixs_at hn hi
  have ej := pixs_at hn hj
  unfold num at ei ej
  have hw := way_of hn
  generalize f + (i : Int) * s = u at hP
  generalize f + (j : Int) * s = u' at hQ
  clear L1 L2 L3 L4 L5 n1 n2 hi hj
  unfold pxl at hP hQ
  generalize tall (bx - ax) (by_ - ay) = t at *
  subst hP
  subst hQ
  dsimp only at ei ej ⊢
  rw [(mn_cr_back t _ _).1] at ei ej
  have hp : pl (mn t ax ay) (mn t bx by_) u ≤ pl (mn t ax ay) (mn t bx by_) u' := by omega
  have hm := @colV_mono t _ _ _ _ u hw u' hp
  unfold pl at hp
  unfold way at hw
  cases t
  · simp only [mn, cr, Bool.false_eq_true, if_false] at *
    split at hp <;> omega
  · simp only [mn, cr, if_true] at *
    split at hp <;> omega
theorem prd_mono {ax ay bx by_ f s n r0 r1 r2 r3 : Int} (hL : Lin ax ay bx by_ f s n) {i j : Nat} (hij : i ≤ j) {p q : Int × Int} (hi : (pixs ax ay bx by_)[i]? = some p) (hj : (pixs ax ay bx by_)[j]? = some q) (h : prd ax ay bx by_ r0 r1 r2 r3 p = true) : prd ax ay bx by_ r0 r1 r2 r3 q = true := by
  have hm := pixs_mono hL hij hi hj
  unfold prd reached at *
  rw [Bool.and_eq_true] at *
  obtain ⟨h1, h2⟩ := h
  refine ⟨?_, ?_⟩
  · by_cases hd : bx - ax < 0
    · rw [if_pos hd, decide_eq_true_eq] at h1 ⊢
      have := hm.1.2 hd
      omega
    · rw [if_neg hd, decide_eq_true_eq] at h1 ⊢
      have := hm.1.1 (by omega)
      omega
  · by_cases hd : by_ - ay < 0
    · rw [if_pos hd, decide_eq_true_eq] at h2 ⊢
      have := hm.2.2 hd
      omega
    · rw [if_neg hd, decide_eq_true_eq] at h2 ⊢
      have := hm.2.1 (by omega)
      omega
/-- Which pixel is the first that is not ahead of a rectangle any more. -/
def fstR (ax ay bx by_ : Int) (r : Nat → Int) : Nat := (pixs ax ay bx by_).findIdx (prd ax ay bx by_ (r 0) (r 1) (r 2) (r 3))
theorem fstR_is {ax ay bx by_ f s n : Int} {r : Nat → Int} (hL : Lin ax ay bx by_ f s n) {i : Int} (hi : 0 ≤ i ∧ i ≤ n) (h0 : 0 < i → ∀ z, (pixs ax ay bx by_)[(i - 1).toNat]? = some z → prd ax ay bx by_ (r 0) (r 1) (r 2) (r 3) z = false)
    (h1 : i < n → ∀ z, (pixs ax ay bx by_)[i.toNat]? = some z → prd ax ay bx by_ (r 0) (r 1) (r 2) (r 3) z = true) : i = fstR ax ay bx by_ r := by
  have hn := hL.1
  unfold cnt14 at hn
  unfold fstR
  have hF := @List.findIdx_le_length _ (prd ax ay bx by_ (r 0) (r 1) (r 2) (r 3)) (pixs ax ay bx by_)
  have hmono := fun i j hij p q hi hj => @prd_mono ax ay bx by_ f s n (r 0) (r 1) (r 2) (r 3) hL i j hij p q hi hj
  generalize prd ax ay bx by_ (r 0) (r 1) (r 2) (r 3) = p at *
  rcases (by omega : i.toNat < (pixs ax ay bx by_).findIdx p ∨ (pixs ax ay bx by_).findIdx p < i.toNat ∨ i = (pixs ax ay bx by_).findIdx p) with h | h | h
  · exfalso
    have hlt : i.toNat < (pixs ax ay bx by_).length := by omega
    have := h1 (by omega) _ (List.getElem?_eq_getElem hlt)
    have := List.not_of_lt_findIdx h
    simp_all
  · exfalso
    have hlt : (pixs ax ay bx by_).findIdx p < (pixs ax ay bx by_).length := by omega
    have e1 := @List.findIdx_getElem _ p (pixs ax ay bx by_) hlt
    have hl2 : (i - 1).toNat < (pixs ax ay bx by_).length := by omega
    have e2 := h0 (by omega) _ (List.getElem?_eq_getElem hl2)
    have := hmono _ _ (show (pixs ax ay bx by_).findIdx p ≤ (i - 1).toNat by omega) _ _ (List.getElem?_eq_getElem hlt) (List.getElem?_eq_getElem hl2) e1
    rw [this] at e2
    cases e2
  · exact h
theorem fstR_le (ax ay bx by_ : Int) (r : Nat → Int) : fstR ax ay bx by_ r ≤ (pixs ax ay bx by_).length := List.findIdx_le_length
/-- What is told of a line, from the first pixel on that is not ahead. -/
def tailR (ax ay bx by_ : Int) (r : Nat → Int) : List (Int × Int × Int) := (steps ax ay bx by_).drop (fstR ax ay bx by_ r)
theorem steps_at {ax ay bx by_ : Int} {j : Nat} {y : Int × Int × Int} (h : (steps ax ay bx by_)[j]? = some y) : (pixs ax ay bx by_)[j]? = some (y.2.1, y.2.2) ∧ y.1 = j := by
  rw [steps_get] at h
  obtain ⟨z, hz, rfl⟩ := Option.map_eq_some_iff.1 h
  exact ⟨hz, rfl⟩
theorem ahead_out {ax ay bx by_ : Int} {r : Nat → Int} {j : Nat} (hj : j < fstR ax ay bx by_ r) {y : Int × Int × Int} (h : (steps ax ay bx by_)[j]? = some y) : inR4 r y = false := by
  obtain ⟨hp, _⟩ := steps_at h
  have h1 := List.not_of_lt_findIdx hj
  obtain ⟨hl, e⟩ := nth hp
  rw [e] at h1
  unfold prd reached at h1
  unfold inR4
  rw [← Bool.not_eq_true] at *
  intro h2
  simp only [Bool.and_eq_true, decide_eq_true_eq] at h2
  apply h1
  rw [Bool.and_eq_true]
  refine ⟨?_, ?_⟩ <;> split <;> simp only [decide_eq_true_eq] <;> omega
theorem past_out {ax ay bx by_ f s n : Int} {r : Nat → Int} (hL : Lin ax ay bx by_ f s n) {j k : Nat} (hj : fstR ax ay bx by_ r ≤ j) (hjk : j ≤ k) {y z : Int × Int × Int} (hy : (steps ax ay bx by_)[j]? = some y) (hz : (steps ax ay bx by_)[k]? = some z) (h : inR4 r y = false) : inR4 r z = false := by
  obtain ⟨hp, _⟩ := steps_at hy
  obtain ⟨hq, _⟩ := steps_at hz
  have hm := pixs_mono hL hjk hp hq
  have hlt : fstR ax ay bx by_ r < (pixs ax ay bx by_).length := Nat.lt_of_le_of_lt hj (nth hp).1
  have e1 := @List.findIdx_getElem _ (prd ax ay bx by_ (r 0) (r 1) (r 2) (r 3)) (pixs ax ay bx by_) hlt
  have e2 := prd_mono hL hj (List.getElem?_eq_getElem hlt) hp e1
  unfold prd reached at e2
  unfold inR4 at *
  rw [← Bool.not_eq_true] at *
  intro h2
  apply h
  simp only [Bool.and_eq_true, decide_eq_true_eq] at h2 e2 hm ⊢
  obtain ⟨e3, e4⟩ := e2
  refine ⟨?_, ?_⟩
  · split at e3 <;> simp only [decide_eq_true_eq] at e3 <;> omega
  · split at e4 <;> simp only [decide_eq_true_eq] at e4 <;> omega
theorem has_in (r : Nat → Int) (y : Int × Int × Int) : RC.has r y.2.1 y.2.2 = (RC.right r && inR4 r y) := by
  unfold RC.has inR4
  rw [Bool.and_assoc]
theorem take_out (ax ay bx by_ : Int) (r : Nat → Int) : ((steps ax ay bx by_).take (fstR ax ay bx by_ r)).filter (inR4 r) = [] := by
  rw [List.filter_eq_nil_iff]
  intro y hy
  obtain ⟨j, hj⟩ := List.mem_iff_getElem?.1 hy
  rw [List.getElem?_take] at hj
  split at hj
  · rename_i h
    rw [ahead_out h hj]
    decide
  · cases hj
/-- All that is told lies in the rectangle. -/
theorem within_done {ax ay bx by_ : Int} {r : Nat → Int} (h : ∀ y ∈ tailR ax ay bx by_ r, RC.has r y.2.1 y.2.2 = true) : (if RC.right r then wth ax ay bx by_ r else []) = tailR ax ay bx by_ r := by
  cases hr : RC.right r
  · rw [if_neg (by decide)]
    cases ht : tailR ax ay bx by_ r with
    | nil => rfl
    | cons y l =>
      have := h y (by rw [ht]; exact List.mem_cons_self)
      rw [has_in, hr] at this
      cases this
  · rw [if_pos rfl]
    unfold wth
    rw [← List.take_append_drop (fstR ax ay bx by_ r) (steps ax ay bx by_), List.filter_append, take_out, List.nil_append]
    refine List.filter_eq_self.2 fun y hy => ?_
    have := h y hy
    rw [has_in, hr, Bool.true_and] at this
    exact this
/-- What is told, up to the first one that does not. -/
theorem within_stop {ax ay bx by_ f s n : Int} {r : Nat → Int} (hL : Lin ax ay bx by_ f s n) {pre : List (Int × Int × Int)} {x : Int × Int × Int} (hp : pre ++ [x] <+: tailR ax ay bx by_ r) (h : ∀ y ∈ pre, RC.has r y.2.1 y.2.2 = true) (hx : RC.has r x.2.1 x.2.2 = false) :
    (if RC.right r then wth ax ay bx by_ r else []) = pre := by
  obtain ⟨l, hl⟩ := hp
  cases hr : RC.right r
  · rw [if_neg (by decide)]
    cases pre with
    | nil => rfl
    | cons y l' =>
      have := h y List.mem_cons_self
      rw [has_in, hr] at this
      cases this
  · rw [if_pos rfl]
    unfold wth
    rw [← List.take_append_drop (fstR ax ay bx by_ r) (steps ax ay bx by_), List.filter_append, take_out, List.nil_append]
    have e : (steps ax ay bx by_).drop (fstR ax ay bx by_ r) = pre ++ x :: l := by
      have := hl.symm
      unfold tailR at this
      rw [this, List.append_assoc]
      rfl
    rw [e, List.filter_append]
    have hq : pre.filter (inR4 r) = pre := List.filter_eq_self.2 fun y hy => by
      have := h y hy
      rw [has_in, hr, Bool.true_and] at this
      exact this
    rw [has_in, hr, Bool.true_and] at hx
    have hgx : (steps ax ay bx by_)[fstR ax ay bx by_ r + pre.length]? = some x := by
      rw [← List.getElem?_drop, e, List.getElem?_append_right (Nat.le_refl _), Nat.sub_self]
      rfl
    have hz : (x :: l).filter (inR4 r) = [] := by
      rw [List.filter_eq_nil_iff]
      intro y hy
      obtain ⟨j, hj⟩ := List.mem_iff_getElem?.1 hy
      have hgy : (steps ax ay bx by_)[fstR ax ay bx by_ r + (pre.length + j)]? = some y := by
        rw [← List.getElem?_drop, e, List.getElem?_append_right (Nat.le_add_right _ _), Nat.add_sub_cancel_left]
        exact hj
      rw [past_out hL (by omega) (by omega) hgx hgy hx]
      decide
    rw [hq, hz, List.append_nil]
end DM
end Go.Proofs.Ytheolajpjpnfjaa
