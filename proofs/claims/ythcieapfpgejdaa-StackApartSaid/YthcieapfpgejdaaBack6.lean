/- What lies above stacks that were pushed, whatever is loaded and multiplied, in plain words. -/
import Derived.Test.YthcieapfpgejdaaDeeds6
namespace Go.Proofs.Ythcieapfpgejdaa
set_option linter.unusedVariables false
set_option linter.unusedSimpArgs false

theorem push_ok {s : Stk} (h : (Stk.push s).2 = 0) : Stk.right s = true ∧ s.meant.length ≠ 8 ∧ (Stk.push s).1 = s.put (s.meant ++ [Stk.last s.meant]) := by
  unfold Stk.push at h ⊢
  split
  · rename_i hr
    rw [if_pos hr] at h
    split
    · rename_i h8
      rw [if_pos h8] at h
      exact absurd h (by decide)
    · rename_i h8
      exact ⟨hr, h8, rfl⟩
  · rename_i hr
    rw [if_neg hr] at h
    exact absurd h (by decide)
theorem push_no {s : Stk} (h : (Stk.push s).2 ≠ 0) : (Stk.push s).1 = Stk.none_ := by
  unfold Stk.push at h ⊢
  split
  · rename_i hr
    rw [if_pos hr] at h
    split
    · rfl
    · rename_i h8
      rw [if_neg h8] at h
      exact absurd rfl h
  · rfl
/-- One of the lists has one more on top. -/
def Over (i : Nat) (L : Nat → Ent) (T : Nat → Ent) : Prop := ∃ y, M.right y = true ∧ ∀ j, j < 2 → (T j).l = if j = i then (L j).l ++ [y] else (L j).l
theorem meant_at (i : Nat) (L : Nat → Ent) : (stk i L).meant = (L i).l := by
  show (L (i : Int).toNat).l = _
  rw [show (i : Int).toNat = i by omega]
theorem put_at (i : Nat) (L : Nat → Ent) (l : List (Nat → Int)) (j : Nat) : ((stk i L).put l).l j = if j = i then l else (L j).l := by
  show (if j = (i : Int).toNat then l else (L j).l) = _
  rw [show (i : Int).toNat = i by omega]
section
variable {i : Nat} {L T N : Nat → Ent} {x : Nat → Int}
theorem over_right (hi : i < 2) (hr : Stk.right (stk i L) = true) (h8 : (L i).l.length ≠ 8) (h : Over i L T) : Stk.right (stk i T) = true := by
  obtain ⟨y, hy, h⟩ := h
  obtain ⟨h1, h2⟩ := Stk.right_iff.1 hr
  refine Stk.right_iff.2 ⟨h1, fun j hj => ?_⟩
  obtain ⟨o1, o2, o3⟩ := Stk.okL_iff.1 (h2 j hj)
  have e : (stk i L).l j = (L j).l := rfl
  rw [e] at o1 o2 o3
  show Stk.okL (T j).l = true
  rw [h j hj]
  by_cases e : j = i
  · subst e
    rw [if_pos rfl]
    refine Stk.okL_iff.2 ⟨by simp, by simp; omega, fun z hz => ?_⟩
    rcases List.mem_append.1 hz with hz | hz
    · exact o3 z hz
    · rw [List.mem_singleton.1 hz]; exact hy
  · rw [if_neg e]
    exact Stk.okL_iff.2 ⟨o1, o2, o3⟩
theorem over_push (hi : i < 2) (hr : Stk.right (stk i L) = true) (hN : ∀ j, j < 2 → (N j).l = ((stk i L).put ((stk i L).meant ++ [Stk.last (stk i L).meant])).l j) : Over i L N := by
  have h2 := (Stk.right_iff.1 hr).2 i hi
  have e : (stk i L).l i = (L i).l := rfl
  rw [e] at h2
  refine ⟨Stk.last (L i).l, last_right h2 (len_ne (Stk.okL_iff.1 h2).1), fun j hj => ?_⟩
  rw [hN j hj, put_at, meant_at]
  by_cases e : j = i
  · subst e; rfl
  · rw [if_neg e, if_neg e]
theorem over_put (hi : i < 2) (h : Over i L T) (hx : M.right x = true) (hN : ∀ j, j < 2 → (N j).l = ((stk i T).put ((stk i T).meant.dropLast ++ [x])).l j) : Over i L N := by
  obtain ⟨y, hy, h⟩ := h
  refine ⟨x, hx, fun j hj => ?_⟩
  rw [hN j hj, put_at, meant_at]
  by_cases e : j = i
  · subst e
    rw [if_pos rfl, if_pos rfl, h j hj, if_pos rfl]
    simp
  · rw [if_neg e, if_neg e, h j hj, if_neg e]
theorem over_load (hi : i < 2) (h : Over i L T) (h0 : (Stk.load (stk i T) x).2 = 0) (hN : ∀ j, j < 2 → (N j).l = (Stk.load (stk i T) x).1.l j) : (Stk.load (stk i T) x).1.m = i ∧ Over i L N := by
  unfold Stk.load at h0 hN ⊢
  by_cases hc : (Stk.right (stk i T) && M.right x) = true
  · rw [if_pos hc] at hN ⊢
    exact ⟨rfl, over_put hi h (Bool.and_eq_true _ _ ▸ hc).2 hN⟩
  · rw [if_neg hc] at h0
    exact absurd h0 (by decide)
theorem over_mult (hi : i < 2) (hr : Stk.right (stk i T) = true) (h : Over i L T) (h0 : (Stk.mult (stk i T) x).2 = 0) (hN : ∀ j, j < 2 → (N j).l = (Stk.mult (stk i T) x).1.l j) : (Stk.mult (stk i T) x).1.m = i ∧ Over i L N := by
  unfold Stk.mult at h0 hN ⊢
  rw [if_pos hr] at h0 hN ⊢
  by_cases hc : (M.mul (Stk.last (stk i T).meant) x).2 = 0
  · rw [if_pos hc] at hN ⊢
    refine ⟨rfl, over_put hi h ?_ hN⟩
    have h2 := (Stk.right_iff.1 hr).2 i hi
    have e : (stk i T).l i = (T i).l := rfl
    rw [e] at h2
    rw [meant_at] at hc ⊢
    by_cases hx : M.right x = true
    · exact mul_ok (last_right h2 (len_ne (Stk.okL_iff.1 h2).1)) hx hc
    · exfalso
      unfold M.mul at hc
      simp [hx] at hc
  · rw [if_neg hc] at h0
    exact absurd h0 hc
theorem over_pop (hi : i < 2) (hr : Stk.right (stk i L) = true) (h8 : (L i).l.length ≠ 8) (h : Over i L T) : (Stk.pop (stk i T)).2 = 0 ∧ (Stk.pop (stk i T)).1.m = i ∧ ∀ j, j < 2 → (Stk.pop (stk i T)).1.l j = (L j).l := by
  have hT := over_right hi hr h8 h
  obtain ⟨y, hy, h⟩ := h
  have h2 := (Stk.okL_iff.1 ((Stk.right_iff.1 hr).2 i hi)).1
  have e : (stk i L).l i = (L i).l := rfl
  rw [e] at h2
  have hm : (T i).l = (L i).l ++ [y] := by rw [h i hi, if_pos rfl]
  unfold Stk.pop
  rw [if_pos hT, meant_at, if_neg (by rw [hm, List.length_append]; have : [y].length = 1 := rfl; omega)]
  refine ⟨rfl, rfl, fun j hj => ?_⟩
  rw [put_at]
  by_cases e : j = i
  · subst e
    rw [if_pos rfl, hm]
    simp
  · rw [if_neg e, h j hj, if_neg e]
end
theorem empty_vals {N : Nat → Ent} {n : Nat} {s : Stk} (hs : s = Stk.none_) (hN : ∀ i, i < 2 → (N i).lo = n ∧ (N i).l = s.l i) : (N 0).val = .slice (N 0).A 0 (N 0).c ∧ (N 1).val = .slice (N 1).A 0 (N 1).c := by
  subst hs
  have h0 : (N 0).l = [] := (hN 0 (by decide)).2
  have h1 : (N 1).l = [] := (hN 1 (by decide)).2
  exact ⟨by rw [Ent.val, h0]; rfl, by rw [Ent.val, h1]; rfl⟩
end Go.Proofs.Ythcieapfpgejdaa
