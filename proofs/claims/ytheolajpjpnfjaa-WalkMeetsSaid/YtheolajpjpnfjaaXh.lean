/- Plain: the steps of a line found in a rectangle, pixel by pixel. -/
import Derived.Test.YtheolajpjpnfjaaPl
namespace Go.Proofs.Ytheolajpjpnfjaa
open Go.ChangeShapes Go.WideShapes Go.ChangeAt Go.RowKit
set_option linter.unusedVariables false
set_option linter.unusedSimpArgs false

namespace DM
def isStep (ax ay bx by_ : Int) (s : Int × Int × Int) : Prop := exits (rel ax s.2.1) (rel ay s.2.2) (rel bx s.2.1) (rel by_ s.2.2) = true ∧ s.1 = num ax ay bx by_ s.2.1 s.2.2
/-- Is a step's pixel one that has been looked at? -/
def Scan (r : Nat → Int) (x y : Int) (s : Int × Int × Int) : Prop := (r 0 ≤ s.2.1 ∧ s.2.1 < x ∧ r 1 ≤ s.2.2 ∧ s.2.2 < r 3) ∨ (s.2.1 = x ∧ r 1 ≤ s.2.2 ∧ s.2.2 < y)
def Found (ax ay bx by_ : Int) (r : Nat → Int) (x y : Int) (L : List (Int × Int × Int)) : Prop := L.Pairwise (fun p q => p.1 < q.1) ∧ ∀ s, s ∈ L ↔ isStep ax ay bx by_ s ∧ Scan r x y s
section
variable {ax ay bx by_ x y : Int} {r : Nat → Int} {L : List (Int × Int × Int)}
theorem found_start : Found ax ay bx by_ r (r 0) (r 1) [] := ⟨List.Pairwise.nil, fun s => ⟨fun h => absurd h (by simp), fun ⟨_, h⟩ => by unfold Scan at h; omega⟩⟩
theorem found_skip (h : Found ax ay bx by_ r x y L) (he : exits (rel ax x) (rel ay y) (rel bx x) (rel by_ y) = false) : Found ax ay bx by_ r x (y + 1) L := by
  refine ⟨h.1, fun s => ?_⟩
  rw [h.2]
  constructor
  · rintro ⟨h1, h2⟩
    refine ⟨h1, ?_⟩
    unfold Scan at h2 ⊢
    omega
  · rintro ⟨h1, h2⟩
    refine ⟨h1, ?_⟩
    unfold Scan at h2 ⊢
    by_cases e : s.2.1 = x ∧ s.2.2 = y
    · have := h1.1
      rw [e.1, e.2, he] at this
      cases this
    · omega
theorem found_row (h : Found ax ay bx by_ r x (r 3) L) (hx : r 0 ≤ x) : Found ax ay bx by_ r (x + 1) (r 1) L := by
  refine ⟨h.1, fun s => ?_⟩
  rw [h.2]
  constructor
  · rintro ⟨h1, h2⟩
    refine ⟨h1, ?_⟩
    unfold Scan at h2 ⊢
    omega
  · rintro ⟨h1, h2⟩
    refine ⟨h1, ?_⟩
    unfold Scan at h2 ⊢
    omega
theorem step_one {s s' : Int × Int × Int} (h : isStep ax ay bx by_ s) (h' : isStep ax ay bx by_ s') (e : s.1 = s'.1) : s = s' := by
  have m := mem_steps s |>.2 h
  have m' := mem_steps s' |>.2 h'
  have hr := steps_rising ax ay bx by_
  generalize steps ax ay bx by_ = l at *
  clear h h'
  induction l with
  | nil => cases m
  | cons a l ih =>
    obtain ⟨h1, h2⟩ := List.pairwise_cons.1 hr
    rcases List.mem_cons.1 m with e1 | m1
    · rcases List.mem_cons.1 m' with e2 | m2
      · rw [e1, e2]
      · have := h1 _ m2
        rw [← e1] at this
        omega
    · rcases List.mem_cons.1 m' with e2 | m2
      · have := h1 _ m1
        rw [← e2] at this
        omega
      · exact ih m1 m2 h2
theorem found_ins (h : Found ax ay bx by_ r x y L) (hy : r 1 ≤ y) (he : exits (rel ax x) (rel ay y) (rel bx x) (rel by_ y) = true) {K : Int} (hK : num ax ay bx by_ x y = K) {k : Nat} (hk : k ≤ L.length)
    (h1 : ∀ i s, i < k → L[i]? = some s → s.1 < K) (h2 : ∀ s, L[k]? = some s → ¬ s.1 < K) : Found ax ay bx by_ r x (y + 1) (L.take k ++ [(K, x, y)] ++ L.drop k) := by
  have hs : isStep ax ay bx by_ (K, x, y) := ⟨he, hK.symm⟩
  have hns : ¬ Scan r x y (K, x, y) := by unfold Scan; simp only; omega
  have lt1 : ∀ s ∈ L.take k, s.1 < K := by
    intro s hs
    obtain ⟨i, hi⟩ := List.mem_iff_getElem?.1 hs
    rw [List.getElem?_take] at hi
    split at hi
    · exact h1 i s (by assumption) hi
    · cases hi
  have gt1 : ∀ s ∈ L.drop k, K < s.1 := by
    intro s hm
    have hmL : s ∈ L := List.mem_of_mem_drop hm
    obtain ⟨i, hi⟩ := List.mem_iff_getElem?.1 hm
    rw [List.getElem?_drop] at hi
    have hne : s.1 ≠ K := by
      intro e
      have := step_one ((h.2 s).1 hmL).1 hs e
      rw [this] at hmL
      exact hns ((h.2 _).1 hmL).2
    have hge : ¬ s.1 < K := by
      rcases (by omega : i = 0 ∨ 0 < i) with e | e
      · subst e
        exact h2 s hi
      · have hk0 : k < L.length := by
          have := (List.getElem?_eq_some_iff.1 hi).1
          omega
        obtain ⟨z, hz⟩ : ∃ z, L[k]? = some z := ⟨_, List.getElem?_eq_getElem hk0⟩
        have g := h2 z hz
        have hp := List.pairwise_iff_getElem.1 h.1 k (k + i) hk0 (List.getElem?_eq_some_iff.1 hi).1 (by omega)
        rw [(List.getElem?_eq_some_iff.1 hz).2, (List.getElem?_eq_some_iff.1 hi).2] at hp
        omega
    omega
  refine ⟨?_, fun s => ?_⟩
  · rw [List.pairwise_append, List.pairwise_append]
    refine ⟨⟨h.1.sublist (List.take_sublist _ _), by simp, fun p hp q hq => ?_⟩, h.1.sublist (List.drop_sublist _ _), fun p hp q hq => ?_⟩
    · obtain rfl : q = (K, x, y) := by simpa using hq
      exact lt1 p hp
    · rcases List.mem_append.1 hp with hp | hp
      · have a := lt1 p hp
        have b := gt1 q hq
        omega
      · obtain rfl : p = (K, x, y) := by simpa using hp
        exact gt1 q hq
  · have hm : s ∈ L.take k ++ [(K, x, y)] ++ L.drop k ↔ s ∈ L ∨ s = (K, x, y) := by
      have e := List.take_append_drop k L
      constructor
      · intro hh
        rw [List.mem_append, List.mem_append, List.mem_singleton] at hh
        rcases hh with (hh | hh) | hh
        · exact .inl (List.mem_of_mem_take hh)
        · exact .inr hh
        · exact .inl (List.mem_of_mem_drop hh)
      · rw [List.mem_append, List.mem_append, List.mem_singleton]
        rintro (hh | hh)
        · rw [← e, List.mem_append] at hh
          rcases hh with hh | hh
          · exact .inl (.inl hh)
          · exact .inr hh
        · exact .inl (.inr hh)
    rw [hm, h.2]
    constructor
    · rintro (⟨a, b⟩ | rfl)
      · refine ⟨a, ?_⟩
        unfold Scan at b ⊢
        omega
      · refine ⟨hs, .inr ⟨rfl, hy, ?_⟩⟩
        show y < y + 1
        omega
    · rintro ⟨a, b⟩
      by_cases e : s.2.1 = x ∧ s.2.2 = y
      · right
        obtain ⟨s0, s1, s2⟩ := s
        obtain ⟨rfl, rfl⟩ := e
        have := a.2
        simp only at this
        rw [this, hK]
      · left
        refine ⟨a, ?_⟩
        unfold Scan at b ⊢
        omega
theorem found_end (h : Found ax ay bx by_ r (r 2) (r 1) L) : L = wth ax ay bx by_ r := by
  refine wth_is h.1 fun s => ?_
  rw [h.2]
  unfold isStep Scan inR4
  simp only [Bool.and_eq_true, decide_eq_true_eq]
  constructor
  · rintro ⟨a, b⟩
    exact ⟨a, by omega⟩
  · rintro ⟨a, b⟩
    exact ⟨a, by omega⟩
theorem found_len (h : Found ax ay bx by_ r x y L) (hx0 : r 0 ≤ x) (hx : x < r 2) (hy : y ≤ r 3) (h1 : r 1 < r 3) (hs : r 2 - r 0 ≤ 1000 ∧ r 3 - r 1 ≤ 1000) : L.length ≤ 1000 := by
  by_cases hn : ax = bx ∧ ay = by_
  · have : L = [] := by
      apply List.eq_nil_iff_forall_not_mem.2
      intro s hm
      have := ((h.2 s).1 hm).1.1
      rw [← hn.1, ← hn.2, exits, meets_self] at this
      cases hi : inside (rel ax s.2.1) (rel ay s.2.2) <;> rw [hi] at this <;> cases this
    rw [this]
    exact Nat.zero_le _
  · let f : Int × Int × Int → Int := fun s => pl (mn (tall (bx - ax) (by_ - ay)) ax ay) (mn (tall (bx - ax) (by_ - ay)) bx by_) (mn (tall (bx - ax) (by_ - ay)) s.2.1 s.2.2)
    have hr : L.Pairwise (fun p q => f p < f q) := by
      refine h.1.imp_of_mem fun {p q} hp hq hlt => ?_
      have a := ((h.2 p).1 hp).1.2
      have b := ((h.2 q).1 hq).1.2
      unfold num at a b
      show pl _ _ _ < pl _ _ _
      omega
    have hb : ∃ lo hi, hi - lo ≤ 1000 ∧ ∀ s ∈ L, lo ≤ f s ∧ f s < hi := by
      have hin : ∀ s ∈ L, (r 0 ≤ s.2.1 ∧ s.2.1 < r 2) ∧ (r 1 ≤ s.2.2 ∧ s.2.2 < r 3) := by
        intro s hm
        have := ((h.2 s).1 hm).2
        unfold Scan at this
        omega
      by_cases c : mn (tall (bx - ax) (by_ - ay)) ax ay < mn (tall (bx - ax) (by_ - ay)) bx by_
      · refine ⟨mn (tall (bx - ax) (by_ - ay)) (r 0) (r 1) - ahd (mn (tall (bx - ax) (by_ - ay)) ax ay), mn (tall (bx - ax) (by_ - ay)) (r 2) (r 3) - ahd (mn (tall (bx - ax) (by_ - ay)) ax ay), ?_, fun s hm => ?_⟩
        · cases tall (bx - ax) (by_ - ay) <;> simp only [mn, Bool.false_eq_true, if_false, if_true] <;> omega
        · have := hin s hm
          show _ ≤ pl _ _ _ ∧ pl _ _ _ < _
          unfold pl
          rw [if_pos c]
          revert this
          cases tall (bx - ax) (by_ - ay) <;> simp only [mn, Bool.false_eq_true, if_false, if_true] <;> omega
      · refine ⟨ahd (mn (tall (bx - ax) (by_ - ay)) ax ay) - mn (tall (bx - ax) (by_ - ay)) (r 2) (r 3), ahd (mn (tall (bx - ax) (by_ - ay)) ax ay) - mn (tall (bx - ax) (by_ - ay)) (r 0) (r 1), ?_, fun s hm => ?_⟩
        · cases tall (bx - ax) (by_ - ay) <;> simp only [mn, Bool.false_eq_true, if_false, if_true] <;> omega
        · have := hin s hm
          show _ ≤ pl _ _ _ ∧ pl _ _ _ < _
          unfold pl
          rw [if_neg c]
          revert this
          cases tall (bx - ax) (by_ - ay) <;> simp only [mn, Bool.false_eq_true, if_false, if_true] <;> omega
    obtain ⟨lo, hi, e, hb⟩ := hb
    rcases rising_len f hr hb with e2 | e2
    · rw [e2]
      exact Nat.zero_le _
    · omega
end
end DM
end Go.Proofs.Ytheolajpjpnfjaa
