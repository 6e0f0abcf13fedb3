/- Two stacks of matrices, in plain words. -/
import Derived.Test.YthcieapfpgejdaaM
namespace Go.Proofs.Ythcieapfpgejdaa
set_option linter.unusedVariables false

/-- Which one is meant, and the two lists. -/
structure Stk where
  m : Int
  l : Nat → List (Nat → Int)
namespace Stk
def none_ : Stk := ⟨0, fun _ => []⟩
def okL (l : List (Nat → Int)) : Bool := decide (1 ≤ l.length) && decide (l.length ≤ 8) && l.all M.right
def isMode (m : Int) : Bool := decide (m = 0) || decide (m = 1)
def right (s : Stk) : Bool := isMode s.m && okL (s.l 0) && okL (s.l 1)
def meant (s : Stk) : List (Nat → Int) := s.l s.m.toNat
def put (s : Stk) (l : List (Nat → Int)) : Stk := ⟨s.m, fun j => if j = s.m.toNat then l else s.l j⟩
def last (l : List (Nat → Int)) : Nat → Int := l.getLast?.getD M.zero
def top (s : Stk) (m : Int) : (Nat → Int) × Int := if right s && isMode m then (last (s.l m.toNat), 0) else (M.zero, 1)
def choose (s : Stk) (m : Int) : Stk × Int := if right s && isMode m then (⟨m, s.l⟩, 0) else (none_, 1)
def load (s : Stk) (x : Nat → Int) : Stk × Int := if right s && M.right x then (s.put (s.meant.dropLast ++ [x]), 0) else (none_, 1)
def mult (s : Stk) (x : Nat → Int) : Stk × Int :=
  if right s then (if (M.mul (last s.meant) x).2 = 0 then (s.put (s.meant.dropLast ++ [(M.mul (last s.meant) x).1]), 0) else (none_, (M.mul (last s.meant) x).2)) else (none_, 1)
def push (s : Stk) : Stk × Int := if right s then (if s.meant.length = 8 then (none_, 7) else (s.put (s.meant ++ [last s.meant]), 0)) else (none_, 1)
def pop (s : Stk) : Stk × Int := if right s then (if s.meant.length = 1 then (none_, 7) else (s.put s.meant.dropLast, 0)) else (none_, 1)
def new : Stk := ⟨0, fun _ => [M.unit]⟩

theorem isMode_iff {m : Int} : isMode m = true ↔ m = 0 ∨ m = 1 := by simp [isMode]
theorem isMode_nat {m : Int} (h : isMode m = true) : ∃ i : Nat, i < 2 ∧ m = i := by
  rcases isMode_iff.1 h with rfl | rfl
  · exact ⟨0, by decide, rfl⟩
  · exact ⟨1, by decide, rfl⟩
theorem okL_iff {l : List (Nat → Int)} : okL l = true ↔ 1 ≤ l.length ∧ l.length ≤ 8 ∧ ∀ x ∈ l, M.right x = true := by simp [okL, and_assoc]
theorem right_iff {s : Stk} : right s = true ↔ (s.m = 0 ∨ s.m = 1) ∧ ∀ i, i < 2 → okL (s.l i) = true := by
  simp only [right, Bool.and_eq_true, isMode_iff]
  constructor
  · rintro ⟨⟨h1, h2⟩, h3⟩
    refine ⟨h1, fun i hi => ?_⟩
    rcases i with _ | _ | i
    · exact h2
    · exact h3
    · omega
  · rintro ⟨h1, h2⟩
    exact ⟨⟨h1, h2 0 (by decide)⟩, h2 1 (by decide)⟩
theorem last_mem {l : List (Nat → Int)} (h : l ≠ []) : l[l.length - 1]? = some (last l) := by
  rw [last, List.getLast?_eq_getElem?]
  have : l.length ≠ 0 := fun e => h (List.eq_nil_of_length_eq_zero e)
  rw [List.getElem?_eq_getElem (by omega)]
  rfl
theorem last_app (l : List (Nat → Int)) (x : Nat → Int) : last (l ++ [x]) = x := by simp [last]
theorem take_last {l : List (Nat → Int)} : l.take (l.length - 1) = l.dropLast := (List.dropLast_eq_take).symm
theorem drop_last {l : List (Nat → Int)} (h : l ≠ []) : l.dropLast ++ [last l] = l := by
  have := List.dropLast_concat_getLast h
  rwa [show l.getLast h = last l by simp [last, List.getLast?_eq_some_getLast h]] at this
/-- The lists alone tell. -/
theorem right_ext {s t : Stk} (h1 : s.m = t.m) (h2 : ∀ i, i < 2 → s.l i = t.l i) : right s = right t := by
  rw [right, right, h1, h2 0 (by decide), h2 1 (by decide)]
end Stk
end Go.Proofs.Ythcieapfpgejdaa
