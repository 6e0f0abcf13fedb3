/- Rectangles in memory; how they are handed back. -/
import Derived.Test.YthioeohmnlppcaaLa
import Derived.Test.YthioeohmnlppcaaTy
namespace Go.Proofs.Ythioeohmnlppcaa
open Go.ChangeShapes Go.WideShapes Go.ChangeAt Go.RowKit
set_option linter.unusedVariables false
set_option linter.unusedSimpArgs false

theorem flat_len {α : Type} (f : α → List Value) (s : Nat) (hf : ∀ x, (f x).length = s) : ∀ l : List α, (l.flatMap f).length = l.length * s
  | [] => by simp
  | a :: l => by rw [List.flatMap_cons, List.length_append, hf, flat_len f s hf l, List.length_cons, Nat.add_mul, Nat.one_mul, Nat.add_comm]
theorem flat_at {α : Type} (f : α → List Value) (s : Nat) (hf : ∀ x, (f x).length = s) : ∀ {l : List α} {i : Nat} {x : α}, l[i]? = some x → ∀ j v, (f x)[j]? = some v → (l.flatMap f)[i * s + j]? = some v
  | a :: l, 0, x, h, j, v, hv => by
    obtain rfl : a = x := by simpa using h
    have := (List.getElem?_eq_some_iff.1 hv).1
    rw [List.flatMap_cons, List.getElem?_append_left (by omega), Nat.zero_mul, Nat.zero_add]
    exact hv
  | a :: l, i + 1, x, h, j, v, hv => by
    rw [List.flatMap_cons, List.getElem?_append_right (by rw [hf, Nat.add_mul, Nat.one_mul]; omega), hf, show (i + 1) * s + j - s = i * s + j by rw [Nat.add_mul, Nat.one_mul]; omega]
    exact flat_at f s hf (l := l) (by simpa using h) j v hv
/-- Rectangles in memory. -/
def rC (l : List (Nat → Int)) : List Value := l.flatMap (M.mat 4)
theorem rC_len (l : List (Nat → Int)) : (rC l).length = l.length * 4 := flat_len (M.mat 4) 4 (fun a => M.mat_len 4 a) l
theorem rC_at {l : List (Nat → Int)} {i : Nat} {x : Nat → Int} (h : l[i]? = some x) : ∀ j v, (M.mat 4 x)[j]? = some v → (rC l)[i * 4 + j]? = some v := flat_at (M.mat 4) 4 (fun a => M.mat_len 4 a) h
theorem rC_app (a b : List (Nat → Int)) : rC (a ++ b) = rC a ++ rC b := by simp [rC]
theorem rC_one (l : List (Nat → Int)) : ∀ v ∈ rC l, v.oneCell' = true := by
  intro v hv
  obtain ⟨a, _, ha⟩ := List.mem_flatMap.1 hv
  exact M.mat_one 4 a v ha
def rE (lo : Nat) (A : Option Addr) (c : Nat) (l : List (Nat → Int)) : Ent := ⟨lo, A, l.length, c, 4, rC l⟩
/-- A row of rectangles that grows. -/
def rR (A : Option Addr) (c : Nat) (l : List (Nat → Int)) : RowD := ⟨.slice A l.length c, 23, 4, l.length, rC l⟩
section
variable {w0 w : World} {bs : List (Nat × TypeId × List Value)} {es : List Ent} {A : Option Addr} {n c : Nat}
theorem Held.row_val' {R : RowD} (h : Held w0 w bs R es) : ∃ A c, R.v = .slice A R.n c := by
  obtain ⟨A, c, hv, -⟩ := row_lies h.2.1
  exact ⟨A, c, hv⟩
theorem rR_of {l : List (Nat → Int)} {x : Nat → Int} {v : Value} (O : Held w0 w bs ⟨v, 23, 4, l.length + 1, rC l ++ rC [x]⟩ es) : ∃ A c, v = .slice A (l ++ [x]).length c ∧ Held w0 w bs (rR A c (l ++ [x])) es := by
  obtain ⟨A, c, hv⟩ := O.row_val'
  dsimp only at hv
  subst hv
  refine ⟨A, c, by simp, ?_⟩
  unfold rR
  rw [rC_app, List.length_append]
  exact O
end
/-- How rectangles are handed back. -/
def RetR (w : World) (l : List (Nat → Int)) (e : Ending) (w' : World) : Prop := ∃ A c, e = .returned (.slice A l.length c) ∧ Lies w' free (rE w.heap.size A c l) ∧ Below w.heap.size w w'
theorem retR_nil {w w' : World} (hb : Below w.heap.size w w') : RetR w [] (.returned (.slice none 0 0)) w' := ⟨none, 0, rfl, Lies.nil, hb⟩
theorem retR_done {w w' : World} {bs : List (Nat × TypeId × List Value)} {es : List Ent} {A : Option Addr} {c : Nat} {l : List (Nat → Int)} (O : Held w w' bs (rR A c l) es) : RetR w l (.returned (.slice A l.length c)) w' := by
  obtain ⟨-, h⟩ := Held.doneV O
  exact ⟨A, c, rfl, h.arg List.mem_cons_self, O.below⟩
end Go.Proofs.Ythioeohmnlppcaa
