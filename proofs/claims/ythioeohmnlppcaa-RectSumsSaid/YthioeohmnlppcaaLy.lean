/- Plain: sums and counts, one more at a time. -/
import Derived.Test.YthioeohmnlppcaaWf
namespace Go.Proofs.Ythioeohmnlppcaa
open Go.ChangeShapes Go.WideShapes Go.ChangeAt Go.RowKit
set_option linter.unusedVariables false
set_option linter.unusedSimpArgs false

namespace RC
theorem sum_step {l : List (Nat → Int)} {k : Nat} {x : Nat → Int} (h : l[k]? = some x) : sum (l.take (k + 1)) = sum (l.take k) + area x := by
  rw [List.take_add_one, h, Option.toList_some]
  have app : ∀ a b : List (Nat → Int), sum (a ++ b) = sum a + sum b := by
    intro a b
    induction a with
    | nil => simp [sum]
    | cons y a ih => rw [List.cons_append, sum, sum, ih]; omega
  rw [app, sum, sum]
  omega
theorem sum_pos : ∀ l : List (Nat → Int), 0 ≤ sum l
  | [] => Int.le_refl 0
  | x :: l => by
    have h1 := sum_pos l
    have h2 := (area_le x).1
    rw [sum]
    omega
theorem sum_take (l : List (Nat → Int)) (k : Nat) : 0 ≤ sum (l.take k) ∧ sum (l.take k) ≤ sum l := by
  refine ⟨sum_pos _, ?_⟩
  have app : ∀ a b : List (Nat → Int), sum (a ++ b) = sum a + sum b := by
    intro a b
    induction a with
    | nil => simp [sum]
    | cons y a ih => rw [List.cons_append, sum, sum, ih]; omega
  have e : sum l = sum (l.take k) + sum (l.drop k) := by rw [← app, List.take_append_drop]
  have := sum_pos (l.drop k)
  omega
theorem count_step {l : List (Nat → Int)} {k : Nat} {x : Nat → Int} (u v : Int) (h : l[k]? = some x) : count u v (l.take (k + 1)) = count u v (l.take k) + (if has x u v then 1 else 0) := by
  rw [List.take_add_one, h, Option.toList_some]
  have app : ∀ a b : List (Nat → Int), count u v (a ++ b) = count u v a + count u v b := by
    intro a b
    induction a with
    | nil => simp [count]
    | cons y a ih => rw [List.cons_append, count, count, ih]; omega
  rw [app, count, count]
  omega
theorem count_lim (u v : Int) : ∀ l : List (Nat → Int), count u v l ≤ l.length
  | [] => Nat.le_refl 0
  | x :: l => by
    have := count_lim u v l
    rw [count, List.length_cons]
    split <;> omega
theorem count_all (a b : Nat → Int) (u v : Int) : count u v (both a b :: minus a b) = if has a u v then 1 else 0 := count_minus a b u v
theorem both_area (a b : Nat → Int) : (area (both a b) == 0) = M.eqB 4 (both a b) M.zero := by
  cases hr : right (both a b)
  · rw [area_bad hr, both_zero hr, M.eqB_refl]
    rfl
  · have := area_pos hr
    rw [zero_no hr]
    simp
    omega
end RC
theorem Held.gain0 {w0 w w' : World} {bs : List (Nat × TypeId × List Value)} {R : RowD} {es : List Ent} {A : Option Addr} {c : Nat} {l : List (Nat → Int)} (O : Held w0 w bs R es) (hb : Below w.heap.size w w') (hL : Lies w' free (rE w.heap.size A c l)) : Held w0 w' bs R (rE 0 A c l :: es) :=
  have O2 := O.gain hb hL
  ⟨O2.1, O2.2.1, O2.2.2.1, fun x hx => by
    rcases List.mem_cons.1 hx with rfl | hx
    · exact (O2.mem List.mem_cons_self).low (Nat.zero_le _)
    · exact O2.mem (List.mem_cons_of_mem _ hx)⟩
end Go.Proofs.Ythioeohmnlppcaa
