/- Plain: a smooth line's fragments, samples. Types: fragments. How they are handed back. -/
import Derived.Test.YtdkppkdoconfhaaTw
import Derived.Test.YtdkppkdoconfhaaWp
import Derived.Test.YtdkppkdoconfhaaWs
import Derived.Test.YtdkppkdoconfhaaWr
import Derived.Test.YtdkppkdoconfhaaVf
import Derived.Test.YtdkppkdoconfhaaVp
import Derived.Test.YtdkppkdoconfhaaSn
namespace Go.Proofs.Ytdkppkdoconfhaa
open Go.ChangeShapes Go.WideShapes Go.ChangeAt Go.RowKit
set_option linter.unusedVariables false
set_option linter.unusedSimpArgs false

namespace SM
/-- A fragment. -/
def fr (x y z : Int) (c : Nat → Int) (n : Int) (i : Nat) : Int := if i = 0 then x else if i = 1 then y else if i = 2 then z else if i < 7 then c (i - 3) else n
def right (a b : Nat → Int) (w : Int) : Bool := WD.right a b w (HM.t3 0 1 0)
theorem right_iff {a b : Nat → Int} {w : Int} : right a b w = true ↔ (VM.fit a = true ∧ VM.fit b = true) ∧ (1 ≤ w ∧ w ≤ 64) := by
  unfold right
  rw [WD.right_iff, show HM.right (HM.t3 0 1 0) = true by decide]
  exact ⟨fun h => ⟨h.1, h.2.1⟩, fun h => ⟨h.1, h.2, rfl⟩⟩
/-- The cover that is told. -/
def cvr (a b : Nat → Int) (w x y : Int) : Int := if right a b w then (cov a b w x y : Int) else 0
theorem cvr_lim {a b : Nat → Int} {w x y : Int} : 0 ≤ cvr a b w x y ∧ cvr a b w x y ≤ 64 := by
  have := cov_le a b w x y
  unfold cvr
  split <;> omega
theorem cvr_bad {a b : Nat → Int} {w : Int} (h : right a b w = false) (x y : Int) : cvr a b w x y = 0 := by unfold cvr; rw [if_neg (by rw [h]; decide)]
def zz (a b : Nat → Int) (x y : Int) : Int := VM.mid (a 2) (b 2) (VM.nC (a 0) (a 1) (b 0) (b 1) x y) (VM.dC (a 0) (a 1) (b 0) (b 1))
def cc (a b : Nat → Int) (x y : Int) : Nat → Int := VM.col a b (VM.nC (a 0) (a 1) (b 0) (b 1) x y) (VM.dC (a 0) (a 1) (b 0) (b 1))
/-- A pixel's fragment, if it has one. -/
def px (a b : Nat → Int) (w x y : Int) : List (Nat → Int) := if cvr a b w x y = 0 then [] else [fr x y (zz a b x y) (cc a b x y) (cvr a b w x y)]
theorem px_no {a b : Nat → Int} {w x y : Int} (h : cvr a b w x y = 0) : px a b w x y = [] := if_pos h
theorem px_yes {a b : Nat → Int} {w x y : Int} (h : ¬ cvr a b w x y = 0) : px a b w x y = [fr x y (zz a b x y) (cc a b x y) (cvr a b w x y)] := if_neg h
theorem px_len (a b : Nat → Int) (w x y : Int) : (px a b w x y).length ≤ 1 := by unfold px; split <;> simp
/-- Its line's fragments. -/
def line (a b : Nat → Int) (w : Int) (r : Nat → Int) : List (Nat → Int) := if right a b w && RC.right r then rows (px a b w) (r 0) (r 2) (r 1) (r 3) else []
theorem line_bad {a b : Nat → Int} {w : Int} {r : Nat → Int} (h : (right a b w && RC.right r) = false) : line a b w r = [] := by unfold line; rw [if_neg (by rw [h]; decide)]
theorem line_ok {a b : Nat → Int} {w : Int} {r : Nat → Int} (h1 : right a b w = true) (h2 : RC.right r = true) : line a b w r = rows (px a b w) (r 0) (r 2) (r 1) (r 3) := by unfold line; rw [if_pos (by rw [h1, h2]; rfl)]
/-- Rows up to y, and of that one the pixels up to x. -/
def part {α : Type} (f : Int → Int → List α) (x0 x1 y0 y x : Int) : List α := rows f x0 x1 y0 y ++ row f x0 x y
section
variable {α : Type} {f : Int → Int → List α} {x0 x1 y0 y x : Int}
theorem part_start : part f x0 x1 y0 y0 x0 = [] := by unfold part; rw [rows_nil, row_nil]; rfl
theorem part_step (h : x0 ≤ x) : part f x0 x1 y0 y (x + 1) = part f x0 x1 y0 y x ++ f x y := by unfold part; rw [row_succ f h, List.append_assoc]
theorem part_row (h : y0 ≤ y) : part f x0 x1 y0 y x1 = part f x0 x1 y0 (y + 1) x0 := by unfold part; rw [rows_succ f h, row_nil, List.append_nil]
theorem part_end : part f x0 x1 y0 y x0 = rows f x0 x1 y0 y := by unfold part; rw [row_nil, List.append_nil]
theorem row_len (h : ∀ x y, (f x y).length ≤ 1) : (row f x0 x y).length ≤ (x - x0).toNat := by
  have := rows_len f h (x0 := x0) (x1 := x) (y0 := y) (y1 := y + 1)
  rw [rows_succ f (Int.le_refl y), rows_nil, List.nil_append] at this
  rwa [show (y + 1 - y).toNat = 1 by omega, Nat.mul_one] at this
theorem part_len {y1 : Int} (h : ∀ x y, (f x y).length ≤ 1) (hx : x0 ≤ x ∧ x ≤ x1) (hy : y0 ≤ y ∧ y < y1) : (part f x0 x1 y0 y x).length ≤ (x1 - x0).toNat * (y1 - y0).toNat := by
  have h1 := rows_len f h (x0 := x0) (x1 := x1) (y0 := y0) (y1 := y)
  have h2 := row_len (x0 := x0) (x := x) (y := y) h
  have h3 : (x1 - x0).toNat * ((y - y0).toNat + 1) ≤ (x1 - x0).toNat * (y1 - y0).toNat := Nat.mul_le_mul_left _ (by omega)
  unfold part
  rw [List.length_append]
  rw [Nat.mul_add, Nat.mul_one] at h3
  omega
end
theorem line_len {a b : Nat → Int} {w : Int} {r : Nat → Int} {n : Nat} (h : RC.area r ≤ n) : (line a b w r).length ≤ n := by
  unfold line
  split
  · rename_i hq
    simp only [Bool.and_eq_true] at hq
    have h1 := rows_len (px a b w) (px_len a b w) (x0 := r 0) (x1 := r 2) (y0 := r 1) (y1 := r 3)
    rw [RC.area_in hq.2] at h
    obtain ⟨_, hx, hy⟩ := RC.right_iff.1 hq.2
    have e : (((r 2 - r 0).toNat * (r 3 - r 1).toNat : Nat) : Int) = (r 2 - r 0) * (r 3 - r 1) := by
      rw [Int.natCast_mul, Int.toNat_of_nonneg (by omega), Int.toNat_of_nonneg (by omega)]
    omega
  · exact Nat.zero_le _
/-- Samples of a pixel, column by column: so many columns, and of the next one so many. -/
def colk (a b : Nat → Int) (w x y : Int) (i k : Nat) : Nat := ((List.range k).map fun k => bit (strip a b w (256 * x + 32 * (i : Nat) + 16) (256 * y + 32 * (k : Nat) + 16))).sum
def covk (a b : Nat → Int) (w x y : Int) (i k : Nat) : Nat := ((List.range i).map fun i => col a b w x y i).sum + colk a b w x y i k
theorem covk_start (a b : Nat → Int) (w x y : Int) : covk a b w x y 0 0 = 0 := rfl
theorem covk_step (a b : Nat → Int) (w x y : Int) (i k : Nat) : covk a b w x y i (k + 1) = covk a b w x y i k + bit (strip a b w (256 * x + 32 * (i : Nat) + 16) (256 * y + 32 * (k : Nat) + 16)) := by
  unfold covk colk
  rw [List.range_succ, List.map_append, List.sum_append, ← Nat.add_assoc]
  simp only [List.map_cons, List.map_nil, List.sum_cons, List.sum_nil, Nat.add_zero]
theorem covk_col (a b : Nat → Int) (w x y : Int) (i : Nat) : covk a b w x y i 8 = covk a b w x y (i + 1) 0 := by
  unfold covk
  rw [List.range_succ, List.map_append, List.sum_append]
  simp only [List.map_cons, List.map_nil, List.sum_cons, List.sum_nil, Nat.add_zero]
  rfl
theorem covk_end (a b : Nat → Int) (w x y : Int) : covk a b w x y 8 0 = cov a b w x y := by
  unfold covk cov colk
  simp
theorem covk_le (a b : Nat → Int) (w x y : Int) {i k : Nat} (hi : i ≤ 8) (hk : k ≤ 8) : covk a b w x y i k ≤ 72 := by
  have h1 := sum_const (fun i => col a b w x y i) 8 (List.range i) fun i _ => col_le _ _ _ _ _ i
  have h2 := sum_const (fun k => bit (strip a b w (256 * x + 32 * (i : Nat) + 16) (256 * y + 32 * (k : Nat) + 16))) 1 (List.range k) fun k _ => bit_le _
  rw [List.length_range] at h1 h2
  unfold covk colk
  omega
end SM
theorem builtF (x y z : Int) (c : Nat → Int) (n : Int) : Try.prog.built 40 [(0, .int .i64 x), (1, .int .i64 y), (2, .int .i64 z), (3, arr 4 c), (4, .int .i64 n)] = some (M.mat 8 (SM.fr x y z c n)).toArray := by kernel_rfl
/-- How a line's fragments are handed back. -/
def RetG (w : World) (l : List (Nat → Int)) (e : Ending) (w' : World) : Prop := ∃ A c, e = .returned (.slice A l.length c) ∧ Lies w' free (gE w.heap.size A c l) ∧ Below w.heap.size w w'
theorem retG_nil {w w' : World} (hb : Below w.heap.size w w') : RetG w [] (.returned (.slice none 0 0)) w' := ⟨none, 0, rfl, Lies.nil, hb⟩
end Go.Proofs.Ytdkppkdoconfhaa
