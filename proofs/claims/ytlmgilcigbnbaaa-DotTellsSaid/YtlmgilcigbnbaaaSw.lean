/- Plain: a fragment with a cover; rows of them so far. How they are handed back. -/
import Derived.Test.YtlmgilcigbnbaaaTw
import Derived.Test.YtlmgilcigbnbaaaWs
import Derived.Test.YtlmgilcigbnbaaaWr
import Derived.Test.YtlmgilcigbnbaaaSo
namespace Go.Proofs.Ytlmgilcigbnbaaa
open Go.ChangeShapes Go.WideShapes Go.ChangeAt Go.RowKit
set_option linter.unusedVariables false
set_option linter.unusedSimpArgs false

namespace SM
def fr (x y z : Int) (c : Nat → Int) (n : Int) (i : Nat) : Int := if i = 0 then x else if i = 1 then y else if i = 2 then z else if i < 7 then c (i - 3) else n
def part {α : Type} (f : Int → Int → List α) (x0 x1 y0 y x : Int) : List α := rows f x0 x1 y0 y ++ row f x0 x y
section
variable {α : Type} {f : Int → Int → List α} {x0 x1 y0 y x : Int}
theorem part_start : part f x0 x1 y0 y0 x0 = [] := by unfold part; rw [rows_nil, row_nil]; rfl
theorem part_step (h : x0 ≤ x) : part f x0 x1 y0 y (x + 1) = part f x0 x1 y0 y x ++ f x y := by unfold part; rw [row_succ f h, List.append_assoc]
theorem part_row (h : y0 ≤ y) : part f x0 x1 y0 y x1 = part f x0 x1 y0 (y + 1) x0 := by unfold part; rw [rows_succ f h, row_nil, List.append_nil]
theorem part_end : part f x0 x1 y0 y x0 = rows f x0 x1 y0 y := by unfold part; rw [row_nil, List.append_nil]
theorem row_len (h : ∀ x y, (f x y).length ≤ 1) : (row f x0 x y).length ≤ (x - x0).toNat := by
  have := rows_len f h (x0 := x0) (x1 := x) (y0 := y) (y1 := y + 1)
  rw [rows_succ f (Int.le_refl y), rows_nil, List.nil_append] at this
  rwa [show (y + 1 - y).toNat = 1 by omega, Nat.mul_one] at this
theorem part_len {y1 : Int} (h : ∀ x y, (f x y).length ≤ 1) (hx : x0 ≤ x ∧ x ≤ x1) (hy : y0 ≤ y ∧ y < y1) : (part f x0 x1 y0 y x).length ≤ (x1 - x0).toNat * (y1 - y0).toNat := by
  have h1 := rows_len f h (x0 := x0) (x1 := x1) (y0 := y0) (y1 := y)
  have h2 := row_len (x0 := x0) (x := x) (y := y) h
  have h3 : (x1 - x0).toNat * ((y - y0).toNat + 1) ≤ (x1 - x0).toNat * (y1 - y0).toNat := Nat.mul_le_mul_left _ (by omega)
  unfold part
  rw [List.length_append]
  rw [Nat.mul_add, Nat.mul_one] at h3
  omega
end
end SM
theorem builtF (x y z : Int) (c : Nat → Int) (n : Int) : Try.prog.built 40 [(0, .int .i64 x), (1, .int .i64 y), (2, .int .i64 z), (3, arr 4 c), (4, .int .i64 n)] = some (M.mat 8 (SM.fr x y z c n)).toArray := by kernel_rfl
def RetG (w : World) (l : List (Nat → Int)) (e : Ending) (w' : World) : Prop := ∃ A c, e = .returned (.slice A l.length c) ∧ Lies w' free (gE w.heap.size A c l) ∧ Below w.heap.size w w'
theorem retG_nil {w w' : World} (hb : Below w.heap.size w w') : RetG w [] (.returned (.slice none 0 0)) w' := ⟨none, 0, rfl, Lies.nil, hb⟩
theorem Own.join {w0 w w' : World} {bs cs : List (Nat × TypeId × List Value)} (O : Own w0 w bs) (C : Own w w' cs) : Own w0 w' (cs ++ bs) := by
  refine ⟨O.1.trans (C.1.mono O.1.size), ?_, fun x hx => ?_⟩
  · rw [List.map_append, List.nodup_append]
    refine ⟨C.2.1, O.2.1, fun a ha b hb e => ?_⟩
    obtain ⟨x, hx, rfl⟩ := List.mem_map.1 ha
    obtain ⟨y, hy, rfl⟩ := List.mem_map.1 hb
    have h1 := (C.2.2 x hx).1
    have h2 := O.lt hy
    omega
  · rcases List.mem_append.1 hx with hx | hx
    · exact ⟨Nat.le_trans O.1.size (C.2.2 x hx).1, (C.2.2 x hx).2⟩
    · exact ⟨(O.2.2 x hx).1, (C.1.block _ (O.lt hx)).trans (O.2.2 x hx).2⟩
theorem Held.join18 {w0 w w' : World} {bs cs : List (Nat × TypeId × List Value)} {R : RowD} (h : Held w0 w bs R []) (C : Own w w' cs) : Held w0 w' (cs ++ bs) R [] :=
  ⟨h.1.join C, (h.call C.1).2.1, fun x hx => by
    rcases List.mem_append.1 hx with hx | hx
    · intro e
      have h1 := (h.row_lt e).2
      have h2 := (C.2.2 x hx).1
      omega
    · exact h.2.2.1 x hx, by simp⟩
namespace SP
theorem sum_some {α : Type} (f : α → Nat) : ∀ l : List α, (l.map f).sum ≠ 0 → ∃ x ∈ l, f x ≠ 0
  | [], h => absurd rfl h
  | x :: l, h => by
    by_cases e : f x = 0
    · obtain ⟨y, hy, h2⟩ := sum_some f l (by
        rw [List.map_cons, List.sum_cons, e, Nat.zero_add] at h
        exact h)
      exact ⟨y, List.mem_cons_of_mem _ hy, h2⟩
    · exact ⟨x, List.mem_cons_self, e⟩
theorem mul_lim {x y A B : Int} (hx : -A ≤ x ∧ x ≤ A) (hy : -B ≤ y ∧ y ≤ B) : -(A * B) ≤ x * y ∧ x * y ≤ A * B := M.mul_hi hx.1 hx.2 hy.1 hy.2
end SP
namespace SM
section
variable {α : Type} {f : Int → Int → List α}
theorem row_skip {x0 x x' y : Int} (h0 : x0 ≤ x) (h : x ≤ x') (hf : ∀ z, x ≤ z → z < x' → f z y = []) : row f x0 x' y = row f x0 x y := by
  obtain ⟨k, rfl⟩ : ∃ k : Nat, x' = x + k := ⟨(x' - x).toNat, by omega⟩
  induction k with
  | zero => simp
  | succ k ih =>
    rw [show x + ((k + 1 : Nat) : Int) = x + k + 1 by omega, row_succ f (by omega), hf _ (by omega) (by omega), List.append_nil]
    exact ih (by omega) fun z h1 h2 => hf z h1 (by omega)
theorem row_none {x0 x1 y : Int} (hf : ∀ z, x0 ≤ z → z < x1 → f z y = []) : row f x0 x1 y = [] := by
  unfold row
  rw [List.flatMap_eq_nil_iff]
  intro z hz
  have := mem_upto.1 hz
  exact hf z this.1 this.2
theorem rows_skip {x0 x1 y0 y y' : Int} (h0 : y0 ≤ y) (h : y ≤ y') (hf : ∀ z, y ≤ z → z < y' → row f x0 x1 z = []) : rows f x0 x1 y0 y' = rows f x0 x1 y0 y := by
  obtain ⟨k, rfl⟩ : ∃ k : Nat, y' = y + k := ⟨(y' - y).toNat, by omega⟩
  induction k with
  | zero => simp
  | succ k ih =>
    rw [show y + ((k + 1 : Nat) : Int) = y + k + 1 by omega, rows_succ f (by omega), hf _ (by omega) (by omega), List.append_nil]
    exact ih (by omega) fun z h1 h2 => hf z h1 (by omega)
/-- Only these rows, and of each only these pixels, have something. -/
structure Look (f : Int → Int → List α) (r0 r1 r2 r3 : Int) (Y : Nat → Int) (X : Int → Nat → Int) : Prop where
  ny : r1 ≤ Y 0 ∧ Y 1 < r3
  nx : ∀ y, r0 ≤ X y 0 ∧ X y 1 < r2
  no : ∀ x y, r0 ≤ x → x < r2 → r1 ≤ y → y < r3 → ¬ ((Y 0 ≤ y ∧ y ≤ Y 1) ∧ (X y 0 ≤ x ∧ x ≤ X y 1)) → f x y = []
variable {r0 r1 r2 r3 : Int} {Y : Nat → Int} {X : Int → Nat → Int}
theorem Look.start (h : Look f r0 r1 r2 r3 Y X) (hr : r1 ≤ r3) : part f r0 r2 r1 (min (Y 0) r3) r0 = [] := by
  rw [part_end, rows_skip (y := r1) (Int.le_refl _) (by have := h.ny; omega), rows_nil]
  intro z h1 h2
  exact row_none fun x h3 h4 => h.no x z h3 h4 h1 (by omega) (by omega)
theorem Look.row (h : Look f r0 r1 r2 r3 Y X) (hr : r0 ≤ r2) {y : Int} (hy : Y 0 ≤ y ∧ y ≤ Y 1) : part f r0 r2 r1 y (min (X y 0) r2) = part f r0 r2 r1 (min y r3) r0 := by
  have h1 := h.ny
  have h2 := h.nx y
  rw [Int.min_eq_left (show y ≤ r3 by omega)]
  unfold part
  rw [row_skip (x := r0) (Int.le_refl _) (by omega)]
  intro z h3 h4
  exact h.no z y h3 (by omega) (by omega) (by omega) (by omega)
theorem Look.step (h : Look f r0 r1 r2 r3 Y X) {x y : Int} (hx : X y 0 ≤ x ∧ x ≤ X y 1) : part f r0 r2 r1 y (min (x + 1) r2) = part f r0 r2 r1 y (min x r2) ++ f x y := by
  have h2 := h.nx y
  rw [Int.min_eq_left (show x + 1 ≤ r2 by omega), Int.min_eq_left (show x ≤ r2 by omega)]
  exact part_step (by omega)
theorem Look.next (h : Look f r0 r1 r2 r3 Y X) (hr : r0 ≤ r2) {x y : Int} (hy : Y 0 ≤ y ∧ y ≤ Y 1) (hx : X y 0 ≤ x ∧ ¬ x ≤ X y 1) : part f r0 r2 r1 y (min x r2) = part f r0 r2 r1 (min (y + 1) r3) r0 := by
  have h1 := h.ny
  have h2 := h.nx y
  rw [Int.min_eq_left (show y + 1 ≤ r3 by omega), ← part_row (by omega)]
  unfold part
  rw [row_skip (x := min x r2) (x' := r2) (by omega) (by omega)]
  intro z h3 h4
  exact h.no z y (by omega) h4 (by omega) (by omega) (by omega)
theorem Look.stop (h : Look f r0 r1 r2 r3 Y X) (hr : r1 ≤ r3) {y : Int} (hy : Y 0 ≤ y ∧ ¬ y ≤ Y 1) : part f r0 r2 r1 (min y r3) r0 = rows f r0 r2 r1 r3 := by
  have h1 := h.ny
  rw [part_end, rows_skip (y := min y r3) (y' := r3) (by omega) (by omega)]
  intro z h3 h4
  exact row_none fun x h5 h6 => h.no x z h5 h6 (by omega) h4 (by omega)
end
end SM
end Go.Proofs.Ytlmgilcigbnbaaa
