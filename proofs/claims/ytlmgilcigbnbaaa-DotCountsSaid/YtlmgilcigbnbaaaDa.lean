/- Plain: points: square, round, sprites. -/
import Derived.Test.YtlmgilcigbnbaaaSw
namespace Go.Proofs.Ytlmgilcigbnbaaa
open Go.ChangeShapes Go.WideShapes Go.ChangeAt Go.RowKit
set_option linter.unusedVariables false
set_option linter.unusedSimpArgs false

namespace DT
/-- May a point be? -/
def right (v : Nat → Int) (s k : Int) : Bool := VM.fit v && (decide (1 ≤ s) && (decide (s ≤ 64) && (decide (0 ≤ k) && decide (k ≤ 2))))
theorem right_iff {v : Nat → Int} {s k : Int} : right v s k = true ↔ VM.fit v = true ∧ (1 ≤ s ∧ s ≤ 64) ∧ (0 ≤ k ∧ k ≤ 2) := by
  simp only [right, Bool.and_eq_true, decide_eq_true_eq]
  exact ⟨fun ⟨h1, h2, h3, h4, h5⟩ => ⟨h1, ⟨h2, h3⟩, h4, h5⟩, fun ⟨h1, ⟨h2, h3⟩, h4, h5⟩ => ⟨h1, h2, h3, h4, h5⟩⟩
theorem right_0 {v : Nat → Int} {s k : Int} (h : right v s k = true) : right v s 0 = true := by
  obtain ⟨h1, h2, _⟩ := right_iff.1 h
  exact right_iff.2 ⟨h1, h2, by decide, by decide⟩
/-- The first pixel, one way. -/
def first (u s : Int) : Int := if s % 2 = 1 then u / 256 - (s - 1) / 2 else (u + 128) / 256 - s / 2
/-- The pixels of a square point. -/
def box (v : Nat → Int) (s : Int) : Nat → Int := if right v s 0 then RC.mk (first (v 0) s) (first (v 1) s) (first (v 0) s + s) (first (v 1) s + s) else M.zero
theorem box_ok {v : Nat → Int} {s : Int} (h : right v s 0 = true) : box v s = RC.mk (first (v 0) s) (first (v 1) s) (first (v 0) s + s) (first (v 1) s + s) := if_pos h
theorem box_bad {v : Nat → Int} {s : Int} (h : right v s 0 = false) : box v s = M.zero := if_neg (by rw [h]; decide)
theorem first_lim {u s : Int} (hu : -268435456 ≤ u ∧ u ≤ 268435456) (hs : 1 ≤ s ∧ s ≤ 64) : -1048700 ≤ first u s ∧ first u s ≤ 1048700 := by
  unfold first
  split <;> omega
theorem box_right {v : Nat → Int} {s : Int} (h : right v s 0 = true) : RC.right (box v s) = true := by
  obtain ⟨hf, hs, _⟩ := right_iff.1 h
  obtain ⟨h0, h1, -⟩ := VM.fit_lim hf
  have f0 := first_lim h0 hs
  have f1 := first_lim h1 hs
  rw [box_ok h, RC.right_iff]
  show ((-4194304 ≤ first (v 0) s ∧ first (v 0) s ≤ 4194304) ∧ (-4194304 ≤ first (v 1) s ∧ first (v 1) s ≤ 4194304) ∧ (-4194304 ≤ first (v 0) s + s ∧ first (v 0) s + s ≤ 4194304) ∧ (-4194304 ≤ first (v 1) s + s ∧ first (v 1) s + s ≤ 4194304)) ∧ (first (v 0) s < first (v 0) s + s) ∧ (first (v 1) s < first (v 1) s + s)
  omega
/-- Is a sample nearer than 128 units for each pixel of the size? -/
def nearP (v : Nat → Int) (s x y : Int) : Prop := (x - v 0) * (x - v 0) + (y - v 1) * (y - v 1) < 128 * s * 128 * s
instance (v : Nat → Int) (s x y : Int) : Decidable (nearP v s x y) := by unfold nearP; infer_instance
def near (v : Nat → Int) (s x y : Int) : Bool := decide (nearP v s x y)
def ccol (v : Nat → Int) (s x y : Int) (i : Nat) : Nat := ((List.range 8).map fun k => SM.bit (near v s (256 * x + 32 * (i : Nat) + 16) (256 * y + 32 * (k : Nat) + 16))).sum
def cov (v : Nat → Int) (s x y : Int) : Nat := ((List.range 8).map fun i => ccol v s x y i).sum
theorem ccol_le (v : Nat → Int) (s x y : Int) (i : Nat) : ccol v s x y i ≤ 8 := by
  have := SM.sum_const (fun k => SM.bit (near v s (256 * x + 32 * (i : Nat) + 16) (256 * y + 32 * (k : Nat) + 16))) 1 (List.range 8) fun k _ => SM.bit_le _
  unfold ccol
  simpa using this
theorem cov_le (v : Nat → Int) (s x y : Int) : cov v s x y ≤ 64 := by
  have := SM.sum_const (fun i => ccol v s x y i) 8 (List.range 8) fun i _ => ccol_le _ _ _ _ i
  unfold cov
  simpa using this
/-- Samples, column by column: so many columns, and of the next one so many. -/
def colk (v : Nat → Int) (s x y : Int) (i k : Nat) : Nat := ((List.range k).map fun k => SM.bit (near v s (256 * x + 32 * (i : Nat) + 16) (256 * y + 32 * (k : Nat) + 16))).sum
def covk (v : Nat → Int) (s x y : Int) (i k : Nat) : Nat := ((List.range i).map fun i => ccol v s x y i).sum + colk v s x y i k
theorem covk_start (v : Nat → Int) (s x y : Int) : covk v s x y 0 0 = 0 := rfl
theorem covk_step (v : Nat → Int) (s x y : Int) (i k : Nat) : covk v s x y i (k + 1) = covk v s x y i k + SM.bit (near v s (256 * x + 32 * (i : Nat) + 16) (256 * y + 32 * (k : Nat) + 16)) := by
  unfold covk colk
  rw [List.range_succ, List.map_append, List.sum_append, ← Nat.add_assoc]
  simp only [List.map_cons, List.map_nil, List.sum_cons, List.sum_nil, Nat.add_zero]
theorem covk_col (v : Nat → Int) (s x y : Int) (i : Nat) : covk v s x y i 8 = covk v s x y (i + 1) 0 := by
  unfold covk
  rw [List.range_succ, List.map_append, List.sum_append]
  simp only [List.map_cons, List.map_nil, List.sum_cons, List.sum_nil, Nat.add_zero]
  rfl
theorem covk_end (v : Nat → Int) (s x y : Int) : covk v s x y 8 0 = cov v s x y := by
  unfold covk cov colk
  simp
theorem covk_le (v : Nat → Int) (s x y : Int) {i k : Nat} (hi : i ≤ 8) (hk : k ≤ 8) : covk v s x y i k ≤ 72 := by
  have h1 := SM.sum_const (fun i => ccol v s x y i) 8 (List.range i) fun i _ => ccol_le _ _ _ _ i
  have h2 := SM.sum_const (fun k => SM.bit (near v s (256 * x + 32 * (i : Nat) + 16) (256 * y + 32 * (k : Nat) + 16))) 1 (List.range k) fun k _ => SM.bit_le _
  rw [List.length_range] at h1 h2
  unfold covk colk
  omega
/-- A sprite's number. -/
def part (mid u s : Int) : Int := max 0 (min ((mid - (u - 128 * s)) / s) 255)
def col (v : Nat → Int) (s k x y : Int) (i : Nat) : Int := if k = 2 ∧ i = 0 then part (256 * x + 128) (v 0) s else if k = 2 ∧ i = 1 then part (256 * y + 128) (v 1) s else v (3 + i)
def cv (v : Nat → Int) (s k x y : Int) : Int := if k = 1 then (cov v s x y : Nat) else if RC.has (box v s) x y then 64 else 0
theorem cv_lim (v : Nat → Int) (s k x y : Int) : 0 ≤ cv v s k x y ∧ cv v s k x y ≤ 64 := by
  have := cov_le v s x y
  unfold cv
  split
  · omega
  · split <;> omega
def px (v : Nat → Int) (s k x y : Int) : List (Nat → Int) := if cv v s k x y = 0 then [] else [SM.fr x y (v 2) (col v s k x y) (cv v s k x y)]
theorem px_no {v : Nat → Int} {s k x y : Int} (h : cv v s k x y = 0) : px v s k x y = [] := if_pos h
theorem px_yes {v : Nat → Int} {s k x y : Int} (h : ¬ cv v s k x y = 0) : px v s k x y = [SM.fr x y (v 2) (col v s k x y) (cv v s k x y)] := if_neg h
theorem px_len (v : Nat → Int) (s k x y : Int) : (px v s k x y).length ≤ 1 := by unfold px; split <;> simp
theorem px_mem {v : Nat → Int} {s k x y : Int} {z : Nat → Int} (h : z ∈ px v s k x y) : cv v s k x y ≠ 0 ∧ z = SM.fr x y (v 2) (col v s k x y) (cv v s k x y) := by
  unfold px at h
  split at h
  · exact absurd h (by simp)
  · rename_i g
    exact ⟨g, by simpa using h⟩
/-- A point's fragments in a rectangle. -/
def pt (v : Nat → Int) (s k : Int) (r : Nat → Int) : List (Nat → Int) := if right v s k && RC.right r then SM.rows (px v s k) (r 0) (r 2) (r 1) (r 3) else []
theorem pt_bad {v : Nat → Int} {s k : Int} {r : Nat → Int} (h : (right v s k && RC.right r) = false) : pt v s k r = [] := if_neg (by rw [h]; decide)
theorem pt_ok {v : Nat → Int} {s k : Int} {r : Nat → Int} (h1 : right v s k = true) (h2 : RC.right r = true) : pt v s k r = SM.rows (px v s k) (r 0) (r 2) (r 1) (r 3) := if_pos (by rw [h1, h2]; rfl)
theorem pt_len {v : Nat → Int} {s k : Int} {r : Nat → Int} {n : Nat} (h : RC.area r ≤ n) : (pt v s k r).length ≤ n := by
  unfold pt
  split
  · rename_i hq
    simp only [Bool.and_eq_true] at hq
    have h1 := SM.rows_len (px v s k) (px_len v s k) (x0 := r 0) (x1 := r 2) (y0 := r 1) (y1 := r 3)
    rw [RC.area_in hq.2] at h
    obtain ⟨_, hx, hy⟩ := RC.right_iff.1 hq.2
    have e : (((r 2 - r 0).toNat * (r 3 - r 1).toNat : Nat) : Int) = (r 2 - r 0) * (r 3 - r 1) := by
      rw [Int.natCast_mul, Int.toNat_of_nonneg (by omega), Int.toNat_of_nonneg (by omega)]
    omega
  · exact Nat.zero_le _
theorem rows_mem {α : Type} {f : Int → Int → List α} {x0 x1 y0 y1 : Int} {z : α} : z ∈ SM.rows f x0 x1 y0 y1 ↔ ∃ x y, (x0 ≤ x ∧ x < x1) ∧ (y0 ≤ y ∧ y < y1) ∧ z ∈ f x y := by
  unfold SM.rows SM.row
  rw [List.mem_flatMap]
  constructor
  · rintro ⟨y, hy, hz⟩
    obtain ⟨x, hx, hz⟩ := List.mem_flatMap.1 hz
    exact ⟨x, y, SM.mem_upto.1 hx, SM.mem_upto.1 hy, hz⟩
  · rintro ⟨x, y, hx, hy, hz⟩
    exact ⟨y, SM.mem_upto.2 hy, List.mem_flatMap.2 ⟨x, SM.mem_upto.2 hx, hz⟩⟩
/-- Where nothing is outside, a greater rectangle has the same. -/
theorem rows_sub {f : Int → Int → List (Nat → Int)} {x0 x1 y0 y1 u0 u1 v0 v1 : Int} (hc : ∀ x y z, z ∈ f x y → z 0 = x ∧ z 1 = y) (hx : x0 ≤ u0 ∧ u1 ≤ x1) (hy : y0 ≤ v0 ∧ v1 ≤ y1) (ho : ∀ x y, f x y ≠ [] → (u0 ≤ x ∧ x < u1) ∧ (v0 ≤ y ∧ y < v1)) : SM.rows f x0 x1 y0 y1 = SM.rows f u0 u1 v0 v1 := by
  have h := SM.rows_part f (fun z => (decide (u0 ≤ z 0) && decide (z 0 < u1)) && (decide (v0 ≤ z 1) && decide (z 1 < v1))) hx hy (fun x y z hz => by rw [(hc x y z hz).1, (hc x y z hz).2])
  rw [← h]
  symm
  rw [List.filter_eq_self]
  intro z hz
  obtain ⟨x, y, _, _, hz⟩ := rows_mem.1 hz
  have k := ho x y (fun e => by rw [e] at hz; exact absurd hz (by simp))
  have e := hc x y z hz
  rw [e.1, e.2]
  simp only [Bool.and_eq_true, decide_eq_true_eq]
  exact k
theorem px_at {v : Nat → Int} {s k x y : Int} {z : Nat → Int} (h : z ∈ px v s k x y) : z 0 = x ∧ z 1 = y := by
  obtain ⟨_, rfl⟩ := px_mem h
  exact ⟨rfl, rfl⟩
/-- A grid's elements, row by row. -/
def grid {α : Type} (g : Nat → Nat → α) (n m : Nat) : List α := (List.range m).flatMap fun j => (List.range n).map fun i => g i j
theorem grid_succ {α : Type} (g : Nat → Nat → α) (n m : Nat) : grid g n (m + 1) = grid g n m ++ (List.range n).map fun i => g i m := by
  unfold grid
  rw [List.range_succ, List.flatMap_append]
  simp
theorem grid_len {α : Type} (g : Nat → Nat → α) (n : Nat) : ∀ m, (grid g n m).length = n * m
  | 0 => rfl
  | m + 1 => by rw [grid_succ, List.length_append, grid_len g n m]; simp [Nat.mul_add]
theorem grid_at {α : Type} (g : Nat → Nat → α) (n : Nat) : ∀ m k, k < n * m → (grid g n m)[k]? = some (g (k % n) (k / n))
  | 0, k, h => absurd h (by simp)
  | m + 1, k, h => by
    rw [grid_succ, List.getElem?_append, grid_len]
    by_cases hk : k < n * m
    · rw [if_pos hk]
      exact grid_at g n m k hk
    · rw [if_neg hk]
      have hn : 0 < n := by
        rcases Nat.eq_zero_or_pos n with e | e
        · rw [e, Nat.zero_mul] at h
          exact absurd h (Nat.not_lt_zero _)
        · exact e
      rw [Nat.mul_add, Nat.mul_one] at h
      obtain ⟨i, rfl⟩ : ∃ i, k = n * m + i := ⟨k - n * m, by omega⟩
      have hi : i < n := by omega
      rw [Nat.add_sub_cancel_left, List.getElem?_map, List.getElem?_range hi, Nat.mul_add_mod, Nat.mod_eq_of_lt hi, Nat.mul_add_div hn, Nat.div_eq_of_lt hi, Nat.add_zero]
      rfl
theorem flat_one {α β : Type} (h : α → β) : ∀ l : List α, l.flatMap (fun i => [h i]) = l.map h
  | [] => rfl
  | x :: l => by rw [List.flatMap_cons, flat_one h l]; rfl
/-- One in each pixel: a grid. -/
theorem rows_grid {α : Type} {f : Int → Int → List α} {g : Int → Int → α} {x0 y0 : Int} (n m : Nat) (h : ∀ x y, x0 ≤ x → x < x0 + n → y0 ≤ y → y < y0 + m → f x y = [g x y]) : SM.rows f x0 (x0 + n) y0 (y0 + m) = grid (fun i j => g (x0 + i) (y0 + j)) n m := by
  have one : ∀ y, y0 ≤ y → y < y0 + m → SM.row f x0 (x0 + n) y = (List.range n).map fun (i : Nat) => g (x0 + i) y := by
    intro y h0 h1
    unfold SM.row SM.upto
    rw [show (x0 + (n : Int) - x0).toNat = n by omega, List.flatMap_map]
    rw [SM.flat_congr (g := fun (i : Nat) => [g (x0 + i) y]) (fun i hi => h _ _ (by omega) (by have := List.mem_range.1 hi; omega) h0 h1)]
    exact flat_one _ _
  unfold SM.rows grid SM.upto
  rw [show (y0 + (m : Int) - y0).toNat = m by omega, List.flatMap_map]
  exact SM.flat_congr fun j hj => one _ (by omega) (by have := List.mem_range.1 hj; omega)
/-- A rectangle that has all of a point. -/
def whole (v : Nat → Int) (s : Int) : Nat → Int := RC.mk ((v 0).tdiv 256 - s - 2) ((v 1).tdiv 256 - s - 2) ((v 0).tdiv 256 + s + 3) ((v 1).tdiv 256 + s + 3)
theorem tdiv_near (n : Int) : -255 ≤ n - 256 * n.tdiv 256 ∧ n - 256 * n.tdiv 256 ≤ 255 := by
  have h := Int.mul_tdiv_add_tmod n 256
  have h1 := Int.tmod_lt_of_pos n (show (0 : Int) < 256 by decide)
  have h2 := Int.lt_tmod_of_pos n (show (0 : Int) < 256 by decide)
  omega
theorem whole_ok {v : Nat → Int} {s k : Int} (h : right v s k = true) : RC.right (whole v s) = true ∧ RC.area (whole v s) ≤ 17689 := by
  obtain ⟨hf, hs, _⟩ := right_iff.1 h
  obtain ⟨h0, h1, -⟩ := VM.fit_lim hf
  have t0 := tdiv_near (v 0)
  have t1 := tdiv_near (v 1)
  have hr : RC.right (whole v s) = true := by
    rw [RC.right_iff]
    show ((-4194304 ≤ (v 0).tdiv 256 - s - 2 ∧ (v 0).tdiv 256 - s - 2 ≤ 4194304) ∧ (-4194304 ≤ (v 1).tdiv 256 - s - 2 ∧ (v 1).tdiv 256 - s - 2 ≤ 4194304) ∧ (-4194304 ≤ (v 0).tdiv 256 + s + 3 ∧ (v 0).tdiv 256 + s + 3 ≤ 4194304) ∧ (-4194304 ≤ (v 1).tdiv 256 + s + 3 ∧ (v 1).tdiv 256 + s + 3 ≤ 4194304)) ∧ ((v 0).tdiv 256 - s - 2 < (v 0).tdiv 256 + s + 3) ∧ ((v 1).tdiv 256 - s - 2 < (v 1).tdiv 256 + s + 3)
    omega
  refine ⟨hr, ?_⟩
  rw [RC.area_in hr]
  show ((v 0).tdiv 256 + s + 3 - ((v 0).tdiv 256 - s - 2)) * ((v 1).tdiv 256 + s + 3 - ((v 1).tdiv 256 - s - 2)) ≤ 17689
  rw [show (v 0).tdiv 256 + s + 3 - ((v 0).tdiv 256 - s - 2) = 2 * s + 5 by omega, show (v 1).tdiv 256 + s + 3 - ((v 1).tdiv 256 - s - 2) = 2 * s + 5 by omega]
  have := Int.mul_le_mul (show 2 * s + 5 ≤ 133 by omega) (show 2 * s + 5 ≤ 133 by omega) (by omega) (by decide)
  omega
/-- A square point, a sprite: its box, pixel by pixel. -/
theorem pt_square {v : Nat → Int} {s k : Int} (h : right v s k = true) (hk : ¬ k = 1) : pt v s k (whole v s) = grid (fun i j => SM.fr (first (v 0) s + i) (first (v 1) s + j) (v 2) (col v s k (first (v 0) s + i) (first (v 1) s + j)) 64) s.toNat s.toNat := by
  obtain ⟨hf, hs, _⟩ := right_iff.1 h
  obtain ⟨h0, h1, -⟩ := VM.fit_lim hf
  have t0 := tdiv_near (v 0)
  have t1 := tdiv_near (v 1)
  have hb := box_right (right_0 h)
  have cvi : ∀ x y, cv v s k x y = if RC.has (box v s) x y then 64 else 0 := fun x y => by unfold cv; rw [if_neg hk]
  have hi : ∀ x y, RC.has (box v s) x y = true ↔ (first (v 0) s ≤ x ∧ x < first (v 0) s + s) ∧ (first (v 1) s ≤ y ∧ y < first (v 1) s + s) := fun x y => by
    unfold RC.has
    rw [hb, box_ok (right_0 h)]
    show (true && (decide (first (v 0) s ≤ x) && (decide (x < first (v 0) s + s) && (decide (first (v 1) s ≤ y) && decide (y < first (v 1) s + s))))) = true ↔ _
    simp only [Bool.true_and, Bool.and_eq_true, decide_eq_true_eq]
    omega
  rw [pt_ok h (whole_ok h).1]
  have e1 : SM.rows (px v s k) (whole v s 0) (whole v s 2) (whole v s 1) (whole v s 3) = SM.rows (px v s k) (first (v 0) s) (first (v 0) s + s) (first (v 1) s) (first (v 1) s + s) := by
    refine rows_sub (fun x y z hz => px_at hz) ?_ ?_ fun x y hne => ?_
    · show (v 0).tdiv 256 - s - 2 ≤ first (v 0) s ∧ first (v 0) s + s ≤ (v 0).tdiv 256 + s + 3
      unfold first
      split <;> omega
    · show (v 1).tdiv 256 - s - 2 ≤ first (v 1) s ∧ first (v 1) s + s ≤ (v 1).tdiv 256 + s + 3
      unfold first
      split <;> omega
    · rw [← hi]
      cases e : RC.has (box v s) x y
      · exact absurd (px_no (by rw [cvi, e]; rfl)) hne
      · rfl
  rw [e1]
  have := rows_grid (f := px v s k) (g := fun x y => SM.fr x y (v 2) (col v s k x y) 64) (x0 := first (v 0) s) (y0 := first (v 1) s) s.toNat s.toNat (fun x y x0 x1 y0 y1 => by
    have e : RC.has (box v s) x y = true := (hi x y).2 (by omega)
    have c : cv v s k x y = 64 := by rw [cvi, e]; rfl
    rw [px_yes (by rw [c]; decide), c])
  rw [Int.toNat_of_nonneg (by omega)] at this
  exact this
/-- A round point's fragments are within two pixels of the square one; there is one. -/
theorem near_lim {v : Nat → Int} {s x y : Int} (hs : 0 < s) (h : nearP v s x y) : (v 0 - 128 * s < x ∧ x < v 0 + 128 * s) ∧ (v 1 - 128 * s < y ∧ y < v 1 + 128 * s) := by
  unfold nearP at h
  have a := SM.sq_nonneg' (x - v 0)
  have b := SM.sq_nonneg' (y - v 1)
  rw [Int.mul_assoc (128 * s) 128 s] at h
  have key : ∀ d : Int, d * d < 128 * s * (128 * s) → -(128 * s) < d ∧ d < 128 * s := by
    intro d hd
    rcases Int.le_total 0 d with g | g
    · have := (SM.sq_lt g (show 0 ≤ 128 * s by omega)).1 hd
      omega
    · have h2 : (-d) * (-d) < 128 * s * (128 * s) := by rw [Int.neg_mul_neg]; exact hd
      have := (SM.sq_lt (show 0 ≤ -d by omega) (show 0 ≤ 128 * s by omega)).1 h2
      omega
  have k1 := key _ (show (x - v 0) * (x - v 0) < 128 * s * (128 * s) by omega)
  have k2 := key _ (show (y - v 1) * (y - v 1) < 128 * s * (128 * s) by omega)
  omega
theorem cov_some {v : Nat → Int} {s x y : Int} (h : cov v s x y ≠ 0) : ∃ i j : Nat, i < 8 ∧ j < 8 ∧ nearP v s (256 * x + 32 * ((i : Nat) : Int) + 16) (256 * y + 32 * ((j : Nat) : Int) + 16) := by
  obtain ⟨i, hi, h1⟩ := SP.sum_some _ _ h
  obtain ⟨j, hj, h2⟩ := SP.sum_some _ _ h1
  refine ⟨i, j, List.mem_range.1 hi, List.mem_range.1 hj, ?_⟩
  by_cases e : nearP v s (256 * x + 32 * ((i : Nat) : Int) + 16) (256 * y + 32 * ((j : Nat) : Int) + 16)
  · exact e
  · exact absurd (show SM.bit _ = 0 by unfold near; rw [decide_eq_false e]; rfl) h2
theorem round_in {v : Nat → Int} {s x y : Int} (hs : 1 ≤ s ∧ s ≤ 64) (h : cov v s x y ≠ 0) : (first (v 0) s - 1 ≤ x ∧ x < first (v 0) s + s + 1) ∧ (first (v 1) s - 1 ≤ y ∧ y < first (v 1) s + s + 1) := by
  obtain ⟨i, j, hi, hj, hn⟩ := cov_some h
  have k := near_lim (by omega) hn
  unfold first
  split <;> omega
end DT
namespace DT
theorem le_sum {α : Type} (f : α → Nat) {k : α} : ∀ {l : List α}, k ∈ l → f k ≤ (l.map f).sum
  | x :: l, h => by
    rw [List.map_cons, List.sum_cons]
    rcases List.mem_cons.1 h with rfl | h
    · omega
    · have := le_sum f h
      omega
theorem round_some {v : Nat → Int} {s : Int} (hs : 1 ≤ s ∧ s ≤ 64) : cov v s (v 0 / 256) (v 1 / 256) ≠ 0 := by
  have pick : ∀ u : Int, ∃ i : Nat, i < 8 ∧ -16 ≤ 256 * (u / 256) + 32 * (i : Int) + 16 - u ∧ 256 * (u / 256) + 32 * (i : Int) + 16 - u ≤ 16 := by
    intro u
    refine ⟨((u % 256) / 32).toNat, by omega, ?_⟩
    have e : (((u % 256) / 32).toNat : Int) = (u % 256) / 32 := Int.toNat_of_nonneg (by omega)
    rw [e]
    omega
  obtain ⟨i, hi, i1, i2⟩ := pick (v 0)
  obtain ⟨j, hj, j1, j2⟩ := pick (v 1)
  have hn : near v s (256 * (v 0 / 256) + 32 * (i : Int) + 16) (256 * (v 1 / 256) + 32 * (j : Int) + 16) = true := by
    unfold near
    rw [decide_eq_true_iff]
    unfold nearP
    have a := SP.mul_lim (x := 256 * (v 0 / 256) + 32 * (i : Int) + 16 - v 0) (y := 256 * (v 0 / 256) + 32 * (i : Int) + 16 - v 0) (A := 16) (B := 16) ⟨i1, i2⟩ ⟨i1, i2⟩
    have b := SP.mul_lim (x := 256 * (v 1 / 256) + 32 * (j : Int) + 16 - v 1) (y := 256 * (v 1 / 256) + 32 * (j : Int) + 16 - v 1) (A := 16) (B := 16) ⟨j1, j2⟩ ⟨j1, j2⟩
    have c := Int.mul_le_mul (show 128 ≤ 128 * s by omega) (show 128 ≤ 128 * s by omega) (by decide) (by omega)
    rw [Int.mul_assoc (128 * s) 128 s]
    omega
  have le : ∀ (f : Nat → Nat) (n k : Nat), k < n → f k ≤ ((List.range n).map f).sum := by
    intro f n k hk
    exact le_sum f (List.mem_range.2 hk)
  have h1 := le (fun k => SM.bit (near v s (256 * (v 0 / 256) + 32 * ((i : Nat) : Int) + 16) (256 * (v 1 / 256) + 32 * ((k : Nat) : Int) + 16))) 8 j hj
  have h2 := le (fun i => ccol v s (v 0 / 256) (v 1 / 256) i) 8 i hi
  have h3 : SM.bit (near v s (256 * (v 0 / 256) + 32 * (i : Int) + 16) (256 * (v 1 / 256) + 32 * (j : Int) + 16)) = 1 := by rw [hn]; rfl
  have e1 : ccol v s (v 0 / 256) (v 1 / 256) i = ((List.range 8).map fun k => SM.bit (near v s (256 * (v 0 / 256) + 32 * ((i : Nat) : Int) + 16) (256 * (v 1 / 256) + 32 * ((k : Nat) : Int) + 16))).sum := rfl
  have e2 : cov v s (v 0 / 256) (v 1 / 256) = ((List.range 8).map fun i => ccol v s (v 0 / 256) (v 1 / 256) i).sum := rfl
  omega
/-- A round point: some, and not more than fit. -/
theorem pt_round {v : Nat → Int} {s : Int} (h : right v s 1 = true) : 0 < (pt v s 1 (whole v s)).length ∧ ((pt v s 1 (whole v s)).length : Int) ≤ (s + 2) * (s + 2) := by
  obtain ⟨hf, hs, _⟩ := right_iff.1 h
  obtain ⟨h0, h1, -⟩ := VM.fit_lim hf
  have t0 := tdiv_near (v 0)
  have t1 := tdiv_near (v 1)
  rw [pt_ok h (whole_ok h).1]
  have e1 : SM.rows (px v s 1) (whole v s 0) (whole v s 2) (whole v s 1) (whole v s 3) = SM.rows (px v s 1) (first (v 0) s - 1) (first (v 0) s + s + 1) (first (v 1) s - 1) (first (v 1) s + s + 1) := by
    refine rows_sub (fun x y z hz => px_at hz) ?_ ?_ fun x y hne => ?_
    · show (v 0).tdiv 256 - s - 2 ≤ first (v 0) s - 1 ∧ first (v 0) s + s + 1 ≤ (v 0).tdiv 256 + s + 3
      unfold first
      split <;> omega
    · show (v 1).tdiv 256 - s - 2 ≤ first (v 1) s - 1 ∧ first (v 1) s + s + 1 ≤ (v 1).tdiv 256 + s + 3
      unfold first
      split <;> omega
    · refine round_in hs fun e => hne (px_no ?_)
      unfold cv
      rw [if_pos rfl, e]
      rfl
  constructor
  · rw [List.length_pos_iff]
    intro e
    have hc : cv v s 1 (v 0 / 256) (v 1 / 256) ≠ 0 := by
      unfold cv
      rw [if_pos rfl]
      have := round_some (v := v) hs
      omega
    have hm : SM.fr (v 0 / 256) (v 1 / 256) (v 2) (col v s 1 (v 0 / 256) (v 1 / 256)) (cv v s 1 (v 0 / 256) (v 1 / 256)) ∈ SM.rows (px v s 1) (whole v s 0) (whole v s 2) (whole v s 1) (whole v s 3) := by
      refine rows_mem.2 ⟨v 0 / 256, v 1 / 256, ?_, ?_, by rw [px_yes hc]; exact List.mem_cons_self⟩
      · show (v 0).tdiv 256 - s - 2 ≤ v 0 / 256 ∧ v 0 / 256 < (v 0).tdiv 256 + s + 3
        omega
      · show (v 1).tdiv 256 - s - 2 ≤ v 1 / 256 ∧ v 1 / 256 < (v 1).tdiv 256 + s + 3
        omega
    rw [e] at hm
    exact absurd hm (by simp)
  · rw [e1]
    have l := SM.rows_len (px v s 1) (px_len v s 1) (x0 := first (v 0) s - 1) (x1 := first (v 0) s + s + 1) (y0 := first (v 1) s - 1) (y1 := first (v 1) s + s + 1)
    rw [show first (v 0) s + s + 1 - (first (v 0) s - 1) = s + 2 by omega, show first (v 1) s + s + 1 - (first (v 1) s - 1) = s + 2 by omega] at l
    have e : (((s + 2).toNat * (s + 2).toNat : Nat) : Int) = (s + 2) * (s + 2) := by
      rw [Int.natCast_mul, Int.toNat_of_nonneg (by omega)]
    omega
/-- Each of them: where it is, how much of it, its color and depth. -/
theorem pt_round_mem {v : Nat → Int} {s : Int} (h : right v s 1 = true) {z : Nat → Int} {r : Nat → Int} (hz : z ∈ pt v s 1 r) : (first (v 0) s - 2 ≤ z 0 ∧ z 0 < first (v 0) s + s + 2) ∧ (first (v 1) s - 2 ≤ z 1 ∧ z 1 < first (v 1) s + s + 2) ∧ (1 ≤ z 7 ∧ z 7 ≤ 64) ∧ (∀ i, i < 4 → z (3 + i) = v (3 + i)) ∧ z 2 = v 2 := by
  obtain ⟨hf, hs, _⟩ := right_iff.1 h
  unfold pt at hz
  split at hz
  · obtain ⟨x, y, _, _, hz⟩ := rows_mem.1 hz
    obtain ⟨hc, rfl⟩ := px_mem hz
    have hl := cv_lim v s 1 x y
    have hcv : cv v s 1 x y = (cov v s x y : Nat) := if_pos rfl
    have k := round_in (v := v) (x := x) (y := y) hs (fun e => hc (by rw [hcv, e]; rfl))
    refine ⟨?_, ?_, ?_, fun i hi => ?_, rfl⟩
    · show first (v 0) s - 2 ≤ x ∧ x < first (v 0) s + s + 2
      omega
    · show first (v 1) s - 2 ≤ y ∧ y < first (v 1) s + s + 2
      omega
    · show 1 ≤ cv v s 1 x y ∧ cv v s 1 x y ≤ 64
      omega
    · rcases (by omega : i = 0 ∨ i = 1 ∨ i = 2 ∨ i = 3) with rfl | rfl | rfl | rfl <;> rfl
  · exact absurd hz (by simp)
/-- Moved by whole pixels. -/
theorem first_moved (u p s : Int) : first (u + 256 * p) s = first u s + p := by
  unfold first
  split <;> omega
theorem part_moved (x u p s : Int) : part (256 * (x + p) + 128) (u + 256 * p) s = part (256 * x + 128) u s := by
  unfold part
  rw [show 256 * (x + p) + 128 - (u + 256 * p - 128 * s) = 256 * x + 128 - (u - 128 * s) by omega]
theorem near_moved {v w : Nat → Int} {p q : Int} (h0 : w 0 = v 0 + 256 * p) (h1 : w 1 = v 1 + 256 * q) (s x y : Int) : near w s (x + 256 * p) (y + 256 * q) = near v s x y := by
  unfold near
  rw [decide_eq_decide]
  unfold nearP
  rw [show x + 256 * p - w 0 = x - v 0 by omega, show y + 256 * q - w 1 = y - v 1 by omega]
theorem cov_moved {v w : Nat → Int} {p q : Int} (h0 : w 0 = v 0 + 256 * p) (h1 : w 1 = v 1 + 256 * q) (s x y : Int) : cov w s (x + p) (y + q) = cov v s x y := by
  unfold cov ccol
  have e : ∀ i k : Nat, near w s (256 * (x + p) + 32 * ((i : Nat) : Int) + 16) (256 * (y + q) + 32 * ((k : Nat) : Int) + 16) = near v s (256 * x + 32 * (i : Int) + 16) (256 * y + 32 * (k : Int) + 16) := fun i k => by
    rw [← near_moved h0 h1 s]
    congr 1 <;> omega
  simp only [e]
/-- Moved: a place, a rectangle, a fragment. -/
def mvw (a : Nat → Int) (u v : Int) (i : Nat) : Int := if i = 0 then a 0 + 256 * u else if i = 1 then a 1 + 256 * v else a i
def mvr (r : Nat → Int) (u v : Int) : Nat → Int := RC.mk (r 0 + u) (r 1 + v) (r 2 + u) (r 3 + v)
def mvf (f : Nat → Int) (u v : Int) (i : Nat) : Int := if i = 0 then f 0 + u else if i = 1 then f 1 + v else f i
theorem fr_mv {x y z n p q : Int} {c d : Nat → Int} (h : ∀ i, i < 4 → d i = c i) : SM.fr (x + p) (y + q) z d n = mvf (SM.fr x y z c n) p q := by
  funext i
  unfold mvf SM.fr
  by_cases e0 : i = 0
  · rw [if_pos e0, if_pos e0]; rfl
  · rw [if_neg e0, if_neg e0]
    by_cases e1 : i = 1
    · rw [if_pos e1, if_pos e1]; rfl
    · rw [if_neg e1, if_neg e1, if_neg e0, if_neg e1]
      by_cases e2 : i = 2
      · rw [if_pos e2, if_pos e2]
      · rw [if_neg e2, if_neg e2]
        by_cases e7 : i < 7
        · rw [if_pos e7, if_pos e7, h _ (by omega)]
        · rw [if_neg e7, if_neg e7]
theorem px_moved {v : Nat → Int} {p q s k : Int} (hv : right v s 0 = true) (hw : right (mvw v p q) s 0 = true) (x y : Int) : px (mvw v p q) s k (x + p) (y + q) = (px v s k x y).map fun f => mvf f p q := by
  have h0 : mvw v p q 0 = v 0 + 256 * p := rfl
  have h1 : mvw v p q 1 = v 1 + 256 * q := rfl
  have hr : ∀ i, 2 ≤ i → mvw v p q i = v i := fun i hi => by unfold mvw; rw [if_neg (by omega), if_neg (by omega)]
  have hc : cv (mvw v p q) s k (x + p) (y + q) = cv v s k x y := by
    unfold cv
    rw [cov_moved h0 h1]
    split
    · rfl
    · have : RC.has (box (mvw v p q) s) (x + p) (y + q) = RC.has (box v s) x y := by
        unfold RC.has
        rw [box_right hw, box_right hv, box_ok hw, box_ok hv, h0, h1, first_moved, first_moved, Bool.eq_iff_iff]
        show (true && (decide (first (v 0) s + p ≤ x + p) && (decide (x + p < first (v 0) s + p + s) && (decide (first (v 1) s + q ≤ y + q) && decide (y + q < first (v 1) s + q + s))))) = true ↔ (true && (decide (first (v 0) s ≤ x) && (decide (x < first (v 0) s + s) && (decide (first (v 1) s ≤ y) && decide (y < first (v 1) s + s))))) = true
        simp only [Bool.true_and, Bool.and_eq_true, decide_eq_true_eq]
        omega
      rw [this]
  have c4 : ∀ i, i < 4 → col (mvw v p q) s k (x + p) (y + q) i = col v s k x y i := by
    intro i hi
    unfold col
    rw [h0, h1, part_moved, part_moved]
    split
    · rfl
    · split
      · rfl
      · exact hr _ (by omega)
  by_cases e : cv v s k x y = 0
  · rw [px_no e, px_no (by rw [hc]; exact e)]
    rfl
  · rw [px_yes e, px_yes (by rw [hc]; exact e), hc, hr 2 (by decide), fr_mv c4]
    rfl
theorem pt_moved {v r : Nat → Int} {p q s k : Int} (h1 : right v s k = true) (h2 : right (mvw v p q) s k = true) (h3 : RC.right r = true) (h4 : RC.right (mvr r p q) = true) : pt (mvw v p q) s k (mvr r p q) = (pt v s k r).map fun f => mvf f p q := by
  rw [pt_ok h1 h3, pt_ok h2 h4]
  exact SM.rows_moved (px v s k) (px (mvw v p q) s k) (fun f => mvf f p q) p q (fun x y => px_moved (right_0 h1) (right_0 h2) x y) (r 0) (r 2) (r 1) (r 3)
theorem has_no {r : Nat → Int} (h : RC.right r = false) (x y : Int) : RC.has r x y = false := by unfold RC.has; rw [h, Bool.false_and]
theorem has_iff {r : Nat → Int} {x y : Int} : RC.has r x y = true ↔ RC.right r = true ∧ r 0 ≤ x ∧ x < r 2 ∧ r 1 ≤ y ∧ y < r 3 := by
  unfold RC.has
  simp only [Bool.and_eq_true, decide_eq_true_eq]
theorem pt_has {v r f : Nat → Int} {s k : Int} (h : f ∈ pt v s k r) : RC.has r (f 0) (f 1) = true := by
  unfold pt at h
  split at h
  · rename_i hq
    simp only [Bool.and_eq_true] at hq
    obtain ⟨x, y, hx, hy, hz⟩ := rows_mem.1 h
    obtain ⟨e0, e1⟩ := px_at hz
    rw [e0, e1]
    exact has_iff.2 ⟨hq.2, hx.1, hx.2, hy.1, hy.2⟩
  · exact absurd h (by simp)
theorem pt_cut {x y : Nat → Int} (h : ∀ p q, RC.has y p q = true → RC.has x p q = true) (v : Nat → Int) (s k : Int) : pt v s k y = (pt v s k x).filter (fun f => RC.has y (f 0) (f 1)) := by
  cases hr : right v s k
  · rw [pt_bad (by rw [hr]; rfl), pt_bad (by rw [hr]; rfl)]
    rfl
  cases hy : RC.right y
  · rw [pt_bad (by rw [hy, Bool.and_false])]
    symm
    rw [List.filter_eq_nil_iff]
    intro f _
    rw [has_no hy]
    decide
  · have hl := RC.right_iff.1 hy
    have h1 := has_iff.1 (h (y 0) (y 1) (has_iff.2 ⟨hy, by omega, by omega, by omega, by omega⟩))
    have h2 := has_iff.1 (h (y 2 - 1) (y 3 - 1) (has_iff.2 ⟨hy, by omega, by omega, by omega, by omega⟩))
    rw [pt_ok hr hy, pt_ok hr h1.1]
    symm
    refine SM.rows_part _ _ ⟨by omega, by omega⟩ ⟨by omega, by omega⟩ fun p q z hz => ?_
    obtain ⟨e0, e1⟩ := px_at hz
    rw [e0, e1]
    unfold RC.has
    rw [hy, Bool.true_and, Bool.and_assoc]
theorem both_has {r q : Nat → Int} {x y : Int} : RC.has (RC.both r q) x y = (RC.has r x y && RC.has q x y) := by
  rw [Bool.eq_iff_iff]
  simp only [Bool.and_eq_true]
  constructor
  · intro h
    have h1 := has_iff.1 h
    unfold RC.both at h h1
    split at h
    · rename_i hh
      rw [if_pos hh] at h1
      simp only [Bool.and_eq_true] at hh
      split at h
      · rename_i hm
        rw [if_pos hm] at h1
        have h2 : (max (r 0) (q 0) ≤ x ∧ x < min (r 2) (q 2)) ∧ (max (r 1) (q 1) ≤ y ∧ y < min (r 3) (q 3)) := ⟨⟨h1.2.1, h1.2.2.1⟩, h1.2.2.2.1, h1.2.2.2.2⟩
        exact ⟨has_iff.2 ⟨hh.1, by omega, by omega, by omega, by omega⟩, has_iff.2 ⟨hh.2, by omega, by omega, by omega, by omega⟩⟩
      · rw [has_no RC.right_zero] at h
        cases h
    · rw [has_no RC.right_zero] at h
      cases h
  · rintro ⟨h1, h2⟩
    have k1 := has_iff.1 h1
    have k2 := has_iff.1 h2
    have r1 := RC.right_iff.1 k1.1
    have r2 := RC.right_iff.1 k2.1
    have hm : RC.right (RC.meet r q) = true := by
      rw [RC.right_iff]
      show ((-4194304 ≤ max (r 0) (q 0) ∧ max (r 0) (q 0) ≤ 4194304) ∧ (-4194304 ≤ max (r 1) (q 1) ∧ max (r 1) (q 1) ≤ 4194304) ∧ (-4194304 ≤ min (r 2) (q 2) ∧ min (r 2) (q 2) ≤ 4194304) ∧ (-4194304 ≤ min (r 3) (q 3) ∧ min (r 3) (q 3) ≤ 4194304)) ∧ (max (r 0) (q 0) < min (r 2) (q 2)) ∧ (max (r 1) (q 1) < min (r 3) (q 3))
      omega
    have e : RC.both r q = RC.meet r q := by
      unfold RC.both
      rw [k1.1, k2.1, Bool.and_self, if_pos rfl, if_pos hm]
    rw [e]
    refine has_iff.2 ⟨hm, ?_, ?_, ?_, ?_⟩
    · show max (r 0) (q 0) ≤ x; omega
    · show x < min (r 2) (q 2); omega
    · show max (r 1) (q 1) ≤ y; omega
    · show y < min (r 3) (q 3); omega
/-- What a rectangle shows is what a greater one shows there. -/
theorem pt_both {v r : Nat → Int} {s k : Int} : pt v s k (RC.both (whole v s) r) = (pt v s k (whole v s)).filter (fun f => RC.has r (f 0) (f 1)) := by
  rw [pt_cut (x := whole v s) (fun p q h => by rw [both_has, Bool.and_eq_true] at h; exact h.1) v s k]
  refine List.filter_congr fun f hf => ?_
  rw [both_has, pt_has hf, Bool.true_and]
/-- A sprite's numbers rise. -/
theorem part_lim (m u s : Int) : 0 ≤ part m u s ∧ part m u s ≤ 255 := by unfold part; omega
theorem part_rise {m u s : Int} (hs : 1 ≤ s) : part m u s ≤ part (m + 256) u s ∧ part (m + 256) u s - part m u s ≤ 256 / s + 1 := by
  unfold part
  rw [show m + 256 - (u - 128 * s) = m - (u - 128 * s) + 256 by omega]
  generalize m - (u - 128 * s) = A
  have hp : 0 < s := by omega
  have h1 := Int.ediv_le_ediv hp (show A ≤ A + 256 by omega)
  have h2 : (A + 256) / s < A / s + 256 / s + 2 := by
    have e1 := Int.mul_ediv_add_emod A s
    have e2 := Int.mul_ediv_add_emod 256 s
    have l1 := Int.emod_lt_of_pos A hp
    have l2 := Int.emod_lt_of_pos 256 hp
    rw [Int.ediv_lt_iff_lt_mul hp, Int.add_mul, Int.add_mul, Int.mul_comm _ s, Int.mul_comm (256 / s) s]
    omega
  have h3 : 0 ≤ 256 / s := Int.ediv_nonneg (by decide) (by omega)
  generalize A / s = a at *
  generalize (A + 256) / s = b at *
  generalize 256 / s = c at *
  omega
end DT
end Go.Proofs.Ytlmgilcigbnbaaa
