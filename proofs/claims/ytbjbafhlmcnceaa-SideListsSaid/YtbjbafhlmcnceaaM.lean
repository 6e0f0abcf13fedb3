/- Plain: rows of numbers as functions, matrices, their products. -/
import Derived.Test.YtbjbafhlmcnceaaRow
namespace Go.Proofs.Ytbjbafhlmcnceaa
set_option linter.unusedVariables false
namespace M
/-- The first n numbers of a as cells. -/
def mat (n : Nat) (a : Nat → Int) : List Value := (List.range n).map fun i => .int .i64 (a i)
theorem mat_len (n : Nat) (a : Nat → Int) : (mat n a).length = n := by simp [mat]
theorem mat_len2 (n : Nat) (a b : Nat → Int) : (mat n a).length = (mat n b).length := by rw [mat_len, mat_len]
theorem mat_get {n : Nat} {a : Nat → Int} {i : Nat} (h : i < n) : (mat n a)[i]? = some (.int .i64 (a i)) := by simp [mat, h]
theorem mat_ext {n : Nat} {a b : Nat → Int} (h : ∀ i, i < n → a i = b i) : mat n a = mat n b := by
  unfold mat
  exact List.map_congr_left fun i hi => by rw [h i (List.mem_range.1 hi)]
theorem mat_inj {n : Nat} {a b : Nat → Int} (h : mat n a = mat n b) : ∀ i, i < n → a i = b i := by
  intro i hi
  have := congrArg (·[i]?) h
  simp only [mat_get hi] at this
  simpa using this
theorem mat_set {n i : Nat} {a : Nat → Int} (v : Int) (h : i < n) : (mat n a).set i (.int .i64 v) = mat n (fun j => if j = i then v else a j) := by
  apply List.ext_getElem?
  intro j
  rw [List.getElem?_set]
  by_cases e : i = j
  · subst e
    rw [if_pos rfl, if_pos (by rw [mat_len]; exact h), mat_get h, if_pos rfl]
  · rw [if_neg e]
    by_cases hj : j < n
    · rw [mat_get hj, mat_get hj, if_neg (Ne.symm e)]
    · rw [List.getElem?_eq_none (by rw [mat_len]; omega), List.getElem?_eq_none (by rw [mat_len]; omega)]
theorem mat_set_to {n i : Nat} {a b : Nat → Int} {v : Int} (h : i < n) (hv : b i = v) (ho : ∀ j, j < n → j ≠ i → b j = a j) : (mat n a).set i (.int .i64 v) = mat n b := by
  rw [mat_set v h]
  refine mat_ext fun j hj => ?_
  show (if j = i then v else a j) = b j
  split
  · rename_i e; rw [e, hv]
  · rename_i e; rw [ho j hj e]
theorem mat_one (n : Nat) (a : Nat → Int) : ∀ v ∈ mat n a, v.oneCell' = true := by
  intro v hv
  obtain ⟨i, _, rfl⟩ := List.mem_map.1 hv
  rfl

/-- Are the first n numbers the same? -/
def eqB (n : Nat) (a b : Nat → Int) : Bool := (List.range n).all fun i => a i == b i
theorem eqB_iff {n : Nat} {a b : Nat → Int} : eqB n a b = true ↔ ∀ i, i < n → a i = b i := by simp [eqB]
theorem eqB_of {n : Nat} {a b : Nat → Int} (h : ∀ i, i < n → a i = b i) : eqB n a b = true := eqB_iff.2 h
theorem eqB_refl (n : Nat) (a : Nat → Int) : eqB n a a = true := eqB_of fun _ _ => rfl
def inB (most x : Int) : Bool := decide (-most ≤ x) && decide (x ≤ most)
theorem inB_iff {most x : Int} : inB most x = true ↔ -most ≤ x ∧ x ≤ most := by simp [inB]
theorem inB_no {most x : Int} : inB most x = false ↔ x < -most ∨ most < x := by
  rw [← Bool.not_eq_true, inB_iff]; omega
/-- Are the first n numbers from -most to most? -/
def allB (n : Nat) (most : Int) (a : Nat → Int) : Bool := (List.range n).all fun i => inB most (a i)
theorem allB_iff {n : Nat} {most : Int} {a : Nat → Int} : allB n most a = true ↔ ∀ i, i < n → -most ≤ a i ∧ a i ≤ most := by
  simp [allB, inB_iff]
theorem allB_no {n : Nat} {most : Int} {a : Nat → Int} {i : Nat} (h : i < n) (hi : inB most (a i) = false) : allB n most a = false := by
  rw [← Bool.not_eq_true, allB_iff]
  intro hall
  have := inB_iff.2 (hall i h)
  rw [hi] at this
  cases this
def big : Int := 268435456
def right (a : Nat → Int) : Bool := allB 16 268435456 a
theorem right_iff {a : Nat → Int} : right a = true ↔ ∀ i, i < 16 → -268435456 ≤ a i ∧ a i ≤ 268435456 := allB_iff
/-- A number brought among -2^28 and 2^28. -/
def clamp (x : Int) : Int := min (max x (-268435456)) 268435456
theorem clamp_eq (x : Int) : x = clamp x ↔ -268435456 ≤ x ∧ x ≤ 268435456 := by unfold clamp; omega
theorem right_clamp (a : Nat → Int) : eqB 16 a (fun i => clamp (a i)) = right a := by
  rw [Bool.eq_iff_iff, eqB_iff, right_iff]
  exact ⟨fun h i hi => (clamp_eq _).1 (h i hi), fun h i hi => (clamp_eq _).2 (h i hi)⟩
def flip (a : Nat → Int) (j : Nat) : Int := a (4 * (j % 4) + j / 4)
def row (a : Nat → Int) (i k : Nat) : Int := a (4 * i + k)
def col (a : Nat → Int) (k n : Nat) : Int := a (4 * n + k)
def part (x y : Nat → Int) : Nat → Int
  | 0 => 0
  | n + 1 => part x y n + x n * y n
def dot (x y : Nat → Int) : Int := part x y 4 / 65536
def prod (a b : Nat → Int) (j : Nat) : Int := dot (row a (j / 4)) (col b (j % 4))
def app (m v : Nat → Int) (i : Nat) : Int := dot (row m i) v
def unit (j : Nat) : Int := if j / 4 = j % 4 then 65536 else 0
def zero (_ : Nat) : Int := 0
theorem part_le {x y : Nat → Int} (hx : ∀ i, i < 4 → -268435456 ≤ x i ∧ x i ≤ 268435456) (hy : ∀ i, i < 4 → -268435456 ≤ y i ∧ y i ≤ 268435456) :
    ∀ n : Nat, n ≤ 4 → -(72057594037927936 * (n : Int)) ≤ part x y n ∧ part x y n ≤ 72057594037927936 * (n : Int) := by
  intro n
  induction n with
  | zero => intro _; simp [part]
  | succ n ih =>
    intro hn
    obtain ⟨h1, h2⟩ := ih (by omega)
    obtain ⟨h3, h4⟩ := hx n (by omega)
    obtain ⟨h5, h6⟩ := hy n (by omega)
    have h : -72057594037927936 ≤ x n * y n ∧ x n * y n ≤ 72057594037927936 := by
      have e1 := Int.mul_nonneg (show 0 ≤ 268435456 - x n by omega) (show 0 ≤ 268435456 - y n by omega)
      have e2 := Int.mul_nonneg (show 0 ≤ 268435456 + x n by omega) (show 0 ≤ 268435456 + y n by omega)
      have e3 := Int.mul_nonneg (show 0 ≤ 268435456 - x n by omega) (show 0 ≤ 268435456 + y n by omega)
      have e4 := Int.mul_nonneg (show 0 ≤ 268435456 + x n by omega) (show 0 ≤ 268435456 - y n by omega)
      simp only [Int.sub_mul, Int.add_mul, Int.mul_sub, Int.mul_add] at e1 e2 e3 e4
      generalize x n * y n = p at *
      omega
    rw [part]
    generalize x n * y n = p at *
    omega
theorem mul_le {x y : Int} (hx : -268435456 ≤ x ∧ x ≤ 268435456) (hy : -268435456 ≤ y ∧ y ≤ 268435456) : -72057594037927936 ≤ x * y ∧ x * y ≤ 72057594037927936 := by
  have := part_le (x := fun _ => x) (y := fun _ => y) (fun _ _ => hx) (fun _ _ => hy) 1 (by omega)
  simpa [part] using this
theorem part_ext {x y x' y' : Nat → Int} : ∀ n : Nat, (∀ i, i < n → x i = x' i) → (∀ i, i < n → y i = y' i) → part x y n = part x' y' n
  | 0, _, _ => rfl
  | n + 1, hx, hy => by rw [part, part, part_ext n (fun i hi => hx i (by omega)) (fun i hi => hy i (by omega)), hx n (by omega), hy n (by omega)]
theorem dot_ext {x y x' y' : Nat → Int} (hx : ∀ i, i < 4 → x i = x' i) (hy : ∀ i, i < 4 → y i = y' i) : dot x y = dot x' y' := by rw [dot, dot, part_ext 4 hx hy]
theorem row_rng {a : Nat → Int} (h : right a = true) {i : Nat} (hi : i < 4) : ∀ j, j < 4 → -268435456 ≤ row a i j ∧ row a i j ≤ 268435456 := fun j hj => right_iff.1 h (4 * i + j) (by omega)
theorem col_rng {a : Nat → Int} (h : right a = true) {k : Nat} (hk : k < 4) : ∀ j, j < 4 → -268435456 ≤ col a k j ∧ col a k j ≤ 268435456 := fun j hj => right_iff.1 h (4 * j + k) (by omega)
theorem row_flip (b : Nat → Int) (k : Nat) (hk : k < 4) : ∀ n, n < 4 → row (flip b) k n = col b k n := fun n hn => by
  unfold row flip col
  rw [show (4 * k + n) % 4 = n by omega, show (4 * k + n) / 4 = k by omega]
theorem prod_at (a b : Nat → Int) (i k : Nat) (hk : k < 4) : prod a b (4 * i + k) = dot (row a i) (col b k) := by
  unfold prod
  rw [show (4 * i + k) / 4 = i by omega, show (4 * i + k) % 4 = k by omega]
/-- The first n entries of a product. -/
def prodK (a b : Nat → Int) (n j : Nat) : Int := if j < n then prod a b j else 0
theorem prodK_set (a b : Nat → Int) (n : Nat) (hn : n < 16) {v : Int} (hv : prod a b n = v) : (mat 16 (prodK a b n)).set n (.int .i64 v) = mat 16 (prodK a b (n + 1)) :=
  mat_set_to hn (by simp [prodK, hv]) fun j _ hj => by
    simp only [prodK]
    by_cases h : j < n
    · rw [if_pos h, if_pos (by omega)]
    · rw [if_neg h, if_neg (by omega)]
theorem prodK_0 (a b : Nat → Int) : mat 16 (prodK a b 0) = mat 16 zero := mat_ext fun j hj => by simp [prodK, zero]
theorem prodK_end (a b : Nat → Int) : mat 16 (prodK a b 16) = mat 16 (prod a b) := mat_ext fun j hj => by simp [prodK, hj]
theorem right_ext {a b : Nat → Int} (h : ∀ i, i < 16 → a i = b i) : right a = right b := by
  rw [Bool.eq_iff_iff, right_iff, right_iff]
  exact ⟨fun g i hi => by rw [← h i hi]; exact g i hi, fun g i hi => by rw [h i hi]; exact g i hi⟩
theorem allB_ext {n : Nat} {most : Int} {a b : Nat → Int} (h : ∀ i, i < n → a i = b i) : allB n most a = allB n most b := by
  rw [Bool.eq_iff_iff, allB_iff, allB_iff]
  exact ⟨fun g i hi => by rw [← h i hi]; exact g i hi, fun g i hi => by rw [h i hi]; exact g i hi⟩
/-- What Mul answers. -/
def mul (a b : Nat → Int) : (Nat → Int) × Int := if right a && right b then (if right (prod a b) then (prod a b, 0) else (zero, 4)) else (zero, 1)
/-- What Apply answers. -/
def apply (m v : Nat → Int) (most : Int) : (Nat → Int) × Int :=
  if right m && allB 4 268435456 v && decide (0 ≤ most) && decide (most ≤ 68719476736) then (if allB 4 most (app m v) then (app m v, 0) else (zero, 4)) else (zero, 1)
end M
end Go.Proofs.Ytbjbafhlmcnceaa
