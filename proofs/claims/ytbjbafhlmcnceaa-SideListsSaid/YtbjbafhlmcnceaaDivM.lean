/- Plain numbers: the long division by two digits of 32 bits, as math/bits does it. -/
namespace Go.Proofs.Ytbjbafhlmcnceaa.D
set_option linter.unusedVariables false

/-- The state of a digit's search: q is not below the digit, r is what q leaves of u. -/
def Inv (u d y1 y0 q r : Int) : Prop := q * y1 + r = u ∧ 0 ≤ r ∧ r < 4294967296 ∧ 0 ≤ q ∧ q ≤ 4294967297 ∧ (u * 4294967296 + d) / (y1 * 4294967296 + y0) ≤ q
structure Fit (u d y1 y0 : Int) : Prop where
  u0 : 0 ≤ u
  ul : u < y1 * 4294967296 + y0
  d0 : 0 ≤ d
  d1 : d < 4294967296
  y11 : 2147483648 ≤ y1
  y12 : y1 < 4294967296
  y01 : 0 ≤ y0
  y02 : y0 < 4294967296
theorem mulq (q y1 y0 : Int) : q * (y1 * 4294967296 + y0) = q * y1 * 4294967296 + q * y0 := by
  rw [Int.mul_add, Int.mul_assoc]
theorem start {u d y1 y0 : Int} (f : Fit u d y1 y0) : Inv u d y1 y0 (u / y1) (u % y1) := by
  obtain ⟨f1, f2, f3, f4, f5, f6, f7, f8⟩ := f
  have e : u / y1 * y1 + u % y1 = u := by rw [Int.mul_comm]; exact Int.mul_ediv_add_emod u y1
  have r0 := Int.emod_nonneg u (b := y1) (by omega)
  have r1 := Int.emod_lt_of_pos u (b := y1) (by omega)
  have q0 : 0 ≤ u / y1 := Int.ediv_nonneg f1 (by omega)
  have q1 : u / y1 ≤ 4294967297 := by
    apply Int.le_of_lt_add_one
    apply Int.ediv_lt_of_lt_mul (by omega)
    omega
  refine ⟨e, r0, by omega, q0, q1, ?_⟩
  have h : u * 4294967296 + d < (u / y1 + 1) * (y1 * 4294967296 + y0) := by
    rw [mulq, Int.add_mul (u / y1) 1 y1, Int.add_mul (u / y1) 1 y0]
    have : 0 ≤ u / y1 * y0 := Int.mul_nonneg q0 f7
    omega
  have := Int.ediv_lt_of_lt_mul (show 0 < y1 * 4294967296 + y0 by omega) h
  omega
theorem small {u d y1 y0 : Int} (f : Fit u d y1 y0) : 0 ≤ (u * 4294967296 + d) / (y1 * 4294967296 + y0) ∧ (u * 4294967296 + d) / (y1 * 4294967296 + y0) < 4294967296 := by
  obtain ⟨f1, f2, f3, f4, f5, f6, f7, f8⟩ := f
  refine ⟨Int.ediv_nonneg (by omega) (by omega), ?_⟩
  apply Int.ediv_lt_of_lt_mul (by omega)
  omega
theorem done {u d y1 y0 q r : Int} (f : Fit u d y1 y0) (i : Inv u d y1 y0 q r) (t : q * y0 ≤ 4294967296 * r + d) : (u * 4294967296 + d) / (y1 * 4294967296 + y0) = q := by
  obtain ⟨f1, f2, f3, f4, f5, f6, f7, f8⟩ := f
  obtain ⟨e, r0, r1, q0, q1, h⟩ := i
  have : q ≤ (u * 4294967296 + d) / (y1 * 4294967296 + y0) := by
    rw [Int.le_ediv_iff_mul_le (by omega), mulq, ← e, Int.add_mul]; omega
  omega
theorem less {u d y1 y0 q r : Int} (f : Fit u d y1 y0) (i : Inv u d y1 y0 q r) (t : 4294967296 ≤ q ∨ 4294967296 * r + d < q * y0) :
    1 ≤ q ∧ (q - 1) * y1 + (r + y1) = u ∧ (u * 4294967296 + d) / (y1 * 4294967296 + y0) ≤ q - 1 := by
  have s := small f
  obtain ⟨f1, f2, f3, f4, f5, f6, f7, f8⟩ := f
  obtain ⟨e, r0, r1, q0, q1, h⟩ := i
  have k : (u * 4294967296 + d) / (y1 * 4294967296 + y0) < q := by
    rcases t with t | t
    · omega
    · apply Int.ediv_lt_of_lt_mul (by omega)
      rw [mulq, ← e, Int.add_mul]; omega
  refine ⟨by omega, ?_, by omega⟩
  rw [Int.sub_mul]; omega
theorem next {u d y1 y0 q r : Int} (f : Fit u d y1 y0) (i : Inv u d y1 y0 q r) (t : 4294967296 ≤ q ∨ 4294967296 * r + d < q * y0) (b : r + y1 < 4294967296) : Inv u d y1 y0 (q - 1) (r + y1) := by
  obtain ⟨h1, h2, h3⟩ := less f i t
  obtain ⟨e, r0, r1, q0, q1, h⟩ := i
  have := f.y11
  exact ⟨h2, by omega, b, by omega, by omega, h3⟩
theorem out {u d y1 y0 q r : Int} (f : Fit u d y1 y0) (i : Inv u d y1 y0 q r) (t : 4294967296 ≤ q ∨ 4294967296 * r + d < q * y0) (b : 4294967296 ≤ r + y1) : (u * 4294967296 + d) / (y1 * 4294967296 + y0) = q - 1 := by
  obtain ⟨h1, h2, h3⟩ := less f i t
  obtain ⟨e, r0, r1, q0, q1, h⟩ := i
  obtain ⟨f1, f2, f3, f4, f5, f6, f7, f8⟩ := f
  have : q - 1 ≤ (u * 4294967296 + d) / (y1 * 4294967296 + y0) := by
    rw [Int.le_ediv_iff_mul_le (by omega), mulq]
    have hp : (q - 1) * y0 ≤ 4294967296 * 4294967295 := by
      have a : (q - 1) * y0 ≤ 4294967296 * y0 := Int.mul_le_mul_of_nonneg_right (by omega) f7
      omega
    have : (q - 1) * y1 = u - (r + y1) := by omega
    rw [this, Int.sub_mul]; omega
  omega
/-- What is left by the digit. -/
theorem left {u d y1 y0 : Int} (f : Fit u d y1 y0) :
    (u * 4294967296 + d) % (y1 * 4294967296 + y0) = (((u * 4294967296) % 18446744073709551616 + d) % 18446744073709551616 - ((u * 4294967296 + d) / (y1 * 4294967296 + y0) * (y1 * 4294967296 + y0)) % 18446744073709551616) % 18446744073709551616 := by
  have h := Int.mul_ediv_add_emod (u * 4294967296 + d) (y1 * 4294967296 + y0)
  have a := Int.emod_nonneg (u * 4294967296 + d) (b := y1 * 4294967296 + y0) (by have := f.y11; have := f.y01; omega)
  have b := Int.emod_lt_of_pos (u * 4294967296 + d) (b := y1 * 4294967296 + y0) (by have := f.y11; have := f.y01; omega)
  have := f.y12
  have := f.y02
  rw [Int.mul_comm] at h
  generalize (u * 4294967296 + d) / (y1 * 4294967296 + y0) * (y1 * 4294967296 + y0) = p at *
  generalize (u * 4294967296 + d) % (y1 * 4294967296 + y0) = r at *
  omega
end Go.Proofs.Ytbjbafhlmcnceaa.D
