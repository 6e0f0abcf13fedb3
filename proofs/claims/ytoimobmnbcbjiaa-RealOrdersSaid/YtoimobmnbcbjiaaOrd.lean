/- Plain numbers: what the order of floats comes to. -/
import Derived.Test.YtoimobmnbcbjiaaFlo
namespace Go.Proofs.Ytoimobmnbcbjiaa.M
open Go Go.RowKit
theorem tri (p q : Nat) : (rank p < rank q ∧ cmpV p q = -1 ∧ cmpV q p = 1) ∨ (rank p = rank q ∧ cmpV p q = 0 ∧ cmpV q p = 0) ∨ (rank q < rank p ∧ cmpV p q = 1 ∧ cmpV q p = -1) := by
  unfold cmpV
  rcases Int.lt_trichotomy (rank p) (rank q) with h | h | h
  · exact Or.inl ⟨h, (sgn_lt h).symm, (sgn_gt h).symm⟩
  · exact Or.inr (Or.inl ⟨h, (sgn_eq (by omega) (by omega)).symm, (sgn_eq (by omega) (by omega)).symm⟩)
  · exact Or.inr (Or.inr ⟨h, (sgn_gt h).symm, (sgn_lt h).symm⟩)
theorem bitsV_range (b : Nat) : -9223372036854775808 ≤ bitsV b ∧ bitsV b ≤ 9223372036854775807 := by
  unfold bitsV; split
  · omega
  · unfold wrap64; omega
theorem rank_eq (a b : Nat) (ha : a < 18446744073709551616) (hb : b < 18446744073709551616) : rank a = rank b ↔ bitsV a = bitsV b := by
  have r1 := bitsV_range a
  have r2 := bitsV_range b
  rw [rank_of a ha, rank_of b hb]
  by_cases h1 : bitsV a < 0 <;> by_cases h2 : bitsV b < 0
  · rw [if_pos h1, if_pos h2, xor_neg _ r1.1 h1, xor_neg _ r2.1 h2]; omega
  · rw [if_pos h1, if_neg h2, xor_neg _ r1.1 h1]; omega
  · rw [if_neg h1, if_pos h2, xor_neg _ r2.1 h2]; omega
  · rw [if_neg h1, if_neg h2]
theorem rank_top (b : Nat) : rank b ≤ 9221120237041090561 := by
  unfold rank
  by_cases h : kind b = 1
  · rw [if_pos h]; omega
  · have := nan_bits b h
    rw [if_neg h]; split <;> omega
theorem rank_nan (b : Nat) (h : kind b = 1) : rank b = 9221120237041090561 := by
  unfold rank; rw [if_pos h]
end Go.Proofs.Ytoimobmnbcbjiaa.M
