/- What the signs of xor and and of two int64 are; xor with all ones, and and with it. -/
import Derived.WalkKit
import Derived.Lib.Zigzag
namespace Go.Proofs.Ytbjbafhlmcnceaa
open Go.RowKit
set_option linter.unusedVariables false

theorem toInt_of {a : Int} (h1 : -9223372036854775808 ≤ a) (h2 : a < 9223372036854775808) : (BitVec.ofInt 64 a).toInt = a := by
  rw [BitVec.toInt_ofInt]
  simp only [Int.bmod, Nat.reducePow, Int.reducePow]
  split <;> omega
theorem wrap_toInt (r : BitVec 64) : IntKind.i64.wrap ((r.toNat : Nat) : Int) = r.toInt := by
  rw [IntKind.wrap_i64, BitVec.toInt_eq_toNat_cond]
  have := r.isLt
  split <;> omega
theorem neg_of {a : Int} (h1 : -9223372036854775808 ≤ a) (h2 : a < 9223372036854775808) : (BitVec.ofInt 64 a).msb = decide (a < 0) := by
  rw [BitVec.msb_eq_toInt, toInt_of h1 h2]
theorem bits_rng (r : BitVec 64) : -9223372036854775808 ≤ r.toInt ∧ r.toInt < 9223372036854775808 := by
  have h1 := BitVec.le_toInt r
  have h2 := @BitVec.toInt_lt 64 r
  omega
theorem xor_is (a b : Int) : bits .xor .i64 a b = (BitVec.ofInt 64 a ^^^ BitVec.ofInt 64 b).toInt := by
  show IntKind.i64.wrap ((BitVec.ofInt 64 a ^^^ BitVec.ofInt 64 b).toNat : Int) = _
  exact wrap_toInt _
theorem and_is (a b : Int) : bits .and .i64 a b = (BitVec.ofInt 64 a &&& BitVec.ofInt 64 b).toInt := by
  show IntKind.i64.wrap ((BitVec.ofInt 64 a &&& BitVec.ofInt 64 b).toNat : Int) = _
  exact wrap_toInt _
theorem xor_rng (a b : Int) : -9223372036854775808 ≤ bits .xor .i64 a b ∧ bits .xor .i64 a b < 9223372036854775808 := by
  rw [xor_is]; exact bits_rng _
theorem xor_neg {a b : Int} (h1 : -9223372036854775808 ≤ a) (h2 : a < 9223372036854775808) (h3 : -9223372036854775808 ≤ b) (h4 : b < 9223372036854775808) :
    decide (bits .xor .i64 a b < 0) = (decide (a < 0) != decide (b < 0)) := by
  rw [xor_is, ← BitVec.msb_eq_toInt, BitVec.msb_xor, neg_of h1 h2, neg_of h3 h4]
theorem and_neg {a b : Int} (h1 : -9223372036854775808 ≤ a) (h2 : a < 9223372036854775808) (h3 : -9223372036854775808 ≤ b) (h4 : b < 9223372036854775808) :
    decide (bits .and .i64 a b < 0) = (decide (a < 0) && decide (b < 0)) := by
  rw [and_is, ← BitVec.msb_eq_toInt, BitVec.msb_and, neg_of h1 h2, neg_of h3 h4]
/-- The test of Add. -/
theorem add_test {h h' x : Int} (h1 : -9223372036854775808 ≤ h) (h2 : h < 9223372036854775808) (h3 : -9223372036854775808 ≤ h') (h4 : h' < 9223372036854775808) (h5 : -9223372036854775808 ≤ x) (h6 : x < 9223372036854775808) :
    decide (bits .and .i64 (bits .xor .i64 h x) (bits .xor .i64 h' x) < 0) = ((decide (h < 0) != decide (x < 0)) && (decide (h' < 0) != decide (x < 0))) := by
  rw [and_neg (xor_rng _ _).1 (xor_rng _ _).2 (xor_rng _ _).1 (xor_rng _ _).2, xor_neg h1 h2 h5 h6, xor_neg h3 h4 h5 h6]
theorem sub_test {h h' x : Int} (h1 : -9223372036854775808 ≤ h) (h2 : h < 9223372036854775808) (h3 : -9223372036854775808 ≤ h') (h4 : h' < 9223372036854775808) (h5 : -9223372036854775808 ≤ x) (h6 : x < 9223372036854775808) :
    decide (bits .and .i64 (bits .xor .i64 h h') (bits .xor .i64 h x) < 0) = ((decide (h < 0) != decide (h' < 0)) && (decide (h < 0) != decide (x < 0))) := by
  rw [and_neg (xor_rng _ _).1 (xor_rng _ _).2 (xor_rng _ _).1 (xor_rng _ _).2, xor_neg h1 h2 h5 h6, xor_neg h1 h2 h3 h4]
theorem and_ones {b : Int} (h1 : -9223372036854775808 ≤ b) (h2 : b < 9223372036854775808) : bits .and .i64 (-1) b = b := by
  rw [and_is, show BitVec.ofInt 64 (-1) = BitVec.allOnes 64 from by decide, BitVec.allOnes_and, toInt_of h1 h2]
theorem and_zero {b : Int} : bits .and .i64 0 b = 0 := by
  rw [and_is, show BitVec.ofInt 64 0 = 0#64 from by decide, BitVec.zero_and]; rfl
theorem xor_ones {b : Int} (h1 : -9223372036854775808 ≤ b) (h2 : b < 9223372036854775808) : bits .xor .i64 b (-1) = -1 - b := by
  rw [xor_is, show BitVec.ofInt 64 (-1) = BitVec.allOnes 64 from by decide, BitVec.xor_allOnes, BitVec.toInt_not]
  have hb : ((BitVec.ofInt 64 b).toNat : Int) = b % 18446744073709551616 := by
    rw [BitVec.toNat_ofInt]; omega
  simp only [Int.bmod, Nat.reducePow, Int.reducePow]
  split <;> omega
theorem xor_zero {b : Int} (h1 : -9223372036854775808 ≤ b) (h2 : b < 9223372036854775808) : bits .xor .i64 b 0 = b := by
  rw [xor_is, show BitVec.ofInt 64 0 = 0#64 from by decide, BitVec.xor_zero, toInt_of h1 h2]
theorem uxor_ones {b : Int} (h1 : 0 ≤ b) (h2 : b < 18446744073709551616) : bits .xor .u64 b 18446744073709551615 = 18446744073709551615 - b := by
  show IntKind.u64.wrap ((BitVec.ofInt 64 b ^^^ BitVec.ofInt 64 18446744073709551615).toNat : Int) = _
  rw [show BitVec.ofInt 64 18446744073709551615 = BitVec.allOnes 64 from by decide, BitVec.xor_allOnes, BitVec.toNat_not, BitVec.toNat_ofInt, IntKind.wrap_u64]
  omega
theorem uxor_zero {b : Int} (h1 : 0 ≤ b) (h2 : b < 18446744073709551616) : bits .xor .u64 b 0 = b := by
  show IntKind.u64.wrap ((BitVec.ofInt 64 b ^^^ BitVec.ofInt 64 0).toNat : Int) = _
  rw [show BitVec.ofInt 64 0 = 0#64 from by decide, BitVec.xor_zero, BitVec.toNat_ofInt, IntKind.wrap_u64]
  omega
end Go.Proofs.Ytbjbafhlmcnceaa
