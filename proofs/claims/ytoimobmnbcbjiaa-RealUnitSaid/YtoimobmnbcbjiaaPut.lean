/- Plain numbers: what the document's way of rounding comes to. -/
import Derived.Test.YtoimobmnbcbjiaaMath
namespace Go.Proofs.Ytoimobmnbcbjiaa.M
open Go Go.RowKit
theorem mant_great (b : Nat) (h : dn b ≤ 1073) : 4503599627370496 ≤ mant b := by
  unfold dn at h; unfold mant; split
  · rename_i e; rw [if_pos e] at h; omega
  · omega
theorem shl_great (m d : Nat) (h1 : 4503599627370496 ≤ m) (h2 : m < 9007199254740992) (hd : d ≤ 10) : ∃ z : Int, wrap64 ((m : Int) * 2 ^ d) = z ∧ 1099511627776 < z := by
  have p1 : (2 ^ d : Nat) ≤ 2 ^ 10 := Nat.pow_le_pow_right (by decide) hd
  have p2 : 1 ≤ (2 ^ d : Nat) := Nat.two_pow_pos d
  have e : ((m : Int) * 2 ^ d) = ((m * 2 ^ d : Nat) : Int) := by simp
  have l1 : m * 2 ^ d ≤ m * 2 ^ 10 := Nat.mul_le_mul_left _ p1
  have l2 : m * 1 ≤ m * 2 ^ d := Nat.mul_le_mul_left _ p2
  rw [e]
  generalize m * 2 ^ d = Z at *
  exact ⟨_, rfl, by rw [IntWalk.wrap64_in _ (by omega)]; omega⟩
theorem rnd_parts (m d : Nat) (hm : m < 9007199254740992) (h2 : d ≤ 60) :
    wrap64 (2 ^ d) = ((2 ^ d : Nat) : Int) ∧ 1 ≤ 2 ^ d ∧ 2 ^ d ≤ 1152921504606846976 ∧ m % 2 ^ d < 2 ^ d ∧ m / 2 ^ d < 9007199254740992 ∧
    ((((2 ^ d : Nat) : Int) < 2 * ((m % 2 ^ d : Nat) : Int) ∧ (rnd m d : Int) = ((m / 2 ^ d : Nat) : Int) + 1) ∨ (2 * ((m % 2 ^ d : Nat) : Int) = ((2 ^ d : Nat) : Int) ∧ m / 2 ^ d % 2 = 1 ∧ (rnd m d : Int) = ((m / 2 ^ d : Nat) : Int) + 1) ∨ (2 * ((m % 2 ^ d : Nat) : Int) = ((2 ^ d : Nat) : Int) ∧ ¬ m / 2 ^ d % 2 = 1 ∧ (rnd m d : Int) = ((m / 2 ^ d : Nat) : Int)) ∨ (2 * ((m % 2 ^ d : Nat) : Int) < ((2 ^ d : Nat) : Int) ∧ (rnd m d : Int) = ((m / 2 ^ d : Nat) : Int))) ∧ True := by
  have p1 : (2 ^ d : Nat) ≤ 2 ^ 60 := Nat.pow_le_pow_right (by decide) h2
  have p2 : 1 ≤ (2 ^ d : Nat) := Nat.two_pow_pos d
  have e : ((2 : Int) ^ d) = ((2 ^ d : Nat) : Int) := by simp
  have l1 : m / 2 ^ d ≤ m := Nat.div_le_self _ _
  have l2 : m % 2 ^ d < 2 ^ d := Nat.mod_lt _ p2
  have hr : rnd m d = if 2 ^ d < 2 * (m % 2 ^ d) ∨ (2 ^ d = 2 * (m % 2 ^ d) ∧ m / 2 ^ d % 2 = 1) then m / 2 ^ d + 1 else m / 2 ^ d := rfl
  rw [e]
  generalize (2 ^ d : Nat) = P at *
  generalize m / P = Q at *
  generalize m % P = R at *
  refine ⟨IntWalk.wrap64_in _ (by omega), p2, by omega, l2, by omega, ?_, trivial⟩
  by_cases c : P < 2 * R ∨ (P = 2 * R ∧ Q % 2 = 1)
  · rw [if_pos c] at hr; omega
  · rw [if_neg c] at hr; omega
end Go.Proofs.Ytoimobmnbcbjiaa.M
