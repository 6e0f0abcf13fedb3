/- Plain numbers: a quotient bit by bit. -/
import Derived.Test.YtbjbafhlmcnceaaDocM
namespace Go.Proofs.Ytbjbafhlmcnceaa.L
set_option linter.unusedVariables false

/-- Quotient and rest of what the bits from i on say. -/
def DivI (a : List Nat) (D i : Nat) (q : List Nat) (r : Nat) : Prop := Bits q ∧ q.length = a.length - i ∧ r < D ∧ nat q * D + r = nat (a.drop i)
theorem div_start (a : List Nat) (D : Nat) (hD : 0 < D) : DivI a D a.length [] 0 := ⟨Bits.nil, by simp, hD, by rw [nat_drop_out (Nat.le_refl _)]; simp [nat]⟩
theorem div_one {a q : List Nat} {D i r : Nat} (h : DivI a D (i + 1) q r) (hi : i < a.length) (g : D ≤ bit a i + 2 * r) (hb : bit a i < 2) : DivI a D i (1 :: q) (bit a i + 2 * r - D) := by
  obtain ⟨h1, h2, h3, h4⟩ := h
  refine ⟨h1.cons (by omega), by simp [h2]; omega, by omega, ?_⟩
  rw [nat_drop a i, ← h4]
  show (1 + 2 * nat q) * D + (bit a i + 2 * r - D) = bit a i + 2 * (nat q * D + r)
  rw [Nat.add_mul, Nat.mul_assoc]; omega
theorem div_nought {a q : List Nat} {D i r : Nat} (h : DivI a D (i + 1) q r) (hi : i < a.length) (g : bit a i + 2 * r < D) : DivI a D i (0 :: q) (bit a i + 2 * r) := by
  obtain ⟨h1, h2, h3, h4⟩ := h
  refine ⟨h1.cons (by omega), by simp [h2]; omega, by omega, ?_⟩
  rw [nat_drop a i, ← h4]
  show (0 + 2 * nat q) * D + (bit a i + 2 * r) = bit a i + 2 * (nat q * D + r)
  rw [Nat.zero_add, Nat.mul_assoc]; omega
theorem div_end {a q : List Nat} {D r : Nat} (h : DivI a D 0 q r) : nat q = nat a / D ∧ r = nat a % D := by
  obtain ⟨_, _, h3, h4⟩ := h
  rw [List.drop_zero] at h4
  have := (Nat.div_mod_unique (b := D) (a := nat a) (c := r) (d := nat q) (by omega)).2 ⟨by rw [← h4, Nat.mul_comm]; omega, h3⟩
  exact ⟨this.1.symm, this.2.symm⟩
/-- Of a number below nought the quotient is rounded down. -/
theorem floor_neg {A D : Nat} (hD : 0 < D) : (A % D = 0 → -((A / D : Nat) : Int) = (-(A : Int)) / (D : Int) ∧ (0 : Int) = (-(A : Int)) % (D : Int)) ∧
    (A % D ≠ 0 → -((A / D : Nat) + 1 : Int) = (-(A : Int)) / (D : Int) ∧ (D : Int) + -((A % D : Nat) : Int) = (-(A : Int)) % (D : Int)) := by
  have e := Nat.div_add_mod A D
  have lt := Nat.mod_lt A hD
  refine ⟨fun h => ?_, fun h => ?_⟩
  · have u := (Int.ediv_emod_unique (a := -(A : Int)) (b := (D : Int)) (r := 0) (q := -((A / D : Nat) : Int)) (by omega)).2 ⟨by
      rw [h] at e
      have : ((D * (A / D) : Nat) : Int) = (A : Int) := by omega
      rw [Int.natCast_mul] at this
      rw [Int.mul_neg]; omega, by omega, by omega⟩
    exact ⟨u.1.symm, u.2.symm⟩
  · have u := (Int.ediv_emod_unique (a := -(A : Int)) (b := (D : Int)) (r := (D : Int) + -((A % D : Nat) : Int)) (q := -((A / D : Nat) + 1 : Int)) (by omega)).2 ⟨by
      have : ((D * (A / D) : Nat) : Int) + ((A % D : Nat) : Int) = (A : Int) := by omega
      rw [Int.natCast_mul] at this
      rw [Int.mul_neg, Int.mul_add]; omega, by omega, by omega⟩
    exact ⟨u.1.symm, u.2.symm⟩
theorem floor_pos (A D : Nat) : ((A / D : Nat) : Int) = (A : Int) / (D : Int) ∧ ((A % D : Nat) : Int) = (A : Int) % (D : Int) := ⟨Int.natCast_ediv A D, Int.natCast_emod A D⟩
end Go.Proofs.Ytbjbafhlmcnceaa.L
