/- Plain numbers: a number of 128 bits, halved again and again. -/
import Derived.Test.YtoimobmnbcbjiaaMath
namespace Go.Proofs.Ytoimobmnbcbjiaa.M
open Go Go.RowKit
def HalfRel (m t d j h l : Nat) : Prop := ∃ k, j + k = d ∧ m * t / 2 ^ k = h * 18446744073709551616 + l
theorem half_start (m t d : Nat) : HalfRel m t d d (m * t / 18446744073709551616) (m * t % 18446744073709551616) := by
  refine ⟨0, rfl, ?_⟩
  rw [Nat.pow_zero, Nat.div_one]; omega
theorem half_step {m t d j h l : Nat} (H : HalfRel m t d (j + 1) h l) : HalfRel m t d j (h / 2) (l / 2 + h % 2 * 9223372036854775808) := by
  obtain ⟨k, hk, e⟩ := H
  refine ⟨k + 1, by omega, ?_⟩
  rw [Nat.pow_succ, ← Nat.div_div_eq_div_mul, e]; omega
theorem half_hi (m t : Nat) (hm : m < 9007199254740992) (ht : t ≤ 16777216) : m * t / 18446744073709551616 < 8192 := by
  have : m * t ≤ 9007199254740991 * 16777216 := Nat.mul_le_mul (by omega) ht
  omega
theorem half_end {m t d h l : Nat} (H : HalfRel m t d 0 h l) (hm : m < 9007199254740992) (ht : t ≤ 16777216) (hd : 53 ≤ d) : l = shareV m t d ∧ l ≤ 16777216 := by
  obtain ⟨k, hk, e⟩ := H
  obtain rfl : k = d := by omega
  have h1 : m * t ≤ 9007199254740992 * t := Nat.mul_le_mul (by omega) (Nat.le_refl _)
  have h2 : (9007199254740992 : Nat) ≤ 2 ^ k := by
    have := Nat.pow_le_pow_right (show 2 > 0 by decide) hd
    exact this
  have h3 : m * t / 2 ^ k ≤ 16777216 := by
    refine Nat.le_trans (Nat.div_le_div_right h1) ?_
    refine Nat.le_trans (Nat.div_le_div_left h2 (by decide)) ?_
    omega
  unfold shareV
  omega
theorem half_none {m t d j : Nat} (H : HalfRel m t d j 0 0) : 0 = shareV m t d := by
  obtain ⟨k, hk, e⟩ := H
  have h1 : 2 ^ k ≤ 2 ^ d := Nat.pow_le_pow_right (by decide) (by omega)
  have h2 := Nat.div_le_div_left h1 (Nat.two_pow_pos k) (a := m * t)
  rw [e] at h2
  exact (Nat.eq_zero_of_le_zero h2).symm
theorem minus_no (b : Nat) (h : kind b ≠ 1) (hm : minus b = false) : b < 9223372036854775808 := by
  simp [minus, h] at hm; omega
theorem cmp_one_lt (b : Nat) (h : ¬ kind b = 1) (hm : minus b = false) (hl : b < 4607182418800017408) : cmpV b 4607182418800017408 = -1 := by
  have := minus_no b h hm
  have e1 : rank b = b := by rw [rank, if_neg h, if_pos this]
  have e2 : rank 4607182418800017408 = 4607182418800017408 := by decide
  rw [cmpV, e1, e2]
  exact (sgn_lt (by omega)).symm
theorem cmp_one_ge (b : Nat) (h : ¬ kind b = 1) (hm : minus b = false) (hl : 4607182418800017408 ≤ b) : 0 ≤ cmpV b 4607182418800017408 := by
  have := minus_no b h hm
  have e1 : rank b = b := by rw [rank, if_neg h, if_pos this]
  have e2 : rank 4607182418800017408 = 4607182418800017408 := by decide
  rw [cmpV, e1, e2, sgn, if_neg (by omega)]
  split <;> omega
theorem nought_unit (b : Nat) (top : Int) (h : kind b = 3) (hm : minus b = false) (hi : inB top 0 16777216 = true) : unitV b top = (0, 0) := by
  have h1 : ¬ kind b = 1 := by omega
  have hb := minus_no b h1 hm
  have he : ex b = 0 ∧ fr b = 0 := by
    unfold kind at h
    by_cases c1 : ex b = 2047
    · rw [if_pos c1] at h; split at h <;> omega
    · rw [if_neg c1] at h
      by_cases c2 : ex b = 0
      · rw [if_pos c2] at h
        by_cases c3 : fr b = 0
        · exact ⟨c2, c3⟩
        · rw [if_neg c3] at h; omega
      · rw [if_neg c2] at h; omega
  have h5 : ¬ 4607182418800017408 ≤ b := by
    have h0 := he.1
    unfold ex at h0
    omega
  have hmz : mant b = 0 := by rw [mant, if_pos he.1]; exact he.2
  simp [unitV, hi, h1, hm, h5, hmz, shareV]
end Go.Proofs.Ytoimobmnbcbjiaa.M
