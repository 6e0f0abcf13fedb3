/- Plain numbers: what the floats of 64 bits stand for, how they compare, and that a whole number divided by a power of two is exact. -/
import Derived.Test.YtoimobmnbcbjiaaMath
import Derived.Laws.FloatArith
namespace Go.Proofs.Ytoimobmnbcbjiaa.M
open Go Go.RowKit

def sgb (b : Nat) : Bool := decide (9223372036854775808 ≤ b)
/-- a finite float without its sign, times 2^1074 -/
def S (b : Nat) : Nat := mant b * 2 ^ (1074 - dn b).toNat
def sv (b : Nat) : Int := if sgb b = true then -(S b : Int) else (S b : Int)

theorem dbl_sw : Ieee.double.signWeight = 9223372036854775808 := by decide
theorem dbl_bin : Ieee.double.binade = 4503599627370496 := by decide
theorem dbl_inf : Ieee.double.infRung = 9218868437227405312 := by decide
theorem dbl_lp : Ieee.double.leastPlace = -1074 := by decide
theorem dbl_fb : Ieee.double.fractionBits = 52 := by decide

theorem neg_bit (b : Nat) (hb : b < 18446744073709551616) : (b / 9223372036854775808 % 2 == 1) = sgb b := by
  unfold sgb
  rw [Bool.eq_iff_iff]; simp; omega

theorem read_fin (b : Nat) (hb : b < 18446744073709551616) (hf : ex b ≠ 2047) : Ieee.double.read b = .number (sgb b) (mant b) (-(dn b)) := by
  unfold Ieee.Format.read
  rw [dbl_sw, dbl_bin, dbl_inf, dbl_lp, neg_bit b hb]
  unfold ex at hf
  by_cases h0 : b % 9223372036854775808 < 4503599627370496
  · have e0 : ex b = 0 := by unfold ex; omega
    rw [if_pos h0, mant, if_pos e0, dn, if_pos e0]
    congr 1
    unfold fr; omega
  · have e0 : ¬ ex b = 0 := by unfold ex; omega
    rw [if_neg h0, if_pos (by omega), mant, if_neg e0, dn, if_neg e0]
    congr 1
    · unfold fr; omega
    · unfold ex; omega

theorem read_inf (b : Nat) (hb : b < 18446744073709551616) (he : ex b = 2047) (hf : fr b = 0) : Ieee.double.read b = .infinity (sgb b) := by
  unfold Ieee.Format.read
  rw [dbl_sw, dbl_bin, dbl_inf, dbl_lp, neg_bit b hb]
  unfold ex at he
  unfold fr at hf
  rw [if_neg (by omega), if_neg (by omega), if_pos (by omega)]

theorem S_pos (b : Nat) (h : ex b ≠ 0) : S b = (fr b + 4503599627370496) * 2 ^ (ex b - 1) := by
  have := ex_lt b
  rw [S, mant, if_neg h, dn, if_neg h]
  congr 2
  omega
theorem S_zero (b : Nat) (h : ex b = 0) : S b = fr b := by
  rw [S, mant, if_pos h, dn, if_pos h]; simp

/-- what stands between two powers of two -/
theorem S_bounds (b : Nat) : S b < 4503599627370496 * 2 ^ ex b ∧ (ex b ≠ 0 → 4503599627370496 * 2 ^ (ex b - 1) ≤ S b) := by
  have h1 := fr_lt b
  by_cases h : ex b = 0
  · rw [S_zero b h, h]; simp; omega
  · rw [S_pos b h]
    refine ⟨?_, fun _ => Nat.mul_le_mul_right _ (by omega)⟩
    have e : 2 ^ ex b = 2 * 2 ^ (ex b - 1) := two_half _ (by omega)
    rw [e, ← Nat.mul_assoc]
    exact Nat.mul_lt_mul_of_pos_right (by omega) (Nat.two_pow_pos _)

/-- the greater the bits, the greater the number -/
theorem S_mono {a b : Nat} (ha : a < 9223372036854775808) (hb : b < 9223372036854775808) (h : a < b) : S a < S b := by
  have e : ex a ≤ ex b := by unfold ex; omega
  by_cases he : ex a = ex b
  · have hf : fr a < fr b := by unfold ex at he; unfold fr; omega
    by_cases h0 : ex a = 0
    · rw [S_zero a h0, S_zero b (by omega)]; exact hf
    · rw [S_pos a h0, S_pos b (by omega), he]
      exact Nat.mul_lt_mul_of_pos_right (by omega) (Nat.two_pow_pos _)
  · have h1 := (S_bounds a).1
    have h2 := (S_bounds b).2 (by omega)
    have h3 : 2 ^ ex a ≤ 2 ^ (ex b - 1) := Nat.pow_le_pow_right (by decide) (by omega)
    have h4 := Nat.mul_le_mul_left 4503599627370496 h3
    omega

theorem cmp_scale (a b : Int) (k : Nat) : compare (a * 2 ^ k) (b * 2 ^ k) = compare a b := by
  have hp : (0 : Int) < 2 ^ k := Int.pow_pos (by decide)
  simp only [compare, compareOfLessAndEq]
  have h1 : a * 2 ^ k < b * 2 ^ k ↔ a < b := ⟨fun h => Int.lt_of_mul_lt_mul_right h (by omega), fun h => Int.mul_lt_mul_of_pos_right h hp⟩
  have h2 : a * 2 ^ k = b * 2 ^ k ↔ a = b := ⟨fun h => Int.eq_of_mul_eq_mul_right (by omega) h, fun h => by rw [h]⟩
  simp only [h1, h2]

theorem signed_scale (b : Nat) (i base : Int) (k : Nat) (hi : i = -(dn b)) (h1 : base ≤ i) (hk : (k : Int) = base + 1074) : Ieee.signed (sgb b) (mant b) (i - base).toNat * 2 ^ k = sv b := by
  have e : (1074 - dn b).toNat = (i - base).toNat + k := by omega
  have e2 : ((mant b <<< (i - base).toNat : Nat) : Int) * 2 ^ k = (S b : Int) := by
    rw [Nat.shiftLeft_eq, S, e, Nat.pow_add, ← Nat.mul_assoc]; simp
  unfold Ieee.signed sv
  split
  · rw [← e2, Int.neg_mul]
  · exact e2

theorem order_fin (a b : Nat) (ha : a < 18446744073709551616) (hb : b < 18446744073709551616) (fa : ex a ≠ 2047) (fb : ex b ≠ 2047) : Ieee.double.order a b = some (compare (sv a) (sv b)) := by
  have d1 := (dn_le a).1
  have d2 := (dn_le b).1
  unfold Ieee.Format.order
  rw [read_fin a ha fa, read_fin b hb fb]
  show some (compare (Ieee.signed (sgb a) (mant a) _) (Ieee.signed (sgb b) (mant b) _)) = _
  obtain ⟨k, hk⟩ := Int.eq_ofNat_of_zero_le (show 0 ≤ min (-(dn a)) (-(dn b)) + 1074 by omega)
  rw [← signed_scale a (-(dn a)) (min (-(dn a)) (-(dn b))) k rfl (by omega) (by omega), ← signed_scale b (-(dn b)) (min (-(dn a)) (-(dn b))) k rfl (by omega) (by omega), cmp_scale]

theorem kind_not (b : Nat) (h : kind b ≠ 1) : ex b ≠ 2047 ∨ (ex b = 2047 ∧ fr b = 0) := by
  by_cases h1 : ex b = 2047
  · by_cases h2 : fr b = 0
    · exact Or.inr ⟨h1, h2⟩
    · exact absurd (by simp [kind, h1, h2]) h
  · exact Or.inl h1
theorem minus_not (b : Nat) (h : kind b ≠ 1) (hm : minus b = false) : b < 9223372036854775808 := by
  simp [minus, h] at hm; omega
def one : Nat := 4607182418800017408
theorem ge_one (b : Nat) (h : kind b ≠ 1) (hm : minus b = false) : (Ieee.double.order b 4607182418800017408 == some .gt || Ieee.double.order b 4607182418800017408 == some .eq) = decide (4607182418800017408 ≤ b) := by
  have hb := minus_not b h hm
  have e1 : sgb b = false := by unfold sgb; simp; omega
  rcases kind_not b h with h1 | ⟨h1, h2⟩
  · rw [order_fin b 4607182418800017408 (by omega) (by decide) h1 (by decide)]
    have e2 : sv b = (S b : Int) := by rw [sv, e1]; rfl
    have e3 : sv 4607182418800017408 = (S 4607182418800017408 : Int) := rfl
    rw [e2, e3]
    simp only [compare, compareOfLessAndEq]
    rcases Nat.lt_trichotomy b 4607182418800017408 with g | g | g
    · have := S_mono hb (by decide : 4607182418800017408 < 9223372036854775808) g
      rw [if_pos (by omega)]
      simp; omega
    · subst g
      simp
    · have := S_mono (by decide : 4607182418800017408 < 9223372036854775808) hb g
      rw [if_neg (by omega), if_neg (by omega)]
      simp; omega
  · have e : Ieee.double.order b 4607182418800017408 = some .gt := by
      unfold Ieee.Format.order
      rw [read_inf b (by omega) h1 h2, e1, read_fin 4607182418800017408 (by decide) (by decide)]
      rfl
    have : 4607182418800017408 ≤ b := by unfold ex at h1; omega
    rw [e]; simp [this]

/-- the way of a whole number from 2^52 on, below 2^53 -/
theorem cut_zero (neg : Bool) (n : Nat) : Ieee.Toward.even.cut neg n 0 = n := by
  simp [Ieee.Toward.cut, Nat.mod_one]
theorem cut_three (neg : Bool) (n : Nat) (h : 1 < n) : Ieee.Toward.even.cut neg (8 * n) 3 = n := by
  have h2 : 8 * n ≠ 0 := by omega
  have hl : 1 ≤ (8 * n).log2 := (Nat.le_log2 h2).2 (by omega)
  have e : min 3 ((8 * n).log2 + 2) = 3 := by omega
  have e2 : 8 * n % 8 = 0 := by omega
  have e3 : 8 * n / 8 = n := by omega
  simp [Ieee.Toward.cut, e, e2, e3]

theorem word_eq (neg : Bool) (r : Nat) : Ieee.double.word neg r = (if neg then 9223372036854775808 else 0) + r := by
  unfold Ieee.Format.word; rw [dbl_sw]; split <;> omega

/-- a whole number of at most 53 bits as a float -/
theorem near_small (neg : Bool) (m : Nat) (h0 : m ≠ 0) (h1 : m.log2 ≤ 52) :
    Ieee.double.nearest neg m 0 = (if neg then 9223372036854775808 else 0) + ((m.log2 + 1022) * 4503599627370496 + m * 2 ^ (52 - m.log2)) := by
  unfold Ieee.Format.nearest
  rw [if_neg h0, dbl_fb, dbl_lp, dbl_bin, dbl_inf]
  have e1 : max ((0 : Int) + m.log2 - (52 : Nat)) (-1074) = (m.log2 : Int) - 52 := by omega
  simp only [e1]
  have e2 : ((0 : Int) - ((m.log2 : Int) - 52)).toNat = 52 - m.log2 := by omega
  have e3 : ((m.log2 : Int) - 52 - 0).toNat = 0 := by omega
  have e4 : ((m.log2 : Int) - 52 - -1074).toNat = m.log2 + 1022 := by omega
  rw [e2, e3, e4, cut_zero, word_eq, Nat.shiftLeft_eq]
  have h3 : m * 2 ^ (52 - m.log2) < 9007199254740992 := by
    have := Nat.lt_log2_self (n := m)
    have e : (9007199254740992 : Nat) = 2 ^ (m.log2 + 1) * 2 ^ (52 - m.log2) := by
      rw [← Nat.pow_add, show m.log2 + 1 + (52 - m.log2) = 53 from by omega]
    rw [e]
    exact Nat.mul_lt_mul_of_pos_right this (Nat.two_pow_pos _)
  rw [Nat.min_eq_left (by omega)]

theorem word_parts (neg : Bool) (E N : Nat) (hE : E < 2046) (h1 : 4503599627370496 ≤ N) (h2 : N < 9007199254740992) (w : Nat) (hw : w = (if neg then 9223372036854775808 else 0) + (E * 4503599627370496 + N)) :
    w < 18446744073709551616 ∧ ex w = E + 1 ∧ fr w = N - 4503599627370496 ∧ sgb w = neg ∧ mant w = N ∧ dn w = 1074 - (E : Int) := by
  have a1 : w < 18446744073709551616 := by subst hw; split <;> omega
  have a2 : ex w = E + 1 := by subst hw; unfold ex; split <;> omega
  have a3 : fr w = N - 4503599627370496 := by subst hw; unfold fr; split <;> omega
  have a4 : sgb w = neg := by
    subst hw; unfold sgb
    cases neg
    · simp; omega
    · simp
  refine ⟨a1, a2, a3, a4, ?_, ?_⟩
  · rw [mant, if_neg (by omega), a3]; omega
  · rw [dn, if_neg (by omega), a2]; omega

def backB (n : Int) (k : Nat) : Nat := if n = 0 then 0 else (if decide (n < 0) then 9223372036854775808 else 0) + ((n.natAbs.log2 + 1022 - k) * 4503599627370496 + n.natAbs * 2 ^ (52 - n.natAbs.log2))

theorem norm_bounds (m : Nat) (h0 : m ≠ 0) (h1 : m.log2 ≤ 52) : 4503599627370496 ≤ m * 2 ^ (52 - m.log2) ∧ m * 2 ^ (52 - m.log2) < 9007199254740992 := by
  have hp := Nat.two_pow_pos (52 - m.log2)
  constructor
  · have := Nat.log2_self_le h0
    have e : (4503599627370496 : Nat) = 2 ^ m.log2 * 2 ^ (52 - m.log2) := by
      rw [← Nat.pow_add, show m.log2 + (52 - m.log2) = 52 from by omega]
    rw [e]
    exact Nat.mul_le_mul_right _ this
  · have := Nat.lt_log2_self (n := m)
    have e : (9007199254740992 : Nat) = 2 ^ (m.log2 + 1) * 2 ^ (52 - m.log2) := by
      rw [← Nat.pow_add, show m.log2 + 1 + (52 - m.log2) = 53 from by omega]
    rw [e]
    exact Nat.mul_lt_mul_of_pos_right this hp

theorem log_le (m : Nat) (h : m < 9007199254740992) : m.log2 ≤ 52 := by
  by_cases h0 : m = 0
  · subst h0; simp
  · have := (Nat.log2_lt (n := m) (k := 53) h0).2 (by omega)
    omega

theorem quot_num (s t : Bool) (m n : Nat) (i j : Int) (g : Nat) (hn : n ≠ 0) :
    (Ieee.Datum.number s m i).quotient g (.number t n j) = some (.number (s ^^ t) (2 * (m <<< (g + n.log2 - m.log2) / n) + (m <<< (g + n.log2 - m.log2) % n != 0).toNat) (i - j - (g + n.log2 - m.log2 : Nat) - 1)) := by
  simp only [Ieee.Datum.quotient, hn, if_false]
theorem log_52 (N : Nat) (h1 : 4503599627370496 ≤ N) (h2 : N < 9007199254740992) : N.log2 = 52 := (Nat.log2_eq_iff (by omega)).2 ⟨by omega, by omega⟩
theorem quot_exact (neg : Bool) (N D : Nat) (i j : Int) (hD : D = 4503599627370496) (h1 : 4503599627370496 ≤ N) (h2 : N < 9007199254740992) :
    (Ieee.Datum.number neg N i).quotient 54 (.number false D j) = some (.number neg (8 * N) (i - j - 55)) := by
  rw [quot_num _ _ _ _ _ _ _ (by omega), log_52 N h1 h2, log_52 D (by omega) (by omega)]
  have e1 : N <<< (54 + 52 - 52) = 18014398509481984 * N := by rw [Nat.shiftLeft_eq]; omega
  rw [e1]
  have e2 : 18014398509481984 * N / D = 4 * N := by rw [hD]; omega
  have e3 : 18014398509481984 * N % D = 0 := by rw [hD]; omega
  rw [e2, e3]
  have e4 : 2 * (4 * N) + ((0 : Nat) != 0).toNat = 8 * N := by
    rw [show ((0 : Nat) != 0).toNat = 0 from rfl]; omega
  have e5 : i - j - ((54 + 52 - 52 : Nat) : Int) - 1 = i - j - 55 := by omega
  rw [e5, e4, Bool.xor_false]
theorem near_eight (neg : Bool) (N : Nat) (p : Int) (h1 : 4503599627370496 ≤ N) (h2 : N < 9007199254740992) (hp : -1077 ≤ p) (hq : p ≤ 0) :
    Ieee.double.nearest neg (8 * N) p = (if neg then 9223372036854775808 else 0) + ((p + 1077).toNat * 4503599627370496 + N) := by
  have l1 : (8 * N).log2 = 55 := (Nat.log2_eq_iff (by omega)).2 ⟨by omega, by omega⟩
  unfold Ieee.Format.nearest
  rw [if_neg (by omega), dbl_fb, dbl_lp, dbl_bin, dbl_inf, l1]
  have e1 : max (p + (55 : Nat) - (52 : Nat)) (-1074) = p + 3 := by omega
  simp only [e1]
  have e2 : (p - (p + 3)).toNat = 0 := by omega
  have e3 : (p + 3 - p).toNat = 3 := by omega
  have e4 : (p + 3 - -1074).toNat = (p + 1077).toNat := by omega
  rw [e2, e3, e4, Nat.shiftLeft_zero, cut_three _ _ (by omega), word_eq, Nat.min_eq_left (by omega)]

theorem back_div (n : Int) (k : Nat) (h1 : -4503599627370496 ≤ n) (h2 : n ≤ 4503599627370496) (hk : k ≤ 33) :
    Ieee.double.div (floatOfInt .f64 n) (floatOfInt .f64 (2 ^ k : Nat)) = some (backB n k) := by
  have hk2 : (2 ^ k : Nat) ≤ 2 ^ 33 := Nat.pow_le_pow_right (by decide) hk
  have hk0 : (2 ^ k : Nat) ≠ 0 := by have := Nat.two_pow_pos k; omega
  have lk : (2 ^ k : Nat).log2 = k := Nat.log2_two_pow
  have ey : floatOfInt .f64 (2 ^ k : Nat) = 0 + ((k + 1022) * 4503599627370496 + 4503599627370496) := by
    show Ieee.double.nearest (decide (((2 ^ k : Nat) : Int) < 0)) ((2 ^ k : Nat) : Int).natAbs 0 = _
    rw [decide_eq_false (Int.not_lt.2 (Int.natCast_nonneg _)), Int.natAbs_natCast, near_small false _ hk0 (by omega), lk, ← Nat.pow_add, show k + (52 - k) = 52 from by omega]
    rfl
  obtain ⟨y1, y2, y3, y4, y5, y6⟩ := word_parts false (k + 1022) 4503599627370496 (by omega) (by omega) (by omega) _ ey
  unfold Ieee.Format.div
  rw [read_fin _ y1 (by omega), y4, y5, y6, dbl_fb]
  by_cases h0 : n = 0
  · subst h0
    have ex0 : floatOfInt .f64 0 = 0 := by decide
    rw [ex0, show Ieee.double.read 0 = .number false 0 (-1074) from by decide]
    rw [quot_num _ _ _ _ _ _ _ (by decide)]
    simp [Ieee.Format.write, Ieee.Format.nearest, backB, Ieee.Format.word]
  · have m0 : n.natAbs ≠ 0 := by omega
    have ml : n.natAbs.log2 ≤ 52 := log_le _ (by omega)
    obtain ⟨b1, b2⟩ := norm_bounds _ m0 ml
    have ex0 : floatOfInt .f64 n = (if decide (n < 0) then 9223372036854775808 else 0) + ((n.natAbs.log2 + 1022) * 4503599627370496 + n.natAbs * 2 ^ (52 - n.natAbs.log2)) := near_small _ _ m0 ml
    obtain ⟨x1, x2, x3, x4, x5, x6⟩ := word_parts (decide (n < 0)) (n.natAbs.log2 + 1022) (n.natAbs * 2 ^ (52 - n.natAbs.log2)) (by omega) b1 b2 _ ex0
    rw [read_fin _ x1 (by omega), x4, x5, x6, quot_exact _ _ _ _ _ rfl b1 b2]
    show some (Ieee.double.nearest _ _ _) = _
    have eE : (-(1074 - ((n.natAbs.log2 + 1022 : Nat) : Int)) - -(1074 - ((k + 1022 : Nat) : Int)) - 55 + 1077).toNat = n.natAbs.log2 + 1022 - k := by omega
    rw [near_eight _ _ _ b1 b2 (by omega) (by omega), backB, if_neg h0, eE]
end Go.Proofs.Ytoimobmnbcbjiaa.M
