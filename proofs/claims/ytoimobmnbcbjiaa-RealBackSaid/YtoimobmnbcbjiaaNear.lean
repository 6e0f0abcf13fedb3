/- Plain numbers: the float of a fixed number stands for just that number; a fixed number is the nearest one. -/
import Derived.Test.YtoimobmnbcbjiaaFlo
namespace Go.Proofs.Ytoimobmnbcbjiaa.M
open Go Go.RowKit

theorem back_lt (n : Int) (k : Nat) (h1 : -4503599627370496 ≤ n) (h2 : n ≤ 4503599627370496) : backB n k < 18446744073709551616 := by
  unfold backB
  by_cases h0 : n = 0
  · rw [if_pos h0]; omega
  · have m0 : n.natAbs ≠ 0 := by omega
    have ml : n.natAbs.log2 ≤ 52 := log_le _ (by omega)
    obtain ⟨b1, b2⟩ := norm_bounds _ m0 ml
    rw [if_neg h0]
    split <;> omega

/-- what the float of a fixed number is made of -/
theorem back_parts (n : Int) (k : Nat) (h0 : n ≠ 0) (h1 : -4503599627370496 ≤ n) (h2 : n ≤ 4503599627370496) (hk : k ≤ 33) :
    n.natAbs.log2 ≤ 52 ∧ backB n k < 18446744073709551616 ∧ ex (backB n k) ≠ 0 ∧ ex (backB n k) ≠ 2047 ∧ sgb (backB n k) = decide (n < 0) ∧ mant (backB n k) = n.natAbs * 2 ^ (52 - n.natAbs.log2) ∧ dn (backB n k) = 52 - (n.natAbs.log2 : Int) + k := by
  have m0 : n.natAbs ≠ 0 := by omega
  have ml : n.natAbs.log2 ≤ 52 := log_le _ (by omega)
  obtain ⟨b1, b2⟩ := norm_bounds _ m0 ml
  have e : backB n k = (if decide (n < 0) then 9223372036854775808 else 0) + ((n.natAbs.log2 + 1022 - k) * 4503599627370496 + n.natAbs * 2 ^ (52 - n.natAbs.log2)) := by rw [backB, if_neg h0]
  obtain ⟨x1, x2, x3, x4, x5, x6⟩ := word_parts (decide (n < 0)) (n.natAbs.log2 + 1022 - k) _ (by omega) b1 b2 _ e
  exact ⟨ml, x1, by omega, by omega, x4, x5, by omega⟩

theorem back_sv (n : Int) (k : Nat) (h0 : n ≠ 0) (h1 : -4503599627370496 ≤ n) (h2 : n ≤ 4503599627370496) (hk : k ≤ 33) :
    sv (backB n k) = n * 2 ^ (1074 - k) := by
  obtain ⟨ml, x1, _, x2, x4, x5, x6⟩ := back_parts n k h0 h1 h2 hk
  have eS : S (backB n k) = n.natAbs * 2 ^ (1074 - k) := by
    have e : 1074 - k = 52 - n.natAbs.log2 + (1074 - dn (backB n k)).toNat := by omega
    rw [S, x5, e, Nat.pow_add, Nat.mul_assoc]
  rw [sv, x4, eS]
  by_cases hn : n < 0
  · rw [decide_eq_true hn, if_pos rfl]
    have : (n.natAbs : Int) = -n := by omega
    rw [Int.natCast_mul, this]
    simp [Int.neg_mul]
  · rw [decide_eq_false hn]
    have : (n.natAbs : Int) = n := by omega
    simp [this]

theorem kind_fin (b : Nat) (h : ex b ≠ 2047) : kind b ≠ 1 ∧ kind b ≠ 2 := by
  unfold kind
  rw [if_neg h]
  split
  · split <;> omega
  · omega
theorem fin_kind (b : Nat) (h1 : kind b ≠ 1) (h2 : kind b ≠ 2) : ex b ≠ 2047 := by
  intro h
  unfold kind at h1 h2
  rw [if_pos h] at h1 h2
  by_cases c : fr b = 0
  · rw [if_pos c] at h2; omega
  · rw [if_neg c] at h1; omega
theorem minus_fin (b : Nat) (h : kind b ≠ 1) : minus b = sgb b := by
  unfold minus sgb; simp [h]

theorem rnd_exact (a d : Nat) : rnd (a * 2 ^ d) d = a := by
  have hp : 0 < 2 ^ d := Nat.two_pow_pos d
  have e1 : a * 2 ^ d / 2 ^ d = a := Nat.mul_div_cancel _ hp
  have e2 : a * 2 ^ d % 2 ^ d = 0 := Nat.mul_mod_left _ _
  rw [rnd, e1, e2, if_neg (by omega)]

/-- Fixed of Back is the number. -/
theorem fix_back (n : Int) (k : Nat) (hk : inB k 0 32 = true) (h1 : -1099511627776 ≤ n) (h2 : n ≤ 1099511627776) : fixV (backB n k) k 1099511627776 = (n, 0) := by
  have hk2 := inB_hi hk
  have hm : inB 1099511627776 0 1099511627776 = true := by decide
  by_cases h0 : n = 0
  · subst h0
    have e : backB 0 k = 0 := rfl
    rw [e]
    have a1 : kind 0 = 3 := by decide
    have a2 : dn 0 = 1074 := by decide
    have a3 : mant 0 = 0 := by decide
    have a4 : minus 0 = false := by decide
    have a5 : rnd 0 (1074 - (k : Int)).toNat = 0 := by
      have := rnd_exact 0 (1074 - (k : Int)).toNat
      rwa [Nat.zero_mul] at this
    have a6 : ¬ (1074 : Int) ≤ k := by omega
    unfold fixV
    rw [a1, a2, a3, a4, if_neg (by simp [hk, hm]), if_neg (by decide), if_neg (by decide), if_neg a6, a5]
    rfl
  · obtain ⟨ml, x1, _, x2, x4, x5, x6⟩ := back_parts n k h0 (by omega) (by omega) (by omega)
    obtain ⟨k1, k2⟩ := kind_fin _ x2
    have hl : n.natAbs.log2 ≤ 40 := by
      have := (Nat.log2_lt (n := n.natAbs) (k := 41) (by omega)).2 (by omega)
      omega
    have hd : (dn (backB n k) - k).toNat = 52 - n.natAbs.log2 := by omega
    have hr : rnd (mant (backB n k)) (dn (backB n k) - k).toNat = n.natAbs := by rw [x5, hd, rnd_exact]
    have a6 : ¬ dn (backB n k) ≤ k := by omega
    have a7 : ¬ (1099511627776 : Int) < (n.natAbs : Int) := by omega
    have am : minus (backB n k) = decide (n < 0) := by rw [minus_fin _ k1, x4]
    unfold fixV
    rw [if_neg (by simp [hk, hm]), if_neg k1, if_neg k2, if_neg a6, hr, if_neg a7, am]
    by_cases hn : n < 0
    · rw [decide_eq_true hn]
      have : -(n.natAbs : Int) = n := by omega
      simp [this]
    · rw [decide_eq_false hn]
      have : (n.natAbs : Int) = n := by omega
      simp [this]

theorem lin_lo (q H : Int) : (2 * q - 1) * H = 2 * (H * q) - H := by rw [Int.sub_mul, Int.one_mul, Int.mul_assoc, Int.mul_comm q H]
theorem lin_hi (q H : Int) : (2 * q + 1) * H = 2 * (H * q) + H := by rw [Int.add_mul, Int.one_mul, Int.mul_assoc, Int.mul_comm q H]
/-- between the halves -/
theorem rnd_near (m D : Nat) (hD : 1 ≤ D) :
    (2 * (rnd m D : Int) - 1) * 2 ^ (D - 1) ≤ m ∧ (m : Int) ≤ (2 * (rnd m D : Int) + 1) * 2 ^ (D - 1) ∧
    ((2 * (rnd m D : Int) - 1) * 2 ^ (D - 1) = m ∨ (m : Int) = (2 * (rnd m D : Int) + 1) * 2 ^ (D - 1) → rnd m D % 2 = 0) := by
  have th := two_half D hD
  have hp : 0 < 2 ^ (D - 1) := Nat.two_pow_pos _
  have e0 : ((2 : Int) ^ (D - 1)) = ((2 ^ (D - 1) : Nat) : Int) := by simp
  have dm := Nat.div_add_mod m (2 ^ D)
  have ml := Nat.mod_lt m (Nat.two_pow_pos D)
  have hr : rnd m D = if 2 ^ D < 2 * (m % 2 ^ D) ∨ (2 ^ D = 2 * (m % 2 ^ D) ∧ m / 2 ^ D % 2 = 1) then m / 2 ^ D + 1 else m / 2 ^ D := rfl
  rw [e0]
  rw [th] at dm ml hr
  generalize (2 ^ (D - 1) : Nat) = H at *
  generalize m / (2 * H) = q at *
  generalize m % (2 * H) = r at *
  have e1 : 2 * H * q = 2 * (H * q) := Nat.mul_assoc 2 H q
  rw [e1] at dm
  have cq : ((H * q : Nat) : Int) = (H : Int) * q := by simp
  rw [lin_lo, lin_hi]
  by_cases c : 2 * H < 2 * r ∨ (2 * H = 2 * r ∧ q % 2 = 1)
  · rw [if_pos c] at hr
    have f1 : (H : Int) * (rnd m D : Int) = ((H * q : Nat) : Int) + H := by
      rw [hr, cq, Int.natCast_add, Int.mul_add]; simp
    rw [f1]
    generalize H * q = X at *
    omega
  · rw [if_neg c] at hr
    have f1 : (H : Int) * (rnd m D : Int) = ((H * q : Nat) : Int) := by rw [hr, cq]
    rw [f1]
    generalize H * q = X at *
    omega

theorem fix_err (b : Nat) (k most : Int) : (fixV b k most).2 = 0 ∨ (fixV b k most).1 = 0 := by
  unfold fixV
  repeat (first | exact Or.inl rfl | exact Or.inr rfl | split)

theorem fix_ok (b : Nat) (k most : Int) (h : (fixV b k most).2 = 0) :
    inB k 0 32 = true ∧ inB most 0 1099511627776 = true ∧ kind b ≠ 1 ∧ kind b ≠ 2 ∧ k < dn b ∧ (rnd (mant b) (dn b - k).toNat : Int) ≤ most ∧
    (fixV b k most).1 = if minus b then -(rnd (mant b) (dn b - k).toNat : Int) else (rnd (mant b) (dn b - k).toNat : Int) := by
  by_cases c0 : inB k 0 32 = false ∨ inB most 0 1099511627776 = false
  · rw [fixV, if_pos c0] at h; exact absurd h (by decide)
  by_cases c1 : kind b = 1
  · rw [fixV, if_neg c0, if_pos c1] at h; exact absurd h (by decide)
  by_cases c2 : kind b = 2
  · rw [fixV, if_neg c0, if_neg c1, if_pos c2] at h; exact absurd h (by decide)
  by_cases c3 : dn b ≤ k
  · rw [fixV, if_neg c0, if_neg c1, if_neg c2, if_pos c3] at h; exact absurd h (by decide)
  by_cases c4 : most < (rnd (mant b) (dn b - k).toNat : Int)
  · rw [fixV, if_neg c0, if_neg c1, if_neg c2, if_neg c3, if_pos c4] at h; exact absurd h (by decide)
  refine ⟨?_, ?_, c1, c2, by omega, by omega, ?_⟩
  · cases hh : inB k 0 32
    · exact absurd (Or.inl hh) c0
    · rfl
  · cases hh : inB most 0 1099511627776
    · exact absurd (Or.inr hh) c0
    · rfl
  · rw [fixV, if_neg c0, if_neg c1, if_neg c2, if_neg c3, if_neg c4]
    split <;> rfl

theorem fix_near (b : Nat) (k : Nat) (hk : k ≤ 31) (h : (fixV b k 1099511627776).2 = 0) (a : Int) (ha : (fixV b k 1099511627776).1 = a) :
    ex b ≠ 2047 ∧ -1099511627776 ≤ a ∧ a ≤ 1099511627776 ∧ (2 * a - 1) * 2 ^ (1073 - k) ≤ sv b ∧ sv b ≤ (2 * a + 1) * 2 ^ (1073 - k) ∧
    ((2 * a - 1) * 2 ^ (1073 - k) = sv b ∨ sv b = (2 * a + 1) * 2 ^ (1073 - k) → a % 2 = 0) := by
  obtain ⟨i1, i2, k1, k2, hd, hR, hv⟩ := fix_ok b k _ h
  have hu := (dn_le b).1
  obtain ⟨D, hD⟩ := Int.eq_ofNat_of_zero_le (show 0 ≤ dn b - k by omega)
  have hDt : (dn b - (k : Int)).toNat = D := by omega
  rw [hDt] at hR hv
  obtain ⟨n1, n2, n3⟩ := rnd_near (mant b) D (by omega)
  have eS : (S b : Int) = (mant b : Int) * 2 ^ (1074 - k - D) := by
    rw [S, show (1074 - dn b).toNat = 1074 - k - D from by omega]; simp
  have eW : (2 : Int) ^ (1073 - k) = 2 ^ (D - 1) * 2 ^ (1074 - k - D) := by
    rw [← Int.pow_add, show D - 1 + (1074 - k - D) = 1073 - k from by omega]
  have hV : (0 : Int) < 2 ^ (1074 - k - D) := Int.pow_pos (by decide)
  rw [minus_fin b k1] at hv
  rw [ha] at hv
  have m1 := Int.mul_le_mul_of_nonneg_right n1 (Int.le_of_lt hV)
  have m2 := Int.mul_le_mul_of_nonneg_right n2 (Int.le_of_lt hV)
  have m3 : (2 * (rnd (mant b) D : Int) - 1) * 2 ^ (D - 1) * 2 ^ (1074 - k - D) = (mant b : Int) * 2 ^ (1074 - k - D) ∨ (mant b : Int) * 2 ^ (1074 - k - D) = (2 * (rnd (mant b) D : Int) + 1) * 2 ^ (D - 1) * 2 ^ (1074 - k - D) → rnd (mant b) D % 2 = 0 := by
    rintro (g | g)
    · exact n3 (Or.inl (Int.eq_of_mul_eq_mul_right (by omega) g))
    · exact n3 (Or.inr (Int.eq_of_mul_eq_mul_right (by omega) g))
  rw [← eS, Int.mul_assoc, ← eW] at m1
  rw [← eS, Int.mul_assoc (2 * (rnd (mant b) D : Int) + 1), ← eW] at m2
  rw [← eS, Int.mul_assoc (2 * (rnd (mant b) D : Int) - 1), Int.mul_assoc (2 * (rnd (mant b) D : Int) + 1), ← eW] at m3
  refine ⟨fin_kind b k1 k2, ?_⟩
  generalize rnd (mant b) D = R at *
  generalize (2 : Int) ^ (1073 - k) = W at *
  rw [sv]
  by_cases hs : sgb b = true
  · rw [if_pos hs] at hv ⊢
    have e1 : (2 * a - 1) * W = -((2 * (R : Int) + 1) * W) := by rw [hv, ← Int.neg_mul]; congr 1; omega
    have e2 : (2 * a + 1) * W = -((2 * (R : Int) - 1) * W) := by rw [hv, ← Int.neg_mul]; congr 1; omega
    rw [e1, e2]
    generalize (2 * (R : Int) + 1) * W = X at *
    generalize (2 * (R : Int) - 1) * W = Y at *
    refine ⟨by omega, by omega, by omega, by omega, fun g => ?_⟩
    have := m3 (by omega)
    omega
  · rw [if_neg hs] at hv ⊢
    rw [hv]
    generalize (2 * (R : Int) + 1) * W = X at *
    generalize (2 * (R : Int) - 1) * W = Y at *
    refine ⟨by omega, by omega, by omega, by omega, fun g => ?_⟩
    have := m3 (by omega)
    omega

theorem S_mag (p : Nat) : S (p + 9223372036854775808) = S p := by
  have e1 : ex (p + 9223372036854775808) = ex p := by unfold ex; omega
  have e2 : fr (p + 9223372036854775808) = fr p := by unfold fr; omega
  unfold S mant dn
  rw [e1, e2]
theorem S_less {p q : Nat} (hp : p < 9223372036854775808) (hq : q < 9223372036854775808) (h : S p < S q) : p < q := by
  rcases Nat.lt_trichotomy p q with g | g | g
  · exact g
  · rw [g] at h; exact absurd h (Nat.lt_irrefl _)
  · exact absurd (S_mono hq hp g) (Nat.lt_asymm h)

theorem sv_rank (a b : Nat) (ha : a < 18446744073709551616) (hb : b < 18446744073709551616) (fa : ex a ≠ 2047) (fb : ex b ≠ 2047) (h : sv a < sv b) : rank a < rank b := by
  obtain ⟨ka, _⟩ := kind_fin a fa
  obtain ⟨kb, _⟩ := kind_fin b fb
  unfold rank
  rw [if_neg ka, if_neg kb]
  unfold sv sgb at h
  simp only [decide_eq_true_eq] at h
  by_cases h1 : 9223372036854775808 ≤ a <;> by_cases h2 : 9223372036854775808 ≤ b
  · rw [if_pos h1, if_pos h2] at h
    obtain ⟨p, rfl⟩ : ∃ p, a = p + 9223372036854775808 := ⟨a - 9223372036854775808, by clear h; omega⟩
    obtain ⟨q, rfl⟩ : ∃ q, b = q + 9223372036854775808 := ⟨b - 9223372036854775808, by clear h; omega⟩
    have hp : p < 9223372036854775808 := by clear h; omega
    have hq : q < 9223372036854775808 := by clear h; omega
    rw [S_mag p, S_mag q] at h
    have hs : S q < S p := by omega
    have g := S_less hq hp hs
    clear h hs
    rw [if_neg (by omega), if_neg (by omega)]; omega
  · rw [if_neg (by omega), if_pos (by omega)]; omega
  · rw [if_neg h1, if_pos h2] at h; omega
  · rw [if_neg h1, if_neg h2] at h
    have hs : S a < S b := by omega
    clear h
    have ha' : a < 9223372036854775808 := by clear hs; omega
    have hb' : b < 9223372036854775808 := by clear hs; omega
    have g := S_less ha' hb' hs
    clear hs
    rw [if_pos ha', if_pos hb']; omega

theorem order_eq (a b : Nat) (ha : a < 18446744073709551616) (hb : b < 18446744073709551616) (fa : ex a ≠ 2047) (fb : ex b ≠ 2047) : (Ieee.double.order a b == some .eq) = decide (sv a = sv b) := by
  rw [order_fin a b ha hb fa fb]
  simp only [compare, compareOfLessAndEq]
  by_cases h1 : sv a < sv b
  · rw [if_pos h1, decide_eq_false (by omega)]; rfl
  · rw [if_neg h1]
    by_cases h2 : sv a = sv b
    · rw [if_pos h2, decide_eq_true h2]; rfl
    · rw [if_neg h2, decide_eq_false h2]; rfl
theorem even_tmod (a : Int) (h : a % 2 = 0) : (a.tmod 2 == 0) = true := by
  rw [beq_iff_eq, Int.tmod_eq_emod]
  rw [h]; split <;> omega
end Go.Proofs.Ytoimobmnbcbjiaa.M
