/- Plain numbers: what the functions of layer 1 (floats by their bits) come to, as functions of the bits. It imports nothing of the translation. -/
import Derived.WalkKit
import Derived.Laws.BitsAllLaws
namespace Go.Proofs.Ytoimobmnbcbjiaa.M
open Go Go.RowKit

def ex (b : Nat) : Nat := b / 4503599627370496 % 2048
def fr (b : Nat) : Nat := b % 4503599627370496
def kind (b : Nat) : Int := if ex b = 2047 then (if fr b = 0 then 2 else 1) else if ex b = 0 then (if fr b = 0 then 3 else 4) else 5
def minus (b : Nat) : Bool := decide (kind b ≠ 1) && decide (9223372036854775808 ≤ b)
def bitsV (b : Nat) : Int := if kind b = 1 then 9221120237041090561 else wrap64 (b : Int)
def fromInt (n : Int) : Nat := (IntKind.u64.wrap n).toNat
def ofV (n : Int) : Nat := if kind (fromInt n) = 1 then 9221120237041090561 else fromInt n
def rank (b : Nat) : Int := if kind b = 1 then 9221120237041090561 else if b < 9223372036854775808 then b else 9223372036854775807 - b
def sgn (m n : Int) : Int := if m < n then -1 else if n < m then 1 else 0
theorem sgn_lt {m n : Int} (h : m < n) : -1 = sgn m n := by rw [sgn, if_pos h]
theorem sgn_gt {m n : Int} (h : n < m) : 1 = sgn m n := by rw [sgn, if_neg (by omega), if_pos h]
theorem sgn_eq {m n : Int} (h : n ≤ m) (h' : m ≤ n) : 0 = sgn m n := by rw [sgn, if_neg (by omega), if_neg (by omega)]
def cmpV (a b : Nat) : Int := sgn (rank a) (rank b)

theorem wrap_u64 (n : Int) : IntKind.u64.wrap n = n % 18446744073709551616 := by simp [IntKind.wrap, IntKind.bits, IntKind.signed]

theorem fromInt_lt (n : Int) : fromInt n < 18446744073709551616 := by
  unfold fromInt; rw [wrap_u64]; omega

theorem ex_lt (b : Nat) : ex b < 2048 := by unfold ex; omega
theorem fr_lt (b : Nat) : fr b < 4503599627370496 := by unfold fr; omega

theorem field_ex (b : Nat) (hb : b < 18446744073709551616) : wrap64 (bits BinOp.and IntKind.u64 ((b : Int) / 4503599627370496) 2047) = (ex b : Int) := by
  have h : ((b : Int) / 4503599627370496) = ((b / 4503599627370496 : Nat) : Int) := by omega
  rw [h, show (2047 : Int) = ((2047 : Nat) : Int) from rfl, u64_and_nat _ _ (by omega) (by omega), nat_mask11, IntWalk.wrap64_in _ (by constructor <;> omega)]
  rfl
theorem field_fr (b : Nat) (hb : b < 18446744073709551616) : wrap64 (bits BinOp.and IntKind.u64 (b : Int) 4503599627370495) = (fr b : Int) := by
  rw [show (4503599627370495 : Int) = ((4503599627370495 : Nat) : Int) from rfl, u64_and_nat _ _ (by omega) (by omega), show (4503599627370495 : Nat) = 2 ^ 52 - 1 from by decide, Nat.and_two_pow_sub_one_eq_mod, IntWalk.wrap64_in _ (by constructor <;> omega)]
  rfl
theorem part_ex (b : Nat) (hb : b < 18446744073709551616) : wrap64 ((IntKind.u64.wrap ((b : Int) / 4503599627370496)).tmod 2048) = (ex b : Int) := by
  rw [wrap_u64]
  have h : ((b : Int) / 4503599627370496) % 18446744073709551616 = ((b / 4503599627370496 : Nat) : Int) := by omega
  rw [h, Int.tmod_eq_emod_of_nonneg (by omega), IntWalk.wrap64_in _ (by constructor <;> omega)]
  unfold ex; omega
theorem kind_cases (b : Nat) : kind b = 1 ∨ kind b = 2 ∨ kind b = 3 ∨ kind b = 4 ∨ kind b = 5 := by
  unfold kind; repeat (first | split | simp)
theorem bitsV_neg (b : Nat) (hb : b < 18446744073709551616) : decide (bitsV b < 0) = minus b := by
  unfold bitsV minus
  by_cases h : kind b = 1
  · simp [h]
  · simp only [h, if_false, ne_eq, not_false_eq_true, decide_true, Bool.true_and]
    unfold wrap64
    rw [decide_eq_decide]
    omega
theorem xor_ones (r : Nat) (h : r < 2 ^ 63) : r ^^^ (2 ^ 63 - 1) = 2 ^ 63 - 1 - r := by
  have e := congrArg BitVec.toNat (BitVec.xor_allOnes (x := BitVec.ofNat 63 r))
  rw [BitVec.toNat_xor, BitVec.toNat_not, BitVec.toNat_allOnes, BitVec.toNat_ofNat, Nat.mod_eq_of_lt h] at e
  exact e
theorem xor_top (r : Nat) (h : r < 2 ^ 63) : (2 ^ 63 + r) ^^^ (2 ^ 63 - 1) = 2 ^ 64 - 1 - r := by
  have hd := Nat.xor_div_two_pow (a := 2 ^ 63 + r) (b := 2 ^ 63 - 1) (n := 63)
  have hm := Nat.xor_mod_two_pow (a := 2 ^ 63 + r) (b := 2 ^ 63 - 1) (n := 63)
  rw [show (2 ^ 63 + r) / 2 ^ 63 = 1 from by omega, show (2 ^ 63 - 1) / 2 ^ 63 = 0 from by decide] at hd
  rw [show (2 ^ 63 + r) % 2 ^ 63 = r from by omega, show (2 ^ 63 - 1) % 2 ^ 63 = 2 ^ 63 - 1 from by decide, xor_ones r h] at hm
  simp only [Nat.xor_zero] at hd
  generalize (2 ^ 63 + r) ^^^ (2 ^ 63 - 1) = z at *
  omega
theorem xor_neg (n : Int) (h1 : -9223372036854775808 ≤ n) (h2 : n < 0) : bits .xor .i64 n 9223372036854775807 = -9223372036854775809 - n := by
  show IntKind.i64.wrap ((BitVec.ofInt 64 n ^^^ BitVec.ofInt 64 (9223372036854775807 : Int)).toNat : Int) = _
  have e1 : (BitVec.ofInt 64 n).toNat = 2 ^ 63 + (n + 9223372036854775808).toNat := by
    rw [BitVec.toNat_ofInt]; omega
  have e2 : (BitVec.ofInt 64 (9223372036854775807 : Int)).toNat = 2 ^ 63 - 1 := by decide
  rw [BitVec.toNat_xor, e1, e2, xor_top _ (by omega), IntKind.wrap_i64]
  omega
theorem rank_of (b : Nat) (hb : b < 18446744073709551616) : rank b = if bitsV b < 0 then bits .xor .i64 (bitsV b) 9223372036854775807 else bitsV b := by
  unfold rank bitsV
  by_cases h : kind b = 1
  · simp [h]
  · simp only [h, if_false]
    unfold wrap64
    by_cases h2 : b < 9223372036854775808
    · rw [if_pos h2, if_neg (by omega)]; omega
    · rw [if_neg h2, if_pos (by omega), xor_neg _ (by omega) (by omega)]; omega
def place (b : Nat) : Int := if kind b = 1 then 9223372036854775807 else if minus b then -1 - (b % 9223372036854775808 : Nat) else (b % 9223372036854775808 : Nat)
theorem nan_bits (b : Nat) (h : kind b ≠ 1) : b % 9223372036854775808 ≤ 9218868437227405312 := by
  have hk : ¬ (ex b = 2047 ∧ ¬ fr b = 0) := by
    rintro ⟨h1, h2⟩; apply h; simp [kind, h1, h2]
  unfold ex fr at hk
  omega
theorem cmp_place (a b : Nat) (ha : a < 18446744073709551616) (hb : b < 18446744073709551616) : sgn (place a) (place b) = cmpV a b := by
  have H : (place a < place b ↔ rank a < rank b) ∧ (place b < place a ↔ rank b < rank a) := by
    unfold place rank minus
    by_cases h1 : kind a = 1 <;> by_cases h2 : kind b = 1
    · simp [h1, h2]
    · have := nan_bits b h2
      simp only [h1, h2, if_true, if_false, ne_eq, not_false_eq_true, decide_true, Bool.true_and, decide_eq_true_eq]
      split <;> split <;> omega
    · have := nan_bits a h1
      simp only [h1, h2, if_true, if_false, ne_eq, not_false_eq_true, decide_true, Bool.true_and, decide_eq_true_eq]
      split <;> split <;> omega
    · simp only [h1, h2, if_false, ne_eq, not_false_eq_true, decide_true, Bool.true_and, decide_eq_true_eq]
      split <;> split <;> split <;> split <;> omega
  unfold cmpV sgn
  simp only [H.1, H.2]
theorem ne_dec (k : Int) : (k != 1) = decide (k ≠ 1) := by
  by_cases h : k = 1 <;> simp [h]
theorem place_int (b : Nat) : wrap64 ((b : Int) % 9223372036854775808) = (b % 9223372036854775808 : Nat) ∧ wrap64 (-1 - wrap64 ((b : Int) % 9223372036854775808)) = -1 - (b % 9223372036854775808 : Nat) := by
  unfold wrap64; omega
def mant (b : Nat) : Nat := if ex b = 0 then fr b else fr b + 4503599627370496
def dn (b : Nat) : Int := if ex b = 0 then 1074 else 1075 - (ex b : Int)
def rnd (m d : Nat) : Nat := if 2 ^ d < 2 * (m % 2 ^ d) ∨ (2 ^ d = 2 * (m % 2 ^ d) ∧ m / 2 ^ d % 2 = 1) then m / 2 ^ d + 1 else m / 2 ^ d
def inB (n lo hi : Int) : Bool := decide (lo ≤ n) && decide (n ≤ hi)
def fixV (b : Nat) (bits most : Int) : Int × Int :=
  if inB bits 0 32 = false ∨ inB most 0 1099511627776 = false then (0, 1)
  else if kind b = 1 then (0, 2) else if kind b = 2 then (0, 3)
  else if dn b ≤ bits then (0, 4)
  else if most < (rnd (mant b) (dn b - bits).toNat : Int) then (0, 4)
  else if minus b then (-(rnd (mant b) (dn b - bits).toNat : Int), 0) else ((rnd (mant b) (dn b - bits).toNat : Int), 0)
theorem mant_lt (b : Nat) : mant b < 9007199254740992 := by
  have := fr_lt b
  unfold mant; split <;> omega
theorem dn_le (b : Nat) : dn b ≤ 1074 ∧ -972 ≤ dn b := by
  have := ex_lt b
  unfold dn; split <;> omega
theorem or_top (f : Nat) (h : f < 4503599627370496) : bits BinOp.or IntKind.i64 (f : Int) 4503599627370496 = (f : Int) + 4503599627370496 := by
  have e := (bits_nat .i64 63 (by decide) (fun n h0 h1 => by rw [IntKind.wrap_i64]; omega) f 4503599627370496 (by omega) (by decide)).2
  rw [show ((4503599627370496 : Nat) : Int) = 4503599627370496 from rfl] at e
  rw [e, Nat.or_comm, nat_join 52 _ _ (by decide) (by omega)]
  omega
theorem near_facts (m d : Nat) (hm : m < 9007199254740992) (hd : 1 ≤ d) (hd2 : d ≤ 54) :
    wrap64 (2 ^ (d - 1)) = ((2 ^ (d - 1) : Nat) : Int) ∧ wrap64 ((m : Int) - wrap64 ((m : Int) / 2 ^ d * 2 ^ d)) = ((m % 2 ^ d : Nat) : Int) ∧ (m : Int) / 2 ^ d = ((m / 2 ^ d : Nat) : Int) := by
  have hp : (2 ^ d : Nat) ≤ 2 ^ 54 := Nat.pow_le_pow_right (by decide) hd2
  have hp1 : (2 ^ (d - 1) : Nat) ≤ 2 ^ 54 := Nat.pow_le_pow_right (by decide) (by omega)
  have e1 : ((2 : Int) ^ (d - 1)) = ((2 ^ (d - 1) : Nat) : Int) := by simp
  have e2 : ((2 : Int) ^ d) = ((2 ^ d : Nat) : Int) := by simp
  have e3 : (m : Int) / ((2 ^ d : Nat) : Int) = ((m / 2 ^ d : Nat) : Int) := by simp
  have e4 : ((m / 2 ^ d : Nat) : Int) * ((2 ^ d : Nat) : Int) = ((m / 2 ^ d * 2 ^ d : Nat) : Int) := by simp
  have hdm := Nat.div_add_mod m (2 ^ d)
  have hle : m / 2 ^ d * 2 ^ d ≤ m := Nat.div_mul_le_self _ _
  have hml : m % 2 ^ d ≤ m := Nat.mod_le _ _
  rw [e1, e2, e3, e4]
  rw [Nat.mul_comm] at hdm
  generalize (2 ^ (d - 1) : Nat) = A at *
  generalize (2 ^ d : Nat) = B at *
  generalize m / B * B = X at *
  generalize m % B = Y at *
  refine ⟨IntWalk.wrap64_in _ (by omega), ?_, rfl⟩
  rw [IntWalk.wrap64_in (X : Int) (by omega), IntWalk.wrap64_in _ (by omega)]
  omega
theorem near_up (m d : Nat) (hm : m < 9007199254740992) (h : 2 ^ d < 2 * (m % 2 ^ d) ∨ (2 ^ d = 2 * (m % 2 ^ d) ∧ m / 2 ^ d % 2 = 1)) : wrap64 (((m / 2 ^ d : Nat) : Int) + 1) = (rnd m d : Int) := by
  have : m / 2 ^ d ≤ m := Nat.div_le_self _ _
  rw [rnd, if_pos h]
  generalize m / 2 ^ d = X at *
  rw [IntWalk.wrap64_in _ (by omega)]
  omega
theorem near_down (m d : Nat) (h : ¬ (2 ^ d < 2 * (m % 2 ^ d) ∨ (2 ^ d = 2 * (m % 2 ^ d) ∧ m / 2 ^ d % 2 = 1))) : ((m / 2 ^ d : Nat) : Int) = (rnd m d : Int) := by
  rw [rnd, if_neg h]
theorem two_half (d : Nat) (hd : 1 ≤ d) : 2 ^ d = 2 * 2 ^ (d - 1) := by
  obtain ⟨k, rfl⟩ : ∃ k, d = k + 1 := ⟨d - 1, by omega⟩
  rw [Nat.pow_succ, Nat.add_sub_cancel, Nat.mul_comm]
theorem and_one (n : Nat) (h : n < 9007199254740992) : bits BinOp.and IntKind.i64 (n : Int) 1 = ((n % 2 : Nat) : Int) := by
  have e := bits_mask .i64 63 (by decide) (fun n h0 h1 => by rw [IntKind.wrap_i64]; omega) 1 (by decide) (n : Int) (by omega) (by omega)
  rw [show ((2 : Int) ^ 1 - 1) = 1 from rfl] at e
  rw [e]; omega
theorem rnd_zero (m d : Nat) (hm : m < 9007199254740992) (hd : 54 < d) : rnd m d = 0 := by
  have hp : (2 ^ 55 : Nat) ≤ 2 ^ d := Nat.pow_le_pow_right (by decide) hd
  have h1 : m / 2 ^ d = 0 := Nat.div_eq_of_lt (by omega)
  have h2 : m % 2 ^ d = m := Nat.mod_eq_of_lt (by omega)
  rw [rnd, h1, h2, if_neg (by omega)]
theorem inB_lo {n lo hi : Int} (h : inB n lo hi = true) : lo ≤ n := by simp [inB] at h; omega
theorem inB_hi {n lo hi : Int} (h : inB n lo hi = true) : n ≤ hi := by simp [inB] at h; omega
theorem rnd_le (m d : Nat) (hm : m < 9007199254740992) : rnd m d ≤ 9007199254740992 := by
  have : m / 2 ^ d ≤ m := Nat.div_le_self _ _
  unfold rnd; split <;> omega
theorem share_low (m t : Nat) (hm : m < 9007199254740992) (ht : t ≤ 16777216) :
    wrap64 (wrap64 ((m : Int) / 536870912 * t) + wrap64 (bits BinOp.and IntKind.i64 (m : Int) 536870911 * t) / 536870912) = ((m * t / 536870912 : Nat) : Int) ∧ m * t / 536870912 ≤ 562949953421312 := by
  have e := bits_mask .i64 63 (by decide) (fun n h0 h1 => by rw [IntKind.wrap_i64]; omega) 29 (by decide) (m : Int) (by omega) (by omega)
  rw [show ((2 : Int) ^ 29 - 1) = 536870911 from rfl, show ((2 : Int) ^ 29) = 536870912 from rfl] at e
  rw [e]
  have hA : m / 536870912 ≤ 16777216 := by omega
  have h1 : m / 536870912 * t ≤ 16777216 * 16777216 := Nat.mul_le_mul hA ht
  have h2 : m % 536870912 * t ≤ 536870912 * 16777216 := Nat.mul_le_mul (by omega) ht
  have h3 : m * t = 536870912 * (m / 536870912 * t) + m % 536870912 * t := by
    rw [← Nat.mul_assoc, ← Nat.add_mul, Nat.div_add_mod]
  have e1 : (m : Int) / 536870912 * t = ((m / 536870912 * t : Nat) : Int) := by simp
  have e2 : (m : Int) % 536870912 * t = ((m % 536870912 * t : Nat) : Int) := by simp
  rw [e1, e2, h3]
  generalize m / 536870912 * t = P at *
  generalize m % 536870912 * t = Q at *
  rw [IntWalk.wrap64_in (P : Int) (by omega), IntWalk.wrap64_in (Q : Int) (by omega), IntWalk.wrap64_in _ (by omega)]
  omega
theorem share_high (m t d : Nat) (hd : 53 ≤ d) (h : m * t / 536870912 ≤ 562949953421312) :
    ((m * t / 536870912 : Nat) : Int).fdiv (2 ^ min ((d : Int) - 29).toNat 64) = ((m * t / 2 ^ d : Nat) : Int) := by
  have e : ((d : Int) - 29).toNat = d - 29 := by omega
  have e2 : ((2 : Int) ^ min (d - 29) 64) = ((2 ^ min (d - 29) 64 : Nat) : Int) := by simp
  have e3 : 2 ^ d = 536870912 * 2 ^ (d - 29) := by
    rw [show (536870912 : Nat) = 2 ^ 29 from rfl, ← Nat.pow_add, show 29 + (d - 29) = d from by omega]
  rw [e, e2, Int.fdiv_eq_ediv_of_nonneg _ (by exact Int.natCast_nonneg _), e3, ← Nat.div_div_eq_div_mul, ← Int.natCast_ediv]
  congr 1
  by_cases hs : d - 29 ≤ 64
  · rw [Nat.min_eq_left hs]
  · have p1 : (2 ^ 64 : Nat) ≤ 2 ^ (d - 29) := Nat.pow_le_pow_right (by decide) (by omega)
    rw [Nat.min_eq_right (by omega), Nat.div_eq_of_lt (by omega), Nat.div_eq_of_lt (by omega)]
theorem pow_fit (k : Nat) (h : k ≤ 33) : wrap64 (2 ^ k) = ((2 ^ k : Nat) : Int) := by
  have hk2 : (2 ^ k : Nat) ≤ 2 ^ 33 := Nat.pow_le_pow_right (by decide) h
  have e : ((2 : Int) ^ k) = ((2 ^ k : Nat) : Int) := by simp
  rw [e, IntWalk.wrap64_in _ ⟨?_, ?_⟩]
  · have := Int.natCast_nonneg (2 ^ k); omega
  · have : ((2 ^ k : Nat) : Int) ≤ ((2 ^ 33 : Nat) : Int) := by exact_mod_cast hk2
    omega
def shareV (m t d : Nat) : Nat := m * t / 2 ^ d
def unitV (b : Nat) (top : Int) : Int × Int :=
  if inB top 0 16777216 = false then (0, 1) else if kind b = 1 then (0, 2) else if minus b then (0, 0)
  else if 4607182418800017408 ≤ b then (top, 0) else ((shareV (mant b) top.toNat (dn b).toNat : Nat), 0)
theorem dn_big (b : Nat) (h : b < 4607182418800017408) : 53 ≤ dn b := by
  unfold dn ex; split <;> omega
theorem ofV_lt (n : Int) : ofV n < 18446744073709551616 := by
  unfold ofV; split
  · decide
  · exact fromInt_lt n
theorem bits_of (n : Int) : bitsV (ofV n) = bitsV (fromInt n) := by
  unfold ofV
  by_cases h : kind (fromInt n) = 1
  · rw [if_pos h]
    rw [bitsV, if_pos (by decide), bitsV, if_pos h]
  · rw [if_neg h]
end Go.Proofs.Ytoimobmnbcbjiaa.M
