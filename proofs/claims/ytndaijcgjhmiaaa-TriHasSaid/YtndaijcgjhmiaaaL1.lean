/- Plain numbers of layer 2: a pair of words as a whole number, and back. What the signs of xor and and of two int64 are; xor with all ones, and and with it. The last step of a statement's row for a law that changes nothing of what was: the arguments are read again as they were. Plain: rows of numbers as functions, matrices, their products. Plain: sides and vertices as rows of numbers; what stands between two numbers. Plain numbers: lists of bits, the lowest first, as the document's answer has them. Plain numbers: the long division by two digits of 32 bits, as math/bits does it. Plain numbers: a quotient bit by bit. A slice that reads as a list, wherever it lies; an append of such a slice onto a row of the call's own. A region that draws its order whose last operation waits for all others, and may write what they read. -/
import Derived.WalkKit
import Derived.Lib.Zigzag
import Derived.Test.YtndaijcgjhmiaaaRows
import Derived.ProofKit
import Derived.OpenShut
import Derived.Below
import Derived.ChangeSame
import Derived.WideKeyArgs
import Derived.Laws.OwnMore
import Derived.Deep.AppendLies
import Derived.Deep.Draws
import Derived.Maps.AppendAt
import Derived.RegionTactic
import Derived.OwnWalk
import Derived.OrdersHeld
import Derived.Deep.RegionHeld3
set_option linter.unusedSimpArgs false
namespace Go.Proofs.Ytndaijcgjhmiaaa.M
set_option linter.unusedVariables false

def B (h l : Int) : Prop := -9223372036854775808 ≤ h ∧ h < 9223372036854775808 ∧ 0 ≤ l ∧ l < 18446744073709551616
def val (h l : Int) : Int := h * 18446744073709551616 + l
def ok (v : Int) : Bool := decide (-170141183460469231731687303715884105728 ≤ v) && decide (v < 170141183460469231731687303715884105728)
def oh (v : Int) : Int := if ok v = true then v / 18446744073709551616 else 0
def ol (v : Int) : Int := if ok v = true then v % 18446744073709551616 else 0
theorem ok_iff {v : Int} : ok v = true ↔ -170141183460469231731687303715884105728 ≤ v ∧ v < 170141183460469231731687303715884105728 := by
  unfold ok; rw [Bool.and_eq_true, decide_eq_true_iff, decide_eq_true_iff]
theorem ok_no {v : Int} (h : ok v = false) : v < -170141183460469231731687303715884105728 ∨ 170141183460469231731687303715884105728 ≤ v := by
  by_cases g : -170141183460469231731687303715884105728 ≤ v ∧ v < 170141183460469231731687303715884105728
  · rw [ok_iff.2 g] at h; cases h
  · omega
theorem ok_val {h l : Int} (b : B h l) : ok (val h l) = true := by
  obtain ⟨h1, h2, h3, h4⟩ := b
  rw [ok_iff]; unfold val; omega
theorem ohl_of {v h l : Int} (b : B h l) (e : v = val h l) : oh v = h ∧ ol v = l := by
  have o : ok v = true := by rw [e]; exact ok_val b
  unfold oh ol
  rw [if_pos o, if_pos o, e]
  obtain ⟨h1, h2, h3, h4⟩ := b
  unfold val
  omega
theorem oh_val {h l : Int} (b : B h l) : oh (val h l) = h := (ohl_of b rfl).1
theorem ol_val {h l : Int} (b : B h l) : ol (val h l) = l := (ohl_of b rfl).2
theorem no_of {v : Int} (h : ok v = false) : oh v = 0 ∧ ol v = 0 := by
  unfold oh ol; rw [h]; exact ⟨rfl, rfl⟩
theorem b_of (v : Int) : B (oh v) (ol v) := by
  unfold oh ol B
  by_cases o : ok v = true
  · rw [if_pos o, if_pos o]
    rw [ok_iff] at o
    omega
  · rw [if_neg o, if_neg o]; omega
theorem val_of {v : Int} (o : ok v = true) : val (oh v) (ol v) = v := by
  unfold oh ol val
  rw [if_pos o, if_pos o]
  omega
theorem val_inj {h l h' l' : Int} (b : B h l) (b' : B h' l') (e : val h l = val h' l') : h = h' ∧ l = l' := by
  have x := ohl_of b rfl
  have y := ohl_of b' e
  rw [x.1, x.2] at y; exact y

def sgn (m n : Int) : Int := if m < n then -1 else if n < m then 1 else 0
theorem sgn_lt {m n : Int} (h : m < n) : -1 = sgn m n := by unfold sgn; rw [if_pos h]
theorem sgn_gt {m n : Int} (h : n < m) : 1 = sgn m n := by unfold sgn; rw [if_neg (by omega), if_pos h]
theorem sgn_eq {m n : Int} (h : ¬ m < n) (g : ¬ n < m) : 0 = sgn m n := by unfold sgn; rw [if_neg h, if_neg g]
theorem val_00 : val 0 0 = 0 := rfl
theorem of_parts {n : Int} (h1 : -9223372036854775808 ≤ n) (h2 : n < 9223372036854775808) : n / 9223372036854775808 = oh n ∧ n % 18446744073709551616 = ol n := by
  have o : ok n = true := by rw [ok_iff]; omega
  unfold oh ol
  rw [if_pos o, if_pos o]
  omega
theorem sgn_val {h l h' l' : Int} (b : B h l) (b' : B h' l') : sgn (val h l) (val h' l') = if h = h' then sgn l l' else sgn h h' := by
  obtain ⟨h1, h2, h3, h4⟩ := b
  obtain ⟨h5, h6, h7, h8⟩ := b'
  unfold sgn val
  by_cases e : h = h'
  · rw [if_pos e]
    by_cases c : l < l'
    · rw [if_pos (by omega), if_pos c]
    · rw [if_neg (by omega), if_neg c]
      by_cases c : l' < l
      · rw [if_pos (by omega), if_pos c]
      · rw [if_neg (by omega), if_neg c]
  · rw [if_neg e]
    by_cases c : h < h'
    · rw [if_pos (by omega), if_pos c]
    · rw [if_neg (by omega), if_neg c, if_pos (by omega), if_pos (by omega)]
def fits (v : Int) : Bool := decide (-9223372036854775808 ≤ v) && decide (v < 9223372036854775808)
theorem fits_iff {v : Int} : fits v = true ↔ -9223372036854775808 ≤ v ∧ v < 9223372036854775808 := by
  unfold fits; rw [Bool.and_eq_true, decide_eq_true_iff, decide_eq_true_iff]
theorem small_of {h l n : Int} (b : B h l) (hn : (l + 9223372036854775808) % 18446744073709551616 - 9223372036854775808 = n) :
    (h = oh n → l = ol n → fits (val h l) = true ∧ n = val h l) ∧ (¬ (h = oh n ∧ l = ol n) → fits (val h l) = false) := by
  obtain ⟨p1, p2⟩ := of_parts (n := n) (by omega) (by omega)
  obtain ⟨h1, h2, h3, h4⟩ := b
  rw [← p1, ← p2]
  refine ⟨fun a b => ?_, fun a => ?_⟩
  · rw [fits_iff]; unfold val; omega
  · rw [Bool.eq_false_iff]; intro f; rw [fits_iff] at f; unfold val at f; omega
def smv (v : Int) : Int := if fits v = true then v else 0
theorem smv_yes {v : Int} (h : fits v = true) : smv v = v := by unfold smv; rw [if_pos h]
theorem smv_no {v : Int} (h : fits v = false) : smv v = 0 := by unfold smv; rw [h]; rfl
theorem tt_of {p q r : Prop} [Decidable p] [Decidable q] [Decidable r] : ((decide p != decide r) && (decide q != decide r)) = true ↔ ((p ∧ q ∧ ¬ r) ∨ (¬ p ∧ ¬ q ∧ r)) := by
  by_cases p <;> by_cases q <;> by_cases r <;> simp_all
theorem tt_of2 {p q r : Prop} [Decidable p] [Decidable q] [Decidable r] : ((decide p != decide q) && (decide p != decide r)) = true ↔ ((p ∧ ¬ q ∧ ¬ r) ∨ (¬ p ∧ q ∧ r)) := by
  by_cases p <;> by_cases q <;> by_cases r <;> simp_all
theorem add_of {h l h' l' c lo u u' s x : Int} (b : B h l) (b' : B h' l') (hc : (l + l') / 18446744073709551616 = c) (hlo : (l + l') % 18446744073709551616 = lo)
    (hu : h % 18446744073709551616 = u) (hu' : h' % 18446744073709551616 = u') (hs : (u + u' + c) % 18446744073709551616 = s) (hx : (s + 9223372036854775808) % 18446744073709551616 - 9223372036854775808 = x) :
    (ok (val h l + val h' l') = true → ((decide (h < 0) != decide (x < 0)) && (decide (h' < 0) != decide (x < 0))) = false ∧ x = oh (val h l + val h' l') ∧ lo = ol (val h l + val h' l')) ∧
    (ok (val h l + val h' l') = false → ((decide (h < 0) != decide (x < 0)) && (decide (h' < 0) != decide (x < 0))) = true) := by
  obtain ⟨h1, h2, h3, h4⟩ := b
  obtain ⟨h5, h6, h7, h8⟩ := b'
  refine ⟨fun o => ?_, fun o => ?_⟩
  · have hv : val h l + val h' l' = val x lo ∧ -9223372036854775808 ≤ x ∧ x < 9223372036854775808 := by
      rw [ok_iff] at o; unfold val at *; omega
    have := ohl_of (v := val h l + val h' l') (h := x) (l := lo) (by unfold B; omega) hv.1
    refine ⟨?_, this.1.symm, this.2.symm⟩
    rw [Bool.eq_false_iff]; intro g; rw [tt_of] at g; rw [ok_iff] at o; unfold val at *; omega
  · rw [tt_of]; have := ok_no o; unfold val at *; omega
theorem sub_of {h l h' l' c lo u u' s x : Int} (b : B h l) (b' : B h' l') (hc : -((l - l') / 18446744073709551616) = c) (hlo : (l - l') % 18446744073709551616 = lo)
    (hu : h % 18446744073709551616 = u) (hu' : h' % 18446744073709551616 = u') (hs : (u - u' - c) % 18446744073709551616 = s) (hx : (s + 9223372036854775808) % 18446744073709551616 - 9223372036854775808 = x) :
    (ok (val h l - val h' l') = true → ((decide (h < 0) != decide (h' < 0)) && (decide (h < 0) != decide (x < 0))) = false ∧ x = oh (val h l - val h' l') ∧ lo = ol (val h l - val h' l')) ∧
    (ok (val h l - val h' l') = false → ((decide (h < 0) != decide (h' < 0)) && (decide (h < 0) != decide (x < 0))) = true) := by
  obtain ⟨h1, h2, h3, h4⟩ := b
  obtain ⟨h5, h6, h7, h8⟩ := b'
  refine ⟨fun o => ?_, fun o => ?_⟩
  · have hv : val h l - val h' l' = val x lo ∧ -9223372036854775808 ≤ x ∧ x < 9223372036854775808 := by
      rw [ok_iff] at o; unfold val at *; omega
    have := ohl_of (v := val h l - val h' l') (h := x) (l := lo) (by unfold B; omega) hv.1
    refine ⟨?_, this.1.symm, this.2.symm⟩
    rw [Bool.eq_false_iff]; intro g; rw [tt_of2] at g; rw [ok_iff] at o; unfold val at *; omega
  · rw [tt_of2]; have := ok_no o; unfold val at *; omega
def w64 (n : Int) : Int := (n + 9223372036854775808) % 18446744073709551616 - 9223372036854775808
def ifn (m n : Int) : Int := if m < 0 then n else 0
theorem mul_hi {a b A B : Int} (h1 : -A ≤ a) (h2 : a ≤ A) (h3 : -B ≤ b) (h4 : b ≤ B) : -(A * B) ≤ a * b ∧ a * b ≤ A * B := by
  have hA : 0 ≤ A := by omega
  have hB : 0 ≤ B := by omega
  have h : (a * b).natAbs ≤ (A * B).natAbs := by
    rw [Int.natAbs_mul, Int.natAbs_mul]; exact Nat.mul_le_mul (by omega) (by omega)
  have : 0 ≤ A * B := Int.mul_nonneg hA hB
  omega
theorem mul_of {m n u u' hi lo : Int} (h1 : -9223372036854775808 ≤ m) (h2 : m < 9223372036854775808) (h3 : -9223372036854775808 ≤ n) (h4 : n < 9223372036854775808)
    (eu : m % 18446744073709551616 = u) (eu' : n % 18446744073709551616 = u') (ehi : u * u' / 18446744073709551616 = hi) (elo : u * u' % 18446744073709551616 = lo) :
    w64 (w64 (w64 hi - ifn m n) - ifn n m) = oh (m * n) ∧ lo = ol (m * n) := by
  have hz := mul_hi (a := m) (b := n) (A := 9223372036854775808) (B := 9223372036854775808) h1 (by omega) h3 (by omega)
  have o : ok (m * n) = true := by rw [ok_iff]; omega
  unfold oh ol
  rw [if_pos o, if_pos o]
  have key : u * u' = m * n + 18446744073709551616 * (ifn m n + ifn n m) + (if m < 0 then if n < 0 then 340282366920938463463374607431768211456 else 0 else 0) := by
    unfold ifn
    by_cases a : m < 0 <;> by_cases b : n < 0 <;> simp only [a, b, if_true, if_false]
    · rw [← eu, ← eu', show m % 18446744073709551616 = m + 18446744073709551616 by omega, show n % 18446744073709551616 = n + 18446744073709551616 by omega, Int.add_mul, Int.mul_add, Int.mul_add]; omega
    · rw [← eu, ← eu', show m % 18446744073709551616 = m + 18446744073709551616 by omega, show n % 18446744073709551616 = n by omega, Int.add_mul]; omega
    · rw [← eu, ← eu', show m % 18446744073709551616 = m by omega, show n % 18446744073709551616 = n + 18446744073709551616 by omega, Int.mul_add]; omega
    · rw [← eu, ← eu', show m % 18446744073709551616 = m by omega, show n % 18446744073709551616 = n by omega]; omega
  clear o
  generalize m * n = z at *
  generalize u * u' = t at *
  unfold w64 ifn at *
  by_cases a : m < 0 <;> by_cases b : n < 0 <;> simp only [a, b, if_true, if_false] at * <;> omega
def abs (v : Int) : Int := if v < 0 then -v else v
def sg (m : Bool) (v : Int) : Int := if m = true then -v else v
theorem size_of {h l : Int} (b : B h l) :
    (0 ≤ h → abs (val h l) / 18446744073709551616 = h ∧ abs (val h l) % 18446744073709551616 = l) ∧
    (h < 0 → abs (val h l) / 18446744073709551616 = (0 - h % 18446744073709551616 - -((0 - l) / 18446744073709551616)) % 18446744073709551616 ∧ abs (val h l) % 18446744073709551616 = (0 - l) % 18446744073709551616) := by
  obtain ⟨h1, h2, h3, h4⟩ := b
  unfold abs val
  refine ⟨fun a => ?_, fun a => ?_⟩
  · rw [if_neg (by omega)]; omega
  · rw [if_pos (by omega)]; omega
theorem signed_pos {x y : Int} (h1 : 0 ≤ x) (h2 : x < 18446744073709551616) (h3 : 0 ≤ y) (h4 : y < 18446744073709551616) :
    (x < 9223372036854775808 → w64 x = x ∧ ok (sg false (val x y)) = true ∧ x = oh (sg false (val x y)) ∧ y = ol (sg false (val x y))) ∧
    (9223372036854775808 ≤ x → w64 x = x - 18446744073709551616 ∧ ok (sg false (val x y)) = false) := by
  have e : sg false (val x y) = val x y := rfl
  rw [e]
  refine ⟨fun a => ?_, fun a => ?_⟩
  · have b : B x y := by unfold B; omega
    exact ⟨by unfold w64; omega, ok_val b, (oh_val b).symm, (ol_val b).symm⟩
  · refine ⟨by unfold w64; omega, ?_⟩
    rw [Bool.eq_false_iff]; intro o; rw [ok_iff] at o; unfold val at o; omega
theorem signed_neg {x y x' y' : Int} (h1 : 0 ≤ x) (h2 : x < 18446744073709551616) (h3 : 0 ≤ y) (h4 : y < 18446744073709551616)
    (ex : (0 - x - -((0 - y) / 18446744073709551616)) % 18446744073709551616 = x') (ey : (0 - y) % 18446744073709551616 = y') :
    (x' = 0 → y' = 0 → sg true (val x y) = 0) ∧
    (¬ (x' = 0 ∧ y' = 0) → 9223372036854775808 ≤ x' → w64 x' = x' - 18446744073709551616 ∧ ok (sg true (val x y)) = true ∧ w64 x' = oh (sg true (val x y)) ∧ y' = ol (sg true (val x y))) ∧
    (¬ (x' = 0 ∧ y' = 0) → x' < 9223372036854775808 → w64 x' = x' ∧ ok (sg true (val x y)) = false) := by
  have e : sg true (val x y) = -(val x y) := rfl
  rw [e]
  refine ⟨fun a b => ?_, fun n a => ?_, fun n a => ?_⟩
  · unfold val; omega
  · have hw : w64 x' = x' - 18446744073709551616 := by unfold w64; omega
    have hv : -(val x y) = val (x' - 18446744073709551616) y' := by unfold val; omega
    have b : B (x' - 18446744073709551616) y' := by unfold B; omega
    rw [hw, hv]
    exact ⟨rfl, ok_val b, (oh_val b).symm, (ol_val b).symm⟩
  · refine ⟨by unfold w64; omega, ?_⟩
    rw [Bool.eq_false_iff]; intro o; rw [ok_iff] at o; unfold val at o; omega
theorem ok0 : ok 0 = true ∧ oh 0 = 0 ∧ ol 0 = 0 := by refine ⟨?_, ?_, ?_⟩ <;> decide
end Go.Proofs.Ytndaijcgjhmiaaa.M
namespace Go.Proofs.Ytndaijcgjhmiaaa
open Go.RowKit
set_option linter.unusedVariables false

theorem toInt_of {a : Int} (h1 : -9223372036854775808 ≤ a) (h2 : a < 9223372036854775808) : (BitVec.ofInt 64 a).toInt = a := by
  rw [BitVec.toInt_ofInt]
  simp only [Int.bmod, Nat.reducePow, Int.reducePow]
  split <;> omega
theorem wrap_toInt (r : BitVec 64) : IntKind.i64.wrap ((r.toNat : Nat) : Int) = r.toInt := by
  rw [IntKind.wrap_i64, BitVec.toInt_eq_toNat_cond]
  have := r.isLt
  split <;> omega
theorem neg_of {a : Int} (h1 : -9223372036854775808 ≤ a) (h2 : a < 9223372036854775808) : (BitVec.ofInt 64 a).msb = decide (a < 0) := by
  rw [BitVec.msb_eq_toInt, toInt_of h1 h2]
theorem bits_rng (r : BitVec 64) : -9223372036854775808 ≤ r.toInt ∧ r.toInt < 9223372036854775808 := by
  have h1 := BitVec.le_toInt r
  have h2 := @BitVec.toInt_lt 64 r
  omega
theorem xor_is (a b : Int) : bits .xor .i64 a b = (BitVec.ofInt 64 a ^^^ BitVec.ofInt 64 b).toInt := by
  show IntKind.i64.wrap ((BitVec.ofInt 64 a ^^^ BitVec.ofInt 64 b).toNat : Int) = _
  exact wrap_toInt _
theorem and_is (a b : Int) : bits .and .i64 a b = (BitVec.ofInt 64 a &&& BitVec.ofInt 64 b).toInt := by
  show IntKind.i64.wrap ((BitVec.ofInt 64 a &&& BitVec.ofInt 64 b).toNat : Int) = _
  exact wrap_toInt _
theorem xor_rng (a b : Int) : -9223372036854775808 ≤ bits .xor .i64 a b ∧ bits .xor .i64 a b < 9223372036854775808 := by
  rw [xor_is]; exact bits_rng _
theorem xor_neg {a b : Int} (h1 : -9223372036854775808 ≤ a) (h2 : a < 9223372036854775808) (h3 : -9223372036854775808 ≤ b) (h4 : b < 9223372036854775808) :
    decide (bits .xor .i64 a b < 0) = (decide (a < 0) != decide (b < 0)) := by
  rw [xor_is, ← BitVec.msb_eq_toInt, BitVec.msb_xor, neg_of h1 h2, neg_of h3 h4]
theorem and_neg {a b : Int} (h1 : -9223372036854775808 ≤ a) (h2 : a < 9223372036854775808) (h3 : -9223372036854775808 ≤ b) (h4 : b < 9223372036854775808) :
    decide (bits .and .i64 a b < 0) = (decide (a < 0) && decide (b < 0)) := by
  rw [and_is, ← BitVec.msb_eq_toInt, BitVec.msb_and, neg_of h1 h2, neg_of h3 h4]
/-- The test of Add. -/
theorem add_test {h h' x : Int} (h1 : -9223372036854775808 ≤ h) (h2 : h < 9223372036854775808) (h3 : -9223372036854775808 ≤ h') (h4 : h' < 9223372036854775808) (h5 : -9223372036854775808 ≤ x) (h6 : x < 9223372036854775808) :
    decide (bits .and .i64 (bits .xor .i64 h x) (bits .xor .i64 h' x) < 0) = ((decide (h < 0) != decide (x < 0)) && (decide (h' < 0) != decide (x < 0))) := by
  rw [and_neg (xor_rng _ _).1 (xor_rng _ _).2 (xor_rng _ _).1 (xor_rng _ _).2, xor_neg h1 h2 h5 h6, xor_neg h3 h4 h5 h6]
theorem sub_test {h h' x : Int} (h1 : -9223372036854775808 ≤ h) (h2 : h < 9223372036854775808) (h3 : -9223372036854775808 ≤ h') (h4 : h' < 9223372036854775808) (h5 : -9223372036854775808 ≤ x) (h6 : x < 9223372036854775808) :
    decide (bits .and .i64 (bits .xor .i64 h h') (bits .xor .i64 h x) < 0) = ((decide (h < 0) != decide (h' < 0)) && (decide (h < 0) != decide (x < 0))) := by
  rw [and_neg (xor_rng _ _).1 (xor_rng _ _).2 (xor_rng _ _).1 (xor_rng _ _).2, xor_neg h1 h2 h5 h6, xor_neg h1 h2 h3 h4]
theorem and_ones {b : Int} (h1 : -9223372036854775808 ≤ b) (h2 : b < 9223372036854775808) : bits .and .i64 (-1) b = b := by
  rw [and_is, show BitVec.ofInt 64 (-1) = BitVec.allOnes 64 from by decide, BitVec.allOnes_and, toInt_of h1 h2]
theorem and_zero {b : Int} : bits .and .i64 0 b = 0 := by
  rw [and_is, show BitVec.ofInt 64 0 = 0#64 from by decide, BitVec.zero_and]; rfl
theorem xor_ones {b : Int} (h1 : -9223372036854775808 ≤ b) (h2 : b < 9223372036854775808) : bits .xor .i64 b (-1) = -1 - b := by
  rw [xor_is, show BitVec.ofInt 64 (-1) = BitVec.allOnes 64 from by decide, BitVec.xor_allOnes, BitVec.toInt_not]
  have hb : ((BitVec.ofInt 64 b).toNat : Int) = b % 18446744073709551616 := by
    rw [BitVec.toNat_ofInt]; omega
  simp only [Int.bmod, Nat.reducePow, Int.reducePow]
  split <;> omega
theorem xor_zero {b : Int} (h1 : -9223372036854775808 ≤ b) (h2 : b < 9223372036854775808) : bits .xor .i64 b 0 = b := by
  rw [xor_is, show BitVec.ofInt 64 0 = 0#64 from by decide, BitVec.xor_zero, toInt_of h1 h2]
theorem uxor_ones {b : Int} (h1 : 0 ≤ b) (h2 : b < 18446744073709551616) : bits .xor .u64 b 18446744073709551615 = 18446744073709551615 - b := by
  show IntKind.u64.wrap ((BitVec.ofInt 64 b ^^^ BitVec.ofInt 64 18446744073709551615).toNat : Int) = _
  rw [show BitVec.ofInt 64 18446744073709551615 = BitVec.allOnes 64 from by decide, BitVec.xor_allOnes, BitVec.toNat_not, BitVec.toNat_ofInt, IntKind.wrap_u64]
  omega
theorem uxor_zero {b : Int} (h1 : 0 ≤ b) (h2 : b < 18446744073709551616) : bits .xor .u64 b 0 = b := by
  show IntKind.u64.wrap ((BitVec.ofInt 64 b ^^^ BitVec.ofInt 64 0).toNat : Int) = _
  rw [show BitVec.ofInt 64 0 = 0#64 from by decide, BitVec.xor_zero, BitVec.toNat_ofInt, IntKind.wrap_u64]
  omega
end Go.Proofs.Ytndaijcgjhmiaaa
namespace Go.Proofs.Ytndaijcgjhmiaaa
open Go.ChangeShapes Go.WideShapes Go.ChangeAt Go.RowKit
set_option linter.unusedVariables false

section
variable {H : Type} {enc : TypeId × Value → H} {P : Program}
theorem trodAll_stays (hl : laidOutB P = true) {W W' : World} {sp : Nat → Bool} : ∀ {ts : List TypeId} {vs : List Value} {ds : List (DataW H)} {ps : List MemPlace},
    (∀ t ∈ ts, P.readableRec t = true ∧ t < P.types.size) → DataW.TrodAll enc P W 0 (fun _ => true) true ts vs ds ps → (∀ p ∈ ps, W.sameAt W' p) → (∀ p ∈ ps, sp p.block = true) →
    DataW.TrodAll enc P W' 0 sp true ts vs ds ps
  | [], [], [], _, _, h, _, _ => h
  | t :: ts, v :: vs, d :: ds, _, hr, ⟨p, q, h, h', e⟩, hs, hp => by
    subst e
    exact ⟨p, q, WideElems.Trod_stays hl (hr t List.mem_cons_self).1 (hr t List.mem_cons_self).2 h (fun x hx => hs x (List.mem_append_left _ hx)) (fun x hx => hp x (List.mem_append_left _ hx)),
      trodAll_stays hl (fun t ht => hr t (List.mem_cons_of_mem _ ht)) h' (fun x hx => hs x (List.mem_append_right _ hx)) (fun x hx => hp x (List.mem_append_right _ hx)), rfl⟩
/-- A law that answers true and leaves all that was as it was. -/
theorem post_true {f : Func} {s : ChangeSpec} {apart fresh handsOn again : Bool} {W W' : World} {args : Array Value} {ds gs : List (DataW H)} {before : List MemPlace} {tb : TypeId}
    (hl : laidOutB P = true) (hr : ∀ t ∈ f.params.toList, P.readableRec t = true ∧ t < P.types.size) (hres : f.resultTypes = #[tb]) (htb : P.underlying tb = some .bool) (hvs : s.vars = [])
    (hs : ∀ l : List (DataW H), l.length = ds.length → (s.fn H l).results = [.lit (.bool true)] ∧ (s.fn H l).args = l ∧ (s.fn H l).vars = [])
    (hW : DataW.Whole enc P f.params.toList s.vars apart W args.toList ds gs before) (hb : Below W.heap.size W W') :
    s.post enc P f apart fresh handsOn again W args (.bool true) W' := by
  have hlt : ∀ p ∈ before, p.block < W.heap.size := fun p hp => hW.lt p hp
  have hW0 := hW
  obtain ⟨p, q, hA, hV, rfl, hz, hn⟩ := hW0
  rw [hvs] at hV
  obtain ⟨rfl, rfl⟩ := trodVars_none hV
  obtain ⟨e1, e2, e3⟩ := hs (ds ++ []) (by simp)
  have hold : ∀ x ∈ p ++ [], (fun b => decide (b < W.heap.size)) x.block = true := fun x hx => by simpa using hlt x hx
  have st : ∀ sp : Nat → Bool, (∀ x ∈ p, sp x.block = true) → DataW.TrodAll enc P W' 0 sp true f.params.toList args.toList (s.fn H (ds ++ [])).args p := by
    intro sp hsp
    rw [e2, List.append_nil]
    exact trodAll_stays hl hr hA (fun x hx => hb.same (hlt x (by simpa using hx))) hsp
  have rs : ∀ (b : Nat) (sp : Nat → Bool) (hd : Bool), DataW.TrodAll enc P W' b sp hd f.resultTypes.toList ((Value.bool true).resultList f.resultTypes.size) (s.fn H (ds ++ [])).results [] := by
    intro b sp hd
    rw [e1, hres]
    exact trodAll_mk1 (shut_bool htb true)
  have vr : ∀ sp : Nat → Bool, DataW.TrodVars enc P W' sp s.vars (s.fn H (ds ++ [])).vars [] := by
    intro sp
    rw [e3, hvs]
    rfl
  refine ⟨ds, [], p ++ [], [], p, [], hW, rs _ _ _, st _ (fun x hx => hold x (by simpa using hx)), vr _, World.keptBut_mono (fun x hx => ⟨hx, by simpa using hx⟩) (hb.frame (· ∈ p ++ [])), fun _ => ?_⟩
  refine ⟨?_, _, _, ([] ++ p) ++ [], ⟨[] ++ p, [], trodAll_append (st _ (fun _ _ => rfl)) (rs _ _ _), vr _, rfl, ?_, ?_⟩, ?_⟩
  · exact ok_one hres rfl (okWide_bool_mk htb _)
  · intro b off hp
    have hin : MemPlace.cell b off ∈ p ++ [] := by simpa using hp
    rw [hb.frozen (hlt _ hin)]
    exact hz b off hin
  · intro ha
    simpa using hn ha
  · intro x hx _
    simpa using hx
end
theorem laid : laidOutB Try.prog = true := by kernel_rfl
theorem wf_rng {a : Int} (h : (Lit.int .i64 a).wf = true) : -9223372036854775808 ≤ a ∧ a < 9223372036854775808 := by
  simp only [Lit.wf, IntKind.min, IntKind.max, IntKind.signed, IntKind.bits, Bool.and_eq_true, decide_eq_true_eq, if_true] at h
  omega
end Go.Proofs.Ytndaijcgjhmiaaa
namespace Go.Proofs.Ytndaijcgjhmiaaa
set_option linter.unusedVariables false
namespace M
/-- The first n numbers of a as cells. -/
def mat (n : Nat) (a : Nat → Int) : List Value := (List.range n).map fun i => .int .i64 (a i)
theorem mat_len (n : Nat) (a : Nat → Int) : (mat n a).length = n := by simp [mat]
theorem mat_len2 (n : Nat) (a b : Nat → Int) : (mat n a).length = (mat n b).length := by rw [mat_len, mat_len]
theorem mat_get {n : Nat} {a : Nat → Int} {i : Nat} (h : i < n) : (mat n a)[i]? = some (.int .i64 (a i)) := by simp [mat, h]
theorem mat_ext {n : Nat} {a b : Nat → Int} (h : ∀ i, i < n → a i = b i) : mat n a = mat n b := by
  unfold mat
  exact List.map_congr_left fun i hi => by rw [h i (List.mem_range.1 hi)]
theorem mat_inj {n : Nat} {a b : Nat → Int} (h : mat n a = mat n b) : ∀ i, i < n → a i = b i := by
  intro i hi
  have := congrArg (·[i]?) h
  simp only [mat_get hi] at this
  simpa using this
theorem mat_set {n i : Nat} {a : Nat → Int} (v : Int) (h : i < n) : (mat n a).set i (.int .i64 v) = mat n (fun j => if j = i then v else a j) := by
  apply List.ext_getElem?
  intro j
  rw [List.getElem?_set]
  by_cases e : i = j
  · subst e
    rw [if_pos rfl, if_pos (by rw [mat_len]; exact h), mat_get h, if_pos rfl]
  · rw [if_neg e]
    by_cases hj : j < n
    · rw [mat_get hj, mat_get hj, if_neg (Ne.symm e)]
    · rw [List.getElem?_eq_none (by rw [mat_len]; omega), List.getElem?_eq_none (by rw [mat_len]; omega)]
theorem mat_set_to {n i : Nat} {a b : Nat → Int} {v : Int} (h : i < n) (hv : b i = v) (ho : ∀ j, j < n → j ≠ i → b j = a j) : (mat n a).set i (.int .i64 v) = mat n b := by
  rw [mat_set v h]
  refine mat_ext fun j hj => ?_
  show (if j = i then v else a j) = b j
  split
  · rename_i e; rw [e, hv]
  · rename_i e; rw [ho j hj e]
theorem mat_one (n : Nat) (a : Nat → Int) : ∀ v ∈ mat n a, v.oneCell' = true := by
  intro v hv
  obtain ⟨i, _, rfl⟩ := List.mem_map.1 hv
  rfl

/-- Are the first n numbers the same? -/
def eqB (n : Nat) (a b : Nat → Int) : Bool := (List.range n).all fun i => a i == b i
theorem eqB_iff {n : Nat} {a b : Nat → Int} : eqB n a b = true ↔ ∀ i, i < n → a i = b i := by simp [eqB]
theorem eqB_of {n : Nat} {a b : Nat → Int} (h : ∀ i, i < n → a i = b i) : eqB n a b = true := eqB_iff.2 h
theorem eqB_refl (n : Nat) (a : Nat → Int) : eqB n a a = true := eqB_of fun _ _ => rfl
def inB (most x : Int) : Bool := decide (-most ≤ x) && decide (x ≤ most)
theorem inB_iff {most x : Int} : inB most x = true ↔ -most ≤ x ∧ x ≤ most := by simp [inB]
theorem inB_no {most x : Int} : inB most x = false ↔ x < -most ∨ most < x := by
  rw [← Bool.not_eq_true, inB_iff]; omega
/-- Are the first n numbers from -most to most? -/
def allB (n : Nat) (most : Int) (a : Nat → Int) : Bool := (List.range n).all fun i => inB most (a i)
theorem allB_iff {n : Nat} {most : Int} {a : Nat → Int} : allB n most a = true ↔ ∀ i, i < n → -most ≤ a i ∧ a i ≤ most := by
  simp [allB, inB_iff]
theorem allB_no {n : Nat} {most : Int} {a : Nat → Int} {i : Nat} (h : i < n) (hi : inB most (a i) = false) : allB n most a = false := by
  rw [← Bool.not_eq_true, allB_iff]
  intro hall
  have := inB_iff.2 (hall i h)
  rw [hi] at this
  cases this
def big : Int := 268435456
def right (a : Nat → Int) : Bool := allB 16 268435456 a
theorem right_iff {a : Nat → Int} : right a = true ↔ ∀ i, i < 16 → -268435456 ≤ a i ∧ a i ≤ 268435456 := allB_iff
/-- A number brought among -2^28 and 2^28. -/
def clamp (x : Int) : Int := min (max x (-268435456)) 268435456
theorem clamp_eq (x : Int) : x = clamp x ↔ -268435456 ≤ x ∧ x ≤ 268435456 := by unfold clamp; omega
theorem right_clamp (a : Nat → Int) : eqB 16 a (fun i => clamp (a i)) = right a := by
  rw [Bool.eq_iff_iff, eqB_iff, right_iff]
  exact ⟨fun h i hi => (clamp_eq _).1 (h i hi), fun h i hi => (clamp_eq _).2 (h i hi)⟩
def flip (a : Nat → Int) (j : Nat) : Int := a (4 * (j % 4) + j / 4)
def row (a : Nat → Int) (i k : Nat) : Int := a (4 * i + k)
def col (a : Nat → Int) (k n : Nat) : Int := a (4 * n + k)
def part (x y : Nat → Int) : Nat → Int
  | 0 => 0
  | n + 1 => part x y n + x n * y n
def dot (x y : Nat → Int) : Int := part x y 4 / 65536
def prod (a b : Nat → Int) (j : Nat) : Int := dot (row a (j / 4)) (col b (j % 4))
def app (m v : Nat → Int) (i : Nat) : Int := dot (row m i) v
def unit (j : Nat) : Int := if j / 4 = j % 4 then 65536 else 0
def zero (_ : Nat) : Int := 0
theorem part_le {x y : Nat → Int} (hx : ∀ i, i < 4 → -268435456 ≤ x i ∧ x i ≤ 268435456) (hy : ∀ i, i < 4 → -268435456 ≤ y i ∧ y i ≤ 268435456) :
    ∀ n : Nat, n ≤ 4 → -(72057594037927936 * (n : Int)) ≤ part x y n ∧ part x y n ≤ 72057594037927936 * (n : Int) := by
  intro n
  induction n with
  | zero => intro _; simp [part]
  | succ n ih =>
    intro hn
    obtain ⟨h1, h2⟩ := ih (by omega)
    obtain ⟨h3, h4⟩ := hx n (by omega)
    obtain ⟨h5, h6⟩ := hy n (by omega)
    have h : -72057594037927936 ≤ x n * y n ∧ x n * y n ≤ 72057594037927936 := by
      have e1 := Int.mul_nonneg (show 0 ≤ 268435456 - x n by omega) (show 0 ≤ 268435456 - y n by omega)
      have e2 := Int.mul_nonneg (show 0 ≤ 268435456 + x n by omega) (show 0 ≤ 268435456 + y n by omega)
      have e3 := Int.mul_nonneg (show 0 ≤ 268435456 - x n by omega) (show 0 ≤ 268435456 + y n by omega)
      have e4 := Int.mul_nonneg (show 0 ≤ 268435456 + x n by omega) (show 0 ≤ 268435456 - y n by omega)
      simp only [Int.sub_mul, Int.add_mul, Int.mul_sub, Int.mul_add] at e1 e2 e3 e4
      generalize x n * y n = p at *
      omega
    rw [part]
    generalize x n * y n = p at *
    omega
theorem mul_le {x y : Int} (hx : -268435456 ≤ x ∧ x ≤ 268435456) (hy : -268435456 ≤ y ∧ y ≤ 268435456) : -72057594037927936 ≤ x * y ∧ x * y ≤ 72057594037927936 := by
  have := part_le (x := fun _ => x) (y := fun _ => y) (fun _ _ => hx) (fun _ _ => hy) 1 (by omega)
  simpa [part] using this
theorem part_ext {x y x' y' : Nat → Int} : ∀ n : Nat, (∀ i, i < n → x i = x' i) → (∀ i, i < n → y i = y' i) → part x y n = part x' y' n
  | 0, _, _ => rfl
  | n + 1, hx, hy => by rw [part, part, part_ext n (fun i hi => hx i (by omega)) (fun i hi => hy i (by omega)), hx n (by omega), hy n (by omega)]
theorem dot_ext {x y x' y' : Nat → Int} (hx : ∀ i, i < 4 → x i = x' i) (hy : ∀ i, i < 4 → y i = y' i) : dot x y = dot x' y' := by rw [dot, dot, part_ext 4 hx hy]
theorem row_rng {a : Nat → Int} (h : right a = true) {i : Nat} (hi : i < 4) : ∀ j, j < 4 → -268435456 ≤ row a i j ∧ row a i j ≤ 268435456 := fun j hj => right_iff.1 h (4 * i + j) (by omega)
theorem col_rng {a : Nat → Int} (h : right a = true) {k : Nat} (hk : k < 4) : ∀ j, j < 4 → -268435456 ≤ col a k j ∧ col a k j ≤ 268435456 := fun j hj => right_iff.1 h (4 * j + k) (by omega)
theorem row_flip (b : Nat → Int) (k : Nat) (hk : k < 4) : ∀ n, n < 4 → row (flip b) k n = col b k n := fun n hn => by
  unfold row flip col
  rw [show (4 * k + n) % 4 = n by omega, show (4 * k + n) / 4 = k by omega]
theorem prod_at (a b : Nat → Int) (i k : Nat) (hk : k < 4) : prod a b (4 * i + k) = dot (row a i) (col b k) := by
  unfold prod
  rw [show (4 * i + k) / 4 = i by omega, show (4 * i + k) % 4 = k by omega]
/-- The first n entries of a product. -/
def prodK (a b : Nat → Int) (n j : Nat) : Int := if j < n then prod a b j else 0
theorem prodK_set (a b : Nat → Int) (n : Nat) (hn : n < 16) {v : Int} (hv : prod a b n = v) : (mat 16 (prodK a b n)).set n (.int .i64 v) = mat 16 (prodK a b (n + 1)) :=
  mat_set_to hn (by simp [prodK, hv]) fun j _ hj => by
    simp only [prodK]
    by_cases h : j < n
    · rw [if_pos h, if_pos (by omega)]
    · rw [if_neg h, if_neg (by omega)]
theorem prodK_0 (a b : Nat → Int) : mat 16 (prodK a b 0) = mat 16 zero := mat_ext fun j hj => by simp [prodK, zero]
theorem prodK_end (a b : Nat → Int) : mat 16 (prodK a b 16) = mat 16 (prod a b) := mat_ext fun j hj => by simp [prodK, hj]
theorem right_ext {a b : Nat → Int} (h : ∀ i, i < 16 → a i = b i) : right a = right b := by
  rw [Bool.eq_iff_iff, right_iff, right_iff]
  exact ⟨fun g i hi => by rw [← h i hi]; exact g i hi, fun g i hi => by rw [h i hi]; exact g i hi⟩
theorem allB_ext {n : Nat} {most : Int} {a b : Nat → Int} (h : ∀ i, i < n → a i = b i) : allB n most a = allB n most b := by
  rw [Bool.eq_iff_iff, allB_iff, allB_iff]
  exact ⟨fun g i hi => by rw [← h i hi]; exact g i hi, fun g i hi => by rw [h i hi]; exact g i hi⟩
/-- What Mul answers. -/
def mul (a b : Nat → Int) : (Nat → Int) × Int := if right a && right b then (if right (prod a b) then (prod a b, 0) else (zero, 4)) else (zero, 1)
/-- What Apply answers. -/
def apply (m v : Nat → Int) (most : Int) : (Nat → Int) × Int :=
  if right m && allB 4 268435456 v && decide (0 ≤ most) && decide (most ≤ 68719476736) then (if allB 4 most (app m v) then (app m v, 0) else (zero, 4)) else (zero, 1)
end M
end Go.Proofs.Ytndaijcgjhmiaaa
namespace Go.Proofs.Ytndaijcgjhmiaaa
set_option linter.unusedVariables false
namespace D
def inB (lo hi x : Int) : Bool := decide (lo ≤ x) && decide (x ≤ hi)
theorem inB_iff {lo hi x : Int} : inB lo hi x = true ↔ lo ≤ x ∧ x ≤ hi := by simp [inB]
theorem inB_no {lo hi x : Int} : inB lo hi x = false ↔ x < lo ∨ hi < x := by
  rw [← Bool.not_eq_true, inB_iff]; omega
/-- Are the first n numbers from lo to hi? -/
def allB (n : Nat) (lo hi : Int) (a : Nat → Int) : Bool := (List.range n).all fun i => inB lo hi (a i)
theorem allB_iff {n : Nat} {lo hi : Int} {a : Nat → Int} : allB n lo hi a = true ↔ ∀ i, i < n → lo ≤ a i ∧ a i ≤ hi := by
  simp [allB, inB_iff]
theorem allB_no {n : Nat} {lo hi : Int} {a : Nat → Int} {i : Nat} (h : i < n) (hi' : inB lo hi (a i) = false) : allB n lo hi a = false := by
  rw [← Bool.not_eq_true, allB_iff]
  intro hall
  have := inB_iff.2 (hall i h)
  rw [hi'] at this
  cases this
def sub (k : Nat) (a : Nat → Int) (i : Nat) : Int := a (k + i)
def coef (s : Nat → Int) : Bool := allB 4 (-32768) 32768 (sub 1 s)
/-- May a side be? -/
def right (s : Nat → Int) : Bool := if s 0 = 3 then coef s else inB 0 2 (s 0) && M.eqB 4 (sub 1 s) M.zero
def place (v : Nat → Int) : Bool := allB 4 (-68719476736) 68719476736 v
def color (v : Nat → Int) : Bool := allB 4 0 255 (sub 4 v)
/-- Does a vertex fit? -/
def fits (v : Nat → Int) : Bool := place v && color v
theorem place_iff {v : Nat → Int} : place v = true ↔ ∀ i, i < 4 → -68719476736 ≤ v i ∧ v i ≤ 68719476736 := allB_iff
theorem color_iff {v : Nat → Int} : color v = true ↔ ∀ i, i < 4 → 0 ≤ v (4 + i) ∧ v (4 + i) ≤ 255 := allB_iff
theorem fits_iff {v : Nat → Int} : fits v = true ↔ (∀ i, i < 4 → -68719476736 ≤ v i ∧ v i ≤ 68719476736) ∧ ∀ i, i < 4 → 0 ≤ v (4 + i) ∧ v (4 + i) ≤ 255 := by
  rw [fits, Bool.and_eq_true, place_iff, color_iff]
theorem fits_rng {v : Nat → Int} (h : fits v = true) {i : Nat} (hi : i < 8) : -68719476736 ≤ v i ∧ v i ≤ 68719476736 := by
  obtain ⟨h1, h2⟩ := fits_iff.1 h
  by_cases h4 : i < 4
  · exact h1 i h4
  · have := h2 (i - 4) (by omega)
    rw [show 4 + (i - 4) = i by omega] at this
    omega
/-- The sum of the first n products. -/
def part (x y : Nat → Int) : Nat → Int
  | 0 => 0
  | n + 1 => part x y n + x n * y n
def dist (s v : Nat → Int) : Int := if s 0 = 0 then v 3 - 1 else if s 0 = 1 then v 3 + v 2 else if s 0 = 2 then v 3 - v 2 else part (sub 1 s) v 4
theorem mul_le {x y : Int} (hx : -32768 ≤ x ∧ x ≤ 32768) (hy : -68719476736 ≤ y ∧ y ≤ 68719476736) : -2251799813685248 ≤ x * y ∧ x * y ≤ 2251799813685248 := by
  have e1 := Int.mul_nonneg (show 0 ≤ 32768 - x by omega) (show 0 ≤ 68719476736 - y by omega)
  have e2 := Int.mul_nonneg (show 0 ≤ 32768 + x by omega) (show 0 ≤ 68719476736 + y by omega)
  have e3 := Int.mul_nonneg (show 0 ≤ 32768 - x by omega) (show 0 ≤ 68719476736 + y by omega)
  have e4 := Int.mul_nonneg (show 0 ≤ 32768 + x by omega) (show 0 ≤ 68719476736 - y by omega)
  simp only [Int.sub_mul, Int.add_mul, Int.mul_sub, Int.mul_add] at e1 e2 e3 e4
  generalize x * y = p at *
  omega
theorem part_le {x y : Nat → Int} (hx : ∀ i, i < 4 → -32768 ≤ x i ∧ x i ≤ 32768) (hy : ∀ i, i < 4 → -68719476736 ≤ y i ∧ y i ≤ 68719476736) :
    ∀ n : Nat, n ≤ 4 → -(2251799813685248 * (n : Int)) ≤ part x y n ∧ part x y n ≤ 2251799813685248 * (n : Int) := by
  intro n
  induction n with
  | zero => intro _; simp [part]
  | succ n ih =>
    intro hn
    obtain ⟨h1, h2⟩ := ih (by omega)
    have h := mul_le (hx n (by omega)) (hy n (by omega))
    rw [part]
    generalize x n * y n = p at *
    omega
theorem coef_of {s : Nat → Int} (h : right s = true) : ∀ i, i < 4 → -32768 ≤ s (1 + i) ∧ s (1 + i) ≤ 32768 := by
  intro i hi
  unfold right at h
  split at h
  · exact allB_iff.1 h i hi
  · rw [Bool.and_eq_true] at h
    have := M.eqB_iff.1 h.2 i hi
    simp only [sub, M.zero] at this
    omega
theorem kind_of {s : Nat → Int} (h : right s = true) : 0 ≤ s 0 ∧ s 0 ≤ 3 := by
  unfold right at h
  split at h
  · omega
  · rw [Bool.and_eq_true] at h
    have := inB_iff.1 h.1
    omega
theorem dist_le {s v : Nat → Int} (hs : right s = true) (hv : fits v = true) : -9007199254740992 ≤ dist s v ∧ dist s v ≤ 9007199254740992 := by
  have h3 := fits_rng hv (i := 3) (by omega)
  have h2 := fits_rng hv (i := 2) (by omega)
  unfold dist
  split
  · omega
  split
  · omega
  split
  · omega
  have := part_le (x := sub 1 s) (fun i hi => coef_of hs i hi) (fun i hi => (fits_iff.1 hv).1 i hi) 4 (by omega)
  omega
/-- What stands n d-ths on the way, rounded down. -/
def wt (a b n d : Int) : Int := (a * (d - n) + b * n) / d
theorem num_le {a b n d m M : Int} (ha : m ≤ a ∧ a ≤ M) (hb : m ≤ b ∧ b ≤ M) (hn : 0 ≤ n ∧ n ≤ d) : m * d ≤ a * (d - n) + b * n ∧ a * (d - n) + b * n ≤ M * d := by
  have e1 := Int.mul_le_mul_of_nonneg_right ha.1 (show 0 ≤ d - n by omega)
  have e2 := Int.mul_le_mul_of_nonneg_right ha.2 (show 0 ≤ d - n by omega)
  have e3 := Int.mul_le_mul_of_nonneg_right hb.1 hn.1
  have e4 := Int.mul_le_mul_of_nonneg_right hb.2 hn.1
  rw [Int.mul_sub] at e1 e2
  rw [Int.mul_sub] at e1 e2
  rw [Int.mul_sub]
  generalize m * d = x1 at *
  generalize m * n = x2 at *
  generalize a * d = x3 at *
  generalize a * n = x4 at *
  generalize b * n = x5 at *
  generalize M * d = x6 at *
  generalize M * n = x7 at *
  omega
theorem wt_le {a b n d m M : Int} (ha : m ≤ a ∧ a ≤ M) (hb : m ≤ b ∧ b ≤ M) (hn : 0 ≤ n ∧ n ≤ d) (hd : 1 ≤ d) : m ≤ wt a b n d ∧ wt a b n d ≤ M := by
  obtain ⟨h1, h2⟩ := num_le ha hb hn
  unfold wt
  refine ⟨(Int.le_ediv_iff_mul_le (by omega)).2 h1, ?_⟩
  have := Int.ediv_le_ediv (show 0 < d by omega) h2
  rwa [Int.mul_ediv_cancel _ (by omega)] at this
theorem wt_mid {a b n d : Int} (hn : 0 ≤ n ∧ n ≤ d) (hd : 1 ≤ d) : min a b ≤ wt a b n d ∧ wt a b n d ≤ max a b := wt_le (by omega) (by omega) hn hd
theorem wt_0 {a b d : Int} (hd : 1 ≤ d) : wt a b 0 d = a := by
  unfold wt
  rw [Int.sub_zero, Int.mul_zero, Int.add_zero, Int.mul_ediv_cancel _ (by omega)]
theorem wt_d {a b d : Int} (hd : 1 ≤ d) : wt a b d d = b := by
  unfold wt
  rw [Int.sub_self, Int.mul_zero, Int.zero_add, Int.mul_ediv_cancel _ (by omega)]
theorem wt_back (a b n d : Int) : wt b a (d - n) d = wt a b n d := by
  unfold wt
  rw [show d - (d - n) = n by omega, Int.add_comm]
def way (a b : Nat → Int) (n d : Int) (i : Nat) : Int := wt (a i) (b i) n d
def okAt (a b : Nat → Int) (n d : Int) : Bool := fits a && fits b && decide (1 ≤ d) && decide (0 ≤ n) && decide (n ≤ d)
theorem okAt_iff {a b : Nat → Int} {n d : Int} : okAt a b n d = true ↔ fits a = true ∧ fits b = true ∧ 1 ≤ d ∧ 0 ≤ n ∧ n ≤ d := by
  simp only [okAt, Bool.and_eq_true, decide_eq_true_eq, and_assoc]
/-- What At answers. -/
def at_ (a b : Nat → Int) (n d : Int) : (Nat → Int) × Int := if okAt a b n d = true then (way a b n d, 0) else (M.zero, 1)
theorem at_yes {a b : Nat → Int} {n d : Int} (h : okAt a b n d = true) : at_ a b n d = (way a b n d, 0) := if_pos h
theorem at_no {a b : Nat → Int} {n d : Int} (h : okAt a b n d = false) : at_ a b n d = (M.zero, 1) := if_neg (by rw [h]; decide)
theorem way_fits {a b : Nat → Int} {n d : Int} (h : okAt a b n d = true) : fits (way a b n d) = true := by
  obtain ⟨ha, hb, hd, h0, h1⟩ := okAt_iff.1 h
  have A := fits_iff.1 ha
  have B := fits_iff.1 hb
  exact fits_iff.2 ⟨fun i hi => wt_le (A.1 i hi) (B.1 i hi) ⟨h0, h1⟩ hd, fun i hi => wt_le (A.2 i hi) (B.2 i hi) ⟨h0, h1⟩ hd⟩
/-- The numerator. -/
def nu (a b n d : Int) : Int := a * (d - n) + b * n
theorem slackB {P r d : Int} (h0 : 0 ≤ r) (h1 : r < d) : P * r ≤ max P (0 - P) * (d - 1) ∧ -(max P (0 - P) * (d - 1)) ≤ P * r := by
  have hm : P ≤ max P (0 - P) ∧ -(max P (0 - P)) ≤ P ∧ 0 ≤ max P (0 - P) := by omega
  generalize max P (0 - P) = m at *
  have e1 := Int.mul_le_mul_of_nonneg_right hm.1 h0
  have e2 := Int.mul_le_mul_of_nonneg_left (show r ≤ d - 1 by omega) hm.2.2
  have e3 := Int.mul_le_mul_of_nonneg_right hm.2.1 h0
  rw [Int.neg_mul] at e3
  omega
/-- The first n coefficients without their signs, together. -/
def slack (s : Nat → Int) : Nat → Int
  | 0 => 0
  | n + 1 => slack s n + max (s (1 + n)) (0 - s (1 + n))
theorem slack_le {s : Nat → Int} (h : right s = true) : ∀ n : Nat, n ≤ 4 → 0 ≤ slack s n ∧ slack s n ≤ 32768 * n := by
  intro n
  induction n with
  | zero => intro _; simp [slack]
  | succ n ih =>
    intro hn
    have h1 := ih (by omega)
    have h2 := coef_of h n (by omega)
    rw [slack]
    omega
theorem quo {N d v : Int} (hd : 1 ≤ d) (hv : N / d = v) : ∃ r, N = v * d + r ∧ 0 ≤ r ∧ r < d := by
  refine ⟨N % d, ?_, Int.emod_nonneg _ (by omega), Int.emod_lt_of_pos _ (by omega)⟩
  subst hv
  rw [Int.mul_comm]
  exact (Int.mul_ediv_add_emod N d).symm
theorem meet_eq (P0 P1 P2 P3 a0 a1 a2 a3 b0 b1 b2 b3 p q : Int) (hp : P0 * a0 + P1 * a1 + P2 * a2 + P3 * a3 = p) (hq : P0 * b0 + P1 * b1 + P2 * b2 + P3 * b3 = q) :
    P0 * (a0 * (p - q - p) + b0 * p) + P1 * (a1 * (p - q - p) + b1 * p) + P2 * (a2 * (p - q - p) + b2 * p) + P3 * (a3 * (p - q - p) + b3 * p) = 0 := by
  have e : p - q - p = -q := by omega
  rw [e]
  have : P0 * (a0 * -q + b0 * p) + P1 * (a1 * -q + b1 * p) + P2 * (a2 * -q + b2 * p) + P3 * (a3 * -q + b3 * p) = -q * (P0 * a0 + P1 * a1 + P2 * a2 + P3 * a3) + p * (P0 * b0 + P1 * b1 + P2 * b2 + P3 * b3) := by
    simp only [Int.mul_add, Int.neg_mul, Int.mul_neg]
    have c : ∀ x y z : Int, x * (y * z) = z * (x * y) := fun x y z => by rw [Int.mul_comm z, Int.mul_assoc]
    rw [c P0 a0 q, c P1 a1 q, c P2 a2 q, c P3 a3 q, c P0 b0 p, c P1 b1 p, c P2 b2 p, c P3 b3 p]
    omega
  rw [this, hp, hq, Int.neg_mul, Int.mul_comm p q]
  omega
theorem meet_sum {P0 P1 P2 P3 v0 v1 v2 v3 r0 r1 r2 r3 d : Int} (hd : 1 ≤ d) (h0 : 0 ≤ r0 ∧ r0 < d) (h1 : 0 ≤ r1 ∧ r1 < d) (h2 : 0 ≤ r2 ∧ r2 < d) (h3 : 0 ≤ r3 ∧ r3 < d)
    (h : P0 * (v0 * d + r0) + P1 * (v1 * d + r1) + P2 * (v2 * d + r2) + P3 * (v3 * d + r3) = 0) :
    -(max P0 (0 - P0) + max P1 (0 - P1) + max P2 (0 - P2) + max P3 (0 - P3)) ≤ P0 * v0 + P1 * v1 + P2 * v2 + P3 * v3 ∧ P0 * v0 + P1 * v1 + P2 * v2 + P3 * v3 ≤ max P0 (0 - P0) + max P1 (0 - P1) + max P2 (0 - P2) + max P3 (0 - P3) := by
  have s0 := slackB (P := P0) h0.1 h0.2
  have s1 := slackB (P := P1) h1.1 h1.2
  have s2 := slackB (P := P2) h2.1 h2.2
  have s3 := slackB (P := P3) h3.1 h3.2
  have hm : 0 ≤ max P0 (0 - P0) ∧ 0 ≤ max P1 (0 - P1) ∧ 0 ≤ max P2 (0 - P2) ∧ 0 ≤ max P3 (0 - P3) := by omega
  simp only [Int.mul_add] at h
  rw [← Int.mul_assoc, ← Int.mul_assoc, ← Int.mul_assoc, ← Int.mul_assoc] at h
  have hx : (P0 * v0 + P1 * v1 + P2 * v2 + P3 * v3) * d = P0 * v0 * d + P1 * v1 * d + P2 * v2 * d + P3 * v3 * d := by simp only [Int.add_mul]
  obtain ⟨S, hS⟩ : ∃ S, max P0 (0 - P0) + max P1 (0 - P1) + max P2 (0 - P2) + max P3 (0 - P3) = S := ⟨_, rfl⟩
  have hSd : S * (d - 1) = max P0 (0 - P0) * (d - 1) + max P1 (0 - P1) * (d - 1) + max P2 (0 - P2) * (d - 1) + max P3 (0 - P3) * (d - 1) := by rw [← hS]; simp only [Int.add_mul]
  have hS0 : 0 ≤ S := by omega
  rw [hS]
  generalize max P0 (0 - P0) * (d - 1) = m0 at *
  generalize max P1 (0 - P1) * (d - 1) = m1 at *
  generalize max P2 (0 - P2) * (d - 1) = m2 at *
  generalize max P3 (0 - P3) * (d - 1) = m3 at *
  generalize P0 * v0 + P1 * v1 + P2 * v2 + P3 * v3 = x at *
  have hb : -(S * (d - 1)) ≤ x * d ∧ x * d ≤ S * (d - 1) := by
    rw [hx, hSd]
    generalize P0 * v0 * d = y0 at *
    generalize P1 * v1 * d = y1 at *
    generalize P2 * v2 * d = y2 at *
    generalize P3 * v3 * d = y3 at *
    omega
  have hle : S * (d - 1) ≤ S * d := Int.mul_le_mul_of_nonneg_left (by omega) hS0
  refine ⟨?_, ?_⟩
  · refine Int.le_of_mul_le_mul_right (a := d) ?_ (by omega)
    rw [Int.neg_mul]
    omega
  · exact Int.le_of_mul_le_mul_right (a := d) (by omega) (by omega)
/-- Where the way meets the side. -/
theorem meets {s a b : Nat → Int} {p q : Int} (hs : right s = true) (hp : dist s a = p) (hq : dist s b = q) (p0 : 0 ≤ p) (q0 : q < 0) :
    ((s 0 = 0 ∨ s 0 = 2) → dist s (way a b p (p - q)) = 0) ∧ (s 0 = 1 → dist s (way a b p (p - q)) = 0 ∨ dist s (way a b p (p - q)) = -1) ∧
    (s 0 = 3 → dist s (way a b p (p - q)) ≤ slack s 4 ∧ 0 - slack s 4 ≤ dist s (way a b p (p - q))) := by
  have hd : 1 ≤ p - q := by omega
  refine ⟨?_, ?_, ?_⟩
  · rintro (h | h)
    · simp only [dist, h, if_true, way, wt] at hp hq ⊢
      have e : a 3 * (p - q - p) + b 3 * p = p - q := by
        rw [show a 3 = p + 1 by omega, show b 3 = q + 1 by omega, show p - q - p = -q by omega, Int.mul_neg, Int.add_mul, Int.add_mul, Int.mul_comm q p]
        omega
      rw [e, Int.ediv_self (by omega)]
      rfl
    · simp only [dist, h, way, wt, show ¬ (2 : Int) = 0 by decide, show ¬ (2 : Int) = 1 by decide, if_true, if_false] at hp hq ⊢
      have e : a 3 * (p - q - p) + b 3 * p = a 2 * (p - q - p) + b 2 * p := by
        rw [show a 3 = a 2 + p by omega, show b 3 = b 2 + q by omega, show p - q - p = -q by omega, Int.add_mul, Int.add_mul, Int.mul_neg, Int.mul_neg, Int.mul_comm q p]
        omega
      rw [e]
      omega
  · intro h
    simp only [dist, h, way, wt, show ¬ (1 : Int) = 0 by decide, if_true, if_false] at hp hq ⊢
    have e : a 3 * (p - q - p) + b 3 * p = -(a 2 * (p - q - p) + b 2 * p) := by
      rw [show a 3 = p - a 2 by omega, show b 3 = q - b 2 by omega, show p - q - p = -q by omega, Int.sub_mul, Int.sub_mul, Int.mul_neg, Int.mul_neg, Int.mul_comm q p]
      omega
    rw [e]
    generalize a 2 * (p - q - p) + b 2 * p = N
    obtain ⟨r, h1, h2, h3⟩ := quo (N := N) hd rfl
    obtain ⟨r', h4, h5, h6⟩ := quo (N := -N) hd rfl
    generalize N / (p - q) = x at *
    generalize -N / (p - q) = y at *
    generalize p - q = d at *
    have hx : (y + x) * d = -(r + r') := by rw [Int.add_mul]; omega
    have b1 : y + x ≤ 0 := by
      refine Int.le_of_mul_le_mul_right (a := d) ?_ (by omega)
      rw [Int.zero_mul]
      omega
    have b2 : -1 ≤ y + x := by
      rcases Int.lt_or_le (y + x) (-1) with hlt | hle
      · exfalso
        have := Int.mul_le_mul_of_nonneg_right (show y + x ≤ -2 by omega) (show 0 ≤ d by omega)
        omega
      · exact hle
    omega
  · intro h
    simp only [dist, h, show ¬ (3 : Int) = 0 by decide, show ¬ (3 : Int) = 1 by decide, show ¬ (3 : Int) = 2 by decide, if_false, part, sub, Int.zero_add, Nat.reduceAdd] at hp hq ⊢
    have E := meet_eq _ _ _ _ _ _ _ _ _ _ _ _ p q hp hq
    obtain ⟨r0, e0, f0⟩ := quo (N := a 0 * (p - q - p) + b 0 * p) hd rfl
    obtain ⟨r1, e1, f1⟩ := quo (N := a 1 * (p - q - p) + b 1 * p) hd rfl
    obtain ⟨r2, e2, f2⟩ := quo (N := a 2 * (p - q - p) + b 2 * p) hd rfl
    obtain ⟨r3, e3, f3⟩ := quo (N := a 3 * (p - q - p) + b 3 * p) hd rfl
    rw [e0, e1, e2, e3] at E
    have R := meet_sum hd f0 f1 f2 f3 E
    simp only [way, wt, slack, Int.zero_add, Nat.reduceAdd]
    refine ⟨R.2, ?_⟩
    have := R.1
    omega
end D
end Go.Proofs.Ytndaijcgjhmiaaa
namespace Go.Proofs.Ytndaijcgjhmiaaa.L
set_option linter.unusedVariables false

def nat : List Nat → Nat
  | [] => 0
  | b :: l => b + 2 * nat l
def Bits (l : List Nat) : Prop := ∀ b ∈ l, b < 2
def bit (l : List Nat) (i : Nat) : Nat := (l[i]?).getD 0
def Can (l : List Nat) : Prop := Bits l ∧ (l ≠ [] → bit l (l.length - 1) = 1)

theorem Bits.nil : Bits [] := by intro b hb; cases hb
theorem Bits.snoc {l : List Nat} {b : Nat} (h : Bits l) (hb : b < 2) : Bits (l ++ [b]) := by
  intro x hx
  rw [List.mem_append, List.mem_singleton] at hx
  rcases hx with hx | rfl
  · exact h x hx
  · exact hb
theorem Bits.cons {l : List Nat} {b : Nat} (h : Bits l) (hb : b < 2) : Bits (b :: l) := by
  intro x hx
  rcases List.mem_cons.1 hx with rfl | hx
  · exact hb
  · exact h x hx
theorem Bits.take {l : List Nat} (h : Bits l) (n : Nat) : Bits (l.take n) := fun b hb => h b (List.mem_of_mem_take hb)
theorem bit_lt {l : List Nat} (h : Bits l) (i : Nat) : bit l i < 2 := by
  unfold bit
  by_cases hi : i < l.length
  · rw [List.getElem?_eq_getElem hi]; exact h _ (List.getElem_mem hi)
  · rw [List.getElem?_eq_none (by omega)]; simp
theorem bit_out {l : List Nat} {i : Nat} (hi : l.length ≤ i) : bit l i = 0 := by unfold bit; rw [List.getElem?_eq_none hi]; rfl
theorem bit_in {l : List Nat} {i : Nat} (hi : i < l.length) : l[i]? = some (bit l i) := by
  unfold bit; rw [List.getElem?_eq_getElem hi]; rfl
theorem nat_snoc : ∀ (l : List Nat) (b : Nat), nat (l ++ [b]) = nat l + 2 ^ l.length * b
  | [], b => by simp [nat]
  | a :: l, b => by
    show a + 2 * nat (l ++ [b]) = a + 2 * nat l + 2 ^ (l.length + 1) * b
    rw [nat_snoc l b, Nat.pow_succ, Nat.mul_add, Nat.mul_comm (2 ^ l.length) 2, Nat.mul_assoc]; omega
theorem nat_drop : ∀ (l : List Nat) (i : Nat), nat (l.drop i) = bit l i + 2 * nat (l.drop (i + 1))
  | [], i => by simp [nat, bit]
  | a :: l, 0 => by simp [nat, bit]
  | a :: l, i + 1 => by
    have := nat_drop l i
    simpa [bit] using this
theorem nat_drop_out {l : List Nat} {i : Nat} (h : l.length ≤ i) : nat (l.drop i) = 0 := by
  rw [List.drop_eq_nil_of_le h]; rfl
theorem nat_lt : ∀ {l : List Nat}, Bits l → nat l < 2 ^ l.length
  | [], _ => by simp [nat]
  | a :: l, h => by
    have h1 := nat_lt (l := l) (fun b hb => h b (List.mem_cons_of_mem _ hb))
    have h2 := h a List.mem_cons_self
    show a + 2 * nat l < 2 ^ (l.length + 1)
    rw [Nat.pow_succ]; omega
theorem nat_take : ∀ (l : List Nat) (i : Nat), nat l = nat (l.take i) + 2 ^ (min i l.length) * nat (l.drop i)
  | [], i => by simp [nat]
  | a :: l, 0 => by simp [nat]
  | a :: l, i + 1 => by
    have h := nat_take l i
    have e : min (i + 1) (a :: l).length = min i l.length + 1 := by rw [List.length_cons]; omega
    rw [e, Nat.pow_succ]
    show a + 2 * nat l = a + 2 * nat (l.take i) + 2 ^ min i l.length * 2 * nat (l.drop i)
    rw [h, Nat.mul_add, Nat.mul_comm (2 ^ min i l.length) 2, Nat.mul_assoc]; omega
/-- A list that ends in a one has a value of its length. -/
theorem can_ge {l : List Nat} (h : Can l) (hl : l ≠ []) : 2 ^ (l.length - 1) ≤ nat l := by
  have h1 := h.2 hl
  have hp : 0 < l.length := by cases l with | nil => exact absurd rfl hl | cons a l => simp
  rw [nat_take l (l.length - 1), nat_drop, h1, show min (l.length - 1) l.length = l.length - 1 by omega, show l.length - 1 + 1 = l.length by omega, nat_drop_out (Nat.le_refl _)]
  omega
theorem can_zero {l : List Nat} (h : Can l) : nat l = 0 ↔ l = [] := by
  refine ⟨fun e => ?_, fun e => by rw [e]; rfl⟩
  by_cases hl : l = []
  · exact hl
  · have := can_ge h hl; have := Nat.two_pow_pos (l.length - 1); omega
theorem can_len {l : List Nat} (h : Can l) {k : Nat} (hk : nat l < 2 ^ k) : l.length ≤ k := by
  by_cases hl : l = []
  · rw [hl]; simp
  · have h1 := can_ge h hl
    rcases Nat.lt_or_ge k l.length with g | g
    · have := Nat.pow_le_pow_right (n := 2) (by omega) (show k ≤ l.length - 1 by omega); omega
    · exact g
theorem can_len' {l : List Nat} (h : Can l) {k : Nat} (hk : 2 ^ k ≤ nat l) : k < l.length := by
  have h1 := nat_lt h.1
  rcases Nat.lt_or_ge k l.length with g | g
  · exact g
  · have := Nat.pow_le_pow_right (n := 2) (by omega) g; omega

/-! ### more -/
def MoreI (a b out : List Nat) (c : Nat) : Prop :=
  Bits out ∧ c < 2 ∧ nat out + 2 ^ out.length * (c + nat (a.drop out.length) + nat (b.drop out.length)) = nat a + nat b ∧ (out.length ≤ max a.length b.length ∨ (out.length = max a.length b.length + 1 ∧ c = 0))
theorem more_start (a b : List Nat) : MoreI a b [] 0 := ⟨Bits.nil, by omega, by simp [nat], by simp⟩
theorem more_step {a b out : List Nat} {c : Nat} (ha : Bits a) (hb : Bits b) (h : MoreI a b out c) (hc : out.length < a.length ∨ out.length < b.length ∨ 0 < c) :
    MoreI a b (out ++ [(bit a out.length + bit b out.length + c) % 2]) ((bit a out.length + bit b out.length + c) / 2) := by
  obtain ⟨h1, h2, h3, h4⟩ := h
  have xa := bit_lt ha out.length
  have xb := bit_lt hb out.length
  refine ⟨h1.snoc (Nat.mod_lt _ (by omega)), by omega, ?_, ?_⟩
  · rw [nat_snoc, ← h3, nat_drop a out.length, nat_drop b out.length, List.length_append, List.length_singleton, Nat.pow_succ]
    generalize nat (a.drop (out.length + 1)) = p
    generalize nat (b.drop (out.length + 1)) = q
    generalize bit a out.length = x at *
    generalize bit b out.length = y at *
    have e : c + (x + 2 * p) + (y + 2 * q) = (x + y + c) % 2 + 2 * ((x + y + c) / 2 + p + q) := by omega
    have E : 2 ^ out.length * 2 * ((x + y + c) / 2 + p + q) = 2 ^ out.length * (2 * ((x + y + c) / 2 + p + q)) := Nat.mul_assoc _ _ _
    try rw [← Nat.mul_add (2 ^ out.length * 2)]
    rw [e, Nat.mul_add (2 ^ out.length) ((x + y + c) % 2), E.symm]; omega
  · rw [List.length_append, List.length_singleton]
    rcases Nat.lt_or_ge out.length (max a.length b.length) with g | g
    · left; omega
    · right
      have : bit a out.length = 0 := bit_out (by omega)
      have : bit b out.length = 0 := bit_out (by omega)
      omega
theorem more_end {a b out : List Nat} {c : Nat} (h : MoreI a b out c) (hc : ¬ (out.length < a.length ∨ out.length < b.length ∨ 0 < c)) : Bits out ∧ nat out = nat a + nat b ∧ out.length ≤ max a.length b.length + 1 := by
  obtain ⟨h1, h2, h3, h4⟩ := h
  rw [nat_drop_out (by omega), nat_drop_out (by omega)] at h3
  obtain rfl : c = 0 := by omega
  exact ⟨h1, by simpa using h3, by omega⟩

/-! ### less -/
def LessI (a b out : List Nat) (c : Nat) : Prop :=
  Bits out ∧ c < 2 ∧ out.length ≤ a.length ∧ nat out + 2 ^ out.length * nat (a.drop out.length) + nat b = nat a + 2 ^ out.length * (c + nat (b.drop out.length))
theorem less_start (a b : List Nat) : LessI a b [] 0 := ⟨Bits.nil, by omega, by simp, by simp [nat]⟩
theorem less_step {a b out : List Nat} {c : Nat} (ha : Bits a) (hb : Bits b) (h : LessI a b out c) (hl : out.length < a.length) :
    LessI a b (out ++ [(2 + bit a out.length - bit b out.length - c) % 2]) (1 - (2 + bit a out.length - bit b out.length - c) / 2) := by
  obtain ⟨h1, h2, h3, h4⟩ := h
  have xa := bit_lt ha out.length
  have xb := bit_lt hb out.length
  refine ⟨h1.snoc (Nat.mod_lt _ (by omega)), by omega, by simp; omega, ?_⟩
  rw [nat_drop a out.length, nat_drop b out.length] at h4
  rw [nat_snoc, List.length_append, List.length_singleton, Nat.pow_succ]
  generalize nat (a.drop (out.length + 1)) = p at *
  generalize nat (b.drop (out.length + 1)) = q at *
  generalize bit a out.length = x at *
  generalize bit b out.length = y at *
  obtain ⟨z, hz⟩ : ∃ z, 2 + x - y - c = z := ⟨_, rfl⟩
  rw [hz]
  have e : z % 2 + 2 * p + (y + c) + 2 * (z / 2) = x + 2 * p + 2 := by omega
  have e2 : z / 2 ≤ 1 := by omega
  have E : 2 ^ out.length * (z % 2) + 2 ^ out.length * 2 * p + 2 ^ out.length * (c + (y + 2 * q)) = 2 ^ out.length * (x + 2 * p) + 2 ^ out.length * 2 * (1 - z / 2 + q) := by
    rw [Nat.mul_assoc, Nat.mul_assoc, ← Nat.mul_add, ← Nat.mul_add, ← Nat.mul_add]
    congr 1; omega
  omega
theorem less_end {a b out : List Nat} {c : Nat} (ha : Bits a) (hb : Bits b) (h : LessI a b out c) (hl : out.length = a.length) (hab : nat b ≤ nat a) : Bits out ∧ nat out = nat a - nat b := by
  obtain ⟨h1, h2, h3, h4⟩ := h
  have l1 := nat_lt h1
  rw [nat_drop_out (l := a) (by omega), Nat.mul_zero, Nat.add_zero] at h4
  refine ⟨h1, ?_⟩
  have : c + nat (b.drop out.length) = 0 := by
    rcases Nat.eq_zero_or_pos (c + nat (b.drop out.length)) with g | g
    · exact g
    · have := Nat.mul_le_mul_left (2 ^ out.length) g; omega
  rw [this, Nat.mul_zero] at h4
  omega

/-! ### above -/
theorem above_step {a b : List Nat} {i : Nat} (h : nat (a.drop (i + 1)) = nat (b.drop (i + 1))) (e : bit a i = bit b i) : nat (a.drop i) = nat (b.drop i) := by
  rw [nat_drop a i, nat_drop b i, h, e]
theorem above_ne {a b : List Nat} {i : Nat} (ha : Bits a) (hb : Bits b) (h : nat (a.drop (i + 1)) = nat (b.drop (i + 1))) (e : bit a i < bit b i) : nat a < nat b := by
  have xa := bit_lt ha i
  have xb := bit_lt hb i
  have hib : i < b.length := by
    rcases Nat.lt_or_ge i b.length with g | g
    · exact g
    · rw [bit_out g] at e; omega
  have t1 := nat_take a i
  have t2 := nat_take b i
  have l1 := nat_lt (ha.take i)
  rw [List.length_take] at l1
  rw [nat_drop a i] at t1
  rw [nat_drop b i, ← h] at t2
  rw [show min i b.length = i by omega] at t2
  have p1 := Nat.pow_le_pow_right (n := 2) (by omega) (show min i a.length ≤ i by omega)
  rw [show bit b i = 1 by omega, Nat.mul_add] at t2
  rw [show bit a i = 0 by omega, Nat.zero_add] at t1
  have : 2 ^ min i a.length * (2 * nat (a.drop (i + 1))) ≤ 2 ^ i * (2 * nat (a.drop (i + 1))) := Nat.mul_le_mul_right _ p1
  omega
/-! ### trim -/
theorem take_succ_nat {l : List Nat} {k : Nat} (hk : k < l.length) : nat (l.take (k + 1)) = nat (l.take k) + 2 ^ k * bit l k := by
  rw [List.take_add_one, bit_in hk]
  show nat (l.take k ++ [bit l k]) = _
  rw [nat_snoc, List.length_take, show min k l.length = k by omega]
theorem trim_step {l : List Nat} {k : Nat} (hk : k < l.length) (e : bit l k = 0) (h : nat (l.take (k + 1)) = nat l) : nat (l.take k) = nat l := by
  rw [take_succ_nat hk, e] at h; simpa using h
theorem trim_end {l : List Nat} {k : Nat} (hl : Bits l) (hk : k ≤ l.length) (e : 0 < k → bit l (k - 1) ≠ 0) : Can (l.take k) := by
  refine ⟨hl.take k, fun hn => ?_⟩
  have h0 : 0 < k := by
    rcases Nat.eq_zero_or_pos k with z | z
    · subst z; simp at hn
    · exact z
  rw [List.length_take, show min k l.length = k by omega]
  have : bit (l.take k) (k - 1) = bit l (k - 1) := by unfold bit; rw [List.getElem?_take_of_lt (by omega)]
  rw [this]
  have := bit_lt hl (k - 1)
  have := e h0
  omega
theorem can_pos {l : List Nat} (h : Can l) : (0 < l.length) ↔ 0 < nat l := by
  have := can_zero h
  constructor
  · intro g
    rcases Nat.eq_zero_or_pos (nat l) with z | z
    · rw [this.1 z] at g; simp at g
    · exact z
  · intro g
    rcases Nat.eq_zero_or_pos l.length with z | z
    · rw [List.eq_nil_of_length_eq_zero z] at g; simp [nat] at g
    · exact z
end Go.Proofs.Ytndaijcgjhmiaaa.L
namespace Go.Proofs.Ytndaijcgjhmiaaa.D
set_option linter.unusedVariables false

/-- The state of a digit's search: q is not below the digit, r is what q leaves of u. -/
def Inv (u d y1 y0 q r : Int) : Prop := q * y1 + r = u ∧ 0 ≤ r ∧ r < 4294967296 ∧ 0 ≤ q ∧ q ≤ 4294967297 ∧ (u * 4294967296 + d) / (y1 * 4294967296 + y0) ≤ q
structure Fit (u d y1 y0 : Int) : Prop where
  u0 : 0 ≤ u
  ul : u < y1 * 4294967296 + y0
  d0 : 0 ≤ d
  d1 : d < 4294967296
  y11 : 2147483648 ≤ y1
  y12 : y1 < 4294967296
  y01 : 0 ≤ y0
  y02 : y0 < 4294967296
theorem mulq (q y1 y0 : Int) : q * (y1 * 4294967296 + y0) = q * y1 * 4294967296 + q * y0 := by
  rw [Int.mul_add, Int.mul_assoc]
theorem start {u d y1 y0 : Int} (f : Fit u d y1 y0) : Inv u d y1 y0 (u / y1) (u % y1) := by
  obtain ⟨f1, f2, f3, f4, f5, f6, f7, f8⟩ := f
  have e : u / y1 * y1 + u % y1 = u := by rw [Int.mul_comm]; exact Int.mul_ediv_add_emod u y1
  have r0 := Int.emod_nonneg u (b := y1) (by omega)
  have r1 := Int.emod_lt_of_pos u (b := y1) (by omega)
  have q0 : 0 ≤ u / y1 := Int.ediv_nonneg f1 (by omega)
  have q1 : u / y1 ≤ 4294967297 := by
    apply Int.le_of_lt_add_one
    apply Int.ediv_lt_of_lt_mul (by omega)
    omega
  refine ⟨e, r0, by omega, q0, q1, ?_⟩
  have h : u * 4294967296 + d < (u / y1 + 1) * (y1 * 4294967296 + y0) := by
    rw [mulq, Int.add_mul (u / y1) 1 y1, Int.add_mul (u / y1) 1 y0]
    have : 0 ≤ u / y1 * y0 := Int.mul_nonneg q0 f7
    omega
  have := Int.ediv_lt_of_lt_mul (show 0 < y1 * 4294967296 + y0 by omega) h
  omega
theorem small {u d y1 y0 : Int} (f : Fit u d y1 y0) : 0 ≤ (u * 4294967296 + d) / (y1 * 4294967296 + y0) ∧ (u * 4294967296 + d) / (y1 * 4294967296 + y0) < 4294967296 := by
  obtain ⟨f1, f2, f3, f4, f5, f6, f7, f8⟩ := f
  refine ⟨Int.ediv_nonneg (by omega) (by omega), ?_⟩
  apply Int.ediv_lt_of_lt_mul (by omega)
  omega
theorem done {u d y1 y0 q r : Int} (f : Fit u d y1 y0) (i : Inv u d y1 y0 q r) (t : q * y0 ≤ 4294967296 * r + d) : (u * 4294967296 + d) / (y1 * 4294967296 + y0) = q := by
  obtain ⟨f1, f2, f3, f4, f5, f6, f7, f8⟩ := f
  obtain ⟨e, r0, r1, q0, q1, h⟩ := i
  have : q ≤ (u * 4294967296 + d) / (y1 * 4294967296 + y0) := by
    rw [Int.le_ediv_iff_mul_le (by omega), mulq, ← e, Int.add_mul]; omega
  omega
theorem less {u d y1 y0 q r : Int} (f : Fit u d y1 y0) (i : Inv u d y1 y0 q r) (t : 4294967296 ≤ q ∨ 4294967296 * r + d < q * y0) :
    1 ≤ q ∧ (q - 1) * y1 + (r + y1) = u ∧ (u * 4294967296 + d) / (y1 * 4294967296 + y0) ≤ q - 1 := by
  have s := small f
  obtain ⟨f1, f2, f3, f4, f5, f6, f7, f8⟩ := f
  obtain ⟨e, r0, r1, q0, q1, h⟩ := i
  have k : (u * 4294967296 + d) / (y1 * 4294967296 + y0) < q := by
    rcases t with t | t
    · omega
    · apply Int.ediv_lt_of_lt_mul (by omega)
      rw [mulq, ← e, Int.add_mul]; omega
  refine ⟨by omega, ?_, by omega⟩
  rw [Int.sub_mul]; omega
theorem next {u d y1 y0 q r : Int} (f : Fit u d y1 y0) (i : Inv u d y1 y0 q r) (t : 4294967296 ≤ q ∨ 4294967296 * r + d < q * y0) (b : r + y1 < 4294967296) : Inv u d y1 y0 (q - 1) (r + y1) := by
  obtain ⟨h1, h2, h3⟩ := less f i t
  obtain ⟨e, r0, r1, q0, q1, h⟩ := i
  have := f.y11
  exact ⟨h2, by omega, b, by omega, by omega, h3⟩
theorem out {u d y1 y0 q r : Int} (f : Fit u d y1 y0) (i : Inv u d y1 y0 q r) (t : 4294967296 ≤ q ∨ 4294967296 * r + d < q * y0) (b : 4294967296 ≤ r + y1) : (u * 4294967296 + d) / (y1 * 4294967296 + y0) = q - 1 := by
  obtain ⟨h1, h2, h3⟩ := less f i t
  obtain ⟨e, r0, r1, q0, q1, h⟩ := i
  obtain ⟨f1, f2, f3, f4, f5, f6, f7, f8⟩ := f
  have : q - 1 ≤ (u * 4294967296 + d) / (y1 * 4294967296 + y0) := by
    rw [Int.le_ediv_iff_mul_le (by omega), mulq]
    have hp : (q - 1) * y0 ≤ 4294967296 * 4294967295 := by
      have a : (q - 1) * y0 ≤ 4294967296 * y0 := Int.mul_le_mul_of_nonneg_right (by omega) f7
      omega
    have : (q - 1) * y1 = u - (r + y1) := by omega
    rw [this, Int.sub_mul]; omega
  omega
/-- What is left by the digit. -/
theorem left {u d y1 y0 : Int} (f : Fit u d y1 y0) :
    (u * 4294967296 + d) % (y1 * 4294967296 + y0) = (((u * 4294967296) % 18446744073709551616 + d) % 18446744073709551616 - ((u * 4294967296 + d) / (y1 * 4294967296 + y0) * (y1 * 4294967296 + y0)) % 18446744073709551616) % 18446744073709551616 := by
  have h := Int.mul_ediv_add_emod (u * 4294967296 + d) (y1 * 4294967296 + y0)
  have a := Int.emod_nonneg (u * 4294967296 + d) (b := y1 * 4294967296 + y0) (by have := f.y11; have := f.y01; omega)
  have b := Int.emod_lt_of_pos (u * 4294967296 + d) (b := y1 * 4294967296 + y0) (by have := f.y11; have := f.y01; omega)
  have := f.y12
  have := f.y02
  rw [Int.mul_comm] at h
  generalize (u * 4294967296 + d) / (y1 * 4294967296 + y0) * (y1 * 4294967296 + y0) = p at *
  generalize (u * 4294967296 + d) % (y1 * 4294967296 + y0) = r at *
  omega
end Go.Proofs.Ytndaijcgjhmiaaa.D
namespace Go.Proofs.Ytndaijcgjhmiaaa.L
set_option linter.unusedVariables false

/-- Quotient and rest of what the bits from i on say. -/
def DivI (a : List Nat) (D i : Nat) (q : List Nat) (r : Nat) : Prop := Bits q ∧ q.length = a.length - i ∧ r < D ∧ nat q * D + r = nat (a.drop i)
theorem div_start (a : List Nat) (D : Nat) (hD : 0 < D) : DivI a D a.length [] 0 := ⟨Bits.nil, by simp, hD, by rw [nat_drop_out (Nat.le_refl _)]; simp [nat]⟩
theorem div_one {a q : List Nat} {D i r : Nat} (h : DivI a D (i + 1) q r) (hi : i < a.length) (g : D ≤ bit a i + 2 * r) (hb : bit a i < 2) : DivI a D i (1 :: q) (bit a i + 2 * r - D) := by
  obtain ⟨h1, h2, h3, h4⟩ := h
  refine ⟨h1.cons (by omega), by simp [h2]; omega, by omega, ?_⟩
  rw [nat_drop a i, ← h4]
  show (1 + 2 * nat q) * D + (bit a i + 2 * r - D) = bit a i + 2 * (nat q * D + r)
  rw [Nat.add_mul, Nat.mul_assoc]; omega
theorem div_nought {a q : List Nat} {D i r : Nat} (h : DivI a D (i + 1) q r) (hi : i < a.length) (g : bit a i + 2 * r < D) : DivI a D i (0 :: q) (bit a i + 2 * r) := by
  obtain ⟨h1, h2, h3, h4⟩ := h
  refine ⟨h1.cons (by omega), by simp [h2]; omega, by omega, ?_⟩
  rw [nat_drop a i, ← h4]
  show (0 + 2 * nat q) * D + (bit a i + 2 * r) = bit a i + 2 * (nat q * D + r)
  rw [Nat.zero_add, Nat.mul_assoc]; omega
theorem div_end {a q : List Nat} {D r : Nat} (h : DivI a D 0 q r) : nat q = nat a / D ∧ r = nat a % D := by
  obtain ⟨_, _, h3, h4⟩ := h
  rw [List.drop_zero] at h4
  have := (Nat.div_mod_unique (b := D) (a := nat a) (c := r) (d := nat q) (by omega)).2 ⟨by rw [← h4, Nat.mul_comm]; omega, h3⟩
  exact ⟨this.1.symm, this.2.symm⟩
/-- Of a number below nought the quotient is rounded down. -/
theorem floor_neg {A D : Nat} (hD : 0 < D) : (A % D = 0 → -((A / D : Nat) : Int) = (-(A : Int)) / (D : Int) ∧ (0 : Int) = (-(A : Int)) % (D : Int)) ∧
    (A % D ≠ 0 → -((A / D : Nat) + 1 : Int) = (-(A : Int)) / (D : Int) ∧ (D : Int) + -((A % D : Nat) : Int) = (-(A : Int)) % (D : Int)) := by
  have e := Nat.div_add_mod A D
  have lt := Nat.mod_lt A hD
  refine ⟨fun h => ?_, fun h => ?_⟩
  · have u := (Int.ediv_emod_unique (a := -(A : Int)) (b := (D : Int)) (r := 0) (q := -((A / D : Nat) : Int)) (by omega)).2 ⟨by
      rw [h] at e
      have : ((D * (A / D) : Nat) : Int) = (A : Int) := by omega
      rw [Int.natCast_mul] at this
      rw [Int.mul_neg]; omega, by omega, by omega⟩
    exact ⟨u.1.symm, u.2.symm⟩
  · have u := (Int.ediv_emod_unique (a := -(A : Int)) (b := (D : Int)) (r := (D : Int) + -((A % D : Nat) : Int)) (q := -((A / D : Nat) + 1 : Int)) (by omega)).2 ⟨by
      have : ((D * (A / D) : Nat) : Int) + ((A % D : Nat) : Int) = (A : Int) := by omega
      rw [Int.natCast_mul] at this
      rw [Int.mul_neg, Int.mul_add]; omega, by omega, by omega⟩
    exact ⟨u.1.symm, u.2.symm⟩
theorem floor_pos (A D : Nat) : ((A / D : Nat) : Int) = (A : Int) / (D : Int) ∧ ((A % D : Nat) : Int) = (A : Int) % (D : Int) := ⟨Int.natCast_ediv A D, Int.natCast_emod A D⟩
end Go.Proofs.Ytndaijcgjhmiaaa.L
namespace Go.Proofs.Ytndaijcgjhmiaaa
open Go.RowKit
set_option linter.unusedVariables false

theorem block_of_add (p : Addr) (k : Nat) : (p.add k).block = p.block := by
  by_cases h : k = 0
  · subst h; simp [Addr.add]
  · simp [Addr.add, h]

/-- The cells of a slice, as a list. Where there is nothing to read nothing is asked of the address. -/
structure Reads (w : World) (B size : Nat) (A : Option Addr) (n : Nat) (xs : List Value) : Prop where
  len : xs.length = n * size
  lies : 0 < n → ∃ ad : Addr, A = some ad ∧ ad.block < B ∧ ∀ j u, xs[j]? = some u → w.cell? (ad.add j) = some u
namespace Reads
variable {w w' : World} {B B' size n : Nat} {A : Option Addr} {xs : List Value}
theorem none_ : Reads w B size A 0 [] where
  len := by rw [Nat.zero_mul, List.length_nil]
  lies := fun h => (Nat.lt_irrefl 0 h).elim
/-- From one world to another one: the cells below B are the same. -/
theorem carry (r : Reads w B size A n xs) (hB : B ≤ B') (same : ∀ p : Addr, p.block < B → w'.cell? p = w.cell? p) : Reads w' B' size A n xs where
  len := r.len
  lies := by
    intro h
    rcases r.lies h with ⟨ad, e, lt, at'⟩
    refine ⟨ad, e, Nat.lt_of_lt_of_le lt hB, fun j u hu => ?_⟩
    rw [same (ad.add j) (by rw [block_of_add]; exact lt)]
    exact at' j u hu
theorem below (r : Reads w B size A n xs) (hb : Below B w w') : Reads w' B size A n xs := r.carry (Nat.le_refl B) (fun p hp => hb.cell hp)
theorem drewN (r : Reads w B size A n xs) (k : Nat) : Reads (w.drewN k) B size A n xs := r.carry (Nat.le_refl B) (fun _ _ => rfl)
theorem drew (r : Reads w B size A n xs) : Reads w.drew B size A n xs := r.carry (Nat.le_refl B) (fun _ _ => rfl)
theorem alloc (r : Reads w B size A n xs) (hB : B ≤ w.heap.size) (o : Obj) : Reads (w.alloc o) B size A n xs := r.carry (Nat.le_refl B) (fun p hp => World.cell?_alloc_lt w o p (Nat.lt_of_lt_of_le hp hB))
theorem more (r : Reads w B size A n xs) (hB : B ≤ B') : Reads w B' size A n xs := r.carry hB (fun _ _ => rfl)
theorem at_ {k : Nat} (r : Reads w B 1 A n xs) (hk : k < n) : ∃ ad u, A = some ad ∧ ad.block < B ∧ xs[k]? = some u ∧ w.cell? (ad.add k) = some u := by
  rcases r.lies (Nat.lt_of_le_of_lt (Nat.zero_le k) hk) with ⟨ad, e, lt, at'⟩
  rcases h : xs[k]? with _ | u
  · have := List.getElem?_eq_none_iff.1 h
    have := r.len
    omega
  · exact ⟨ad, u, e, lt, rfl, at' k u h⟩
theorem of_own {base : Nat} {e : TypeId} {c : Nat} (own : w.ownsRow base e size (.slice A n c) n xs) : Reads w w.heap.size size A n xs where
  len := own.1
  lies := by
    intro h
    rcases own.form h with ⟨g, cap, hv, _, lt⟩
    cases hv
    exact ⟨⟨g, 0, none⟩, rfl, lt, own.cells (g := g) rfl⟩
end Reads

section
variable {P : Program} {w : World} {base size bytes n m c B : Nat} {t e : TypeId} {i : TypeInfo} {z v : Value} {xs news : List Value} {A : Option Addr}
/-- What an append onto a row of the call's own leaves, whatever is appended: nil, too. -/
theorem append_leaves (ty : TypeId) (ht : P.underlying t = some (.slice e)) (hi : P.info? e = some i) (hz : i.zero = some z) (hsize : i.size = size) (hby : i.bytes = bytes) (hzs : z.cells.size = size) (hsz : 0 < size)
    (own : w.ownsRow base e size v n xs) (src : Reads w B size A m news) (one : ∀ u ∈ news, u.oneCell' = true) (h63 : n + m ≤ maxLen) (hbytes : (n + m) * bytes ≤ 140737488355328) (hbase : base ≤ w.heap.size) :
    ∃ v' w', (Builtin.append_ #[t, t] ty #[v, .slice A m c]).run P w = .ok v' w' ∧ w'.ownsRow base e size v' (n + m) (xs ++ news) ∧ w.grownBy w' v.ownBlock ∧ (v'.ownBlock = v.ownBlock ∨ v'.ownBlock = some w.heap.size) := by
  have nothing : m = 0 → news = [] := fun h => List.eq_nil_of_length_eq_zero (by rw [src.len, h, Nat.zero_mul])
  cases A with
  | some ad =>
    have at' : ∀ j u, news[j]? = some u → w.cell? (ad.add j) = some u := by
      intro j u hu
      rcases Nat.eq_zero_or_pos m with h | h
      · rw [nothing h] at hu; cases hu
      · rcases src.lies h with ⟨ad', e', _, at''⟩
        cases e'
        exact at'' j u hu
    rcases run_append_own_at (P := P) w base t ty e i z size bytes ht hi hz hsize hby hzs hsz v n xs own ad m c news src.len at' one h63 hbytes hbase with ⟨v', w', r, o, g, _, b⟩
    exact ⟨v', w', r, o, g, b⟩
  | none =>
    have h0 : m = 0 := by
      rcases Nat.eq_zero_or_pos m with h | h
      · exact h
      · rcases src.lies h with ⟨_, e', _⟩; cases e'
    subst h0
    rw [nothing rfl]
    refine ⟨v, w, ?_, by simpa using own, ⟨rfl, rfl, rfl, Nat.le_refl _, fun _ _ _ => rfl⟩, .inl rfl⟩
    rcases own.2 with ⟨rfl, rfl⟩ | ⟨g, cap, cur, rfl, _, _, le, _⟩
    · simp [Builtin.append_, run_underlying ht, sizeOf, typeInfo, hi, Builtin.lenOf, Builtin.firstCells]
    · simp [Builtin.append_, run_underlying ht, sizeOf, typeInfo, hi, Builtin.lenOf, Builtin.firstCells, le, storeCells]
theorem append_steps {o : Oper} {a : Act} {K : Act → World → Prop} {Q : Exit → Act → World → Prop} {s x : Operand} (ho : o.op = .call { callee := .builtin .append, args := #[s, x], argTypes := #[t, t] })
    (ht : P.underlying t = some (.slice e)) (hi : P.info? e = some i) (hz : i.zero = some z) (hsize : i.size = size) (hby : i.bytes = bytes) (hzs : z.cells.size = size) (hsz : 0 < size)
    (hs : a.eval s = v) (own : w.ownsRow base e size v n xs) (hx : a.eval x = .slice A m c) (src : Reads w B size A m news) (one : ∀ u ∈ news, u.oneCell' = true) (h63 : n + m ≤ maxLen) (hbytes : (n + m) * bytes ≤ 140737488355328) (hbase : base ≤ w.heap.size)
    (k : ∀ v' w', w'.ownsRow base e size v' (n + m) (xs ++ news) → w.grownBy w' v.ownBlock → (v'.ownBlock = v.ownBlock ∨ v'.ownBlock = some w.heap.size) → K (a.put o.dst v') w') : o.wp P a w K Q := by
  rcases append_leaves (P := P) (c := c) o.type ht hi hz hsize hby hzs hsz own src one h63 hbytes hbase with ⟨v', w', r, h1, h2, h3⟩
  have := k v' w' h1 h2 h3
  unfold Oper.wp execOp
  simp only [ho, resolve, invoke, builtin, Sem.run_bind, Sem.run_pure, Result.andThen_ok, List.map_toArray, List.map_cons, List.map_nil, hs, hx, r]
  exact this
end
section
variable {P : Program} (w : World)
/-- The same at the head of a list of operations. -/
theorem wpList_append_any {ops : Array Oper} {rest : List Oper} {o : Oper} {a : Act} {Q : Exit → Act → World → Prop} (hgd : o.guard = none) (s x : Operand) (t : TypeId)
    (ho : o.op = .call { callee := .builtin .append, args := #[s, x], argTypes := #[t, t] }) (base : Nat) (e : TypeId) (i : TypeInfo) (z : Value) (size bytes : Nat)
    (ht : P.underlying t = some (.slice e)) (hi : P.info? e = some i) (hz : i.zero = some z) (hsize : i.size = size) (hby : i.bytes = bytes) (hzs : z.cells.size = size) (hsz : 0 < size)
    (v : Value) (n : Nat) (xs : List Value) (hs : a.eval s = v) (own : w.ownsRow base e size v n xs) (B : Nat) (A : Option Addr) (m c : Nat) (news : List Value) (hx : a.eval x = .slice A m c) (src : Reads w B size A m news)
    (one : ∀ u ∈ news, u.oneCell' = true) (h63 : n + m ≤ maxLen) (hbytes : (n + m) * bytes ≤ 140737488355328) (hbase : base ≤ w.heap.size)
    (k : ∀ v' w', w'.ownsRow base e size v' (n + m) (xs ++ news) → w.grownBy w' v.ownBlock → (v'.ownBlock = v.ownBlock ∨ v'.ownBlock = some w.heap.size) → wpList P ops Q rest (a.put o.dst v') w') : wpList P ops Q (o :: rest) a w := by
  refine wpList_plain hgd (fun K hK => append_steps ho ht hi hz hsize hby hzs hsz hs own hx src one h63 hbytes hbase (fun v' w' a1 a2 a3 => ?_))
  exact hK _ _ (k v' w' a1 a2 a3)
/-- The same at a step of a region that draws its order. -/
theorem step_append_any {ops : Array Oper} {o : Oper} {a : Act} {K : Act → World → Prop} {Q : Exit → Act → World → Prop} {E : Prop} (hgd : o.guard = none) (s x : Operand) (t : TypeId)
    (ho : o.op = .call { callee := .builtin .append, args := #[s, x], argTypes := #[t, t] }) (base : Nat) (e : TypeId) (i : TypeInfo) (z : Value) (size bytes : Nat)
    (ht : P.underlying t = some (.slice e)) (hi : P.info? e = some i) (hz : i.zero = some z) (hsize : i.size = size) (hby : i.bytes = bytes) (hzs : z.cells.size = size) (hsz : 0 < size)
    (v : Value) (n : Nat) (xs : List Value) (hs : a.eval s = v) (own : w.ownsRow base e size v n xs) (B : Nat) (A : Option Addr) (m c : Nat) (news : List Value) (hx : a.eval x = .slice A m c) (src : Reads w B size A m news)
    (one : ∀ u ∈ news, u.oneCell' = true) (h63 : n + m ≤ maxLen) (hbytes : (n + m) * bytes ≤ 140737488355328) (hbase : base ≤ w.heap.size)
    (k : ∀ v' w', w'.ownsRow base e size v' (n + m) (xs ++ news) → w.grownBy w' v.ownBlock → (v'.ownBlock = v.ownBlock ∨ v'.ownBlock = some w.heap.size) → K (a.put o.dst v') w') :
    if Region.wanted o (yielded ops a.tmps) = true then Oper.wp P o a w K Q else E := by
  split
  · exact append_steps ho ht hi hz hsize hby hzs hsz hs own hx src one h63 hbytes hbase k
  · rename_i no
    exact absurd (by simp [Region.wanted, hgd]) no
end
end Go.Proofs.Ytndaijcgjhmiaaa
namespace Go.Proofs.Ytndaijcgjhmiaaa
set_option linter.unusedVariables false

section
variable {P : Program} {ops : Array Oper} {Q : Exit → Act → World → Prop} {md : Region.Mode} {S : World → Prop} {L : Nat}

/-- Operation L waits for operation i. -/
def waits (md : Region.Mode) (ops : Array Oper) (L i : Nat) : Bool := L != i && ((ops[L]?).map fun o => o.after.any fun e => Region.binds md e && e.on == i).getD false
theorem waits_spec {i : Nat} (h : waits md ops L i = true) : L ≠ i ∧ ∀ o, ops[L]? = some o → ¬ ∀ e ∈ o.after, Region.binds md e = true → e.on ≠ i := by
  unfold waits at h
  rw [Bool.and_eq_true, bne_iff_ne] at h
  refine ⟨h.1, fun o ho hall => ?_⟩
  have h2 := h.2
  rw [ho] at h2
  simp only [Option.map_some, Option.getD_some, Array.any_eq_true] at h2
  obtain ⟨k, hk, he⟩ := h2
  rw [Bool.and_eq_true, beq_iff_eq] at he
  exact hall _ (Array.getElem_mem hk) he.1 he.2
/-- Any order: S holds behind each operation but the last one. -/
def anyL (P : Program) (md : Region.Mode) (ops : Array Oper) (Q : Exit → Act → World → Prop) (S : World → Prop) (L : Nat) : Nat → Array Bool → Act → World → Prop
  | 0, listed, a, w => Region.ready md ops listed = [] ∧ Q .normal a w
  | n + 1, listed, a, w => (Region.ready md ops listed = [] → Q .normal a w) ∧
    ∀ i ∈ Region.ready md ops listed, wpOp P ops Q i (fun a' w' => (i ≠ L → S w') ∧ anyL P md ops Q S L n (listed.setIfInBounds i true) a' w') a w
theorem any_of_L : ∀ (n : Nat) (listed : Array Bool) (a : Act) (w : World), anyL P md ops Q S L n listed a w → wpAny P md ops Q n listed a w
  | 0, _, _, _, h => h
  | n + 1, _, _, _, h => ⟨h.1, fun i hi => wpOp_mono (fun _ _ k => any_of_L n _ _ _ k.2) (h.2 i hi)⟩
/-- What yields its value in every world of S, and waits for nobody, may be taken first. -/
theorem takeL_all {i : Nat} {oi : Oper} {v : Value} (hi : ops[i]? = some oi) (hsel : Region.noSelect ops = true) (hQ : ∀ c a w, Q (.panic c) (a.put oi.dst v) w → Q (.panic c) a w) (hL : waits md ops L i = true) :
    ∀ (n : Nat) (listed : Array Bool) (a : Act) (w : World), (∀ j oj, ops[j]? = some oj → j ≠ i → listed.getD j true = false → (∀ e ∈ oj.after, Region.binds md e = true → e.on ≠ i) → oi.apart ops oj = true) →
      i ∈ Region.ready md ops listed → YieldsIf P ops S oi v a → S w → anyL P md ops Q S L n (listed.setIfInBounds i true) (a.put oi.dst v) w → anyL P md ops Q S L (n + 1) listed a w := by
  intro n
  induction n with
  | zero =>
    intro listed a w _ hr hy hS H
    constructor
    · intro e; rw [e] at hr; cases hr
    · intro j hj
      by_cases e : j = i
      · subst e; exact hy.wpOp hi hS ⟨fun _ => hS, H⟩
      · exact absurd (ready_mono hj e) (by rw [H.1]; exact List.not_mem_nil)
  | succ n ih =>
    intro listed a w free hr hy hS H
    constructor
    · intro e; rw [e] at hr; cases hr
    · intro j hj
      by_cases e : j = i
      · subst e; exact hy.wpOp hi hS ⟨fun _ => hS, H⟩
      have later := H.2 j (ready_mono hj e)
      rcases mem_ready.1 hj with ⟨hun, oj, hoj, hall⟩
      have unlisted : listed.getD i false = false := by
        have h0 := (mem_ready.1 hr).1
        rcases Nat.lt_or_ge i listed.size with h | h
        · simp [h] at h0 ⊢; exact h0
        · simp [Array.getElem?_eq_none h]
      have alone : ∀ e ∈ oj.after, Region.binds md e = true → e.on ≠ i := by
        intro e he hb hon
        have := hall e he hb
        rw [hon, unlisted] at this
        cases this
      have jL : j ≠ L := by
        intro hjL
        subst hjL
        exact (waits_spec hL).2 oj hoj alone
      have both := wpOp_putIf hoj (free j oj hoj e hun alone) (fun cs b => Region.noSelect_spec hsel i oi cs b hi) (fun cs b => Region.noSelect_spec hsel j oj cs b hoj) hQ hy later
      have free' : ∀ k ok, ops[k]? = some ok → k ≠ i → (listed.setIfInBounds j true).getD k true = false → (∀ e ∈ ok.after, Region.binds md e = true → e.on ≠ i) → oi.apart ops ok = true := by
        intro k ok hk hki hu hno
        refine free k ok hk hki ?_ hno
        by_cases hjk : j = k
        · subst hjk; exact hun
        · rwa [getD_set_ne true hjk] at hu
      refine wpOp_mono (fun a' w' k => ?_) both
      have sw := k.2.1 jL
      refine ⟨fun _ => sw, ih _ _ _ free' (ready_mono hr (Ne.symm e)) k.1 sw ?_⟩
      rw [Array.setIfInBounds_comm _ _ e]
      exact k.2.2
theorem takeL {i : Nat} {oi : Oper} {v : Value} {n : Nat} {listed : Array Bool} {a : Act} {w : World} (hi : ops[i]? = some oi) (hs : Region.noSelect ops = true) (hL : waits md ops L i = true) (hf : Region.free md ops listed i = true)
    (hr : (Region.ready md ops listed).contains i = true) (hQ : ∀ c a w, Q (.panic c) (a.put oi.dst v) w → Q (.panic c) a w) (hw : Region.wanted oi (yielded ops a.tmps) = true) (hy : ∀ w, S w → (execOp a.eval oi).run P w = .ok (.value v) w) (hS : S w)
    (h : anyL P md ops Q S L n (listed.setIfInBounds i true) (a.put oi.dst v) w) : anyL P md ops Q S L (n + 1) listed a w :=
  takeL_all hi hs hQ hL n listed a w (fun j oj hj hne hun hno => Region.free_spec hi hf j oj hj hne hun hno) (by simpa using hr) (.inl ⟨hw, hy⟩) hS h
/-- The one operation that may come up comes up. -/
theorem nextL {i : Nat} {o : Oper} {n : Nat} {listed : Array Bool} {a : Act} {w : World} (hr : Region.ready md ops listed = [i]) (hi : ops[i]? = some o)
    (h : ∀ K : Act → World → Prop, (∀ a w, (i ≠ L → S w) → anyL P md ops Q S L n (listed.setIfInBounds i true) a w → K a w) → if Region.wanted o (yielded ops a.tmps) = true then Oper.wp P o a w K Q else K (a.put o.dst undef) w) : anyL P md ops Q S L (n + 1) listed a w := by
  constructor
  · intro e; rw [hr] at e; cases e
  · intro j hj
    rw [hr, List.mem_singleton] at hj
    subst hj
    exact wpOp_step hi (fun K hK => h K (fun a w h1 h2 => hK a w ⟨h1, h2⟩))
theorem doneL {n : Nat} {listed : Array Bool} {a : Act} {w : World} (hr : Region.ready md ops listed = []) (h : Q .normal a w) : anyL P md ops Q S L n listed a w := by
  cases n with
  | zero => exact ⟨hr, h⟩
  | succ n => exact ⟨fun _ => h, by rw [hr]; intro i hi; cases hi⟩
theorem region_L {id : Nat} {a : Act} {w : World} (S : World → Prop) (L : Nat) (hm : P.follows .mixedOrders = true) (h : anyL P .any ops Q S L ops.size (Array.replicate ops.size false) a w.drew) : (Code.region id ops true).wp P Q a w :=
  wp_region_any hm (any_of_L _ _ _ _ h)
end
end Go.Proofs.Ytndaijcgjhmiaaa
