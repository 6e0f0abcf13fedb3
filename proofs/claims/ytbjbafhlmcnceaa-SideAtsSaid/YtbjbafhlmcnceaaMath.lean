/- Plain numbers of layer 2: a pair of words as a whole number, and back. -/
namespace Go.Proofs.Ytbjbafhlmcnceaa.M
set_option linter.unusedVariables false

def B (h l : Int) : Prop := -9223372036854775808 ≤ h ∧ h < 9223372036854775808 ∧ 0 ≤ l ∧ l < 18446744073709551616
def val (h l : Int) : Int := h * 18446744073709551616 + l
def ok (v : Int) : Bool := decide (-170141183460469231731687303715884105728 ≤ v) && decide (v < 170141183460469231731687303715884105728)
def oh (v : Int) : Int := if ok v = true then v / 18446744073709551616 else 0
def ol (v : Int) : Int := if ok v = true then v % 18446744073709551616 else 0
theorem ok_iff {v : Int} : ok v = true ↔ -170141183460469231731687303715884105728 ≤ v ∧ v < 170141183460469231731687303715884105728 := by
  unfold ok; rw [Bool.and_eq_true, decide_eq_true_iff, decide_eq_true_iff]
theorem ok_no {v : Int} (h : ok v = false) : v < -170141183460469231731687303715884105728 ∨ 170141183460469231731687303715884105728 ≤ v := by
  by_cases g : -170141183460469231731687303715884105728 ≤ v ∧ v < 170141183460469231731687303715884105728
  · rw [ok_iff.2 g] at h; cases h
  · omega
theorem ok_val {h l : Int} (b : B h l) : ok (val h l) = true := by
  obtain ⟨h1, h2, h3, h4⟩ := b
  rw [ok_iff]; unfold val; omega
theorem ohl_of {v h l : Int} (b : B h l) (e : v = val h l) : oh v = h ∧ ol v = l := by
  have o : ok v = true := by rw [e]; exact ok_val b
  unfold oh ol
  rw [if_pos o, if_pos o, e]
  obtain ⟨h1, h2, h3, h4⟩ := b
  unfold val
  omega
theorem oh_val {h l : Int} (b : B h l) : oh (val h l) = h := (ohl_of b rfl).1
theorem ol_val {h l : Int} (b : B h l) : ol (val h l) = l := (ohl_of b rfl).2
theorem no_of {v : Int} (h : ok v = false) : oh v = 0 ∧ ol v = 0 := by
  unfold oh ol; rw [h]; exact ⟨rfl, rfl⟩
theorem b_of (v : Int) : B (oh v) (ol v) := by
  unfold oh ol B
  by_cases o : ok v = true
  · rw [if_pos o, if_pos o]
    rw [ok_iff] at o
    omega
  · rw [if_neg o, if_neg o]; omega
theorem val_of {v : Int} (o : ok v = true) : val (oh v) (ol v) = v := by
  unfold oh ol val
  rw [if_pos o, if_pos o]
  omega
theorem val_inj {h l h' l' : Int} (b : B h l) (b' : B h' l') (e : val h l = val h' l') : h = h' ∧ l = l' := by
  have x := ohl_of b rfl
  have y := ohl_of b' e
  rw [x.1, x.2] at y; exact y

def sgn (m n : Int) : Int := if m < n then -1 else if n < m then 1 else 0
theorem sgn_lt {m n : Int} (h : m < n) : -1 = sgn m n := by unfold sgn; rw [if_pos h]
theorem sgn_gt {m n : Int} (h : n < m) : 1 = sgn m n := by unfold sgn; rw [if_neg (by omega), if_pos h]
theorem sgn_eq {m n : Int} (h : ¬ m < n) (g : ¬ n < m) : 0 = sgn m n := by unfold sgn; rw [if_neg h, if_neg g]
theorem val_00 : val 0 0 = 0 := rfl
theorem of_parts {n : Int} (h1 : -9223372036854775808 ≤ n) (h2 : n < 9223372036854775808) : n / 9223372036854775808 = oh n ∧ n % 18446744073709551616 = ol n := by
  have o : ok n = true := by rw [ok_iff]; omega
  unfold oh ol
  rw [if_pos o, if_pos o]
  omega
theorem sgn_val {h l h' l' : Int} (b : B h l) (b' : B h' l') : sgn (val h l) (val h' l') = if h = h' then sgn l l' else sgn h h' := by
  obtain ⟨h1, h2, h3, h4⟩ := b
  obtain ⟨h5, h6, h7, h8⟩ := b'
  unfold sgn val
  by_cases e : h = h'
  · rw [if_pos e]
    by_cases c : l < l'
    · rw [if_pos (by omega), if_pos c]
    · rw [if_neg (by omega), if_neg c]
      by_cases c : l' < l
      · rw [if_pos (by omega), if_pos c]
      · rw [if_neg (by omega), if_neg c]
  · rw [if_neg e]
    by_cases c : h < h'
    · rw [if_pos (by omega), if_pos c]
    · rw [if_neg (by omega), if_neg c, if_pos (by omega), if_pos (by omega)]
def fits (v : Int) : Bool := decide (-9223372036854775808 ≤ v) && decide (v < 9223372036854775808)
theorem fits_iff {v : Int} : fits v = true ↔ -9223372036854775808 ≤ v ∧ v < 9223372036854775808 := by
  unfold fits; rw [Bool.and_eq_true, decide_eq_true_iff, decide_eq_true_iff]
theorem small_of {h l n : Int} (b : B h l) (hn : (l + 9223372036854775808) % 18446744073709551616 - 9223372036854775808 = n) :
    (h = oh n → l = ol n → fits (val h l) = true ∧ n = val h l) ∧ (¬ (h = oh n ∧ l = ol n) → fits (val h l) = false) := by
  obtain ⟨p1, p2⟩ := of_parts (n := n) (by omega) (by omega)
  obtain ⟨h1, h2, h3, h4⟩ := b
  rw [← p1, ← p2]
  refine ⟨fun a b => ?_, fun a => ?_⟩
  · rw [fits_iff]; unfold val; omega
  · rw [Bool.eq_false_iff]; intro f; rw [fits_iff] at f; unfold val at f; omega
def smv (v : Int) : Int := if fits v = true then v else 0
theorem smv_yes {v : Int} (h : fits v = true) : smv v = v := by unfold smv; rw [if_pos h]
theorem smv_no {v : Int} (h : fits v = false) : smv v = 0 := by unfold smv; rw [h]; rfl
theorem tt_of {p q r : Prop} [Decidable p] [Decidable q] [Decidable r] : ((decide p != decide r) && (decide q != decide r)) = true ↔ ((p ∧ q ∧ ¬ r) ∨ (¬ p ∧ ¬ q ∧ r)) := by
  by_cases p <;> by_cases q <;> by_cases r <;> simp_all
theorem tt_of2 {p q r : Prop} [Decidable p] [Decidable q] [Decidable r] : ((decide p != decide q) && (decide p != decide r)) = true ↔ ((p ∧ ¬ q ∧ ¬ r) ∨ (¬ p ∧ q ∧ r)) := by
  by_cases p <;> by_cases q <;> by_cases r <;> simp_all
theorem add_of {h l h' l' c lo u u' s x : Int} (b : B h l) (b' : B h' l') (hc : (l + l') / 18446744073709551616 = c) (hlo : (l + l') % 18446744073709551616 = lo)
    (hu : h % 18446744073709551616 = u) (hu' : h' % 18446744073709551616 = u') (hs : (u + u' + c) % 18446744073709551616 = s) (hx : (s + 9223372036854775808) % 18446744073709551616 - 9223372036854775808 = x) :
    (ok (val h l + val h' l') = true → ((decide (h < 0) != decide (x < 0)) && (decide (h' < 0) != decide (x < 0))) = false ∧ x = oh (val h l + val h' l') ∧ lo = ol (val h l + val h' l')) ∧
    (ok (val h l + val h' l') = false → ((decide (h < 0) != decide (x < 0)) && (decide (h' < 0) != decide (x < 0))) = true) := by
  obtain ⟨h1, h2, h3, h4⟩ := b
  obtain ⟨h5, h6, h7, h8⟩ := b'
  refine ⟨fun o => ?_, fun o => ?_⟩
  · have hv : val h l + val h' l' = val x lo ∧ -9223372036854775808 ≤ x ∧ x < 9223372036854775808 := by
      rw [ok_iff] at o; unfold val at *; omega
    have := ohl_of (v := val h l + val h' l') (h := x) (l := lo) (by unfold B; omega) hv.1
    refine ⟨?_, this.1.symm, this.2.symm⟩
    rw [Bool.eq_false_iff]; intro g; rw [tt_of] at g; rw [ok_iff] at o; unfold val at *; omega
  · rw [tt_of]; have := ok_no o; unfold val at *; omega
theorem sub_of {h l h' l' c lo u u' s x : Int} (b : B h l) (b' : B h' l') (hc : -((l - l') / 18446744073709551616) = c) (hlo : (l - l') % 18446744073709551616 = lo)
    (hu : h % 18446744073709551616 = u) (hu' : h' % 18446744073709551616 = u') (hs : (u - u' - c) % 18446744073709551616 = s) (hx : (s + 9223372036854775808) % 18446744073709551616 - 9223372036854775808 = x) :
    (ok (val h l - val h' l') = true → ((decide (h < 0) != decide (h' < 0)) && (decide (h < 0) != decide (x < 0))) = false ∧ x = oh (val h l - val h' l') ∧ lo = ol (val h l - val h' l')) ∧
    (ok (val h l - val h' l') = false → ((decide (h < 0) != decide (h' < 0)) && (decide (h < 0) != decide (x < 0))) = true) := by
  obtain ⟨h1, h2, h3, h4⟩ := b
  obtain ⟨h5, h6, h7, h8⟩ := b'
  refine ⟨fun o => ?_, fun o => ?_⟩
  · have hv : val h l - val h' l' = val x lo ∧ -9223372036854775808 ≤ x ∧ x < 9223372036854775808 := by
      rw [ok_iff] at o; unfold val at *; omega
    have := ohl_of (v := val h l - val h' l') (h := x) (l := lo) (by unfold B; omega) hv.1
    refine ⟨?_, this.1.symm, this.2.symm⟩
    rw [Bool.eq_false_iff]; intro g; rw [tt_of2] at g; rw [ok_iff] at o; unfold val at *; omega
  · rw [tt_of2]; have := ok_no o; unfold val at *; omega
def w64 (n : Int) : Int := (n + 9223372036854775808) % 18446744073709551616 - 9223372036854775808
def ifn (m n : Int) : Int := if m < 0 then n else 0
theorem mul_hi {a b A B : Int} (h1 : -A ≤ a) (h2 : a ≤ A) (h3 : -B ≤ b) (h4 : b ≤ B) : -(A * B) ≤ a * b ∧ a * b ≤ A * B := by
  have hA : 0 ≤ A := by omega
  have hB : 0 ≤ B := by omega
  have h : (a * b).natAbs ≤ (A * B).natAbs := by
    rw [Int.natAbs_mul, Int.natAbs_mul]; exact Nat.mul_le_mul (by omega) (by omega)
  have : 0 ≤ A * B := Int.mul_nonneg hA hB
  omega
theorem mul_of {m n u u' hi lo : Int} (h1 : -9223372036854775808 ≤ m) (h2 : m < 9223372036854775808) (h3 : -9223372036854775808 ≤ n) (h4 : n < 9223372036854775808)
    (eu : m % 18446744073709551616 = u) (eu' : n % 18446744073709551616 = u') (ehi : u * u' / 18446744073709551616 = hi) (elo : u * u' % 18446744073709551616 = lo) :
    w64 (w64 (w64 hi - ifn m n) - ifn n m) = oh (m * n) ∧ lo = ol (m * n) := by
  have hz := mul_hi (a := m) (b := n) (A := 9223372036854775808) (B := 9223372036854775808) h1 (by omega) h3 (by omega)
  have o : ok (m * n) = true := by rw [ok_iff]; omega
  unfold oh ol
  rw [if_pos o, if_pos o]
  have key : u * u' = m * n + 18446744073709551616 * (ifn m n + ifn n m) + (if m < 0 then if n < 0 then 340282366920938463463374607431768211456 else 0 else 0) := by
    unfold ifn
    by_cases a : m < 0 <;> by_cases b : n < 0 <;> simp only [a, b, if_true, if_false]
    · rw [← eu, ← eu', show m % 18446744073709551616 = m + 18446744073709551616 by omega, show n % 18446744073709551616 = n + 18446744073709551616 by omega, Int.add_mul, Int.mul_add, Int.mul_add]; omega
    · rw [← eu, ← eu', show m % 18446744073709551616 = m + 18446744073709551616 by omega, show n % 18446744073709551616 = n by omega, Int.add_mul]; omega
    · rw [← eu, ← eu', show m % 18446744073709551616 = m by omega, show n % 18446744073709551616 = n + 18446744073709551616 by omega, Int.mul_add]; omega
    · rw [← eu, ← eu', show m % 18446744073709551616 = m by omega, show n % 18446744073709551616 = n by omega]; omega
  clear o
  generalize m * n = z at *
  generalize u * u' = t at *
  unfold w64 ifn at *
  by_cases a : m < 0 <;> by_cases b : n < 0 <;> simp only [a, b, if_true, if_false] at * <;> omega
def abs (v : Int) : Int := if v < 0 then -v else v
def sg (m : Bool) (v : Int) : Int := if m = true then -v else v
theorem size_of {h l : Int} (b : B h l) :
    (0 ≤ h → abs (val h l) / 18446744073709551616 = h ∧ abs (val h l) % 18446744073709551616 = l) ∧
    (h < 0 → abs (val h l) / 18446744073709551616 = (0 - h % 18446744073709551616 - -((0 - l) / 18446744073709551616)) % 18446744073709551616 ∧ abs (val h l) % 18446744073709551616 = (0 - l) % 18446744073709551616) := by
  obtain ⟨h1, h2, h3, h4⟩ := b
  unfold abs val
  refine ⟨fun a => ?_, fun a => ?_⟩
  · rw [if_neg (by omega)]; omega
  · rw [if_pos (by omega)]; omega
theorem signed_pos {x y : Int} (h1 : 0 ≤ x) (h2 : x < 18446744073709551616) (h3 : 0 ≤ y) (h4 : y < 18446744073709551616) :
    (x < 9223372036854775808 → w64 x = x ∧ ok (sg false (val x y)) = true ∧ x = oh (sg false (val x y)) ∧ y = ol (sg false (val x y))) ∧
    (9223372036854775808 ≤ x → w64 x = x - 18446744073709551616 ∧ ok (sg false (val x y)) = false) := by
  have e : sg false (val x y) = val x y := rfl
  rw [e]
  refine ⟨fun a => ?_, fun a => ?_⟩
  · have b : B x y := by unfold B; omega
    exact ⟨by unfold w64; omega, ok_val b, (oh_val b).symm, (ol_val b).symm⟩
  · refine ⟨by unfold w64; omega, ?_⟩
    rw [Bool.eq_false_iff]; intro o; rw [ok_iff] at o; unfold val at o; omega
theorem signed_neg {x y x' y' : Int} (h1 : 0 ≤ x) (h2 : x < 18446744073709551616) (h3 : 0 ≤ y) (h4 : y < 18446744073709551616)
    (ex : (0 - x - -((0 - y) / 18446744073709551616)) % 18446744073709551616 = x') (ey : (0 - y) % 18446744073709551616 = y') :
    (x' = 0 → y' = 0 → sg true (val x y) = 0) ∧
    (¬ (x' = 0 ∧ y' = 0) → 9223372036854775808 ≤ x' → w64 x' = x' - 18446744073709551616 ∧ ok (sg true (val x y)) = true ∧ w64 x' = oh (sg true (val x y)) ∧ y' = ol (sg true (val x y))) ∧
    (¬ (x' = 0 ∧ y' = 0) → x' < 9223372036854775808 → w64 x' = x' ∧ ok (sg true (val x y)) = false) := by
  have e : sg true (val x y) = -(val x y) := rfl
  rw [e]
  refine ⟨fun a b => ?_, fun n a => ?_, fun n a => ?_⟩
  · unfold val; omega
  · have hw : w64 x' = x' - 18446744073709551616 := by unfold w64; omega
    have hv : -(val x y) = val (x' - 18446744073709551616) y' := by unfold val; omega
    have b : B (x' - 18446744073709551616) y' := by unfold B; omega
    rw [hw, hv]
    exact ⟨rfl, ok_val b, (oh_val b).symm, (ol_val b).symm⟩
  · refine ⟨by unfold w64; omega, ?_⟩
    rw [Bool.eq_false_iff]; intro o; rw [ok_iff] at o; unfold val at o; omega
theorem ok0 : ok 0 = true ∧ oh 0 = 0 ∧ ol 0 = 0 := by refine ⟨?_, ?_, ?_⟩ <;> decide
end Go.Proofs.Ytbjbafhlmcnceaa.M
