/- Plain: what stands between two numbers. -/
import Derived.Lib.Hide
namespace Go.Proofs.Ytndaijcgjhmiaaa
set_option linter.unusedVariables false
namespace VM
/-- n, brought among 0 and d. -/
def cl (n d : Int) : Int := max 0 (min n d)
theorem cl_lim {n d : Int} (hd : 0 ≤ d) : 0 ≤ cl n d ∧ cl n d ≤ d := by unfold cl; omega
theorem cl_back {n d : Int} (hd : 0 ≤ d) : cl (d - n) d = d - cl n d := by unfold cl; omega
theorem cl_mono {n n' d : Int} (h : n ≤ n') : cl n d ≤ cl n' d := by unfold cl; omega
/-- p times d less n, and q times n, together. -/
def top (p q n d : Int) : Int := p * (d - n) + q * n
def mid (p q n d : Int) : Int := if d < 1 then p else top p q (cl n d) d / d
theorem top_back (p q n d : Int) : top q p (d - n) d = top p q n d := by
  unfold top
  rw [show d - (d - n) = n by omega]
  omega
theorem top_less (p q n d : Int) : top p q n d = p * d + (q - p) * n := by
  unfold top
  rw [Int.mul_sub, Int.sub_mul]
  omega
theorem mid_back {p q n d : Int} (hd : 1 ≤ d) : mid q p (d - n) d = mid p q n d := by
  unfold mid
  rw [if_neg (by omega), if_neg (by omega), cl_back (by omega), top_back]
theorem mid_between (p q n : Int) {d : Int} : min p q ≤ mid p q n d ∧ mid p q n d ≤ max p q := by
  unfold mid
  by_cases hd : d < 1
  · rw [if_pos hd]
    omega
  · rw [if_neg hd]
    obtain ⟨c0, c1⟩ := @cl_lim n d (by omega)
    generalize cl n d = c at *
    have key : min p q * d ≤ top p q c d ∧ top p q c d ≤ max p q * d := by
      unfold top
      have a1 := Int.mul_le_mul_of_nonneg_right (show min p q ≤ p by omega) (show 0 ≤ d - c by omega)
      have a2 := Int.mul_le_mul_of_nonneg_right (show min p q ≤ q by omega) c0
      have a3 := Int.mul_le_mul_of_nonneg_right (show p ≤ max p q by omega) (show 0 ≤ d - c by omega)
      have a4 := Int.mul_le_mul_of_nonneg_right (show q ≤ max p q by omega) c0
      rw [Int.mul_sub] at a1 a3
      rw [Int.mul_sub (max p q)] at a3
      rw [Int.mul_sub]
      rw [Int.mul_sub] at a1
      omega
    exact ⟨Int.le_ediv_of_mul_le (by omega) key.1, by
      have := Int.ediv_le_ediv (c := d) (by omega) key.2
      rw [Int.mul_ediv_cancel _ (by omega)] at this
      exact this⟩
theorem mid_up {p q n n' d : Int} (hpq : p ≤ q) (h : n ≤ n') : mid p q n d ≤ mid p q n' d := by
  unfold mid
  by_cases hd : d < 1
  · rw [if_pos hd, if_pos hd]
    omega
  · rw [if_neg hd, if_neg hd, top_less, top_less]
    have := Int.mul_le_mul_of_nonneg_left (@cl_mono n n' d h) (show 0 ≤ q - p by omega)
    exact Int.ediv_le_ediv (by omega) (by omega)
theorem mid_down {p q n n' d : Int} (hpq : q ≤ p) (h : n ≤ n') : mid p q n' d ≤ mid p q n d := by
  unfold mid
  by_cases hd : d < 1
  · rw [if_pos hd, if_pos hd]
    omega
  · rw [if_neg hd, if_neg hd, top_less, top_less]
    have := Int.mul_le_mul_of_nonpos_left (show q - p ≤ 0 by omega) (@cl_mono n n' d h)
    exact Int.ediv_le_ediv (by omega) (by omega)
/-- By the longer way: how far, of how far. -/
def wide (w h : Int) : Bool := decide (max h (0 - h) ≤ max w (0 - w))
def nA (ax ay bx by_ X Y : Int) : Int := if wide (bx - ax) (by_ - ay) then (if bx - ax < 0 then 0 - (256 * X + 128 - ax) else 256 * X + 128 - ax) else (if by_ - ay < 0 then 0 - (256 * Y + 128 - ay) else 256 * Y + 128 - ay)
def dA (ax ay bx by_ : Int) : Int := if wide (bx - ax) (by_ - ay) then (if bx - ax < 0 then 0 - (bx - ax) else bx - ax) else (if by_ - ay < 0 then 0 - (by_ - ay) else by_ - ay)
/-- Along the line. -/
def nC (ax ay bx by_ X Y : Int) : Int := (256 * X + 128 - ax) * (bx - ax) + (256 * Y + 128 - ay) * (by_ - ay)
def dC (ax ay bx by_ : Int) : Int := (bx - ax) * (bx - ax) + (by_ - ay) * (by_ - ay)
theorem wide_back (w h : Int) : wide (0 - w) (0 - h) = wide w h := by
  unfold wide
  rw [Bool.eq_iff_iff]
  simp only [decide_eq_true_eq]
  omega
theorem along_back {ax ay bx by_ X Y : Int} (h : ¬ (ax = bx ∧ ay = by_)) : 1 ≤ dA ax ay bx by_ ∧ dA bx by_ ax ay = dA ax ay bx by_ ∧ nA bx by_ ax ay X Y = dA ax ay bx by_ - nA ax ay bx by_ X Y := by
  have e := wide_back (bx - ax) (by_ - ay)
  rw [show 0 - (bx - ax) = ax - bx by omega, show 0 - (by_ - ay) = ay - by_ by omega] at e
  unfold dA nA
  rw [e]
  cases hw : wide (bx - ax) (by_ - ay)
  · unfold wide at hw
    rw [decide_eq_false_iff_not] at hw
    simp only [Bool.false_eq_true, if_false]
    refine ⟨?_, ?_, ?_⟩ <;> split <;> (try split) <;> omega
  · unfold wide at hw
    rw [decide_eq_true_iff] at hw
    simp only [if_true]
    refine ⟨?_, ?_, ?_⟩ <;> split <;> (try split) <;> omega
theorem sq_pos {w : Int} (h : w ≠ 0) : 1 ≤ w * w := by
  rcases (by omega : w ≤ -1 ∨ 1 ≤ w) with h1 | h1
  · have := Int.mul_le_mul_of_nonneg_left (show 1 ≤ -w by omega) (show 0 ≤ -w by omega)
    rw [Int.neg_mul_neg] at this
    omega
  · have := Int.mul_le_mul_of_nonneg_left h1 (show 0 ≤ w by omega)
    omega
theorem sq_nn (w : Int) : 0 ≤ w * w := by
  by_cases h : w = 0
  · subst h; decide
  · have := sq_pos h; omega
theorem across_back {ax ay bx by_ X Y : Int} (h : ¬ (ax = bx ∧ ay = by_)) : 1 ≤ dC ax ay bx by_ ∧ dC bx by_ ax ay = dC ax ay bx by_ ∧ nC bx by_ ax ay X Y = dC ax ay bx by_ - nC ax ay bx by_ X Y := by
  have e1 : (ax - bx) * (ax - bx) = (bx - ax) * (bx - ax) := by rw [show ax - bx = -(bx - ax) by omega, Int.neg_mul_neg]
  have e2 : (ay - by_) * (ay - by_) = (by_ - ay) * (by_ - ay) := by rw [show ay - by_ = -(by_ - ay) by omega, Int.neg_mul_neg]
  have e3 : ∀ m a b : Int, (m - b) * (a - b) = (b - a) * (b - a) - (m - a) * (b - a) := fun m a b => by
    rw [show a - b = -(b - a) by omega, Int.mul_neg, ← Int.sub_mul, show b - a - (m - a) = -(m - b) by omega, Int.neg_mul]
  refine ⟨?_, ?_, ?_⟩
  · unfold dC
    have s1 := sq_nn (bx - ax)
    have s2 := sq_nn (by_ - ay)
    by_cases hx : ax = bx
    · have := sq_pos (w := by_ - ay) (by omega)
      omega
    · have := sq_pos (w := bx - ax) (by omega)
      omega
  · unfold dC
    omega
  · unfold nC dC
    rw [e3 (256 * X + 128) ax bx, e3 (256 * Y + 128) ay by_]
    omega
/-- Further on. -/
theorem along_up {ax ay bx by_ X Y X' Y' u v : Int} (hu : 0 ≤ u) (hv : 0 ≤ v) (hX : X' = if bx - ax < 0 then X - u else X + u) (hY : Y' = if by_ - ay < 0 then Y - v else Y + v) : nA ax ay bx by_ X Y ≤ nA ax ay bx by_ X' Y' := by
  unfold nA
  cases wide (bx - ax) (by_ - ay)
  · simp only [Bool.false_eq_true, if_false]
    split at hY <;> rename_i h <;> simp only [h, if_true, if_false] <;> omega
  · simp only [if_true]
    split at hX <;> rename_i h <;> simp only [h, if_true, if_false] <;> omega
theorem part_up {m a w u X' X : Int} (hu : 0 ≤ u) (hX : X' = if w < 0 then X - u else X + u) : (256 * X + 128 - a) * w ≤ (256 * X' + 128 - a) * w := by
  split at hX
  · rename_i h
    exact Int.mul_le_mul_of_nonpos_right (by omega) (by omega)
  · rename_i h
    exact Int.mul_le_mul_of_nonneg_right (by omega) (by omega)
theorem across_up {ax ay bx by_ X Y X' Y' u v : Int} (hu : 0 ≤ u) (hv : 0 ≤ v) (hX : X' = if bx - ax < 0 then X - u else X + u) (hY : Y' = if by_ - ay < 0 then Y - v else Y + v) : nC ax ay bx by_ X Y ≤ nC ax ay bx by_ X' Y' := by
  unfold nC
  have a := part_up (m := 0) (a := ax) hu hX
  have b := part_up (m := 0) (a := ay) hv hY
  omega
end VM
end Go.Proofs.Ytndaijcgjhmiaaa
