/- Plain: sides and vertices as rows of numbers; what stands between two numbers. -/
import Derived.Test.YtbjbafhlmcnceaaM
namespace Go.Proofs.Ytbjbafhlmcnceaa
set_option linter.unusedVariables false
namespace D
def inB (lo hi x : Int) : Bool := decide (lo ≤ x) && decide (x ≤ hi)
theorem inB_iff {lo hi x : Int} : inB lo hi x = true ↔ lo ≤ x ∧ x ≤ hi := by simp [inB]
theorem inB_no {lo hi x : Int} : inB lo hi x = false ↔ x < lo ∨ hi < x := by
  rw [← Bool.not_eq_true, inB_iff]; omega
/-- Are the first n numbers from lo to hi? -/
def allB (n : Nat) (lo hi : Int) (a : Nat → Int) : Bool := (List.range n).all fun i => inB lo hi (a i)
theorem allB_iff {n : Nat} {lo hi : Int} {a : Nat → Int} : allB n lo hi a = true ↔ ∀ i, i < n → lo ≤ a i ∧ a i ≤ hi := by
  simp [allB, inB_iff]
theorem allB_no {n : Nat} {lo hi : Int} {a : Nat → Int} {i : Nat} (h : i < n) (hi' : inB lo hi (a i) = false) : allB n lo hi a = false := by
  rw [← Bool.not_eq_true, allB_iff]
  intro hall
  have := inB_iff.2 (hall i h)
  rw [hi'] at this
  cases this
def sub (k : Nat) (a : Nat → Int) (i : Nat) : Int := a (k + i)
def coef (s : Nat → Int) : Bool := allB 4 (-32768) 32768 (sub 1 s)
/-- May a side be? -/
def right (s : Nat → Int) : Bool := if s 0 = 3 then coef s else inB 0 2 (s 0) && M.eqB 4 (sub 1 s) M.zero
def place (v : Nat → Int) : Bool := allB 4 (-68719476736) 68719476736 v
def color (v : Nat → Int) : Bool := allB 4 0 255 (sub 4 v)
/-- Does a vertex fit? -/
def fits (v : Nat → Int) : Bool := place v && color v
theorem place_iff {v : Nat → Int} : place v = true ↔ ∀ i, i < 4 → -68719476736 ≤ v i ∧ v i ≤ 68719476736 := allB_iff
theorem color_iff {v : Nat → Int} : color v = true ↔ ∀ i, i < 4 → 0 ≤ v (4 + i) ∧ v (4 + i) ≤ 255 := allB_iff
theorem fits_iff {v : Nat → Int} : fits v = true ↔ (∀ i, i < 4 → -68719476736 ≤ v i ∧ v i ≤ 68719476736) ∧ ∀ i, i < 4 → 0 ≤ v (4 + i) ∧ v (4 + i) ≤ 255 := by
  rw [fits, Bool.and_eq_true, place_iff, color_iff]
theorem fits_rng {v : Nat → Int} (h : fits v = true) {i : Nat} (hi : i < 8) : -68719476736 ≤ v i ∧ v i ≤ 68719476736 := by
  obtain ⟨h1, h2⟩ := fits_iff.1 h
  by_cases h4 : i < 4
  · exact h1 i h4
  · have := h2 (i - 4) (by omega)
    rw [show 4 + (i - 4) = i by omega] at this
    omega
/-- The sum of the first n products. -/
def part (x y : Nat → Int) : Nat → Int
  | 0 => 0
  | n + 1 => part x y n + x n * y n
def dist (s v : Nat → Int) : Int := if s 0 = 0 then v 3 - 1 else if s 0 = 1 then v 3 + v 2 else if s 0 = 2 then v 3 - v 2 else part (sub 1 s) v 4
theorem mul_le {x y : Int} (hx : -32768 ≤ x ∧ x ≤ 32768) (hy : -68719476736 ≤ y ∧ y ≤ 68719476736) : -2251799813685248 ≤ x * y ∧ x * y ≤ 2251799813685248 := by
  have e1 := Int.mul_nonneg (show 0 ≤ 32768 - x by omega) (show 0 ≤ 68719476736 - y by omega)
  have e2 := Int.mul_nonneg (show 0 ≤ 32768 + x by omega) (show 0 ≤ 68719476736 + y by omega)
  have e3 := Int.mul_nonneg (show 0 ≤ 32768 - x by omega) (show 0 ≤ 68719476736 + y by omega)
  have e4 := Int.mul_nonneg (show 0 ≤ 32768 + x by omega) (show 0 ≤ 68719476736 - y by omega)
  simp only [Int.sub_mul, Int.add_mul, Int.mul_sub, Int.mul_add] at e1 e2 e3 e4
  generalize x * y = p at *
  omega
theorem part_le {x y : Nat → Int} (hx : ∀ i, i < 4 → -32768 ≤ x i ∧ x i ≤ 32768) (hy : ∀ i, i < 4 → -68719476736 ≤ y i ∧ y i ≤ 68719476736) :
    ∀ n : Nat, n ≤ 4 → -(2251799813685248 * (n : Int)) ≤ part x y n ∧ part x y n ≤ 2251799813685248 * (n : Int) := by
  intro n
  induction n with
  | zero => intro _; simp [part]
  | succ n ih =>
    intro hn
    obtain ⟨h1, h2⟩ := ih (by omega)
    have h := mul_le (hx n (by omega)) (hy n (by omega))
    rw [part]
    generalize x n * y n = p at *
    omega
theorem coef_of {s : Nat → Int} (h : right s = true) : ∀ i, i < 4 → -32768 ≤ s (1 + i) ∧ s (1 + i) ≤ 32768 := by
  intro i hi
  unfold right at h
  split at h
  · exact allB_iff.1 h i hi
  · rw [Bool.and_eq_true] at h
    have := M.eqB_iff.1 h.2 i hi
    simp only [sub, M.zero] at this
    omega
theorem kind_of {s : Nat → Int} (h : right s = true) : 0 ≤ s 0 ∧ s 0 ≤ 3 := by
  unfold right at h
  split at h
  · omega
  · rw [Bool.and_eq_true] at h
    have := inB_iff.1 h.1
    omega
theorem dist_le {s v : Nat → Int} (hs : right s = true) (hv : fits v = true) : -9007199254740992 ≤ dist s v ∧ dist s v ≤ 9007199254740992 := by
  have h3 := fits_rng hv (i := 3) (by omega)
  have h2 := fits_rng hv (i := 2) (by omega)
  unfold dist
  split
  · omega
  split
  · omega
  split
  · omega
  have := part_le (x := sub 1 s) (fun i hi => coef_of hs i hi) (fun i hi => (fits_iff.1 hv).1 i hi) 4 (by omega)
  omega
/-- What stands n d-ths on the way, rounded down. -/
def wt (a b n d : Int) : Int := (a * (d - n) + b * n) / d
theorem num_le {a b n d m M : Int} (ha : m ≤ a ∧ a ≤ M) (hb : m ≤ b ∧ b ≤ M) (hn : 0 ≤ n ∧ n ≤ d) : m * d ≤ a * (d - n) + b * n ∧ a * (d - n) + b * n ≤ M * d := by
  have e1 := Int.mul_le_mul_of_nonneg_right ha.1 (show 0 ≤ d - n by omega)
  have e2 := Int.mul_le_mul_of_nonneg_right ha.2 (show 0 ≤ d - n by omega)
  have e3 := Int.mul_le_mul_of_nonneg_right hb.1 hn.1
  have e4 := Int.mul_le_mul_of_nonneg_right hb.2 hn.1
  rw [Int.mul_sub] at e1 e2
  rw [Int.mul_sub] at e1 e2
  rw [Int.mul_sub]
  generalize m * d = x1 at *
  generalize m * n = x2 at *
  generalize a * d = x3 at *
  generalize a * n = x4 at *
  generalize b * n = x5 at *
  generalize M * d = x6 at *
  generalize M * n = x7 at *
  omega
theorem wt_le {a b n d m M : Int} (ha : m ≤ a ∧ a ≤ M) (hb : m ≤ b ∧ b ≤ M) (hn : 0 ≤ n ∧ n ≤ d) (hd : 1 ≤ d) : m ≤ wt a b n d ∧ wt a b n d ≤ M := by
  obtain ⟨h1, h2⟩ := num_le ha hb hn
  unfold wt
  refine ⟨(Int.le_ediv_iff_mul_le (by omega)).2 h1, ?_⟩
  have := Int.ediv_le_ediv (show 0 < d by omega) h2
  rwa [Int.mul_ediv_cancel _ (by omega)] at this
theorem wt_mid {a b n d : Int} (hn : 0 ≤ n ∧ n ≤ d) (hd : 1 ≤ d) : min a b ≤ wt a b n d ∧ wt a b n d ≤ max a b := wt_le (by omega) (by omega) hn hd
theorem wt_0 {a b d : Int} (hd : 1 ≤ d) : wt a b 0 d = a := by
  unfold wt
  rw [Int.sub_zero, Int.mul_zero, Int.add_zero, Int.mul_ediv_cancel _ (by omega)]
theorem wt_d {a b d : Int} (hd : 1 ≤ d) : wt a b d d = b := by
  unfold wt
  rw [Int.sub_self, Int.mul_zero, Int.zero_add, Int.mul_ediv_cancel _ (by omega)]
theorem wt_back (a b n d : Int) : wt b a (d - n) d = wt a b n d := by
  unfold wt
  rw [show d - (d - n) = n by omega, Int.add_comm]
def way (a b : Nat → Int) (n d : Int) (i : Nat) : Int := wt (a i) (b i) n d
def okAt (a b : Nat → Int) (n d : Int) : Bool := fits a && fits b && decide (1 ≤ d) && decide (0 ≤ n) && decide (n ≤ d)
theorem okAt_iff {a b : Nat → Int} {n d : Int} : okAt a b n d = true ↔ fits a = true ∧ fits b = true ∧ 1 ≤ d ∧ 0 ≤ n ∧ n ≤ d := by
  simp only [okAt, Bool.and_eq_true, decide_eq_true_eq, and_assoc]
/-- What At answers. -/
def at_ (a b : Nat → Int) (n d : Int) : (Nat → Int) × Int := if okAt a b n d = true then (way a b n d, 0) else (M.zero, 1)
theorem at_yes {a b : Nat → Int} {n d : Int} (h : okAt a b n d = true) : at_ a b n d = (way a b n d, 0) := if_pos h
theorem at_no {a b : Nat → Int} {n d : Int} (h : okAt a b n d = false) : at_ a b n d = (M.zero, 1) := if_neg (by rw [h]; decide)
theorem way_fits {a b : Nat → Int} {n d : Int} (h : okAt a b n d = true) : fits (way a b n d) = true := by
  obtain ⟨ha, hb, hd, h0, h1⟩ := okAt_iff.1 h
  have A := fits_iff.1 ha
  have B := fits_iff.1 hb
  exact fits_iff.2 ⟨fun i hi => wt_le (A.1 i hi) (B.1 i hi) ⟨h0, h1⟩ hd, fun i hi => wt_le (A.2 i hi) (B.2 i hi) ⟨h0, h1⟩ hd⟩
/-- The numerator. -/
def nu (a b n d : Int) : Int := a * (d - n) + b * n
theorem slackB {P r d : Int} (h0 : 0 ≤ r) (h1 : r < d) : P * r ≤ max P (0 - P) * (d - 1) ∧ -(max P (0 - P) * (d - 1)) ≤ P * r := by
  have hm : P ≤ max P (0 - P) ∧ -(max P (0 - P)) ≤ P ∧ 0 ≤ max P (0 - P) := by omega
  generalize max P (0 - P) = m at *
  have e1 := Int.mul_le_mul_of_nonneg_right hm.1 h0
  have e2 := Int.mul_le_mul_of_nonneg_left (show r ≤ d - 1 by omega) hm.2.2
  have e3 := Int.mul_le_mul_of_nonneg_right hm.2.1 h0
  rw [Int.neg_mul] at e3
  omega
/-- The first n coefficients without their signs, together. -/
def slack (s : Nat → Int) : Nat → Int
  | 0 => 0
  | n + 1 => slack s n + max (s (1 + n)) (0 - s (1 + n))
theorem slack_le {s : Nat → Int} (h : right s = true) : ∀ n : Nat, n ≤ 4 → 0 ≤ slack s n ∧ slack s n ≤ 32768 * n := by
  intro n
  induction n with
  | zero => intro _; simp [slack]
  | succ n ih =>
    intro hn
    have h1 := ih (by omega)
    have h2 := coef_of h n (by omega)
    rw [slack]
    omega
theorem quo {N d v : Int} (hd : 1 ≤ d) (hv : N / d = v) : ∃ r, N = v * d + r ∧ 0 ≤ r ∧ r < d := by
  refine ⟨N % d, ?_, Int.emod_nonneg _ (by omega), Int.emod_lt_of_pos _ (by omega)⟩
  subst hv
  rw [Int.mul_comm]
  exact (Int.mul_ediv_add_emod N d).symm
theorem meet_eq (P0 P1 P2 P3 a0 a1 a2 a3 b0 b1 b2 b3 p q : Int) (hp : P0 * a0 + P1 * a1 + P2 * a2 + P3 * a3 = p) (hq : P0 * b0 + P1 * b1 + P2 * b2 + P3 * b3 = q) :
    P0 * (a0 * (p - q - p) + b0 * p) + P1 * (a1 * (p - q - p) + b1 * p) + P2 * (a2 * (p - q - p) + b2 * p) + P3 * (a3 * (p - q - p) + b3 * p) = 0 := by
  have e : p - q - p = -q := by omega
  rw [e]
  have : P0 * (a0 * -q + b0 * p) + P1 * (a1 * -q + b1 * p) + P2 * (a2 * -q + b2 * p) + P3 * (a3 * -q + b3 * p) = -q * (P0 * a0 + P1 * a1 + P2 * a2 + P3 * a3) + p * (P0 * b0 + P1 * b1 + P2 * b2 + P3 * b3) := by
    simp only [Int.mul_add, Int.neg_mul, Int.mul_neg]
    have c : ∀ x y z : Int, x * (y * z) = z * (x * y) := fun x y z => by rw [Int.mul_comm z, Int.mul_assoc]
    rw [c P0 a0 q, c P1 a1 q, c P2 a2 q, c P3 a3 q, c P0 b0 p, c P1 b1 p, c P2 b2 p, c P3 b3 p]
    omega
  rw [this, hp, hq, Int.neg_mul, Int.mul_comm p q]
  omega
theorem meet_sum {P0 P1 P2 P3 v0 v1 v2 v3 r0 r1 r2 r3 d : Int} (hd : 1 ≤ d) (h0 : 0 ≤ r0 ∧ r0 < d) (h1 : 0 ≤ r1 ∧ r1 < d) (h2 : 0 ≤ r2 ∧ r2 < d) (h3 : 0 ≤ r3 ∧ r3 < d)
    (h : P0 * (v0 * d + r0) + P1 * (v1 * d + r1) + P2 * (v2 * d + r2) + P3 * (v3 * d + r3) = 0) :
    -(max P0 (0 - P0) + max P1 (0 - P1) + max P2 (0 - P2) + max P3 (0 - P3)) ≤ P0 * v0 + P1 * v1 + P2 * v2 + P3 * v3 ∧ P0 * v0 + P1 * v1 + P2 * v2 + P3 * v3 ≤ max P0 (0 - P0) + max P1 (0 - P1) + max P2 (0 - P2) + max P3 (0 - P3) := by
  have s0 := slackB (P := P0) h0.1 h0.2
  have s1 := slackB (P := P1) h1.1 h1.2
  have s2 := slackB (P := P2) h2.1 h2.2
  have s3 := slackB (P := P3) h3.1 h3.2
  have hm : 0 ≤ max P0 (0 - P0) ∧ 0 ≤ max P1 (0 - P1) ∧ 0 ≤ max P2 (0 - P2) ∧ 0 ≤ max P3 (0 - P3) := by omega
  simp only [Int.mul_add] at h
  rw [← Int.mul_assoc, ← Int.mul_assoc, ← Int.mul_assoc, ← Int.mul_assoc] at h
  have hx : (P0 * v0 + P1 * v1 + P2 * v2 + P3 * v3) * d = P0 * v0 * d + P1 * v1 * d + P2 * v2 * d + P3 * v3 * d := by simp only [Int.add_mul]
  obtain ⟨S, hS⟩ : ∃ S, max P0 (0 - P0) + max P1 (0 - P1) + max P2 (0 - P2) + max P3 (0 - P3) = S := ⟨_, rfl⟩
  have hSd : S * (d - 1) = max P0 (0 - P0) * (d - 1) + max P1 (0 - P1) * (d - 1) + max P2 (0 - P2) * (d - 1) + max P3 (0 - P3) * (d - 1) := by rw [← hS]; simp only [Int.add_mul]
  have hS0 : 0 ≤ S := by omega
  rw [hS]
  generalize max P0 (0 - P0) * (d - 1) = m0 at *
  generalize max P1 (0 - P1) * (d - 1) = m1 at *
  generalize max P2 (0 - P2) * (d - 1) = m2 at *
  generalize max P3 (0 - P3) * (d - 1) = m3 at *
  generalize P0 * v0 + P1 * v1 + P2 * v2 + P3 * v3 = x at *
  have hb : -(S * (d - 1)) ≤ x * d ∧ x * d ≤ S * (d - 1) := by
    rw [hx, hSd]
    generalize P0 * v0 * d = y0 at *
    generalize P1 * v1 * d = y1 at *
    generalize P2 * v2 * d = y2 at *
    generalize P3 * v3 * d = y3 at *
    omega
  have hle : S * (d - 1) ≤ S * d := Int.mul_le_mul_of_nonneg_left (by omega) hS0
  refine ⟨?_, ?_⟩
  · refine Int.le_of_mul_le_mul_right (a := d) ?_ (by omega)
    rw [Int.neg_mul]
    omega
  · exact Int.le_of_mul_le_mul_right (a := d) (by omega) (by omega)
/-- Where the way meets the side. -/
theorem meets {s a b : Nat → Int} {p q : Int} (hs : right s = true) (hp : dist s a = p) (hq : dist s b = q) (p0 : 0 ≤ p) (q0 : q < 0) :
    ((s 0 = 0 ∨ s 0 = 2) → dist s (way a b p (p - q)) = 0) ∧ (s 0 = 1 → dist s (way a b p (p - q)) = 0 ∨ dist s (way a b p (p - q)) = -1) ∧
    (s 0 = 3 → dist s (way a b p (p - q)) ≤ slack s 4 ∧ 0 - slack s 4 ≤ dist s (way a b p (p - q))) := by
  have hd : 1 ≤ p - q := by omega
  refine ⟨?_, ?_, ?_⟩
  · rintro (h | h)
    · simp only [dist, h, if_true, way, wt] at hp hq ⊢
      have e : a 3 * (p - q - p) + b 3 * p = p - q := by
        rw [show a 3 = p + 1 by omega, show b 3 = q + 1 by omega, show p - q - p = -q by omega, Int.mul_neg, Int.add_mul, Int.add_mul, Int.mul_comm q p]
        omega
      rw [e, Int.ediv_self (by omega)]
      rfl
    · simp only [dist, h, way, wt, show ¬ (2 : Int) = 0 by decide, show ¬ (2 : Int) = 1 by decide, if_true, if_false] at hp hq ⊢
      have e : a 3 * (p - q - p) + b 3 * p = a 2 * (p - q - p) + b 2 * p := by
        rw [show a 3 = a 2 + p by omega, show b 3 = b 2 + q by omega, show p - q - p = -q by omega, Int.add_mul, Int.add_mul, Int.mul_neg, Int.mul_neg, Int.mul_comm q p]
        omega
      rw [e]
      omega
  · intro h
    simp only [dist, h, way, wt, show ¬ (1 : Int) = 0 by decide, if_true, if_false] at hp hq ⊢
    have e : a 3 * (p - q - p) + b 3 * p = -(a 2 * (p - q - p) + b 2 * p) := by
      rw [show a 3 = p - a 2 by omega, show b 3 = q - b 2 by omega, show p - q - p = -q by omega, Int.sub_mul, Int.sub_mul, Int.mul_neg, Int.mul_neg, Int.mul_comm q p]
      omega
    rw [e]
    generalize a 2 * (p - q - p) + b 2 * p = N
    obtain ⟨r, h1, h2, h3⟩ := quo (N := N) hd rfl
    obtain ⟨r', h4, h5, h6⟩ := quo (N := -N) hd rfl
    generalize N / (p - q) = x at *
    generalize -N / (p - q) = y at *
    generalize p - q = d at *
    have hx : (y + x) * d = -(r + r') := by rw [Int.add_mul]; omega
    have b1 : y + x ≤ 0 := by
      refine Int.le_of_mul_le_mul_right (a := d) ?_ (by omega)
      rw [Int.zero_mul]
      omega
    have b2 : -1 ≤ y + x := by
      rcases Int.lt_or_le (y + x) (-1) with hlt | hle
      · exfalso
        have := Int.mul_le_mul_of_nonneg_right (show y + x ≤ -2 by omega) (show 0 ≤ d by omega)
        omega
      · exact hle
    omega
  · intro h
    simp only [dist, h, show ¬ (3 : Int) = 0 by decide, show ¬ (3 : Int) = 1 by decide, show ¬ (3 : Int) = 2 by decide, if_false, part, sub, Int.zero_add, Nat.reduceAdd] at hp hq ⊢
    have E := meet_eq _ _ _ _ _ _ _ _ _ _ _ _ p q hp hq
    obtain ⟨r0, e0, f0⟩ := quo (N := a 0 * (p - q - p) + b 0 * p) hd rfl
    obtain ⟨r1, e1, f1⟩ := quo (N := a 1 * (p - q - p) + b 1 * p) hd rfl
    obtain ⟨r2, e2, f2⟩ := quo (N := a 2 * (p - q - p) + b 2 * p) hd rfl
    obtain ⟨r3, e3, f3⟩ := quo (N := a 3 * (p - q - p) + b 3 * p) hd rfl
    rw [e0, e1, e2, e3] at E
    have R := meet_sum hd f0 f1 f2 f3 E
    simp only [way, wt, slack, Int.zero_add, Nat.reduceAdd]
    refine ⟨R.2, ?_⟩
    have := R.1
    omega
end D
end Go.Proofs.Ytbjbafhlmcnceaa
