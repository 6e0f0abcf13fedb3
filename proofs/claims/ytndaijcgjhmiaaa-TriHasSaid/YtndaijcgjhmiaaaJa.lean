/- Plain: triangles: their pixels, whichever corner comes first; cut into three; moved; rows as spans. -/
import Derived.Test.YtndaijcgjhmiaaaWr
import Derived.Test.YtndaijcgjhmiaaaSn
namespace Go.Proofs.Ytndaijcgjhmiaaa
open Go.ChangeShapes Go.WideShapes Go.ChangeAt Go.RowKit
set_option linter.unusedVariables false
set_option linter.unusedSimpArgs false

namespace TR
/-- Twice the area. -/
def ar (a b c : Nat → Int) : Int := (b 0 - a 0) * (c 1 - a 1) - (b 1 - a 1) * (c 0 - a 0)
/-- A corner: X and Y. -/
def wn (x y : Int) (i : Nat) : Int := if i = 0 then x else if i = 1 then y else 0
/-- A pixel's middle. -/
def mid (x y : Int) : Nat → Int := wn (256 * x + 128) (256 * y + 128)
/-- Has a side that goes so the middles on it? -/
def own (p q : Nat → Int) : Bool := decide (q 1 < p 1) || (decide (q 1 = p 1) && decide (q 0 < p 0))
/-- Is a middle left of a side, or on one that has its pixels? -/
def left (p q : Nat → Int) (x y : Int) : Bool := decide (0 < ar p q (mid x y)) || (decide (ar p q (mid x y) = 0) && own p q)
def h3 (a b c : Nat → Int) (x y : Int) : Bool := left a b x y && (left b c x y && left c a x y)
/-- Has a triangle a pixel? -/
def has (a b c : Nat → Int) (x y : Int) : Bool := if ar a b c < 0 then h3 a c b x y else (decide (ar a b c ≠ 0) && h3 a b c x y)
theorem ar_cyc (a b c : Nat → Int) : ar b c a = ar a b c := by unfold ar; grind
theorem ar_swap (a b c : Nat → Int) : ar a c b = -ar a b c := by unfold ar; grind
theorem h3_cyc (a b c : Nat → Int) (x y : Int) : h3 b c a x y = h3 a b c x y := by
  unfold h3
  cases left a b x y <;> cases left b c x y <;> cases left c a x y <;> rfl
theorem has_cyc (a b c : Nat → Int) (x y : Int) : has b c a x y = has a b c x y := by
  unfold has
  rw [ar_cyc, h3_cyc a b c, show h3 b a c x y = h3 a c b x y from (h3_cyc c b a x y).trans (h3_cyc a c b x y)]
theorem has_swap (a b c : Nat → Int) (x y : Int) : has a c b x y = has a b c x y := by
  unfold has
  rw [ar_swap]
  by_cases h : ar a b c < 0
  · rw [if_pos h, if_neg (by omega), decide_eq_true (show -ar a b c ≠ 0 by omega), Bool.true_and]
  · rw [if_neg h]
    by_cases h0 : ar a b c = 0
    · rw [if_neg (by omega), decide_eq_false (by omega), decide_eq_false (by omega), Bool.false_and, Bool.false_and]
    · rw [if_pos (by omega), decide_eq_true h0, Bool.true_and]
theorem has_six (a b c : Nat → Int) (x y : Int) : (has b c a x y = has a b c x y ∧ has c a b x y = has a b c x y) ∧ (has a c b x y = has a b c x y ∧ has c b a x y = has a b c x y ∧ has b a c x y = has a b c x y) :=
  ⟨⟨has_cyc a b c x y, by rw [has_cyc, has_cyc]⟩, has_swap a b c x y, by rw [has_swap, has_cyc, has_cyc], by rw [has_swap, has_cyc]⟩
theorem has_flat {a b c : Nat → Int} (h : ar a b c = 0) (x y : Int) : has a b c x y = false := by
  unfold has
  rw [h, if_neg (by omega), decide_eq_false (by omega), Bool.false_and]
theorem has_pos {a b c : Nat → Int} (h : 0 < ar a b c) (x y : Int) : has a b c x y = h3 a b c x y := by
  unfold has
  rw [if_neg (by omega), decide_eq_true (by omega), Bool.true_and]
theorem has_neg {a b c : Nat → Int} (h : ar a b c < 0) (x y : Int) : has a b c x y = h3 a c b x y := by
  unfold has
  rw [if_pos h]
/-- A point that may be a corner. -/
def May (a : Nat → Int) : Prop := (-268435456 ≤ a 0 ∧ a 0 ≤ 268435456) ∧ (-268435456 ≤ a 1 ∧ a 1 ≤ 268435456)
/-- A side's number, seen from a place that is a little right of the middle, and much less below it. -/
def nn (p q : Nat → Int) (x y : Int) : Int := (q 0 - p 0) * ((4611686018427387904 * (256 * y + 128) - 1) - 4611686018427387904 * p 1) - (q 1 - p 1) * ((4611686018427387904 * (256 * x + 128) + 2147483648) - 4611686018427387904 * p 0)
theorem nn_is (p q : Nat → Int) (x y : Int) : nn p q x y = 4611686018427387904 * ar p q (mid x y) - 2147483648 * (q 1 - p 1) - (q 0 - p 0) := by
  show (q 0 - p 0) * ((4611686018427387904 * (256 * y + 128) - 1) - 4611686018427387904 * p 1) - (q 1 - p 1) * ((4611686018427387904 * (256 * x + 128) + 2147483648) - 4611686018427387904 * p 0) = 4611686018427387904 * ((q 0 - p 0) * ((256 * y + 128) - p 1) - (q 1 - p 1) * ((256 * x + 128) - p 0)) - 2147483648 * (q 1 - p 1) - (q 0 - p 0)
  grind
theorem left_nn {p q : Nat → Int} (hp : May p) (hq : May q) (x y : Int) : left p q x y = true ↔ 0 < nn p q x y := by
  rw [nn_is]
  unfold left own
  obtain ⟨⟨h1, h2⟩, h3, h4⟩ := hp
  obtain ⟨⟨h5, h6⟩, h7, h8⟩ := hq
  simp only [Bool.or_eq_true, Bool.and_eq_true, decide_eq_true_eq]
  generalize ar p q (mid x y) = n
  omega
theorem nn_turn (p q : Nat → Int) (x y : Int) : nn q p x y = -nn p q x y := by unfold nn; grind
theorem nn_zero {p q : Nat → Int} (hp : May p) (hq : May q) {x y : Int} (h : nn p q x y = 0) : p 0 = q 0 ∧ p 1 = q 1 := by
  rw [nn_is] at h
  obtain ⟨⟨h1, h2⟩, h3, h4⟩ := hp
  obtain ⟨⟨h5, h6⟩, h7, h8⟩ := hq
  generalize ar p q (mid x y) = n at h
  omega
theorem nn_three (a b c : Nat → Int) (x y : Int) : nn a b x y + nn b c x y + nn c a x y = 4611686018427387904 * ar a b c := by unfold nn ar; grind
theorem nn_sum (a b c e : Nat → Int) (x y : Int) : ar b c e * nn a e x y + ar c a e * nn b e x y + ar a b e * nn c e x y = 0 := by unfold nn ar; grind
theorem nn_in (a b c e : Nat → Int) (x y : Int) : ar a b e * nn b c x y = nn b e x y * ar a b c + nn a b x y * ar b c e := by unfold nn ar; grind
theorem nn_in2 (a b c e : Nat → Int) (x y : Int) : ar a b e * nn c a x y = nn e a x y * ar a b c + nn a b x y * ar c a e := by unfold nn ar; grind
theorem ar_four (a b c e : Nat → Int) : ar a b e + ar b c e + ar c a e = ar a b c := by unfold ar; grind
theorem pos_of {x y : Int} (hx : 0 < x) (h : 0 < x * y) : 0 < y := by
  rcases Int.lt_or_le 0 y with g | g
  · exact g
  · have := Int.mul_nonneg (Int.le_of_lt hx) (show 0 ≤ -y by omega)
    rw [Int.mul_neg] at this
    omega
/-- Two triangles on both sides of a side: no pixel in common. -/
theorem apart {a b c e : Nat → Int} (ha : May a) (hb : May b) (h : (0 < ar a b c ∧ ar a b e < 0) ∨ (ar a b c < 0 ∧ 0 < ar a b e)) (x y : Int) : (has a b c x y && has a b e x y) = false := by
  have key : ¬ (left a b x y = true ∧ left b a x y = true) := by
    rw [left_nn ha hb, left_nn hb ha, nn_turn]
    omega
  rcases h with ⟨h1, h2⟩ | ⟨h1, h2⟩
  · rw [has_pos h1, has_neg h2]
    unfold h3
    revert key
    cases left a b x y <;> cases left b a x y <;> simp
  · rw [has_neg h1, has_pos h2]
    unfold h3
    revert key
    cases left a b x y <;> cases left b a x y <;> simp
def bit (z : Bool) : Nat := if z then 1 else 0
theorem h3_nn {a b c : Nat → Int} (ha : May a) (hb : May b) (hc : May c) (x y : Int) : h3 a b c x y = true ↔ 0 < nn a b x y ∧ 0 < nn b c x y ∧ 0 < nn c a x y := by
  unfold h3
  rw [Bool.and_eq_true, Bool.and_eq_true, left_nn ha hb, left_nn hb hc, left_nn hc ha]
theorem has_nn {a b e : Nat → Int} (ha : May a) (hb : May b) (he : May e) (h : 0 ≤ ar a b e) (x y : Int) : has a b e x y = true ↔ 0 < ar a b e ∧ 0 < nn a b x y ∧ 0 < nn b e x y ∧ nn a e x y < 0 := by
  rcases (by omega : ar a b e = 0 ∨ 0 < ar a b e) with g | g
  · rw [has_flat g]
    constructor
    · intro k
      cases k
    · omega
  · rw [has_pos g, h3_nn ha hb he, nn_turn a e]
    omega
theorem in_one {a b c e : Nat → Int} (hA : 0 < ar a b c) (h2 : 0 ≤ ar b c e) (h3 : 0 ≤ ar c a e) {x y : Int} (k : 0 < ar a b e ∧ 0 < nn a b x y ∧ 0 < nn b e x y ∧ nn a e x y < 0) : 0 < nn b c x y ∧ 0 < nn c a x y := by
  obtain ⟨k1, k2, k3, k4⟩ := k
  constructor
  · refine pos_of k1 ?_
    rw [nn_in]
    have := Int.mul_pos k3 hA
    have := Int.mul_nonneg (Int.le_of_lt k2) h2
    omega
  · refine pos_of k1 ?_
    rw [nn_in2]
    have := Int.mul_pos (show 0 < nn e a x y by rw [nn_turn]; omega) hA
    have := Int.mul_nonneg (Int.le_of_lt k2) h3
    omega
theorem none_left {p q r u v w : Int} (hp : 0 ≤ p) (hq : 0 ≤ q) (hr : 0 ≤ r) (hs : 0 < p + q + r) (h : p * u + q * v + r * w = 0) : ¬ (0 < u ∧ 0 < v ∧ 0 < w) := by
  rintro ⟨h1, h2, h3⟩
  have a := Int.mul_nonneg hp (Int.le_of_lt h1)
  have b := Int.mul_nonneg hq (Int.le_of_lt h2)
  have c := Int.mul_nonneg hr (Int.le_of_lt h3)
  rcases (by omega : 0 < p ∨ 0 < q ∨ 0 < r) with g | g | g
  · have := Int.mul_pos g h1
    omega
  · have := Int.mul_pos g h2
    omega
  · have := Int.mul_pos g h3
    omega
theorem one_of : ∀ b0 b1 b2 b3 : Bool, (b0 = true → b1 = true ∨ b2 = true ∨ b3 = true) → (b1 = true → b0 = true) → (b2 = true → b0 = true) → (b3 = true → b0 = true) → ¬ (b1 = true ∧ b2 = true) → ¬ (b2 = true ∧ b3 = true) → ¬ (b1 = true ∧ b3 = true) → bit b1 + bit b2 + bit b3 = bit b0 := by
  intro b0 b1 b2 b3
  cases b0 <;> cases b1 <;> cases b2 <;> cases b3 <;> simp [bit]
/-- Cut into three at a point that is in it: each pixel in just one. -/
theorem cut {a b c e : Nat → Int} (ha : May a) (hb : May b) (hc : May c) (he : May e) (hA : 0 < ar a b c) (h1 : 0 ≤ ar a b e) (h2 : 0 ≤ ar b c e) (h3' : 0 ≤ ar c a e) (x y : Int) : bit (has a b e x y) + bit (has b c e x y) + bit (has c a e x y) = bit (has a b c x y) := by
  have i1 := has_nn ha hb he h1 x y
  have i2 := has_nn hb hc he h2 x y
  have i3 := has_nn hc ha he h3' x y
  have i0 : has a b c x y = true ↔ 0 < nn a b x y ∧ 0 < nn b c x y ∧ 0 < nn c a x y := by rw [has_pos hA, h3_nn ha hb hc]
  have s1 := in_one hA h2 h3' (x := x) (y := y)
  have s2 := in_one (a := b) (b := c) (c := a) (e := e) (by rw [ar_cyc]; exact hA) h3' h1 (x := x) (y := y)
  have s3 := in_one (a := c) (b := a) (c := b) (e := e) (by rw [ar_cyc, ar_cyc]; exact hA) h1 h2 (x := x) (y := y)
  have z1 : nn a e x y = 0 → ar a b e = 0 ∧ ar c a e = 0 := fun h => by
    have := nn_zero ha he h
    unfold ar
    rw [← this.1, ← this.2]
    constructor <;> grind
  have z2 : nn b e x y = 0 → ar a b e = 0 ∧ ar b c e = 0 := fun h => by
    have := nn_zero hb he h
    unfold ar
    rw [← this.1, ← this.2]
    constructor <;> grind
  have z3 : nn c e x y = 0 → ar b c e = 0 ∧ ar c a e = 0 := fun h => by
    have := nn_zero hc he h
    unfold ar
    rw [← this.1, ← this.2]
    constructor <;> grind
  have t1 := nn_three a b e x y
  have t2 := nn_three b c e x y
  have t3 := nn_three c a e x y
  rw [nn_turn a e] at t1
  rw [nn_turn b e] at t2
  rw [nn_turn c e] at t3
  have f := ar_four a b c e
  have n1 := none_left h2 h3' h1 (by omega) (nn_sum a b c e x y)
  have n2 := none_left (u := -nn a e x y) (v := -nn b e x y) (w := -nn c e x y) h2 h3' h1 (by omega) (by have := nn_sum a b c e x y; simp only [Int.mul_neg]; omega)
  generalize nn a b x y = ab at *
  generalize nn b c x y = bc at *
  generalize nn c a x y = ca at *
  generalize nn a e x y = ae at *
  generalize nn b e x y = be at *
  generalize nn c e x y = ce at *
  generalize ar a b e = A1 at *
  generalize ar b c e = A2 at *
  generalize ar c a e = A3 at *
  generalize ar a b c = A at *
  generalize has a b e x y = b1 at *
  generalize has b c e x y = b2 at *
  generalize has c a e x y = b3 at *
  generalize has a b c x y = b0 at *
  have key : b0 = true → b1 = true ∨ b2 = true ∨ b3 = true := by
    intro k
    have q := i0.1 k
    rw [i1, i2, i3]
    clear i0 i1 i2 i3 k s1 s2 s3
    rcases Int.lt_trichotomy ae 0 with g1 | g1 | g1
    · rcases Int.lt_trichotomy be 0 with g2 | g2 | g2
      · rcases Int.lt_trichotomy ce 0 with g3 | g3 | g3 <;> omega
      · have := z2 g2
        omega
      · omega
    · have := z1 g1
      omega
    · rcases Int.lt_trichotomy be 0 with g2 | g2 | g2
      · rcases Int.lt_trichotomy ce 0 with g3 | g3 | g3
        · omega
        · have := z3 g3
          omega
        · omega
      · have := z2 g2
        omega
      · rcases Int.lt_trichotomy ce 0 with g3 | g3 | g3 <;> omega
  have k1 : b1 = true → b0 = true := fun h => by
    have q := i1.1 h
    have r := s1 q
    exact i0.2 ⟨q.2.1, r.1, r.2⟩
  have k2 : b2 = true → b0 = true := fun h => by
    have q := i2.1 h
    have r := s2 q
    exact i0.2 ⟨r.2, q.2.1, r.1⟩
  have k3 : b3 = true → b0 = true := fun h => by
    have q := i3.1 h
    have r := s3 q
    exact i0.2 ⟨r.1, r.2, q.2.1⟩
  have x12 : ¬ (b1 = true ∧ b2 = true) := fun h => by
    have q := i1.1 h.1
    have r := i2.1 h.2
    omega
  have x23 : ¬ (b2 = true ∧ b3 = true) := fun h => by
    have q := i2.1 h.1
    have r := i3.1 h.2
    omega
  have x13 : ¬ (b1 = true ∧ b3 = true) := fun h => by
    have q := i1.1 h.1
    have r := i3.1 h.2
    omega
  exact one_of b0 b1 b2 b3 key k1 k2 k3 x12 x23 x13
/-- Moved by whole pixels. -/
def mv (a : Nat → Int) (u v : Int) : Nat → Int := wn (a 0 + 256 * u) (a 1 + 256 * v)
theorem ar_moved (a b c : Nat → Int) (u v : Int) : ar (mv a u v) (mv b u v) (mv c u v) = ar a b c := by
  show ((b 0 + 256 * u) - (a 0 + 256 * u)) * ((c 1 + 256 * v) - (a 1 + 256 * v)) - ((b 1 + 256 * v) - (a 1 + 256 * v)) * ((c 0 + 256 * u) - (a 0 + 256 * u)) = (b 0 - a 0) * (c 1 - a 1) - (b 1 - a 1) * (c 0 - a 0)
  grind
theorem left_moved (p q : Nat → Int) (u v x y : Int) : left (mv p u v) (mv q u v) (x + u) (y + v) = left p q x y := by
  have e : ar (mv p u v) (mv q u v) (mid (x + u) (y + v)) = ar p q (mid x y) := by
    show ((q 0 + 256 * u) - (p 0 + 256 * u)) * ((256 * (y + v) + 128) - (p 1 + 256 * v)) - ((q 1 + 256 * v) - (p 1 + 256 * v)) * ((256 * (x + u) + 128) - (p 0 + 256 * u)) = (q 0 - p 0) * ((256 * y + 128) - p 1) - (q 1 - p 1) * ((256 * x + 128) - p 0)
    grind
  have o : own (mv p u v) (mv q u v) = own p q := by
    unfold own
    show (decide (q 1 + 256 * v < p 1 + 256 * v) || (decide (q 1 + 256 * v = p 1 + 256 * v) && decide (q 0 + 256 * u < p 0 + 256 * u))) = _
    rw [Bool.eq_iff_iff]
    simp only [Bool.or_eq_true, Bool.and_eq_true, decide_eq_true_eq]
    omega
  unfold left
  rw [e, o]
theorem has_moved (a b c : Nat → Int) (u v x y : Int) : has (mv a u v) (mv b u v) (mv c u v) (x + u) (y + v) = has a b c x y := by
  unfold has h3
  rw [ar_moved]
  simp only [left_moved]
/-- What a side has of a row has no gaps. -/
theorem left_up {p q : Nat → Int} {x x' y : Int} (h : ar p q (mid x y) ≤ ar p q (mid x' y)) (hl : left p q x y = true) : left p q x' y = true := by
  unfold left at hl ⊢
  simp only [Bool.or_eq_true, Bool.and_eq_true, decide_eq_true_eq] at hl ⊢
  rcases hl with k | ⟨k, o⟩
  · exact .inl (by omega)
  · rcases (by omega : 0 < ar p q (mid x' y) ∨ ar p q (mid x' y) = 0) with g | g
    · exact .inl g
    · exact .inr ⟨g, o⟩
theorem ar_row (p q : Nat → Int) (x y d : Int) : ar p q (mid (x + d) y) = ar p q (mid x y) - (q 1 - p 1) * (256 * d) := by
  show (q 0 - p 0) * ((256 * y + 128) - p 1) - (q 1 - p 1) * ((256 * (x + d) + 128) - p 0) = (q 0 - p 0) * ((256 * y + 128) - p 1) - (q 1 - p 1) * ((256 * x + 128) - p 0) - (q 1 - p 1) * (256 * d)
  grind
theorem left_gap {p q : Nat → Int} {x z w y : Int} (hx : x ≤ z) (hw : z ≤ w) (h1 : left p q x y = true) (h2 : left p q w y = true) : left p q z y = true := by
  rcases Int.le_total (q 1 - p 1) 0 with g | g
  · refine left_up ?_ h1
    have e := ar_row p q x y (z - x)
    rw [show x + (z - x) = z by omega] at e
    have := Int.mul_nonneg (show 0 ≤ -(q 1 - p 1) by omega) (show 0 ≤ 256 * (z - x) by omega)
    rw [Int.neg_mul] at this
    omega
  · refine left_up ?_ h2
    have e := ar_row p q z y (w - z)
    rw [show z + (w - z) = w by omega] at e
    have := Int.mul_nonneg g (show 0 ≤ 256 * (w - z) by omega)
    omega
theorem has_gap {a b c : Nat → Int} {x z w y : Int} (hx : x ≤ z) (hw : z ≤ w) (h1 : has a b c x y = true) (h2 : has a b c w y = true) : has a b c z y = true := by
  have key : ∀ a b c : Nat → Int, h3 a b c x y = true → h3 a b c w y = true → h3 a b c z y = true := by
    intro a b c k1 k2
    unfold h3 at k1 k2 ⊢
    simp only [Bool.and_eq_true] at k1 k2 ⊢
    exact ⟨left_gap hx hw k1.1 k2.1, left_gap hx hw k1.2.1 k2.2.1, left_gap hx hw k1.2.2 k2.2.2⟩
  unfold has at h1 h2 ⊢
  split
  · rename_i g
    rw [if_pos g] at h1 h2
    exact key _ _ _ h1 h2
  · rename_i g
    rw [if_neg g, Bool.and_eq_true] at h1 h2
    rw [Bool.and_eq_true]
    exact ⟨h1.1, key _ _ _ h1.2 h2.2⟩
/-- A row, pixel by pixel: how many so far, the first one, one behind the last one. -/
def acc (f : Int → Bool) (x0 : Int) : Nat → Int × Int × Int
  | 0 => (0, 0, 0)
  | k + 1 => if f (x0 + k) then ((acc f x0 k).1 + 1, if (acc f x0 k).1 = 0 then x0 + k else (acc f x0 k).2.1, x0 + k + 1) else acc f x0 k
theorem acc_no {f : Int → Bool} {x0 : Int} {k : Nat} (h : f (x0 + k) = false) : acc f x0 (k + 1) = acc f x0 k := if_neg (by rw [h]; decide)
theorem acc_yes {f : Int → Bool} {x0 : Int} {k : Nat} (h : f (x0 + k) = true) : acc f x0 (k + 1) = ((acc f x0 k).1 + 1, if (acc f x0 k).1 = 0 then x0 + k else (acc f x0 k).2.1, x0 + k + 1) := if_pos h
theorem acc_lim (f : Int → Bool) (x0 : Int) : ∀ k : Nat, 0 ≤ (acc f x0 k).1 ∧ (acc f x0 k).1 ≤ k
  | 0 => by simp [acc]
  | k + 1 => by
    have := acc_lim f x0 k
    cases h : f (x0 + k)
    · rw [acc_no h]
      omega
    · rw [acc_yes h]
      show 0 ≤ (acc f x0 k).1 + 1 ∧ (acc f x0 k).1 + 1 ≤ ((k + 1 : Nat) : Int)
      omega
theorem acc_none (f : Int → Bool) (x0 : Int) : ∀ k : Nat, (acc f x0 k).1 = 0 ↔ ∀ x, x0 ≤ x → x < x0 + k → f x = false
  | 0 => by
    refine ⟨fun _ x h1 h2 => absurd h1 (by omega), fun _ => rfl⟩
  | k + 1 => by
    have ih := acc_none f x0 k
    have l := acc_lim f x0 k
    cases h : f (x0 + k)
    · rw [acc_no h, ih]
      constructor
      · intro g x h1 h2
        rcases (by omega : x = x0 + k ∨ x < x0 + k) with rfl | e
        · exact h
        · exact g x h1 e
      · intro g x h1 h2
        exact g x h1 (by omega)
    · rw [acc_yes h]
      constructor
      · intro g
        have g2 : (acc f x0 k).1 + 1 = 0 := g
        omega
      · intro g
        have := g (x0 + k) (by omega) (by omega)
        rw [h] at this
        cases this
theorem acc_some (f : Int → Bool) (x0 : Int) : ∀ k : Nat, (acc f x0 k).1 ≠ 0 → (x0 ≤ (acc f x0 k).2.1 ∧ (acc f x0 k).2.1 < (acc f x0 k).2.2 ∧ (acc f x0 k).2.2 ≤ x0 + k) ∧ (f (acc f x0 k).2.1 = true ∧ f ((acc f x0 k).2.2 - 1) = true) ∧ (∀ x, x0 ≤ x → x < (acc f x0 k).2.1 → f x = false) ∧ (∀ x, (acc f x0 k).2.2 ≤ x → x < x0 + k → f x = false)
  | 0, h => absurd rfl h
  | k + 1, hn => by
    have ih := acc_some f x0 k
    have nn := acc_none f x0 k
    cases h : f (x0 + k)
    · rw [acc_no h] at hn ⊢
      obtain ⟨i1, i2, i3, i4⟩ := ih hn
      refine ⟨by omega, i2, i3, fun x h1 h2 => ?_⟩
      rcases (by omega : x = x0 + k ∨ x < x0 + k) with rfl | e
      · exact h
      · exact i4 x h1 e
    · rw [acc_yes h]
      by_cases g : (acc f x0 k).1 = 0
      · rw [if_pos g]
        refine ⟨⟨?_, ?_, ?_⟩, ⟨h, ?_⟩, fun x h1 h2 => nn.1 g x h1 h2, fun x h1 h2 => ?_⟩
        · show x0 ≤ x0 + k; omega
        · show x0 + (k : Int) < x0 + k + 1; omega
        · show x0 + (k : Int) + 1 ≤ x0 + ((k + 1 : Nat) : Int); omega
        · show f (x0 + k + 1 - 1) = true
          rw [show x0 + (k : Int) + 1 - 1 = x0 + k by omega]
          exact h
        · have h1 : x0 + (k : Int) + 1 ≤ x := h1
          omega
      · rw [if_neg g]
        obtain ⟨i1, i2, i3, i4⟩ := ih g
        refine ⟨⟨i1.1, ?_, ?_⟩, ⟨i2.1, ?_⟩, i3, fun x h1 h2 => ?_⟩
        · show (acc f x0 k).2.1 < x0 + k + 1; omega
        · show x0 + (k : Int) + 1 ≤ x0 + ((k + 1 : Nat) : Int); omega
        · show f (x0 + k + 1 - 1) = true
          rw [show x0 + (k : Int) + 1 - 1 = x0 + k by omega]
          exact h
        · have h1 : x0 + (k : Int) + 1 ≤ x := h1
          omega
/-- A span. -/
def sp (y p q : Int) (i : Nat) : Int := if i = 0 then y else if i = 1 then p else q
/-- A row's pixels, as one span. -/
def row (f : Int → Bool) (x0 x1 y : Int) : List (Nat → Int) := if (acc f x0 (x1 - x0).toNat).1 = 0 then [] else [sp y (acc f x0 (x1 - x0).toNat).2.1 (acc f x0 (x1 - x0).toNat).2.2]
theorem row_len (f : Int → Bool) (x0 x1 y : Int) : (row f x0 x1 y).length ≤ 1 := by unfold row; split <;> simp
theorem row_no {f : Int → Bool} {x0 x1 y : Int} (hx : x0 ≤ x1) (h : ∀ x, x0 ≤ x → x < x1 → f x = false) : row f x0 x1 y = [] :=
  if_pos ((acc_none f x0 _).2 fun x h1 h2 => h x h1 (by omega))
/-- What a span tells of its row. -/
theorem row_mem {f : Int → Bool} {x0 x1 y : Int} (hx : x0 ≤ x1) (hg : ∀ x z w, x ≤ z → z ≤ w → f x = true → f w = true → f z = true) {s : Nat → Int} (h : s ∈ row f x0 x1 y) : ∃ p q, s = sp y p q ∧ (x0 ≤ p ∧ p < q ∧ q ≤ x1) ∧ ∀ x, x0 ≤ x → x < x1 → (f x = true ↔ p ≤ x ∧ x < q) := by
  unfold row at h
  split at h
  · exact absurd h (by simp)
  · rename_i g
    obtain ⟨i1, i2, i3, i4⟩ := acc_some f x0 _ g
    refine ⟨_, _, by simpa using h, by omega, fun x h1 h2 => ⟨fun k => ?_, fun k => hg _ _ _ k.1 (by omega) i2.1 i2.2⟩⟩
    constructor
    · rcases Int.lt_or_le x (acc f x0 (x1 - x0).toNat).2.1 with e | e
      · rw [i3 x h1 e] at k
        cases k
      · exact e
    · rcases Int.lt_or_le x (acc f x0 (x1 - x0).toNat).2.2 with e | e
      · exact e
      · rw [i4 x e (by omega)] at k
        cases k
theorem row_is {f : Int → Bool} {x0 x1 y p q : Int} (hp : x0 ≤ p) (hpq : p < q) (hq : q ≤ x1) (h : ∀ x, x0 ≤ x → x < x1 → (f x = true ↔ p ≤ x ∧ x < q)) : row f x0 x1 y = [sp y p q] := by
  have g : (acc f x0 (x1 - x0).toNat).1 ≠ 0 := by
    intro e
    have := (acc_none f x0 _).1 e p hp (by omega)
    have k := (h p hp (by omega)).2 ⟨Int.le_refl _, hpq⟩
    rw [this] at k
    cases k
  unfold row
  rw [if_neg g]
  obtain ⟨i1, i2, i3, i4⟩ := acc_some f x0 _ g
  have e1 := (h _ i1.1 (by omega)).1 i2.1
  have e2 := (h _ (by omega) (by omega)).1 i2.2
  have e3 : (acc f x0 (x1 - x0).toNat).2.1 = p := by
    rcases Int.lt_or_le p (acc f x0 (x1 - x0).toNat).2.1 with e | e
    · have := i3 p hp e
      rw [(h p hp (by omega)).2 ⟨Int.le_refl _, hpq⟩] at this
      cases this
    · omega
  have e4 : (acc f x0 (x1 - x0).toNat).2.2 = q := by
    rcases Int.lt_or_le (acc f x0 (x1 - x0).toNat).2.2 q with e | e
    · have := i4 (q - 1) (by omega) (by omega)
      rw [(h (q - 1) (by omega) (by omega)).2 ⟨by omega, by omega⟩] at this
      cases this
    · omega
  rw [e3, e4]
def mvs (s : Nat → Int) (u v : Int) : Nat → Int := sp (s 0 + v) (s 1 + u) (s 2 + u)
theorem acc_moved {f g : Int → Bool} {u : Int} (h : ∀ x, g (x + u) = f x) (x0 : Int) : ∀ k : Nat, (acc g (x0 + u) k).1 = (acc f x0 k).1 ∧ ((acc f x0 k).1 ≠ 0 → (acc g (x0 + u) k).2.1 = (acc f x0 k).2.1 + u ∧ (acc g (x0 + u) k).2.2 = (acc f x0 k).2.2 + u)
  | 0 => ⟨rfl, fun h => absurd rfl h⟩
  | k + 1 => by
    obtain ⟨i1, i2⟩ := acc_moved h x0 k
    have l := acc_lim f x0 k
    have e : g (x0 + u + k) = f (x0 + k) := by rw [← h (x0 + k)]; congr 1; omega
    cases hf : f (x0 + k)
    · rw [acc_no hf, acc_no (e.trans hf)]
      exact ⟨i1, i2⟩
    · rw [acc_yes hf, acc_yes (e.trans hf)]
      refine ⟨by show (acc g (x0 + u) k).1 + 1 = (acc f x0 k).1 + 1; rw [i1], fun _ => ⟨?_, ?_⟩⟩
      · show (if (acc g (x0 + u) k).1 = 0 then x0 + u + k else (acc g (x0 + u) k).2.1) = (if (acc f x0 k).1 = 0 then x0 + k else (acc f x0 k).2.1) + u
        rw [i1]
        split
        · omega
        · rename_i g0
          exact (i2 g0).1
      · show x0 + u + (k : Int) + 1 = x0 + k + 1 + u
        omega
theorem row_moved {f g : Int → Bool} {u v : Int} (h : ∀ x, g (x + u) = f x) (x0 x1 y : Int) : row g (x0 + u) (x1 + u) (y + v) = (row f x0 x1 y).map fun s => mvs s u v := by
  have e : (x1 + u - (x0 + u)).toNat = (x1 - x0).toNat := by congr 1; omega
  obtain ⟨i1, i2⟩ := acc_moved h x0 (x1 - x0).toNat
  unfold row
  rw [e, i1]
  split
  · rfl
  · rename_i g0
    rw [(i2 g0).1, (i2 g0).2]
    rfl
end TR
namespace TR
/-- Its pixels in a rectangle, row by row. -/
def rw_ (a b c r : Nat → Int) (_x y : Int) : List (Nat → Int) := row (fun x => has a b c x y) (r 0) (r 2) y
def spans (a b c r : Nat → Int) : List (Nat → Int) := if RC.right r then SM.rows (rw_ a b c r) 0 1 (r 1) (r 3) else []
theorem spans_bad {a b c r : Nat → Int} (h : RC.right r = false) : spans a b c r = [] := if_neg (by rw [h]; decide)
theorem spans_ok {a b c r : Nat → Int} (h : RC.right r = true) : spans a b c r = SM.rows (rw_ a b c r) 0 1 (r 1) (r 3) := if_pos h
theorem spans_len {a b c r : Nat → Int} {n : Nat} (h : RC.area r ≤ n) : (spans a b c r).length ≤ n := by
  unfold spans
  split
  · rename_i hq
    have h1 := SM.rows_len (rw_ a b c r) (fun x y => row_len _ _ _ _) (x0 := 0) (x1 := 1) (y0 := r 1) (y1 := r 3)
    rw [RC.area_in hq] at h
    obtain ⟨_, hx, hy⟩ := RC.right_iff.1 hq
    have := Int.mul_le_mul (show 1 ≤ r 2 - r 0 by omega) (Int.le_refl (r 3 - r 1)) (by omega) (by omega)
    rw [show (1 - 0 : Int).toNat = 1 from rfl, Nat.one_mul] at h1
    omega
  · exact Nat.zero_le _
theorem spans_mem {a b c r s : Nat → Int} (h : s ∈ spans a b c r) : ∃ y p q, s = sp y p q ∧ (r 1 ≤ y ∧ y < r 3) ∧ (r 0 ≤ p ∧ p < q ∧ q ≤ r 2) ∧ ∀ x, r 0 ≤ x → x < r 2 → (has a b c x y = true ↔ p ≤ x ∧ x < q) := by
  unfold spans at h
  split at h
  · rename_i hq
    obtain ⟨_, hx, hy⟩ := RC.right_iff.1 hq
    unfold SM.rows SM.row at h
    obtain ⟨y, hy, h⟩ := List.mem_flatMap.1 h
    obtain ⟨x, _, h⟩ := List.mem_flatMap.1 h
    obtain ⟨p, q, e, l, k⟩ := row_mem (by omega) (fun x z w h1 h2 k1 k2 => has_gap h1 h2 k1 k2) h
    exact ⟨y, p, q, e, SM.mem_upto.1 hy, l, k⟩
  · exact absurd h (by simp)
def mvr (r : Nat → Int) (u v : Int) : Nat → Int := RC.mk (r 0 + u) (r 1 + v) (r 2 + u) (r 3 + v)
theorem spans_moved {a b c r : Nat → Int} {u v : Int} (h1 : RC.right r = true) (h2 : RC.right (mvr r u v) = true) : spans (mv a u v) (mv b u v) (mv c u v) (mvr r u v) = (spans a b c r).map fun s => mvs s u v := by
  rw [spans_ok h1, spans_ok h2]
  have := SM.rows_moved (rw_ a b c r) (rw_ (mv a u v) (mv b u v) (mv c u v) (mvr r u v)) (fun s => mvs s u v) 0 v (fun x y => by
    unfold rw_
    exact row_moved (fun x => has_moved a b c u v x y) (r 0) (r 2) y) 0 1 (r 1) (r 3)
  exact this
/-- Rows so far. -/
def spk (a b c r : Nat → Int) (y : Int) : List (Nat → Int) := SM.rows (rw_ a b c r) 0 1 (r 1) y
theorem spk_start (a b c r : Nat → Int) : spk a b c r (r 1) = [] := SM.rows_nil _ _ _ _
theorem spk_step {a b c r : Nat → Int} {y : Int} (h : r 1 ≤ y) : spk a b c r (y + 1) = spk a b c r y ++ row (fun x => has a b c x y) (r 0) (r 2) y := by
  unfold spk
  rw [SM.rows_succ _ h]
  congr 1
  unfold SM.row
  rw [show SM.upto 0 1 = [0] from rfl]
  simp [rw_]
theorem spk_len (a b c r : Nat → Int) (y : Int) : (spk a b c r y).length ≤ (y - r 1).toNat := by
  have h1 := SM.rows_len (rw_ a b c r) (fun x y => row_len _ _ _ _) (x0 := 0) (x1 := 1) (y0 := r 1) (y1 := y)
  rw [show (1 - 0 : Int).toNat = 1 from rfl, Nat.one_mul] at h1
  exact h1
end TR
end Go.Proofs.Ytndaijcgjhmiaaa
