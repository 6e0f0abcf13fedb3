/- Plain: a strip by quotients, row by row; which pixels and rows are looked at. -/
import Derived.Test.YtdkppkdoconfhaaSo
import Derived.Test.YtdkppkdoconfhaaXr
import Derived.Test.YtdkppkdoconfhaaVm
namespace Go.Proofs.Ytdkppkdoconfhaa
open Go.ChangeShapes Go.WideShapes Go.ChangeAt Go.RowKit
set_option linter.unusedVariables false
set_option linter.unusedSimpArgs false

/-- The root of a number, rounded down. -/
def M.IsRoot (v r : Int) : Prop := 0 ≤ r ∧ r * r ≤ v ∧ v < (r + 1) * (r + 1)
namespace SP
/-- From, to. -/
def mk (x y : Int) (i : Nat) : Int := if i = 0 then x else y
def and (s t : Nat → Int) : Nat → Int := mk (max (s 0) (t 0)) (min (s 1) (t 1))
def times (s : Nat → Int) (k : Int) : Nat → Int := mk (min (k * s 0) (k * s 1)) (max (k * s 0) (k * s 1))
def quot (p : Nat → Int) (k : Int) : Nat → Int := if k < 0 then mk (-(p 1 / -k)) (-p 0 / -k) else if 0 < k then mk (-(-p 0 / k)) (p 1 / k) else if p 0 ≤ 0 ∧ 0 ≤ p 1 then mk (-4294967296) 4294967296 else mk 0 (-1)
def samples (s : Nat → Int) (b : Int) : Nat → Int := mk (-((16 - b - s 0) / 32)) ((b + s 1 - 16) / 32)
def pixels (s : Nat → Int) : Nat → Int := mk (s 0 / 8) (s 1 / 8)
/-- A strip: its way, aside, square, from, to. -/
def st5 (w a s l g : Int) (i : Nat) : Int := if i = 0 then w else if i = 1 then a else if i = 2 then s else if i = 3 then l else g
def turned (s : Nat → Int) : Nat → Int := st5 (s 1) (s 0) (s 2) (-s 4) (-s 3)
def lenw (st c : Nat → Int) : Nat → Int := mk (-times c (st 1) 1) (st 2 - 1 - times c (st 1) 0)
def sidw (st c : Nat → Int) : Nat → Int := mk (times c (st 0) 0 - st 4) (times c (st 0) 1 - st 3)
def within (st c : Nat → Int) : Nat → Int := and (quot (lenw st c) (st 0)) (quot (sidw st c) (st 1))
/-- Is a point, seen from the line's first end, in the strip? -/
def inS (st : Nat → Int) (p q : Int) : Prop := (0 ≤ p * st 0 + q * st 1 ∧ p * st 0 + q * st 1 < st 2) ∧ (st 3 ≤ q * st 0 - p * st 1 ∧ q * st 0 - p * st 1 ≤ st 4)
theorem div_lim {x c B : Int} (hc : 0 < c) (hB : 0 ≤ B) (h : -B ≤ x ∧ x ≤ B) : -B ≤ x / c ∧ x / c ≤ B := by
  have h1 := Int.mul_le_mul_of_nonneg_left (show 1 ≤ c by omega) hB
  rw [Int.mul_one] at h1
  constructor
  · rw [Int.le_ediv_iff_mul_le hc, Int.neg_mul]
    omega
  · exact Int.ediv_le_of_le_mul hc (by omega)
/-- Within B both ways. -/
def In (B : Int) (s : Nat → Int) : Prop := (-B ≤ s 0 ∧ s 0 ≤ B) ∧ (-B ≤ s 1 ∧ s 1 ≤ B)
theorem quot_lim {p : Nat → Int} {k B : Int} (hB : 4294967296 ≤ B) (h : In B p) : In B (quot p k) := by
  obtain ⟨h0, h1⟩ := h
  unfold quot
  by_cases h : k < 0
  · rw [if_pos h]
    have a1 := div_lim (show 0 < -k by omega) (by omega) h1
    have a2 := div_lim (x := -p 0) (B := B) (show 0 < -k by omega) (by omega) (by omega)
    exact ⟨⟨by show -B ≤ -(p 1 / -k); omega, by show -(p 1 / -k) ≤ B; omega⟩, a2⟩
  · rw [if_neg h]
    by_cases g : 0 < k
    · rw [if_pos g]
      have a1 := div_lim g (by omega) h1
      have a2 := div_lim (x := -p 0) (B := B) g (by omega) (by omega)
      exact ⟨⟨by show -B ≤ -(-p 0 / k); omega, by show -(-p 0 / k) ≤ B; omega⟩, a1⟩
    · rw [if_neg g]
      split
      · exact ⟨⟨by show -B ≤ -4294967296; omega, by show -4294967296 ≤ B; omega⟩, by show -B ≤ 4294967296; omega, by show 4294967296 ≤ B; omega⟩
      · exact ⟨⟨by show -B ≤ 0; omega, by show 0 ≤ B; omega⟩, by show -B ≤ -1; omega, by show -1 ≤ B; omega⟩
theorem quot_iff {p : Nat → Int} {k n : Int} (hn : -4294967296 ≤ n ∧ n ≤ 4294967296) : (quot p k 0 ≤ n ∧ n ≤ quot p k 1) ↔ (p 0 ≤ n * k ∧ n * k ≤ p 1) := by
  unfold quot
  by_cases h : k < 0
  · rw [if_pos h]
    have h2 : 0 < -k := by omega
    have e1 := Int.le_ediv_iff_mul_le (a := -n) (b := p 1) h2
    have e2 := Int.le_ediv_iff_mul_le (a := n) (b := -p 0) h2
    rw [Int.neg_mul_neg] at e1
    rw [Int.mul_neg] at e2
    show (-(p 1 / -k) ≤ n ∧ n ≤ -p 0 / -k) ↔ _
    generalize p 1 / -k = u at *
    generalize -p 0 / -k = v at *
    generalize n * k = m at *
    omega
  · rw [if_neg h]
    by_cases g : 0 < k
    · rw [if_pos g]
      have e1 := Int.le_ediv_iff_mul_le (a := -n) (b := -p 0) g
      have e2 := Int.le_ediv_iff_mul_le (a := n) (b := p 1) g
      rw [Int.neg_mul] at e1
      show (-(-p 0 / k) ≤ n ∧ n ≤ p 1 / k) ↔ _
      generalize -p 0 / k = u at *
      generalize p 1 / k = v at *
      generalize n * k = m at *
      omega
    · rw [if_neg g]
      obtain rfl : k = 0 := by omega
      rw [Int.mul_zero]
      split
      · rename_i q
        exact ⟨fun _ => q, fun _ => hn⟩
      · rename_i q
        constructor
        · rintro ⟨a1, a2⟩
          have b1 : 0 ≤ n := a1
          have b2 : n ≤ -1 := a2
          omega
        · exact fun h => absurd h q
theorem and_iff {s t : Nat → Int} {n : Int} : (and s t 0 ≤ n ∧ n ≤ and s t 1) ↔ ((s 0 ≤ n ∧ n ≤ s 1) ∧ (t 0 ≤ n ∧ n ≤ t 1)) := by
  show (max (s 0) (t 0) ≤ n ∧ n ≤ min (s 1) (t 1)) ↔ _
  omega
theorem and_lim {s t : Nat → Int} {B : Int} (h : In B s) (g : In B t) : In B (and s t) := by
  obtain ⟨h0, h1⟩ := h
  obtain ⟨g0, g1⟩ := g
  exact ⟨⟨by show -B ≤ max (s 0) (t 0); omega, by show max (s 0) (t 0) ≤ B; omega⟩, by show -B ≤ min (s 1) (t 1); omega, by show min (s 1) (t 1) ≤ B; omega⟩
theorem samples_iff {s : Nat → Int} {b i : Int} : (samples s b 0 ≤ i ∧ i ≤ samples s b 1) ↔ (s 0 ≤ 32 * i + 16 - b ∧ 32 * i + 16 - b ≤ s 1) := by
  show (-((16 - b - s 0) / 32) ≤ i ∧ i ≤ (b + s 1 - 16) / 32) ↔ _
  omega
theorem pixels_of {s : Nat → Int} {x i : Int} (hi : 0 ≤ i ∧ i < 8) (h : s 0 ≤ 8 * x + i ∧ 8 * x + i ≤ s 1) : pixels s 0 ≤ x ∧ x ≤ pixels s 1 := by
  show s 0 / 8 ≤ x ∧ x ≤ s 1 / 8
  omega
theorem times_of {c : Nat → Int} {k v : Int} (h : c 0 ≤ v ∧ v ≤ c 1) : times c k 0 ≤ k * v ∧ k * v ≤ times c k 1 := by
  show min (k * c 0) (k * c 1) ≤ k * v ∧ k * v ≤ max (k * c 0) (k * c 1)
  rcases Int.le_total 0 k with g | g
  · have h1 := Int.mul_le_mul_of_nonneg_left h.1 g
    have h2 := Int.mul_le_mul_of_nonneg_left h.2 g
    omega
  · have h1 := Int.mul_le_mul_of_nonpos_left g h.1
    have h2 := Int.mul_le_mul_of_nonpos_left g h.2
    omega
theorem times_one (v k : Int) : times (mk v v) k 0 = k * v ∧ times (mk v v) k 1 = k * v := by
  show min (k * v) (k * v) = k * v ∧ max (k * v) (k * v) = k * v
  omega
/-- Of a range of places: all that are in the strip there. -/
theorem within_of {st c : Nat → Int} {p v : Int} (hp : -4294967296 ≤ p ∧ p ≤ 4294967296) (hv : c 0 ≤ v ∧ v ≤ c 1) (h : inS st p v) : within st c 0 ≤ p ∧ p ≤ within st c 1 := by
  have t1 := times_of (k := st 1) hv
  have t0 := times_of (k := st 0) hv
  obtain ⟨⟨h1, h2⟩, h3, h4⟩ := h
  rw [Int.mul_comm v (st 1)] at h1 h2
  rw [Int.mul_comm v (st 0)] at h3 h4
  unfold within
  rw [and_iff, quot_iff hp, quot_iff hp]
  exact ⟨⟨by show -times c (st 1) 1 ≤ _; omega, by show _ ≤ st 2 - 1 - times c (st 1) 0; omega⟩, by show times c (st 0) 0 - st 4 ≤ _; omega, by show _ ≤ times c (st 0) 1 - st 3; omega⟩
/-- Of a single place: just those. -/
theorem within_one {st : Nat → Int} {p v : Int} (hp : -4294967296 ≤ p ∧ p ≤ 4294967296) : (within st (mk v v) 0 ≤ p ∧ p ≤ within st (mk v v) 1) ↔ inS st p v := by
  refine ⟨fun h => ?_, fun h => within_of hp ⟨Int.le_refl _, Int.le_refl _⟩ h⟩
  unfold within at h
  rw [and_iff, quot_iff hp, quot_iff hp] at h
  obtain ⟨⟨h1, h2⟩, h3, h4⟩ := h
  have t1 := times_one v (st 1)
  have t0 := times_one v (st 0)
  replace h1 : -times (mk v v) (st 1) 1 ≤ p * st 0 := h1
  replace h2 : p * st 0 ≤ st 2 - 1 - times (mk v v) (st 1) 0 := h2
  replace h3 : times (mk v v) (st 0) 0 - st 4 ≤ p * st 1 := h3
  replace h4 : p * st 1 ≤ times (mk v v) (st 0) 1 - st 3 := h4
  rw [t1.2] at h1
  rw [t1.1] at h2
  rw [t0.1] at h3
  rw [t0.2] at h4
  unfold inS
  rw [Int.mul_comm v (st 1), Int.mul_comm v (st 0)]
  omega
theorem inS_turned {st : Nat → Int} {p q : Int} (h : inS st p q) : inS (turned st) q p := by
  obtain ⟨⟨h1, h2⟩, h3, h4⟩ := h
  exact ⟨⟨by show 0 ≤ q * st 1 + p * st 0; omega, by show q * st 1 + p * st 0 < st 2; omega⟩, by show -st 4 ≤ p * st 1 - q * st 0; omega, by show p * st 1 - q * st 0 ≤ -st 3; omega⟩
theorem mul_lim {x y A B : Int} (hx : -A ≤ x ∧ x ≤ A) (hy : -B ≤ y ∧ y ≤ B) : -(A * B) ≤ x * y ∧ x * y ≤ A * B := M.mul_hi hx.1 hx.2 hy.1 hy.2
theorem times_lim {c : Nat → Int} {k A B : Int} (hk : -A ≤ k ∧ k ≤ A) (h : In B c) : In (A * B) (times c k) := by
  have m0 := mul_lim hk h.1
  have m1 := mul_lim hk h.2
  generalize A * B = D at *
  exact ⟨⟨by show -D ≤ min (k * c 0) (k * c 1); omega, by show min (k * c 0) (k * c 1) ≤ D; omega⟩, by show -D ≤ max (k * c 0) (k * c 1); omega, by show max (k * c 0) (k * c 1) ≤ D; omega⟩
/-- The numbers of a strip. -/
def Ok (st : Nat → Int) : Prop := (-536870912 ≤ st 0 ∧ st 0 ≤ 536870912) ∧ (-536870912 ≤ st 1 ∧ st 1 ≤ 536870912) ∧ (0 ≤ st 2 ∧ st 2 ≤ 576460752303423488) ∧ (-17592186044416 ≤ st 3 ∧ st 3 ≤ 17592186044416) ∧ (-17592186044416 ≤ st 4 ∧ st 4 ≤ 17592186044416)
theorem ok_turned {st : Nat → Int} (h : Ok st) : Ok (turned st) := by
  obtain ⟨h0, h1, h2, h3, h4⟩ := h
  refine ⟨h1, h0, h2, ⟨?_, ?_⟩, ⟨?_, ?_⟩⟩
  · show -17592186044416 ≤ -st 4; omega
  · show -st 4 ≤ 17592186044416; omega
  · show -17592186044416 ≤ -st 3; omega
  · show -st 3 ≤ 17592186044416; omega
theorem lens_lim {st c : Nat → Int} (h : Ok st) (hc : In 2147483648 c) : (In 1152921504606846976 (times c (st 0)) ∧ In 1152921504606846976 (times c (st 1))) ∧ In 2305843009213693952 (lenw st c) ∧ In 2305843009213693952 (sidw st c) := by
  obtain ⟨h0, h1, h2, h3, h4⟩ := h
  have t0 : In 1152921504606846976 (times c (st 0)) := times_lim (A := 536870912) (B := 2147483648) h0 hc
  have t1 : In 1152921504606846976 (times c (st 1)) := times_lim (A := 536870912) (B := 2147483648) h1 hc
  refine ⟨⟨t0, t1⟩, ?_, ?_⟩
  · obtain ⟨a, b⟩ := t1
    unfold In lenw
    generalize times c (st 1) = t at *
    exact ⟨⟨by show -2305843009213693952 ≤ -t 1; omega, by show -t 1 ≤ 2305843009213693952; omega⟩, by show -2305843009213693952 ≤ st 2 - 1 - t 0; omega, by show st 2 - 1 - t 0 ≤ 2305843009213693952; omega⟩
  · obtain ⟨a, b⟩ := t0
    unfold In sidw
    generalize times c (st 0) = t at *
    exact ⟨⟨by show -2305843009213693952 ≤ t 0 - st 4; omega, by show t 0 - st 4 ≤ 2305843009213693952; omega⟩, by show -2305843009213693952 ≤ t 1 - st 3; omega, by show t 1 - st 3 ≤ 2305843009213693952; omega⟩
theorem within_lim {st c : Nat → Int} (h : Ok st) (hc : In 2147483648 c) : In 2305843009213693952 (within st c) := by
  obtain ⟨_, h1, h2⟩ := lens_lim h hc
  exact and_lim (quot_lim (by decide) h1) (quot_lim (by decide) h2)
theorem samples_lim {s : Nat → Int} {b : Int} (h : In 2305843009213693952 s) (hb : -536870912 ≤ b ∧ b ≤ 536870912) : In 144115188075855872 (samples s b) := by
  obtain ⟨h0, h1⟩ := h
  refine ⟨⟨?_, ?_⟩, ?_, ?_⟩
  · show -144115188075855872 ≤ -((16 - b - s 0) / 32); omega
  · show -((16 - b - s 0) / 32) ≤ 144115188075855872; omega
  · show -144115188075855872 ≤ (b + s 1 - 16) / 32; omega
  · show (b + s 1 - 16) / 32 ≤ 144115188075855872; omega
theorem pixels_lim {s : Nat → Int} (h : In 144115188075855872 s) : In 144115188075855872 (pixels s) := by
  obtain ⟨h0, h1⟩ := h
  refine ⟨⟨?_, ?_⟩, ?_, ?_⟩
  · show -144115188075855872 ≤ s 0 / 8; omega
  · show s 0 / 8 ≤ 144115188075855872; omega
  · show -144115188075855872 ≤ s 1 / 8; omega
  · show s 1 / 8 ≤ 144115188075855872; omega
/-- A row of samples: of each of eight rows from, to. -/
def spn (st : Nat → Int) (ax ay y : Int) (j : Nat) : Nat → Int := samples (within st (mk (256 * y + 32 * (j : Int) + 16 - ay) (256 * y + 32 * (j : Int) + 16 - ay))) ax
def rowf (st : Nat → Int) (ax ay y : Int) (i : Nat) : Int := spn st ax ay y (i / 2) (i % 2)
/-- So many of its rows are told, nought behind them. -/
def rowk (r : Nat → Int) (k i : Nat) : Int := if i < 2 * k then r i else 0
theorem rowf_at (st : Nat → Int) (ax ay y : Int) (j : Nat) : rowf st ax ay y (2 * j) = spn st ax ay y j 0 ∧ rowf st ax ay y (2 * j + 1) = spn st ax ay y j 1 := by
  unfold rowf
  rw [show 2 * j / 2 = j by omega, show 2 * j % 2 = 0 by omega, show (2 * j + 1) / 2 = j by omega, show (2 * j + 1) % 2 = 1 by omega]
  exact ⟨rfl, rfl⟩
/-- A sample's number. -/
theorem spn_iff {st : Nat → Int} {ax ay y i : Int} {j : Nat} (hi : -4294967296 ≤ 32 * i + 16 - ax ∧ 32 * i + 16 - ax ≤ 4294967296) : (spn st ax ay y j 0 ≤ i ∧ i ≤ spn st ax ay y j 1) ↔ inS st (32 * i + 16 - ax) (256 * y + 32 * (j : Int) + 16 - ay) := by
  unfold spn
  rw [samples_iff, within_one hi]
/-- How many of a row of pixels' samples a pixel has. -/
def cvk (r : Nat → Int) (x : Int) : Nat → Int
  | 0 => 0
  | k + 1 => cvk r x k + max 0 (min (r (2 * k + 1)) (8 * x + 7) - max (r (2 * k)) (8 * x) + 1)
theorem cvk_lim (r : Nat → Int) (x : Int) : ∀ k : Nat, 0 ≤ cvk r x k ∧ cvk r x k ≤ 8 * k
  | 0 => by simp [cvk]
  | k + 1 => by
    have ih := cvk_lim r x k
    unfold cvk
    omega
theorem bits_span (f t c : Int) : ∀ n : Nat, ((((List.range n).map fun (i : Nat) => SM.bit (decide (f ≤ c + i ∧ c + i ≤ t))).sum : Nat) : Int) = max 0 (min t (c + n - 1) - max f c + 1)
  | 0 => by simp; omega
  | n + 1 => by
    have ih := bits_span f t c n
    rw [List.range_succ, List.map_append, List.sum_append]
    simp only [List.map_cons, List.map_nil, List.sum_cons, List.sum_nil, Nat.add_zero]
    by_cases h : f ≤ c + n ∧ c + n ≤ t
    · rw [decide_eq_true h]
      show ((_ + 1 : Nat) : Int) = _
      omega
    · rw [decide_eq_false h]
      show ((_ + 0 : Nat) : Int) = _
      omega
theorem cvk_is {r : Nat → Int} {x : Int} {g : Nat → Nat → Bool} : ∀ k : Nat, k ≤ 8 → (∀ j : Nat, j < 8 → ∀ i : Nat, i < 8 → (g j i = true ↔ r (2 * j) ≤ 8 * x + i ∧ 8 * x + i ≤ r (2 * j + 1))) → cvk r x k = ((((List.range k).map fun j => ((List.range 8).map fun i => SM.bit (g j i)).sum).sum : Nat) : Int)
  | 0, _, _ => rfl
  | k + 1, hk, h => by
    have ih := cvk_is k (by omega) h
    rw [List.range_succ (n := k), List.map_append, List.sum_append]
    simp only [List.map_cons, List.map_nil, List.sum_cons, List.sum_nil, Nat.add_zero]
    unfold cvk
    have e : ((List.range 8).map fun i => SM.bit (g k i)) = ((List.range 8).map fun (i : Nat) => SM.bit (decide (r (2 * k) ≤ 8 * x + i ∧ 8 * x + i ≤ r (2 * k + 1)))) := List.map_congr_left fun i hi => by
      have := h k (by omega) i (List.mem_range.1 hi)
      congr 1
      rw [Bool.eq_iff_iff, this, decide_eq_true_iff]
    have b := bits_span (r (2 * k)) (r (2 * k + 1)) (8 * x) 8
    rw [e, Int.natCast_add, ← ih, b]
    omega
/-- From a row's first sample to its last one. -/
def allk (r : Nat → Int) : Nat → Nat → Int
  | 0 => mk 4294967296 (-4294967296)
  | k + 1 => if r (2 * k) ≤ r (2 * k + 1) then mk (min (allk r k 0) (r (2 * k))) (max (allk r k 1) (r (2 * k + 1))) else allk r k
theorem allk_yes {r : Nat → Int} {k : Nat} (h : r (2 * k) ≤ r (2 * k + 1)) : allk r (k + 1) = mk (min (allk r k 0) (r (2 * k))) (max (allk r k 1) (r (2 * k + 1))) := if_pos h
theorem allk_no {r : Nat → Int} {k : Nat} (h : ¬ r (2 * k) ≤ r (2 * k + 1)) : allk r (k + 1) = allk r k := if_neg h
theorem allk_of {r : Nat → Int} {j : Nat} {i : Int} (h : r (2 * j) ≤ i ∧ i ≤ r (2 * j + 1)) : ∀ k : Nat, j < k → allk r k 0 ≤ i ∧ i ≤ allk r k 1
  | 0, hk => absurd hk (Nat.not_lt_zero _)
  | k + 1, hk => by
    by_cases e : j = k
    · subst e
      rw [allk_yes (by omega)]
      exact ⟨by show min _ _ ≤ i; omega, by show i ≤ max _ _; omega⟩
    · have ih := allk_of h k (by omega)
      by_cases q : r (2 * k) ≤ r (2 * k + 1)
      · rw [allk_yes q]
        exact ⟨by show min _ _ ≤ i; omega, by show i ≤ max _ _; omega⟩
      · rw [allk_no q]
        exact ih
theorem allk_lim {r : Nat → Int} (h : ∀ j, j < 16 → -144115188075855872 ≤ r j ∧ r j ≤ 144115188075855872) : ∀ k : Nat, k ≤ 8 → In 144115188075855872 (allk r k)
  | 0, _ => ⟨⟨by show _ ≤ (4294967296 : Int); decide, by show (4294967296 : Int) ≤ _; decide⟩, by show _ ≤ (-4294967296 : Int); decide, by show (-4294967296 : Int) ≤ _; decide⟩
  | k + 1, hk => by
    have ih := allk_lim h k (by omega)
    have h0 := h (2 * k) (by omega)
    have h1 := h (2 * k + 1) (by omega)
    obtain ⟨i0, i1⟩ := ih
    by_cases q : r (2 * k) ≤ r (2 * k + 1)
    · rw [allk_yes q]
      exact ⟨⟨by show _ ≤ min _ _; omega, by show min _ _ ≤ _; omega⟩, by show _ ≤ max _ _; omega, by show max _ _ ≤ _; omega⟩
    · rw [allk_no q]
      exact ⟨i0, i1⟩
/-- The strip of a line. -/
def lim (a b : Nat → Int) (w : Int) : Int := 128 * w * (128 * w) * SM.sq a b
def meas (a b : Nat → Int) (w R : Int) : Nat → Int := st5 (b 0 - a 0) (b 1 - a 1) (SM.sq a b) (if R * R = lim a b w then -R + 1 else -R) R
theorem lim_is (a b : Nat → Int) (w : Int) : 128 * w * 128 * w * SM.sq a b = lim a b w := by
  unfold lim
  rw [Int.mul_assoc (128 * w) 128 w]
theorem meas_in {a b : Nat → Int} {w R x y : Int} (hR : M.IsRoot (lim a b w) R) : inS (meas a b w R) (x - a 0) (y - a 1) ↔ SM.stripP a b w x y := by
  obtain ⟨h0, h1, h2⟩ := hR
  have hs := SM.side_root (c := SM.crs a b x y) h0 h1 h2
  have e : SM.side w (SM.crs a b x y) (SM.sq a b) ↔ (0 - (if R * R = lim a b w then R - 1 else R) ≤ SM.crs a b x y ∧ SM.crs a b x y ≤ R) := by
    unfold SM.side
    rw [lim_is]
    exact hs
  unfold SM.stripP
  rw [e]
  have ed : (x - a 0) * (b 0 - a 0) + (y - a 1) * (b 1 - a 1) = SM.dot a b x y := rfl
  have ec : (y - a 1) * (b 0 - a 0) - (x - a 0) * (b 1 - a 1) = SM.crs a b x y := by
    unfold SM.crs
    rw [Int.mul_comm (y - a 1), Int.mul_comm (x - a 0)]
  have eg : (meas a b w R) 3 = 0 - (if R * R = lim a b w then R - 1 else R) := by
    show (if R * R = lim a b w then -R + 1 else -R) = _
    split <;> omega
  unfold inS
  rw [eg]
  show ((0 ≤ (x - a 0) * (b 0 - a 0) + (y - a 1) * (b 1 - a 1) ∧ (x - a 0) * (b 0 - a 0) + (y - a 1) * (b 1 - a 1) < SM.sq a b) ∧ (_ ≤ (y - a 1) * (b 0 - a 0) - (x - a 0) * (b 1 - a 1) ∧ (y - a 1) * (b 0 - a 0) - (x - a 0) * (b 1 - a 1) ≤ R)) ↔ _
  rw [ed, ec]
  exact ⟨fun h => ⟨h.1.1, h.1.2, h.2⟩, fun h => ⟨⟨h.1, h.2.1⟩, h.2.2⟩⟩
theorem bit_in {a b : Nat → Int} {w R x y : Int} (hR : M.IsRoot (lim a b w) R) {i j : Nat} (hi : i < 8) (hx : -4194304 ≤ x ∧ x ≤ 4194304) (ha : -268435456 ≤ a 0 ∧ a 0 ≤ 268435456) :
    SM.strip a b w (256 * x + 32 * ((i : Nat) : Int) + 16) (256 * y + 32 * ((j : Nat) : Int) + 16) = true ↔ rowf (meas a b w R) (a 0) (a 1) y (2 * j) ≤ 8 * x + i ∧ 8 * x + i ≤ rowf (meas a b w R) (a 0) (a 1) y (2 * j + 1) := by
  obtain ⟨e0, e1⟩ := rowf_at (meas a b w R) (a 0) (a 1) y j
  rw [e0, e1, spn_iff (by omega)]
  have k := meas_in (a := a) (b := b) (w := w) (R := R) (x := 256 * x + 32 * (i : Int) + 16) (y := 256 * y + 32 * (j : Int) + 16) hR
  rw [show 32 * (8 * x + (i : Int)) + 16 - a 0 = 256 * x + 32 * (i : Int) + 16 - a 0 by omega, k]
  unfold SM.strip
  rw [decide_eq_true_iff]
/-- A pixel's cover. -/
theorem cvk_cov {a b : Nat → Int} {w R x y : Int} (hR : M.IsRoot (lim a b w) R) (hx : -4194304 ≤ x ∧ x ≤ 4194304) (ha : -268435456 ≤ a 0 ∧ a 0 ≤ 268435456) : cvk (rowf (meas a b w R) (a 0) (a 1) y) x 8 = (SM.cov a b w x y : Nat) := by
  rw [SM.cov_rows]
  exact cvk_is (g := fun j i => SM.strip a b w (256 * x + 32 * ((i : Nat) : Int) + 16) (256 * y + 32 * ((j : Nat) : Int) + 16)) 8 (Nat.le_refl _) fun j hj i hi => bit_in hR hi hx ha
/-- What has a cover has a sample. -/
theorem sum_some {α : Type} (f : α → Nat) : ∀ l : List α, (l.map f).sum ≠ 0 → ∃ x ∈ l, f x ≠ 0
  | [], h => absurd rfl h
  | x :: l, h => by
    by_cases e : f x = 0
    · obtain ⟨y, hy, h2⟩ := sum_some f l (by
        rw [List.map_cons, List.sum_cons, e, Nat.zero_add] at h
        exact h)
      exact ⟨y, List.mem_cons_of_mem _ hy, h2⟩
    · exact ⟨x, List.mem_cons_self, e⟩
theorem cov_some {a b : Nat → Int} {w x y : Int} (h : SM.cov a b w x y ≠ 0) : ∃ i j : Nat, i < 8 ∧ j < 8 ∧ SM.strip a b w (256 * x + 32 * ((i : Nat) : Int) + 16) (256 * y + 32 * ((j : Nat) : Int) + 16) = true := by
  obtain ⟨i, hi, h1⟩ := sum_some _ _ h
  obtain ⟨j, hj, h2⟩ := sum_some _ _ h1
  refine ⟨i, j, List.mem_range.1 hi, List.mem_range.1 hj, ?_⟩
  cases e : SM.strip a b w (256 * x + 32 * ((i : Nat) : Int) + 16) (256 * y + 32 * ((j : Nat) : Int) + 16)
  · exact absurd (show SM.bit _ = 0 by rw [e]; rfl) h2
  · rfl
/-- A row's pixels. -/
def pixf (st : Nat → Int) (ax ay y : Int) : Nat → Int := pixels (allk (rowf st ax ay y) 8)
theorem pixf_of {a b : Nat → Int} {w R x y : Int} (hR : M.IsRoot (lim a b w) R) (hx : -4194304 ≤ x ∧ x ≤ 4194304) (ha : -268435456 ≤ a 0 ∧ a 0 ≤ 268435456) (h : SM.cov a b w x y ≠ 0) : pixf (meas a b w R) (a 0) (a 1) y 0 ≤ x ∧ x ≤ pixf (meas a b w R) (a 0) (a 1) y 1 := by
  obtain ⟨i, j, hi, hj, hs⟩ := cov_some h
  have k := (bit_in hR hi hx ha).1 hs
  have k2 := allk_of k 8 hj
  exact pixels_of (i := (i : Int)) (by omega) k2
/-- The rows of pixels that a rectangle's columns have. -/
def colf (r : Nat → Int) (ax : Int) : Nat → Int := mk (256 * r 0 + 16 - ax) (256 * r 2 - 16 - ax)
def rowsf (st r : Nat → Int) (ax ay : Int) : Nat → Int := and (pixels (samples (within (turned st) (colf r ax)) ay)) (mk (r 1) (r 3 - 1))
theorem rowsf_of {a b r : Nat → Int} {w R x y : Int} (hR : M.IsRoot (lim a b w) R) (hx : r 0 ≤ x ∧ x < r 2) (hy : r 1 ≤ y ∧ y < r 3) (hy2 : -4194304 ≤ y ∧ y ≤ 4194304) (ha : -268435456 ≤ a 1 ∧ a 1 ≤ 268435456) (h : SM.cov a b w x y ≠ 0) : rowsf (meas a b w R) r (a 0) (a 1) 0 ≤ y ∧ y ≤ rowsf (meas a b w R) r (a 0) (a 1) 1 := by
  obtain ⟨i, j, hi, hj, hs⟩ := cov_some h
  unfold SM.strip at hs
  rw [decide_eq_true_iff, ← meas_in hR] at hs
  have hc : colf r (a 0) 0 ≤ 256 * x + 32 * (i : Int) + 16 - a 0 ∧ 256 * x + 32 * (i : Int) + 16 - a 0 ≤ colf r (a 0) 1 := by
    show 256 * r 0 + 16 - a 0 ≤ _ ∧ _ ≤ 256 * r 2 - 16 - a 0
    omega
  have k := within_of (by omega) hc (inS_turned hs)
  unfold rowsf
  rw [and_iff]
  refine ⟨?_, by show r 1 ≤ y; omega, by show y ≤ r 3 - 1; omega⟩
  refine pixels_of (i := (j : Int)) (by omega) ?_
  rw [samples_iff]
  rw [show 32 * (8 * y + (j : Int)) + 16 - a 1 = 256 * y + 32 * (j : Int) + 16 - a 1 by omega]
  exact k
/-- A strip reaches no further than half its width beyond its line. -/
theorem near {L W H s c p K : Int} (hL : 0 < L) (hH : H * H ≤ L) (hc : c * c ≤ K * K * L) (hs : 0 ≤ s ∧ s < L) (hK : 0 ≤ K) (e : L * p = W * s - H * c) : min 0 W - K ≤ p ∧ p ≤ max 0 W + K := by
  have q : (H * c) * (H * c) ≤ (K * L) * (K * L) := by
    have e1 : (H * c) * (H * c) = (H * H) * (c * c) := by simp only [Int.mul_assoc, Int.mul_left_comm]
    have e2 : (K * L) * (K * L) = L * (K * K * L) := by simp only [Int.mul_assoc, Int.mul_left_comm]
    rw [e1, e2]
    exact Int.mul_le_mul hH hc (SM.sq_nonneg' c) (by omega)
  have hKL : 0 ≤ K * L := Int.mul_nonneg hK (by omega)
  have hb : -(K * L) ≤ H * c ∧ H * c ≤ K * L := by
    rcases Int.le_total 0 (H * c) with g | g
    · have := (SM.sq_le g hKL).1 q
      omega
    · have q2 : (-(H * c)) * (-(H * c)) ≤ (K * L) * (K * L) := by rw [Int.neg_mul_neg]; exact q
      have := (SM.sq_le (by omega) hKL).1 q2
      omega
  have hw : L * min 0 W ≤ W * s ∧ W * s ≤ L * max 0 W := by
    rcases Int.le_total 0 W with g | g
    · rw [Int.min_eq_left g, Int.max_eq_right g, Int.mul_zero]
      have h1 := Int.mul_le_mul_of_nonneg_left (show s ≤ L by omega) g
      have h2 := Int.mul_nonneg g hs.1
      rw [Int.mul_comm L W]
      omega
    · rw [Int.min_eq_right g, Int.max_eq_left g, Int.mul_zero]
      have h1 := Int.mul_le_mul_of_nonpos_left g (show s ≤ L by omega)
      have h2 := Int.mul_nonpos_of_nonpos_of_nonneg g hs.1
      rw [Int.mul_comm L W]
      omega
  rw [Int.mul_comm K L] at hb
  constructor
  · refine Int.le_of_mul_le_mul_left (a := L) ?_ hL
    rw [Int.mul_sub]
    omega
  · refine Int.le_of_mul_le_mul_left (a := L) ?_ hL
    rw [Int.mul_add]
    omega
theorem strip_near {a b : Nat → Int} {w x y : Int} (hw : 0 ≤ w) (h : SM.stripP a b w x y) : (min (a 0) (b 0) - 128 * w ≤ x ∧ x ≤ max (a 0) (b 0) + 128 * w) ∧ (min (a 1) (b 1) - 128 * w ≤ y ∧ y ≤ max (a 1) (b 1) + 128 * w) := by
  have hL := SM.strip_pos h
  obtain ⟨h1, h2, h3⟩ := h
  have hc : SM.crs a b x y * SM.crs a b x y ≤ 128 * w * (128 * w) * SM.sq a b := by
    unfold SM.side at h3
    rw [lim_is] at h3
    show _ ≤ lim a b w
    split at h3 <;> omega
  have n0 := SM.sq_nonneg' (b 0 - a 0)
  have n1 := SM.sq_nonneg' (b 1 - a 1)
  have eL : SM.sq a b = (b 0 - a 0) * (b 0 - a 0) + (b 1 - a 1) * (b 1 - a 1) := rfl
  have eD : SM.dot a b x y = (x - a 0) * (b 0 - a 0) + (y - a 1) * (b 1 - a 1) := rfl
  have eC : SM.crs a b x y = (b 0 - a 0) * (y - a 1) - (b 1 - a 1) * (x - a 0) := rfl
  have e1 : SM.sq a b * (x - a 0) = (b 0 - a 0) * SM.dot a b x y - (b 1 - a 1) * SM.crs a b x y := by
    rw [eL, eD, eC]
    generalize b 0 - a 0 = W
    generalize b 1 - a 1 = H
    generalize x - a 0 = p
    generalize y - a 1 = q
    rw [Int.add_mul, Int.mul_add, Int.mul_sub]
    have t1 : W * (p * W) = W * W * p := by simp only [Int.mul_comm, Int.mul_left_comm]
    have t2 : W * (q * H) = H * (W * q) := by simp only [Int.mul_comm, Int.mul_left_comm]
    have t3 : H * (H * p) = H * H * p := by rw [Int.mul_assoc]
    rw [t1, t2, t3]
    omega
  have e2 : SM.sq a b * (y - a 1) = (b 1 - a 1) * SM.dot a b x y - (-(b 0 - a 0)) * SM.crs a b x y := by
    rw [eL, eD, eC]
    generalize b 0 - a 0 = W
    generalize b 1 - a 1 = H
    generalize x - a 0 = p
    generalize y - a 1 = q
    rw [Int.add_mul, Int.mul_add, Int.neg_mul, Int.mul_sub]
    have t1 : H * (p * W) = W * (H * p) := by simp only [Int.mul_comm, Int.mul_left_comm]
    have t2 : H * (q * H) = H * H * q := by simp only [Int.mul_comm, Int.mul_left_comm]
    have t3 : W * (W * q) = W * W * q := by rw [Int.mul_assoc]
    rw [t1, t2, t3]
    omega
  have k1 := near (W := b 0 - a 0) (H := b 1 - a 1) hL (by omega) hc ⟨h1, h2⟩ (by omega) e1
  have k2 := near (W := b 1 - a 1) (H := -(b 0 - a 0)) hL (by rw [Int.neg_mul_neg]; omega) hc ⟨h1, h2⟩ (by omega) e2
  omega
/-- Pixels around a line. -/
def ard (a b : Nat → Int) (w : Int) : Nat → Int := RC.mk ((min (a 0) (b 0)).tdiv 256 - w - 1) ((min (a 1) (b 1)).tdiv 256 - w - 1) ((max (a 0) (b 0)).tdiv 256 + w + 1) ((max (a 1) (b 1)).tdiv 256 + w + 1)
theorem tdiv_near (n : Int) : -255 ≤ n - 256 * n.tdiv 256 ∧ n - 256 * n.tdiv 256 ≤ 255 := by
  have h := Int.mul_tdiv_add_tmod n 256
  have h1 := Int.tmod_lt_of_pos n (show (0 : Int) < 256 by decide)
  have h2 := Int.lt_tmod_of_pos n (show (0 : Int) < 256 by decide)
  omega
theorem ard_of {a b : Nat → Int} {w x y : Int} (hw : 1 ≤ w) (h : SM.cov a b w x y ≠ 0) : (ard a b w 0 ≤ x ∧ x < ard a b w 2) ∧ (ard a b w 1 ≤ y ∧ y < ard a b w 3) := by
  obtain ⟨i, j, hi, hj, hs⟩ := cov_some h
  unfold SM.strip at hs
  rw [decide_eq_true_iff] at hs
  have k := strip_near (by omega) hs
  have t0 := tdiv_near (min (a 0) (b 0))
  have t1 := tdiv_near (min (a 1) (b 1))
  have t2 := tdiv_near (max (a 0) (b 0))
  have t3 := tdiv_near (max (a 1) (b 1))
  show (((min (a 0) (b 0)).tdiv 256 - w - 1 ≤ x) ∧ (x < (max (a 0) (b 0)).tdiv 256 + w + 1)) ∧ (((min (a 1) (b 1)).tdiv 256 - w - 1 ≤ y) ∧ (y < (max (a 1) (b 1)).tdiv 256 + w + 1))
  generalize (min (a 0) (b 0)).tdiv 256 = u0 at *
  generalize (min (a 1) (b 1)).tdiv 256 = u1 at *
  generalize (max (a 0) (b 0)).tdiv 256 = u2 at *
  generalize (max (a 1) (b 1)).tdiv 256 = u3 at *
  generalize min (a 0) (b 0) = v0 at *
  generalize min (a 1) (b 1) = v1 at *
  generalize max (a 0) (b 0) = v2 at *
  generalize max (a 1) (b 1) = v3 at *
  omega
theorem meas_ok {a b : Nat → Int} {w R : Int} (hR : M.IsRoot (lim a b w) R) (hw : 1 ≤ w ∧ w ≤ 64) (ha : (-268435456 ≤ a 0 ∧ a 0 ≤ 268435456) ∧ (-268435456 ≤ a 1 ∧ a 1 ≤ 268435456)) (hb : (-268435456 ≤ b 0 ∧ b 0 ≤ 268435456) ∧ (-268435456 ≤ b 1 ∧ b 1 ≤ 268435456)) : Ok (meas a b w R) ∧ (0 ≤ SM.sq a b ∧ SM.sq a b ≤ 576460752303423488) ∧ (0 ≤ lim a b w ∧ lim a b w ≤ 38685626227668133590597632) ∧ (0 ≤ R ∧ R ≤ 17592186044415) := by
  have q0 := mul_lim (x := b 0 - a 0) (y := b 0 - a 0) (A := 536870912) (B := 536870912) (by omega) (by omega)
  have q1 := mul_lim (x := b 1 - a 1) (y := b 1 - a 1) (A := 536870912) (B := 536870912) (by omega) (by omega)
  have n := SM.sq_nonneg a b
  have eL : SM.sq a b = (b 0 - a 0) * (b 0 - a 0) + (b 1 - a 1) * (b 1 - a 1) := rfl
  have hs : SM.sq a b ≤ 576460752303423488 := by omega
  have hk := mul_lim (x := 128 * w) (y := 128 * w) (A := 8192) (B := 8192) (by omega) (by omega)
  have hk0 : 0 ≤ 128 * w * (128 * w) := SM.sq_nonneg' _
  have hl0 : 0 ≤ lim a b w := Int.mul_nonneg hk0 n
  have hl1 : lim a b w ≤ 67108864 * 576460752303423488 := Int.mul_le_mul (by omega) hs n (by decide)
  obtain ⟨r0, r1, r2⟩ := hR
  have hr : R ≤ 17592186044415 := by
    rcases (by omega : R ≤ 17592186044415 ∨ 17592186044416 ≤ R) with g | g
    · exact g
    · have := Int.mul_le_mul g g (by decide) r0
      omega
  refine ⟨⟨by show -536870912 ≤ b 0 - a 0 ∧ b 0 - a 0 ≤ 536870912; omega, by show -536870912 ≤ b 1 - a 1 ∧ b 1 - a 1 ≤ 536870912; omega, ⟨n, hs⟩, ?_, by show -17592186044416 ≤ R ∧ R ≤ 17592186044416; omega⟩, ⟨n, hs⟩, ⟨hl0, by omega⟩, r0, hr⟩
  show -17592186044416 ≤ (if R * R = lim a b w then -R + 1 else -R) ∧ (if R * R = lim a b w then -R + 1 else -R) ≤ 17592186044416
  split <;> omega
end SP
end Go.Proofs.Ytdkppkdoconfhaa
