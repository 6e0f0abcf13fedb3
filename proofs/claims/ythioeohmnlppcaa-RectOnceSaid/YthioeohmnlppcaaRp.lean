/- Plain: rectangles of pixels, for layer 12 (rect). -/
import Derived.Test.YthioeohmnlppcaaL1
namespace Go.Proofs.Ythioeohmnlppcaa
set_option linter.unusedVariables false
namespace RC
def inM (x : Int) : Bool := decide (-4194304 ≤ x) && decide (x ≤ 4194304)
theorem inM_iff {x : Int} : inM x = true ↔ -4194304 ≤ x ∧ x ≤ 4194304 := by simp [inM]
/-- A rectangle as four numbers: X0, Y0, X1, Y1. -/
def mk (x0 y0 x1 y1 : Int) (i : Nat) : Int := if i = 0 then x0 else if i = 1 then y0 else if i = 2 then x1 else y1
def right (r : Nat → Int) : Bool := (inM (r 0) && (inM (r 1) && (inM (r 2) && inM (r 3)))) && (decide (r 0 < r 2) && decide (r 1 < r 3))
theorem right_iff {r : Nat → Int} : right r = true ↔ ((-4194304 ≤ r 0 ∧ r 0 ≤ 4194304) ∧ (-4194304 ≤ r 1 ∧ r 1 ≤ 4194304) ∧ (-4194304 ≤ r 2 ∧ r 2 ≤ 4194304) ∧ (-4194304 ≤ r 3 ∧ r 3 ≤ 4194304)) ∧ r 0 < r 2 ∧ r 1 < r 3 := by
  simp only [right, Bool.and_eq_true, inM_iff, decide_eq_true_eq]
theorem right_zero : right M.zero = false := by decide
/-- Is a pixel one of its? -/
def has (r : Nat → Int) (x y : Int) : Bool := right r && (decide (r 0 ≤ x) && (decide (x < r 2) && (decide (r 1 ≤ y) && decide (y < r 3))))
theorem has_iff {r : Nat → Int} {x y : Int} : has r x y = true ↔ right r = true ∧ r 0 ≤ x ∧ x < r 2 ∧ r 1 ≤ y ∧ y < r 3 := by
  simp only [has, Bool.and_eq_true, decide_eq_true_eq]
def area (r : Nat → Int) : Int := if right r then (r 2 - r 0) * (r 3 - r 1) else 0
def meet (a b : Nat → Int) : Nat → Int := mk (max (a 0) (b 0)) (max (a 1) (b 1)) (min (a 2) (b 2)) (min (a 3) (b 3))
def both (a b : Nat → Int) : Nat → Int := if right a && right b then (if right (meet a b) then meet a b else M.zero) else M.zero
def those (l : List (Nat → Int)) : List (Nat → Int) := l.filter right
/-- What is below, above, left and right of a part of a rectangle. -/
def round (a c : Nat → Int) : List (Nat → Int) := [mk (a 0) (a 1) (a 2) (c 1), mk (a 0) (c 3) (a 2) (a 3), mk (a 0) (c 1) (c 0) (c 3), mk (c 2) (c 1) (a 2) (c 3)]
def minus (a b : Nat → Int) : List (Nat → Int) := if right (both a b) then those (round a (both a b)) else those [a]
def quarter (r : Nat → Int) (x y : Int) : List (Nat → Int) := [mk (r 0) (r 1) x y, mk x (r 1) (r 2) y, mk (r 0) y x (r 3), mk x y (r 2) (r 3)]
def parts (r : Nat → Int) (x y : Int) : List (Nat → Int) := if right r then those (quarter r (max (r 0) (min x (r 2))) (max (r 1) (min y (r 3)))) else []
/-- A rectangle made: it begins at x, y, w wide, h high. -/
def mk_at (x y w h : Int) : (Nat → Int) × Bool := if right (mk x y (x + w) (y + h)) then (mk x y (x + w) (y + h), true) else (M.zero, false)
theorem mk_at_far {x y w h : Int} (hf : ¬ ((-8388608 ≤ x ∧ x ≤ 8388608) ∧ (-8388608 ≤ y ∧ y ≤ 8388608) ∧ (-8388608 ≤ w ∧ w ≤ 8388608) ∧ (-8388608 ≤ h ∧ h ≤ 8388608))) : mk_at x y w h = (M.zero, false) := by
  unfold mk_at
  rw [if_neg]
  intro hr
  have h1 := right_iff.1 hr
  rw [show mk x y (x + w) (y + h) 0 = x from rfl, show mk x y (x + w) (y + h) 1 = y from rfl, show mk x y (x + w) (y + h) 2 = x + w from rfl, show mk x y (x + w) (y + h) 3 = y + h from rfl] at h1
  omega
/-- How many rectangles of a row have a pixel. -/
def count (x y : Int) : List (Nat → Int) → Nat
  | [] => 0
  | r :: l => (if has r x y then 1 else 0) + count x y l
def sum : List (Nat → Int) → Int
  | [] => 0
  | r :: l => area r + sum l
theorem count_those (x y : Int) : ∀ l, count x y (those l) = count x y l
  | [] => rfl
  | r :: l => by
    have ih := count_those x y l
    unfold those at ih ⊢
    cases h : right r
    · rw [List.filter_cons_of_neg (by rw [h]; decide), ih, count, if_neg (by rw [has, h, Bool.false_and]; exact Bool.false_ne_true), Nat.zero_add]
    · rw [List.filter_cons_of_pos h, count, count, ih]
theorem sum_those : ∀ l, sum (those l) = sum l
  | [] => rfl
  | r :: l => by
    have ih := sum_those l
    unfold those at ih ⊢
    cases h : right r
    · rw [List.filter_cons_of_neg (by rw [h]; decide), ih, sum, area, if_neg (by rw [h]; decide), Int.zero_add]
    · rw [List.filter_cons_of_pos h, sum, sum, ih]
theorem has_mk {x0 y0 x1 y1 x y : Int} (h0 : -4194304 ≤ x0) (h1 : -4194304 ≤ y0) (h2 : x1 ≤ 4194304) (h3 : y1 ≤ 4194304) : has (mk x0 y0 x1 y1) x y = true ↔ x0 ≤ x ∧ x < x1 ∧ y0 ≤ y ∧ y < y1 := by
  rw [has_iff, right_iff]
  show _ ∧ x0 ≤ x ∧ x < x1 ∧ y0 ≤ y ∧ y < y1 ↔ _
  constructor
  · exact fun h => h.2
  · intro h
    refine ⟨?_, h⟩
    show ((-4194304 ≤ x0 ∧ x0 ≤ 4194304) ∧ (-4194304 ≤ y0 ∧ y0 ≤ 4194304) ∧ (-4194304 ≤ x1 ∧ x1 ≤ 4194304) ∧ (-4194304 ≤ y1 ∧ y1 ≤ 4194304)) ∧ x0 < x1 ∧ y0 < y1
    omega
/-- The area of what begins no later than it ends: the product. -/
theorem area_mk {x0 y0 x1 y1 : Int} (h0 : -4194304 ≤ x0) (h1 : -4194304 ≤ y0) (h2 : x1 ≤ 4194304) (h3 : y1 ≤ 4194304) (hx : x0 ≤ x1) (hy : y0 ≤ y1) : area (mk x0 y0 x1 y1) = (x1 - x0) * (y1 - y0) := by
  unfold area
  split
  · rfl
  · rename_i h
    rcases (by omega : x0 = x1 ∨ x0 < x1) with rfl | h4
    · rw [Int.sub_self, Int.zero_mul]
    · rcases (by omega : y0 = y1 ∨ y0 < y1) with rfl | h5
      · rw [Int.sub_self, Int.mul_zero]
      · exfalso
        apply h
        rw [right_iff]
        show ((-4194304 ≤ x0 ∧ x0 ≤ 4194304) ∧ (-4194304 ≤ y0 ∧ y0 ≤ 4194304) ∧ (-4194304 ≤ x1 ∧ x1 ≤ 4194304) ∧ (-4194304 ≤ y1 ∧ y1 ≤ 4194304)) ∧ x0 < x1 ∧ y0 < y1
        omega
theorem has_mkB {x0 y0 x1 y1 x y : Int} (h0 : -4194304 ≤ x0) (h1 : -4194304 ≤ y0) (h2 : x1 ≤ 4194304) (h3 : y1 ≤ 4194304) : has (mk x0 y0 x1 y1) x y = decide (x0 ≤ x ∧ x < x1 ∧ y0 ≤ y ∧ y < y1) := by
  rw [Bool.eq_iff_iff, has_mk h0 h1 h2 h3, decide_eq_true_eq]
theorem has_in {r : Nat → Int} {x y : Int} (hr : right r = true) : has r x y = decide (r 0 ≤ x ∧ x < r 2 ∧ r 1 ≤ y ∧ y < r 3) := by
  rw [Bool.eq_iff_iff, has_iff, decide_eq_true_eq, hr]
  simp
theorem count_quarter {r : Nat → Int} {x y u v : Int} (hr : right r = true) (hx : r 0 ≤ x ∧ x ≤ r 2) (hy : r 1 ≤ y ∧ y ≤ r 3) : count u v (quarter r x y) = if has r u v then 1 else 0 := by
  obtain ⟨⟨b0, b1, b2, b3⟩, h0, h1⟩ := right_iff.1 hr
  simp only [quarter, count]
  rw [has_in hr, has_mkB (by omega) (by omega) (by omega) (by omega), has_mkB (by omega) (by omega) (by omega) (by omega), has_mkB (by omega) (by omega) (by omega) (by omega), has_mkB (by omega) (by omega) (by omega) (by omega)]
  simp only [decide_eq_true_eq]
  clear hr
  generalize r 0 = x0 at *
  generalize r 1 = y0 at *
  generalize r 2 = x1 at *
  generalize r 3 = y1 at *
  by_cases a : u < x <;> by_cases b : v < y <;> by_cases c : x0 ≤ u ∧ u < x1 <;> by_cases d : y0 ≤ v ∧ v < y1 <;> (repeat (first | rw [if_pos (by omega)] | rw [if_neg (by omega)]))
theorem count_parts (r : Nat → Int) (x y u v : Int) : count u v (parts r x y) = if has r u v then 1 else 0 := by
  unfold parts
  cases hr : right r
  · rw [if_neg (by decide), if_neg (by rw [has, hr, Bool.false_and]; exact Bool.false_ne_true)]
    rfl
  · obtain ⟨-, h0, h1⟩ := right_iff.1 hr
    rw [if_pos rfl, count_those, count_quarter hr (by omega) (by omega)]
theorem right_meet {a b : Nat → Int} (h : right (meet a b) = true) : (max (a 0) (b 0) < min (a 2) (b 2)) ∧ max (a 1) (b 1) < min (a 3) (b 3) := (right_iff.1 h).2
/-- What both have, in cases. -/
theorem both_cases (a b : Nat → Int) : (right a = true ∧ right b = true ∧ right (meet a b) = true ∧ both a b = meet a b ∧ right (both a b) = true) ∨ (both a b = M.zero ∧ right (both a b) = false ∧ (right a = true → right b = true → ¬ (max (a 0) (b 0) < min (a 2) (b 2) ∧ max (a 1) (b 1) < min (a 3) (b 3)))) := by
  unfold both
  cases ha : right a
  · exact .inr ⟨rfl, right_zero, fun h => by cases h⟩
  · cases hb : right b
    · exact .inr ⟨rfl, right_zero, fun _ h => by cases h⟩
    · cases hm : right (meet a b)
      · refine .inr ⟨rfl, right_zero, fun _ _ h => ?_⟩
        have h1 := right_iff.1 ha
        have h2 := right_iff.1 hb
        have h3 : right (meet a b) = true := right_iff.2 (by
          show ((-4194304 ≤ max (a 0) (b 0) ∧ max (a 0) (b 0) ≤ 4194304) ∧ (-4194304 ≤ max (a 1) (b 1) ∧ max (a 1) (b 1) ≤ 4194304) ∧ (-4194304 ≤ min (a 2) (b 2) ∧ min (a 2) (b 2) ≤ 4194304) ∧ (-4194304 ≤ min (a 3) (b 3) ∧ min (a 3) (b 3) ≤ 4194304)) ∧ max (a 0) (b 0) < min (a 2) (b 2) ∧ max (a 1) (b 1) < min (a 3) (b 3)
          omega)
        rw [hm] at h3
        cases h3
      · exact .inl ⟨rfl, rfl, rfl, rfl, hm⟩
theorem has_zero (u v : Int) : has M.zero u v = false := by rw [has, right_zero, Bool.false_and]
theorem count_round {a c : Nat → Int} {u v : Int} (ha : right a = true) (hc : right c = true) (h0 : a 0 ≤ c 0) (h1 : a 1 ≤ c 1) (h2 : c 2 ≤ a 2) (h3 : c 3 ≤ a 3) : (if has c u v then 1 else 0) + count u v (round a c) = if has a u v then 1 else 0 := by
  obtain ⟨⟨b0, b1, b2, b3⟩, k0, k1⟩ := right_iff.1 ha
  obtain ⟨-, l0, l1⟩ := right_iff.1 hc
  simp only [round, count]
  rw [has_in ha, has_in hc, has_mkB (by omega) (by omega) (by omega) (by omega), has_mkB (by omega) (by omega) (by omega) (by omega), has_mkB (by omega) (by omega) (by omega) (by omega), has_mkB (by omega) (by omega) (by omega) (by omega)]
  simp only [decide_eq_true_eq]
  clear ha hc
  generalize a 0 = x0 at *
  generalize a 1 = y0 at *
  generalize a 2 = x1 at *
  generalize a 3 = y1 at *
  generalize c 0 = p0 at *
  generalize c 1 = q0 at *
  generalize c 2 = p1 at *
  generalize c 3 = q1 at *
  by_cases c1 : v < q0 <;> by_cases c2 : v < q1 <;> by_cases c3 : u < p0 <;> by_cases c4 : u < p1 <;> by_cases c : x0 ≤ u ∧ u < x1 <;> by_cases d : y0 ≤ v ∧ v < y1 <;> first | (exfalso; omega) | (repeat (first | rw [if_pos (by omega)] | rw [if_neg (by omega)]))
theorem count_minus (a b : Nat → Int) (u v : Int) : (if has (both a b) u v then 1 else 0) + count u v (minus a b) = if has a u v then 1 else 0 := by
  unfold minus
  rcases both_cases a b with ⟨ha, hb, hm, e, he⟩ | ⟨e, he, -⟩
  · rw [if_pos he, count_those, e]
    exact count_round ha hm (show a 0 ≤ max (a 0) (b 0) by omega) (show a 1 ≤ max (a 1) (b 1) by omega) (show min (a 2) (b 2) ≤ a 2 by omega) (show min (a 3) (b 3) ≤ a 3 by omega)
  · rw [e, if_neg (show ¬ right M.zero = true by decide), count_those, has_zero, if_neg (by decide), Nat.zero_add, count, count, Nat.add_zero]
theorem area_in {r : Nat → Int} (hr : right r = true) : area r = (r 2 - r 0) * (r 3 - r 1) := by rw [area, if_pos hr]
theorem sum_quarter {r : Nat → Int} {x y : Int} (hr : right r = true) (hx : r 0 ≤ x ∧ x ≤ r 2) (hy : r 1 ≤ y ∧ y ≤ r 3) : sum (quarter r x y) = area r := by
  obtain ⟨⟨b0, b1, b2, b3⟩, h0, h1⟩ := right_iff.1 hr
  simp only [quarter, sum]
  rw [area_in hr, area_mk (by omega) (by omega) (by omega) (by omega) (by omega) (by omega), area_mk (by omega) (by omega) (by omega) (by omega) (by omega) (by omega), area_mk (by omega) (by omega) (by omega) (by omega) (by omega) (by omega), area_mk (by omega) (by omega) (by omega) (by omega) (by omega) (by omega)]
  obtain ⟨p, hp⟩ : ∃ p, x - r 0 = p := ⟨_, rfl⟩
  obtain ⟨p', hp'⟩ : ∃ p, r 2 - x = p := ⟨_, rfl⟩
  obtain ⟨q, hq⟩ : ∃ p, y - r 1 = p := ⟨_, rfl⟩
  obtain ⟨q', hq'⟩ : ∃ p, r 3 - y = p := ⟨_, rfl⟩
  rw [hp, hp', hq, hq', show r 2 - r 0 = p + p' by omega, show r 3 - r 1 = q + q' by omega, Int.mul_add, Int.add_mul, Int.add_mul]
  omega
theorem area_bad {r : Nat → Int} (hr : right r = false) : area r = 0 := by rw [area, if_neg (by rw [hr]; decide)]
theorem sum_parts (r : Nat → Int) (x y : Int) : sum (parts r x y) = area r := by
  unfold parts
  cases hr : right r
  · rw [if_neg (by decide), area_bad hr]
    rfl
  · obtain ⟨-, h0, h1⟩ := right_iff.1 hr
    rw [if_pos rfl, sum_those, sum_quarter hr (by omega) (by omega)]
theorem sum_round {a c : Nat → Int} (ha : right a = true) (hc : right c = true) (h0 : a 0 ≤ c 0) (h1 : a 1 ≤ c 1) (h2 : c 2 ≤ a 2) (h3 : c 3 ≤ a 3) : area c + sum (round a c) = area a := by
  obtain ⟨⟨b0, b1, b2, b3⟩, k0, k1⟩ := right_iff.1 ha
  obtain ⟨-, l0, l1⟩ := right_iff.1 hc
  simp only [round, sum]
  rw [area_in ha, area_in hc, area_mk (by omega) (by omega) (by omega) (by omega) (by omega) (by omega), area_mk (by omega) (by omega) (by omega) (by omega) (by omega) (by omega), area_mk (by omega) (by omega) (by omega) (by omega) (by omega) (by omega), area_mk (by omega) (by omega) (by omega) (by omega) (by omega) (by omega)]
  obtain ⟨p, hp⟩ : ∃ p, c 0 - a 0 = p := ⟨_, rfl⟩
  obtain ⟨q, hq⟩ : ∃ p, c 2 - c 0 = p := ⟨_, rfl⟩
  obtain ⟨s, hs⟩ : ∃ p, a 2 - c 2 = p := ⟨_, rfl⟩
  obtain ⟨t, ht⟩ : ∃ p, c 1 - a 1 = p := ⟨_, rfl⟩
  obtain ⟨d, hd⟩ : ∃ p, c 3 - c 1 = p := ⟨_, rfl⟩
  obtain ⟨f, hf⟩ : ∃ p, a 3 - c 3 = p := ⟨_, rfl⟩
  rw [hp, hq, hs, ht, hd, hf, show a 2 - a 0 = p + q + s by omega, show a 3 - a 1 = t + d + f by omega]
  simp only [Int.mul_add, Int.add_mul]
  omega
theorem sum_minus (a b : Nat → Int) : area (both a b) + sum (minus a b) = area a := by
  unfold minus
  rcases both_cases a b with ⟨ha, hb, hm, e, he⟩ | ⟨e, he, -⟩
  · rw [if_pos he, sum_those, e]
    exact sum_round ha hm (show a 0 ≤ max (a 0) (b 0) by omega) (show a 1 ≤ max (a 1) (b 1) by omega) (show min (a 2) (b 2) ≤ a 2 by omega) (show min (a 3) (b 3) ≤ a 3 by omega)
  · rw [if_neg (by rw [he]; decide), sum_those, e, area_bad right_zero, Int.zero_add, sum, sum, Int.add_zero]
theorem meet_comm (a b : Nat → Int) : meet a b = meet b a := by
  unfold meet
  rw [Int.max_comm (a 0), Int.max_comm (a 1), Int.min_comm (a 2), Int.min_comm (a 3)]
theorem both_comm (a b : Nat → Int) : both a b = both b a := by
  unfold both
  rw [Bool.and_comm, meet_comm a b]
theorem mk_cells {r : Nat → Int} : ∀ i, i < 4 → mk (r 0) (r 1) (r 2) (r 3) i = r i := fun i hi => by
  rcases (by omega : i = 0 ∨ i = 1 ∨ i = 2 ∨ i = 3) with rfl | rfl | rfl | rfl <;> rfl
theorem both_stays (a b : Nat → Int) : both (both a b) a = both a b := by
  rcases both_cases a b with ⟨ha, hb, hm, e, he⟩ | ⟨e, he, -⟩
  · have e2 : meet (meet a b) a = meet a b := by
      show mk (max (max (a 0) (b 0)) (a 0)) (max (max (a 1) (b 1)) (a 1)) (min (min (a 2) (b 2)) (a 2)) (min (min (a 3) (b 3)) (a 3)) = mk (max (a 0) (b 0)) (max (a 1) (b 1)) (min (a 2) (b 2)) (min (a 3) (b 3))
      rw [show max (max (a 0) (b 0)) (a 0) = max (a 0) (b 0) by omega, show max (max (a 1) (b 1)) (a 1) = max (a 1) (b 1) by omega, show min (min (a 2) (b 2)) (a 2) = min (a 2) (b 2) by omega, show min (min (a 3) (b 3)) (a 3) = min (a 3) (b 3) by omega]
    rw [e]
    rw [both, hm, ha, e2, if_pos (by decide), if_pos hm]
  · rw [e, both, right_zero, Bool.false_and, if_neg (by decide)]
theorem area_pos {r : Nat → Int} (hr : right r = true) : 0 < area r := by
  obtain ⟨-, h0, h1⟩ := right_iff.1 hr
  rw [area_in hr]
  exact Int.mul_pos (by omega) (by omega)
/-- No area: noughts. -/
theorem area_both (a b : Nat → Int) : (area (both a b) = 0) ↔ both a b = M.zero := by
  rcases both_cases a b with ⟨ha, hb, hm, e, he⟩ | ⟨e, he, -⟩
  · have := area_pos he
    constructor
    · intro h; omega
    · intro h; rw [h, right_zero] at he; cases he
  · rw [e]
    exact ⟨fun _ => rfl, fun _ => area_bad right_zero⟩
theorem area_le (r : Nat → Int) : 0 ≤ area r ∧ area r ≤ 70368744177664 := by
  cases hr : right r
  · rw [area_bad hr]
    omega
  · obtain ⟨⟨b0, b1, b2, b3⟩, h0, h1⟩ := right_iff.1 hr
    rw [area_in hr]
    have e1 := Int.mul_nonneg (show 0 ≤ r 2 - r 0 by omega) (show 0 ≤ r 3 - r 1 by omega)
    have e2 := Int.mul_le_mul_of_nonneg_left (show r 3 - r 1 ≤ 8388608 by omega) (show 0 ≤ r 2 - r 0 by omega)
    omega
theorem those_len (l : List (Nat → Int)) : (those l).length ≤ l.length := List.length_filter_le _ _
theorem minus_len (a b : Nat → Int) : (minus a b).length ≤ 4 := by
  unfold minus
  split
  · exact those_len _
  · exact Nat.le_trans (those_len _) (show 1 ≤ 4 by decide)
theorem parts_len (r : Nat → Int) (x y : Int) : (parts r x y).length ≤ 4 := by
  unfold parts
  split
  · exact those_len _
  · exact Nat.zero_le _
end RC
end Go.Proofs.Ythioeohmnlppcaa
