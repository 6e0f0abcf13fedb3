/- Plain: the program's way: sides, what they leave of a row, the pixels among which all are. -/
import Derived.Test.YtndaijcgjhmiaaaJa
import Derived.Test.YtndaijcgjhmiaaaSn
import Derived.Test.YtndaijcgjhmiaaaWr
namespace Go.Proofs.Ytndaijcgjhmiaaa
open Go.ChangeShapes Go.WideShapes Go.ChangeAt Go.RowKit
set_option linter.unusedVariables false
set_option linter.unusedSimpArgs false

namespace TR
/-- Rounded up. -/
def up (n d : Int) : Int := -((-n) / d)
theorem up_le {n d x : Int} (hd : 0 < d) : up n d ≤ x ↔ n ≤ d * x := by
  unfold up
  have k := Int.le_ediv_iff_mul_le (a := -x) (b := -n) hd
  rw [Int.neg_mul, Int.mul_comm x d] at k
  constructor
  · intro h
    have := k.1 (by omega)
    omega
  · intro h
    have := k.2 (by omega)
    omega
theorem up_yes {n d q r : Int} (hd : 0 < d) (hq : n.tdiv d = q) (hr : n.tmod d = r) (h : 0 < r) : up n d = q + 1 := by
  have e := Int.mul_tdiv_add_tmod n d
  have l := Int.tmod_lt_of_pos n hd
  rw [hq, hr] at e
  rw [hr] at l
  have k1 := (up_le (n := n) (x := q + 1) hd).2 (by rw [Int.mul_add]; omega)
  have k2 : ¬ up n d ≤ q := fun g => by
    have := (up_le hd).1 g
    omega
  omega
theorem up_no {n d q r : Int} (hd : 0 < d) (hq : n.tdiv d = q) (hr : n.tmod d = r) (h : ¬ 0 < r) : up n d = q := by
  have e := Int.mul_tdiv_add_tmod n d
  have l := Int.tmod_lt_of_pos (-n) hd
  rw [Int.neg_tmod, hr] at l
  rw [hq, hr] at e
  have k1 := (up_le (n := n) (x := q) hd).2 (by omega)
  have k2 : ¬ up n d ≤ q - 1 := fun g => by
    have := (up_le hd).1 g
    rw [Int.mul_sub] at this
    omega
  omega
/-- The first pixel whose middle is there or beyond. -/
def ff (u : Int) : Int := up (u - 128) 256
theorem ff_le {u x : Int} : ff u ≤ x ↔ u ≤ 256 * x + 128 := by
  unfold ff
  rw [up_le (by decide)]
  omega
theorem ff_lim {u : Int} (h : -268435456 ≤ u ∧ u ≤ 268435457) : -1048577 ≤ ff u ∧ ff u ≤ 1048577 := by
  have k1 := (ff_le (u := u) (x := 1048577)).2 (by omega)
  have k2 : ¬ ff u ≤ -1048578 := fun g => by
    have := ff_le.1 g
    omega
  omega
/-- A side: where it begins, how far right and up from there it ends. -/
def side (p q : Nat → Int) : Nat → Int := RC.mk (p 0) (p 1) (q 0 - p 0) (q 1 - p 1)
def kept (s : Nat → Int) : Bool := decide (s 3 < 0) || (decide (s 3 = 0) && decide (s 2 < 0))
def num (s : Nat → Int) (x y : Int) : Int := s 2 * (256 * y + 128 - s 1) - s 3 * (256 * x + 128 - s 0)
def keeps (s : Nat → Int) (x y : Int) : Bool := decide (0 < num s x y) || (decide (num s x y = 0) && kept s)
theorem kept_own (p q : Nat → Int) : kept (side p q) = own p q := by
  show (decide (q 1 - p 1 < 0) || (decide (q 1 - p 1 = 0) && decide (q 0 - p 0 < 0))) = (decide (q 1 < p 1) || (decide (q 1 = p 1) && decide (q 0 < p 0)))
  rw [Bool.eq_iff_iff]
  simp only [Bool.or_eq_true, Bool.and_eq_true, decide_eq_true_eq]
  omega
theorem keeps_left (p q : Nat → Int) (x y : Int) : keeps (side p q) x y = left p q x y := by
  unfold keeps left
  rw [kept_own]
  rfl
/-- The sides, counterclockwise; none of what has no area. -/
def sds (a b c : Nat → Int) : List (Nat → Int) := if ar a b c < 0 then [side a c, side c b, side b a] else if ar a b c = 0 then [] else [side a b, side b c, side c a]
theorem sds_len (a b c : Nat → Int) : (sds a b c).length ≤ 3 := by
  unfold sds
  split
  · simp
  · split <;> simp
theorem has_sds (a b c : Nat → Int) (x y : Int) : has a b c x y = ((sds a b c).all (fun s => keeps s x y) && decide (0 < (sds a b c).length)) := by
  unfold has sds h3
  split
  · simp [keeps_left]
  · split
    · rename_i h
      simp [h]
    · rename_i h
      simp [keeps_left, h]
/-- Where a side crosses a row's middles. -/
def far (s : Nat → Int) (y : Int) : Int := s 2 * (256 * y + 128 - s 1) + s 3 * (s 0 - 128)
def crossed (s : Nat → Int) (y : Int) : Int := if s 3 < 0 then up (-(far s y)) (-256 * s 3) else up (far s y) (256 * s 3)
theorem num_far (s : Nat → Int) (x y : Int) : num s x y = far s y - 256 * s 3 * x := by
  unfold num far
  grind
/-- What a side leaves of a row. -/
def cutS (s t : Nat → Int) : Nat → Int := sp (t 0) (if s 3 < 0 then max (t 1) (crossed s (t 0)) else t 1) (if 0 < s 3 then min (t 2) (crossed s (t 0)) else t 2)
def cutL (l : List (Nat → Int)) (t : Nat → Int) : Nat → Int := l.foldl (fun t s => cutS s t) t
/-- Is a row's middle between the corners' Y, the least one left out? -/
def inRow (a b c : Nat → Int) (y : Int) : Prop := (a 1 < 256 * y + 128 ∨ b 1 < 256 * y + 128 ∨ c 1 < 256 * y + 128) ∧ (256 * y + 128 ≤ a 1 ∨ 256 * y + 128 ≤ b 1 ∨ 256 * y + 128 ≤ c 1)
theorem left_cross {p q e : Nat → Int} (hA : 0 < ar p q e) {x y : Int} (hy : inRow p q e y) : left p q x y = true ↔ (side p q 3 < 0 → crossed (side p q) y ≤ x) ∧ (0 < side p q 3 → x < crossed (side p q) y) := by
  rw [← keeps_left]
  have hs : side p q 3 = q 1 - p 1 := rfl
  have hk : kept (side p q) = true ↔ side p q 3 < 0 ∨ (side p q 3 = 0 ∧ side p q 2 < 0) := by
    unfold kept
    simp only [Bool.or_eq_true, Bool.and_eq_true, decide_eq_true_eq]
  unfold keeps
  simp only [Bool.or_eq_true, Bool.and_eq_true, decide_eq_true_eq]
  rw [hk]
  rcases Int.lt_trichotomy (side p q 3) 0 with h | h | h
  · have hc : crossed (side p q) y = up (-(far (side p q) y)) (-256 * side p q 3) := if_pos h
    have k := up_le (n := -(far (side p q) y)) (d := -256 * side p q 3) (x := x) (by omega)
    have e : -256 * side p q 3 * x = -(256 * side p q 3 * x) := by grind
    rw [e] at k
    rw [num_far, hc]
    generalize up (-(far (side p q) y)) (-256 * side p q 3) = C at *
    generalize 256 * side p q 3 * x = m at *
    omega
  · have hn : num (side p q) x y = (q 0 - p 0) * (256 * y + 128 - p 1) := by
      unfold num
      rw [h, Int.zero_mul, Int.sub_zero]
      rfl
    have h2 : side p q 2 = q 0 - p 0 := rfl
    have hA' : 0 < (q 0 - p 0) * (e 1 - p 1) := by
      unfold ar at hA
      rw [← hs, h, Int.zero_mul, Int.sub_zero] at hA
      exact hA
    rw [hn, h2, h]
    obtain ⟨y1, y2⟩ := hy
    rcases Int.lt_trichotomy (q 0 - p 0) 0 with g | g | g
    · have := Int.mul_pos_of_neg_of_neg g (show 256 * y + 128 - p 1 - 1 < 0 by
        have : ¬ 0 ≤ e 1 - p 1 := fun z => by
          have := Int.mul_nonneg (show 0 ≤ -(q 0 - p 0) by omega) z
          rw [Int.neg_mul] at this
          omega
        omega)
      rw [Int.mul_sub] at this
      have g2 : 0 ≤ (q 0 - p 0) * (256 * y + 128 - p 1) := by
        have := Int.mul_nonneg (show 0 ≤ -(q 0 - p 0) by omega) (show 0 ≤ -(256 * y + 128 - p 1) by
          have : ¬ 0 ≤ e 1 - p 1 := fun z => by
            have := Int.mul_nonneg (show 0 ≤ -(q 0 - p 0) by omega) z
            rw [Int.neg_mul] at this
            omega
          omega)
        rw [Int.neg_mul_neg] at this
        exact this
      omega
    · rw [g, Int.zero_mul] at hA'
      omega
    · have : 0 < e 1 - p 1 := pos_of g hA'
      have := Int.mul_pos g (show 0 < 256 * y + 128 - p 1 by omega)
      omega
  · have hc : crossed (side p q) y = up (far (side p q) y) (256 * side p q 3) := if_neg (by omega)
    have k := up_le (n := far (side p q) y) (d := 256 * side p q 3) (x := x) (by omega)
    rw [num_far, hc]
    generalize up (far (side p q) y) (256 * side p q 3) = C at *
    generalize 256 * side p q 3 * x = m at *
    omega
/-- What a side leaves of a row: what is left of it. -/
theorem cutS_mem {p q e : Nat → Int} (hA : 0 < ar p q e) {y : Int} (hy : inRow p q e y) (u v : Int) : ∃ u' v', cutS (side p q) (sp y u v) = sp y u' v' ∧ u ≤ u' ∧ v' ≤ v ∧ ∀ x, (u' ≤ x ∧ x < v') ↔ (u ≤ x ∧ x < v) ∧ left p q x y = true := by
  refine ⟨_, _, rfl, ?_, ?_, fun x => ?_⟩
  · show u ≤ if side p q 3 < 0 then max u (crossed (side p q) y) else u
    split <;> omega
  · show (if 0 < side p q 3 then min v (crossed (side p q) y) else v) ≤ v
    split <;> omega
  · rw [left_cross hA hy]
    show ((if side p q 3 < 0 then max u (crossed (side p q) y) else u) ≤ x ∧ x < (if 0 < side p q 3 then min v (crossed (side p q) y) else v)) ↔ _
    generalize crossed (side p q) y = C
    split <;> split <;> omega
theorem inRow_cyc {a b c : Nat → Int} {y : Int} (h : inRow a b c y) : inRow b c a y := by
  unfold inRow at *
  omega
theorem inRow_swap {a b c : Nat → Int} {y : Int} (h : inRow a b c y) : inRow a c b y := by
  unfold inRow at *
  omega
/-- What three sides leave of a row. -/
theorem cut3_mem {a b c : Nat → Int} (hA : 0 < ar a b c) {y : Int} (hy : inRow a b c y) (u v : Int) : ∃ u' v', cutL [side a b, side b c, side c a] (sp y u v) = sp y u' v' ∧ u ≤ u' ∧ v' ≤ v ∧ ∀ x, (u' ≤ x ∧ x < v') ↔ (u ≤ x ∧ x < v) ∧ h3 a b c x y = true := by
  obtain ⟨u1, v1, e1, l1, m1, k1⟩ := cutS_mem hA hy u v
  obtain ⟨u2, v2, e2, l2, m2, k2⟩ := cutS_mem (p := b) (q := c) (e := a) (by rw [ar_cyc]; exact hA) (inRow_cyc hy) u1 v1
  obtain ⟨u3, v3, e3, l3, m3, k3⟩ := cutS_mem (p := c) (q := a) (e := b) (by rw [ar_cyc, ar_cyc]; exact hA) (inRow_cyc (inRow_cyc hy)) u2 v2
  refine ⟨u3, v3, ?_, by omega, by omega, fun x => ?_⟩
  · show cutS (side c a) (cutS (side b c) (cutS (side a b) (sp y u v))) = _
    rw [e1, e2, e3]
  · rw [k3, k2, k1]
    unfold h3
    rw [Bool.and_eq_true, Bool.and_eq_true, and_assoc, and_assoc]
/-- The pixels among which all are that a triangle has. -/
def mn (a b c : Int) : Int := min (min a b) c
def mx (a b c : Int) : Int := max (max a b) c
def bx (a b c : Nat → Int) : Nat → Int := RC.mk (ff (mn (a 0) (b 0) (c 0))) (ff (mn (a 1) (b 1) (c 1) + 1)) (ff (mx (a 0) (b 0) (c 0))) (ff (mx (a 1) (b 1) (c 1) + 1))
theorem bx_row (a b c : Nat → Int) (y : Int) : (bx a b c 1 ≤ y ∧ y < bx a b c 3) ↔ inRow a b c y := by
  have k1 := ff_le (u := mn (a 1) (b 1) (c 1) + 1) (x := y)
  have k2 := ff_le (u := mx (a 1) (b 1) (c 1) + 1) (x := y)
  show (ff (mn (a 1) (b 1) (c 1) + 1) ≤ y ∧ y < ff (mx (a 1) (b 1) (c 1) + 1)) ↔ _
  generalize ff (mn (a 1) (b 1) (c 1) + 1) = m at *
  generalize ff (mx (a 1) (b 1) (c 1) + 1) = n at *
  unfold mn at k1
  unfold mx at k2
  unfold inRow
  omega
theorem bx_col (a b c : Nat → Int) (x : Int) : (bx a b c 0 ≤ x ∧ x < bx a b c 2) ↔ (a 0 ≤ 256 * x + 128 ∨ b 0 ≤ 256 * x + 128 ∨ c 0 ≤ 256 * x + 128) ∧ (256 * x + 128 < a 0 ∨ 256 * x + 128 < b 0 ∨ 256 * x + 128 < c 0) := by
  have k1 := ff_le (u := mn (a 0) (b 0) (c 0)) (x := x)
  have k2 := ff_le (u := mx (a 0) (b 0) (c 0)) (x := x)
  show (ff (mn (a 0) (b 0) (c 0)) ≤ x ∧ x < ff (mx (a 0) (b 0) (c 0))) ↔ _
  generalize ff (mn (a 0) (b 0) (c 0)) = m at *
  generalize ff (mx (a 0) (b 0) (c 0)) = n at *
  unfold mn at k1
  unfold mx at k2
  omega
theorem wx (a b c : Nat → Int) (x y : Int) : nn b c x y * (4611686018427387904 * a 0 - (4611686018427387904 * (256 * x + 128) + 2147483648)) + nn c a x y * (4611686018427387904 * b 0 - (4611686018427387904 * (256 * x + 128) + 2147483648)) + nn a b x y * (4611686018427387904 * c 0 - (4611686018427387904 * (256 * x + 128) + 2147483648)) = 0 := by
  unfold nn
  generalize 4611686018427387904 * (256 * x + 128) + 2147483648 = X
  generalize 4611686018427387904 * (256 * y + 128) - 1 = Y
  generalize (4611686018427387904 : Int) = K
  grind
theorem wy (a b c : Nat → Int) (x y : Int) : nn b c x y * (4611686018427387904 * a 1 - (4611686018427387904 * (256 * y + 128) - 1)) + nn c a x y * (4611686018427387904 * b 1 - (4611686018427387904 * (256 * y + 128) - 1)) + nn a b x y * (4611686018427387904 * c 1 - (4611686018427387904 * (256 * y + 128) - 1)) = 0 := by
  unfold nn
  generalize 4611686018427387904 * (256 * x + 128) + 2147483648 = X
  generalize 4611686018427387904 * (256 * y + 128) - 1 = Y
  generalize (4611686018427387904 : Int) = K
  grind
theorem none_right {p q r u v w : Int} (hp : 0 ≤ p) (hq : 0 ≤ q) (hr : 0 ≤ r) (hs : 0 < p + q + r) (h : p * u + q * v + r * w = 0) : ¬ (u < 0 ∧ v < 0 ∧ w < 0) := by
  have k := none_left (u := -u) (v := -v) (w := -w) hp hq hr hs (by rw [Int.mul_neg, Int.mul_neg, Int.mul_neg]; omega)
  omega
/-- A triangle's pixels are in its box. -/
theorem in_bx {a b c : Nat → Int} (ha : May a) (hb : May b) (hc : May c) {x y : Int} (h : h3 a b c x y = true) : (bx a b c 0 ≤ x ∧ x < bx a b c 2) ∧ bx a b c 1 ≤ y ∧ y < bx a b c 3 := by
  obtain ⟨h1, h2, h3⟩ := (h3_nn ha hb hc x y).1 h
  rw [bx_row, bx_col]
  have s : 0 < nn b c x y + nn c a x y + nn a b x y := by omega
  have x1 := none_left (by omega) (by omega) (by omega) s (wx a b c x y)
  have x2 := none_right (by omega) (by omega) (by omega) s (wx a b c x y)
  have y1 := none_left (by omega) (by omega) (by omega) s (wy a b c x y)
  have y2 := none_right (by omega) (by omega) (by omega) s (wy a b c x y)
  unfold inRow
  omega
theorem bx_swap (a b c : Nat → Int) : bx a c b = bx a b c := by
  have e1 : ∀ x y z : Int, mn x z y = mn x y z := fun x y z => by unfold mn; omega
  have e2 : ∀ x y z : Int, mx x z y = mx x y z := fun x y z => by unfold mx; omega
  unfold bx
  rw [e1 (a 0) (b 0), e1 (a 1) (b 1), e2 (a 0) (b 0), e2 (a 1) (b 1)]
theorem has_in {a b c : Nat → Int} (ha : May a) (hb : May b) (hc : May c) {x y : Int} (h : has a b c x y = true) : (bx a b c 0 ≤ x ∧ x < bx a b c 2) ∧ bx a b c 1 ≤ y ∧ y < bx a b c 3 := by
  unfold has at h
  split at h
  · rw [← bx_swap]
    exact in_bx ha hc hb h
  · rw [Bool.and_eq_true] at h
    exact in_bx ha hb hc h.2
theorem sds_mem {a b c : Nat → Int} (hA : ar a b c ≠ 0) {y : Int} (hy : inRow a b c y) (u v : Int) : ∃ u' v', cutL (sds a b c) (sp y u v) = sp y u' v' ∧ u ≤ u' ∧ v' ≤ v ∧ ∀ x, (u' ≤ x ∧ x < v') ↔ (u ≤ x ∧ x < v) ∧ has a b c x y = true := by
  unfold sds has
  by_cases h : ar a b c < 0
  · rw [if_pos h]
    obtain ⟨u', v', e, l, m, k⟩ := cut3_mem (a := a) (b := c) (c := b) (by rw [ar_swap]; omega) (inRow_swap hy) u v
    refine ⟨u', v', e, l, m, fun x => ?_⟩
    rw [if_pos h, k]
  · rw [if_neg h, if_neg hA]
    obtain ⟨u', v', e, l, m, k⟩ := cut3_mem (a := a) (b := b) (c := c) (by omega) hy u v
    refine ⟨u', v', e, l, m, fun x => ?_⟩
    rw [if_neg h, k, decide_eq_true hA, Bool.true_and]
/-- A row by what the sides leave of it. -/
def rowP (a b c : Nat → Int) (u v y : Int) : List (Nat → Int) := if cutL (sds a b c) (sp y u v) 1 < cutL (sds a b c) (sp y u v) 2 then [cutL (sds a b c) (sp y u v)] else []
theorem both_right {r t : Nat → Int} (h : RC.right (RC.both r t) = true) : RC.right r = true ∧ RC.right t = true ∧ RC.both r t = RC.meet r t := by
  cases h1 : RC.right r
  · rw [RC.both_no1 h1, RC.right_zero] at h
    cases h
  cases h2 : RC.right t
  · rw [RC.both_no2 h2, RC.right_zero] at h
    cases h
  cases h3 : RC.right (RC.meet r t)
  · rw [RC.both_no3 h3, RC.right_zero] at h
    cases h
  · exact ⟨rfl, rfl, RC.both_yes h1 h2 h3⟩
theorem both_not {r t : Nat → Int} (h : RC.right (RC.both r t) = false) : RC.both r t = M.zero := by
  cases h1 : RC.right r
  · exact RC.both_no1 h1
  cases h2 : RC.right t
  · exact RC.both_no2 h2
  cases h3 : RC.right (RC.meet r t)
  · exact RC.both_no3 h3
  · rw [RC.both_yes h1 h2 h3, h3] at h
    cases h
theorem bx_lim {a b c : Nat → Int} (ha : May a) (hb : May b) (hc : May c) : (-1048577 ≤ bx a b c 0 ∧ bx a b c 0 ≤ 1048577) ∧ (-1048577 ≤ bx a b c 1 ∧ bx a b c 1 ≤ 1048577) ∧ (-1048577 ≤ bx a b c 2 ∧ bx a b c 2 ≤ 1048577) ∧ (-1048577 ≤ bx a b c 3 ∧ bx a b c 3 ≤ 1048577) := by
  obtain ⟨⟨h1, h2⟩, h3, h4⟩ := ha
  obtain ⟨⟨h5, h6⟩, h7, h8⟩ := hb
  obtain ⟨⟨h9, h10⟩, h11, h12⟩ := hc
  exact ⟨ff_lim (by unfold mn; omega), ff_lim (by unfold mn; omega), ff_lim (by unfold mx; omega), ff_lim (by unfold mx; omega)⟩
theorem upto_flat {f : Int → List (Nat → Int)} {y0 y1 : Int} (h : ∀ y, y0 ≤ y → y < y1 → f y = []) : (SM.upto y0 y1).flatMap f = [] := by
  rw [List.flatMap_eq_nil_iff]
  intro y hy
  have := SM.mem_upto.1 hy
  exact h y this.1 this.2
theorem spk_nil {a b c r : Nat → Int} {y1 : Int} (h : ∀ y, r 1 ≤ y → y < y1 → row (fun x => has a b c x y) (r 0) (r 2) y = []) : spk a b c r y1 = [] := by
  unfold spk SM.rows
  refine upto_flat fun y h1 h2 => ?_
  unfold SM.row
  rw [show SM.upto 0 1 = [0] from rfl]
  simp [rw_, h y h1 h2]
theorem spk_on {a b c r : Nat → Int} {y1 : Int} (h1 : r 1 ≤ y1) : ∀ n : Nat, (∀ y, y1 ≤ y → y < y1 + n → row (fun x => has a b c x y) (r 0) (r 2) y = []) → spk a b c r (y1 + n) = spk a b c r y1
  | 0, _ => by simp
  | n + 1, h => by
    have e : y1 + ((n + 1 : Nat) : Int) = y1 + n + 1 := by omega
    rw [e, spk_step (by omega), h (y1 + n) (by omega) (by omega), List.append_nil]
    exact spk_on h1 n fun y k1 k2 => h y k1 (by omega)
/-- The program's way through the rows. -/
theorem way {a b c r : Nat → Int} (ha : May a) (hb : May b) (hc : May c) (hA : ar a b c ≠ 0) (hr : RC.right (RC.both r (bx a b c)) = true) : spk a b c r (RC.both r (bx a b c) 1) = [] ∧ spk a b c r (RC.both r (bx a b c) 3) = spans a b c r ∧ (∀ y, RC.both r (bx a b c) 1 ≤ y → y < RC.both r (bx a b c) 3 → spk a b c r (y + 1) = spk a b c r y ++ rowP a b c (RC.both r (bx a b c) 0) (RC.both r (bx a b c) 2) y) := by
  obtain ⟨h1, h2, hm⟩ := both_right hr
  rw [hm] at hr ⊢
  obtain ⟨⟨z0, z1, z2, z3⟩, z4, z5⟩ := RC.right_iff.1 h1
  obtain ⟨-, w4, w5⟩ := RC.right_iff.1 hr
  have e0 : RC.meet r (bx a b c) 0 = max (r 0) (bx a b c 0) := rfl
  have e1 : RC.meet r (bx a b c) 1 = max (r 1) (bx a b c 1) := rfl
  have e2 : RC.meet r (bx a b c) 2 = min (r 2) (bx a b c 2) := rfl
  have e3 : RC.meet r (bx a b c) 3 = min (r 3) (bx a b c 3) := rfl
  rw [e0, e2] at w4
  rw [e1, e3] at w5
  rw [e0, e1, e2, e3]
  have out : ∀ y, ¬ (bx a b c 1 ≤ y ∧ y < bx a b c 3) → row (fun x => has a b c x y) (r 0) (r 2) y = [] := fun y hy => by
    refine row_no (by omega) fun x _ _ => ?_
    rw [← Bool.not_eq_true]
    intro k
    exact hy (has_in ha hb hc k).2
  refine ⟨spk_nil fun y k1 k2 => out y (by omega), ?_, fun y k1 k2 => ?_⟩
  · rw [spans_ok h1, show SM.rows (rw_ a b c r) 0 1 (r 1) (r 3) = spk a b c r (r 3) from rfl]
    have := spk_on (a := a) (b := b) (c := c) (r := r) (y1 := min (r 3) (bx a b c 3)) (by omega) (r 3 - min (r 3) (bx a b c 3)).toNat (fun y k1 k2 => out y (by omega))
    rw [show min (r 3) (bx a b c 3) + ((r 3 - min (r 3) (bx a b c 3)).toNat : Int) = r 3 by omega] at this
    exact this.symm
  · rw [spk_step (by omega)]
    congr 1
    have hy : inRow a b c y := (bx_row a b c y).1 (by omega)
    obtain ⟨u, v, e, l, m, k⟩ := sds_mem hA hy (max (r 0) (bx a b c 0)) (min (r 2) (bx a b c 2))
    unfold rowP
    rw [e]
    show _ = if u < v then [sp y u v] else []
    have key : ∀ x, r 0 ≤ x → x < r 2 → (has a b c x y = true ↔ u ≤ x ∧ x < v) := fun x g1 g2 => by
      rw [k]
      constructor
      · intro g
        have := (has_in ha hb hc g).1
        exact ⟨by omega, g⟩
      · exact fun g => g.2
    split
    · exact row_is (by omega) (by assumption) (by omega) key
    · refine row_no (by omega) fun x g1 g2 => ?_
      rw [← Bool.not_eq_true, key x g1 g2]
      omega
theorem way_none {a b c r : Nat → Int} (ha : May a) (hb : May b) (hc : May c) (hr : RC.right (RC.both r (bx a b c)) = false) : spans a b c r = [] := by
  cases h1 : RC.right r
  · exact spans_bad h1
  rw [spans_ok h1, show SM.rows (rw_ a b c r) 0 1 (r 1) (r 3) = spk a b c r (r 3) from rfl]
  obtain ⟨⟨z0, z1, z2, z3⟩, z4, z5⟩ := RC.right_iff.1 h1
  refine spk_nil fun y k1 k2 => row_no (by omega) fun x k3 k4 => ?_
  rw [← Bool.not_eq_true]
  intro k
  obtain ⟨⟨i1, i2⟩, i3, i4⟩ := has_in ha hb hc k
  obtain ⟨l0, l1, l2, l3⟩ := bx_lim ha hb hc
  have hb2 : RC.right (bx a b c) = true := RC.right_iff.2 (by omega)
  have hm : RC.right (RC.meet r (bx a b c)) = true := RC.right_iff.2 (by
    show ((-4194304 ≤ max (r 0) (bx a b c 0) ∧ max (r 0) (bx a b c 0) ≤ 4194304) ∧ (-4194304 ≤ max (r 1) (bx a b c 1) ∧ max (r 1) (bx a b c 1) ≤ 4194304) ∧ (-4194304 ≤ min (r 2) (bx a b c 2) ∧ min (r 2) (bx a b c 2) ≤ 4194304) ∧ (-4194304 ≤ min (r 3) (bx a b c 3) ∧ min (r 3) (bx a b c 3) ≤ 4194304)) ∧ max (r 0) (bx a b c 0) < min (r 2) (bx a b c 2) ∧ max (r 1) (bx a b c 1) < min (r 3) (bx a b c 3)
    omega)
  rw [RC.both_yes h1 hb2 hm, hm] at hr
  cases hr
theorem way_flat {a b c r : Nat → Int} (h : ar a b c = 0) : spans a b c r = [] := by
  cases h1 : RC.right r
  · exact spans_bad h1
  rw [spans_ok h1, show SM.rows (rw_ a b c r) 0 1 (r 1) (r 3) = spk a b c r (r 3) from rfl]
  obtain ⟨-, z4, z5⟩ := RC.right_iff.1 h1
  exact spk_nil fun y k1 k2 => row_no (by omega) fun x k3 k4 => has_flat h x y
end TR
end Go.Proofs.Ytndaijcgjhmiaaa
