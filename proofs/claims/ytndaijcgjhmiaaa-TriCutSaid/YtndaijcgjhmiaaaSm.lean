/- Plain: a line's strip, a pixel's cover; parts add up; moved and wider ones. -/
import Derived.Test.YtndaijcgjhmiaaaDm
namespace Go.Proofs.Ytndaijcgjhmiaaa
set_option linter.unusedVariables false
namespace SM
/-- Twice: products and squares. -/
def sq (a b : Nat → Int) : Int := (b 0 - a 0) * (b 0 - a 0) + (b 1 - a 1) * (b 1 - a 1)
def dot (a b : Nat → Int) (x y : Int) : Int := (x - a 0) * (b 0 - a 0) + (y - a 1) * (b 1 - a 1)
def crs (a b : Nat → Int) (x y : Int) : Int := (b 0 - a 0) * (y - a 1) - (b 1 - a 1) * (x - a 0)
/-- Is a point no further aside than it may be? -/
def side (w c l : Int) : Prop := if 0 < c then c * c ≤ 128 * w * 128 * w * l else c * c < 128 * w * 128 * w * l
instance (w c l : Int) : Decidable (side w c l) := by unfold side; infer_instance
/-- Is a point in a line's strip? -/
def stripP (a b : Nat → Int) (w x y : Int) : Prop := 0 ≤ dot a b x y ∧ dot a b x y < sq a b ∧ side w (crs a b x y) (sq a b)
instance (a b : Nat → Int) (w x y : Int) : Decidable (stripP a b w x y) := by unfold stripP; infer_instance
def strip (a b : Nat → Int) (w x y : Int) : Bool := decide (stripP a b w x y)
def bit (b : Bool) : Nat := if b then 1 else 0
/-- How many of a pixel's samples with X i are in the strip. -/
def col (a b : Nat → Int) (w x y : Int) (i : Nat) : Nat := ((List.range 8).map fun k => bit (strip a b w (256 * x + 32 * (i : Nat) + 16) (256 * y + 32 * (k : Nat) + 16))).sum
/-- A pixel's cover. -/
def cov (a b : Nat → Int) (w x y : Int) : Nat := ((List.range 8).map fun i => col a b w x y i).sum
theorem sum_add {α : Type} (f g h : α → Nat) : ∀ l : List α, (∀ x ∈ l, f x = g x + h x) → (l.map f).sum = (l.map g).sum + (l.map h).sum
  | [], _ => rfl
  | x :: l, e => by
    have ih := sum_add f g h l fun y hy => e y (List.mem_cons_of_mem _ hy)
    have e0 := e x List.mem_cons_self
    simp only [List.map_cons, List.sum_cons]
    omega
theorem sum_le {α : Type} (f g : α → Nat) : ∀ l : List α, (∀ x ∈ l, f x ≤ g x) → (l.map f).sum ≤ (l.map g).sum
  | [], _ => Nat.le_refl _
  | x :: l, e => by
    have ih := sum_le f g l fun y hy => e y (List.mem_cons_of_mem _ hy)
    have e0 := e x List.mem_cons_self
    simp only [List.map_cons, List.sum_cons]
    omega
theorem sum_const {α : Type} (f : α → Nat) (n : Nat) : ∀ l : List α, (∀ x ∈ l, f x ≤ n) → (l.map f).sum ≤ n * l.length
  | [], _ => by simp
  | x :: l, e => by
    have ih := sum_const f n l fun y hy => e y (List.mem_cons_of_mem _ hy)
    have e0 := e x List.mem_cons_self
    simp only [List.map_cons, List.sum_cons, List.length_cons, Nat.mul_add, Nat.mul_one]
    omega
theorem sum_swap {α β : Type} (f : α → β → Nat) (m : List β) : ∀ l : List α, (l.map fun x => (m.map fun y => f x y).sum).sum = (m.map fun y => (l.map fun x => f x y).sum).sum
  | [] => by
    induction m with
    | nil => rfl
    | cons y m ih => simpa using ih
  | x :: l => by
    have ih := sum_swap f m l
    simp only [List.map_cons, List.sum_cons]
    rw [ih]
    exact (sum_add (fun y => f x y + (l.map fun x => f x y).sum) (fun y => f x y) (fun y => (l.map fun x => f x y).sum) m fun _ _ => rfl).symm
theorem bit_le (b : Bool) : bit b ≤ 1 := by cases b <;> decide
theorem col_le (a b : Nat → Int) (w x y : Int) (i : Nat) : col a b w x y i ≤ 8 := by
  have := sum_const (fun k => bit (strip a b w (256 * x + 32 * (i : Nat) + 16) (256 * y + 32 * (k : Nat) + 16))) 1 (List.range 8) fun k _ => bit_le _
  unfold col
  simpa using this
theorem cov_le (a b : Nat → Int) (w x y : Int) : cov a b w x y ≤ 64 := by
  have := sum_const (fun i => col a b w x y i) 8 (List.range 8) fun i _ => col_le _ _ _ _ _ i
  unfold cov
  simpa using this
/-- Row by row it is the same. -/
theorem cov_rows (a b : Nat → Int) (w x y : Int) : cov a b w x y = ((List.range 8).map fun k => ((List.range 8).map fun i => bit (strip a b w (256 * x + 32 * ((i : Nat) : Int) + 16) (256 * y + 32 * ((k : Nat) : Int) + 16))).sum).sum := sum_swap _ _ _
theorem sq_nonneg' (x : Int) : 0 ≤ x * x := by
  rcases Int.le_total 0 x with h | h
  · exact Int.mul_nonneg h h
  · have := Int.mul_nonneg (Int.neg_nonneg_of_nonpos h) (Int.neg_nonneg_of_nonpos h)
    rwa [Int.neg_mul_neg] at this
theorem sq_nonneg (a b : Nat → Int) : 0 ≤ sq a b := by
  have h1 := sq_nonneg' (b 0 - a 0)
  have h2 := sq_nonneg' (b 1 - a 1)
  unfold sq
  omega
theorem strip_pos {a b : Nat → Int} {w x y : Int} (h : stripP a b w x y) : 0 < sq a b := by
  obtain ⟨h1, h2, _⟩ := h
  omega
/-- A wider one has all that one has. -/
theorem strip_wider {a b : Nat → Int} {w x y : Int} (hw : 0 ≤ w) (h : strip a b w x y = true) : strip a b (w + 1) x y = true := by
  unfold strip at h ⊢
  rw [decide_eq_true_iff] at h ⊢
  refine ⟨h.1, h.2.1, ?_⟩
  have hs := h.2.2
  have hl := sq_nonneg a b
  have e1 : 128 * w * 128 * w ≤ 128 * (w + 1) * 128 * (w + 1) := by
    have m1 : 128 * w * 128 ≤ 128 * (w + 1) * 128 := by omega
    have m2 := Int.mul_le_mul m1 (show w ≤ w + 1 by omega) hw (by omega)
    exact m2
  have e2 := Int.mul_le_mul_of_nonneg_right e1 hl
  unfold side at hs ⊢
  split at hs <;> rename_i hc
  · rw [if_pos hc]; omega
  · rw [if_neg hc]; omega
theorem cov_wider {a b : Nat → Int} {w : Int} (hw : 0 ≤ w) (x y : Int) : cov a b w x y ≤ cov a b (w + 1) x y := by
  refine sum_le _ _ _ fun i _ => sum_le _ _ _ fun k _ => ?_
  cases h : strip a b w (256 * x + 32 * ((i : Nat) : Int) + 16) (256 * y + 32 * ((k : Nat) : Int) + 16)
  · exact Nat.zero_le _
  · rw [strip_wider hw h]
    exact Nat.le_refl _
/-- Moved by whole pixels. -/
theorem strip_moved {a b a' b' : Nat → Int} {p q : Int} (h0 : a' 0 = a 0 + 256 * p) (h1 : a' 1 = a 1 + 256 * q) (h2 : b' 0 = b 0 + 256 * p) (h3 : b' 1 = b 1 + 256 * q) (w x y : Int) : strip a' b' w (x + 256 * p) (y + 256 * q) = strip a b w x y := by
  have e0 : b' 0 - a' 0 = b 0 - a 0 := by omega
  have e1 : b' 1 - a' 1 = b 1 - a 1 := by omega
  have e2 : x + 256 * p - a' 0 = x - a 0 := by omega
  have e3 : y + 256 * q - a' 1 = y - a 1 := by omega
  unfold strip
  rw [decide_eq_decide]
  unfold stripP dot crs sq
  rw [e0, e1, e2, e3]
theorem cov_moved {a b a' b' : Nat → Int} {p q : Int} (h0 : a' 0 = a 0 + 256 * p) (h1 : a' 1 = a 1 + 256 * q) (h2 : b' 0 = b 0 + 256 * p) (h3 : b' 1 = b 1 + 256 * q) (w x y : Int) : cov a' b' w (x + p) (y + q) = cov a b w x y := by
  unfold cov col
  have e : ∀ i k : Nat, strip a' b' w (256 * (x + p) + 32 * ((i : Nat) : Int) + 16) (256 * (y + q) + 32 * ((k : Nat) : Int) + 16) = strip a b w (256 * x + 32 * (i : Int) + 16) (256 * y + 32 * (k : Int) + 16) := fun i k => by
    rw [← strip_moved h0 h1 h2 h3 w]
    congr 1 <;> omega
  simp only [e]
theorem side_scale {w c l m : Int} (hm : 0 < m) : side w (m * c) (m * m * l) ↔ side w c l := by
  have e1 : m * c * (m * c) = m * m * (c * c) := by
    rw [Int.mul_assoc, Int.mul_left_comm c m c, ← Int.mul_assoc]
  have e2 : 128 * w * 128 * w * (m * m * l) = m * m * (128 * w * 128 * w * l) := by
    rw [Int.mul_left_comm]
  have hmm : 0 < m * m := Int.mul_pos hm hm
  have h0 : 0 < m * c ↔ 0 < c := by
    constructor
    · intro h
      exact Int.pos_of_mul_pos_right h (by omega)
    · exact fun h => Int.mul_pos hm h
  unfold side
  rw [e1, e2]
  by_cases hc : 0 < c
  · rw [if_pos hc, if_pos (h0.2 hc)]
    exact ⟨fun h => Int.le_of_mul_le_mul_left h hmm, fun h => Int.mul_le_mul_of_nonneg_left h (by omega)⟩
  · rw [if_neg hc, if_neg (fun h => hc (h0.1 h))]
    exact ⟨fun h => Int.lt_of_mul_lt_mul_left h (by omega), fun h => Int.mul_lt_mul_of_pos_left h hmm⟩
/-- Along a step u: how far, how far aside, and the step's square. -/
def du (a u : Nat → Int) (x y : Int) : Int := (x - a 0) * u 0 + (y - a 1) * u 1
def cu (a u : Nat → Int) (x y : Int) : Int := u 0 * (y - a 1) - u 1 * (x - a 0)
def lu (u : Nat → Int) : Int := u 0 * u 0 + u 1 * u 1
theorem strip_piece {a b u : Nat → Int} {n : Int} (hn : 0 ≤ n) (h0 : b 0 = a 0 + n * u 0) (h1 : b 1 = a 1 + n * u 1) (w x y : Int) : stripP a b w x y ↔ 0 ≤ du a u x y ∧ du a u x y < n * lu u ∧ side w (cu a u x y) (lu u) := by
  have e0 : b 0 - a 0 = n * u 0 := by omega
  have e1 : b 1 - a 1 = n * u 1 := by omega
  have d1 : dot a b x y = n * du a u x y := by
    unfold dot du
    rw [e0, e1, Int.mul_add, Int.mul_left_comm, Int.mul_left_comm (y - a 1)]
  have d2 : sq a b = n * n * lu u := by
    unfold sq lu
    rw [e0, e1, Int.mul_add]
    congr 1 <;> rw [Int.mul_assoc, Int.mul_left_comm (u _) n, ← Int.mul_assoc]
  have d3 : crs a b x y = n * cu a u x y := by
    unfold crs cu
    rw [e0, e1, Int.mul_assoc, Int.mul_assoc, ← Int.mul_sub]
  have hl : 0 ≤ lu u := by
    have h1 := sq_nonneg' (u 0)
    have h2 := sq_nonneg' (u 1)
    unfold lu
    omega
  unfold stripP
  rw [d1, d2, d3]
  rcases (by omega : n = 0 ∨ 0 < n) with rfl | hp
  · simp only [Int.zero_mul]
    constructor
    · rintro ⟨h1, h2, _⟩
      omega
    · rintro ⟨h1, h2, _⟩
      omega
  · rw [side_scale hp]
    constructor
    · rintro ⟨h1, h2, h3⟩
      refine ⟨?_, ?_, h3⟩
      · rw [← Int.mul_zero n] at h1
        exact Int.le_of_mul_le_mul_left h1 hp
      · rw [Int.mul_assoc] at h2
        exact Int.lt_of_mul_lt_mul_left h2 hn
    · rintro ⟨h1, h2, h3⟩
      refine ⟨Int.mul_nonneg hn h1, ?_, h3⟩
      rw [Int.mul_assoc]
      exact Int.mul_lt_mul_of_pos_left h2 hp
/-- A strip's parts have its points, each once. -/
theorem strip_parts {a b c u : Nat → Int} {m k : Int} (hm : 0 ≤ m) (hk : 0 ≤ k) (c0 : c 0 = a 0 + m * u 0) (c1 : c 1 = a 1 + m * u 1) (b0 : b 0 = c 0 + k * u 0) (b1 : b 1 = c 1 + k * u 1) (w x y : Int) : bit (strip a b w x y) = bit (strip a c w x y) + bit (strip c b w x y) := by
  have A := strip_piece (a := a) (b := b) (u := u) (n := m + k) (by omega) (by rw [Int.add_mul]; omega) (by rw [Int.add_mul]; omega) w x y
  have C := strip_piece (a := a) (b := c) (u := u) hm c0 c1 w x y
  have B := strip_piece (a := c) (b := b) (u := u) hk b0 b1 w x y
  have hl : 0 ≤ lu u := by
    have h1 := sq_nonneg' (u 0)
    have h2 := sq_nonneg' (u 1)
    unfold lu
    omega
  have hd : du c u x y = du a u x y - m * lu u := by
    unfold du lu
    rw [c0, c1, Int.mul_add, Int.sub_mul, Int.sub_mul, Int.sub_mul, Int.sub_mul, Int.add_mul, Int.add_mul, Int.mul_assoc, Int.mul_assoc]
    omega
  have hc : cu c u x y = cu a u x y := by
    unfold cu
    rw [c0, c1, Int.mul_sub, Int.mul_sub, Int.mul_sub, Int.mul_sub, Int.mul_add, Int.mul_add, Int.mul_left_comm (u 0) m, Int.mul_left_comm (u 1) m, Int.mul_comm (u 1) (u 0)]
    omega
  rw [hd, hc] at B
  rw [Int.add_mul] at A
  have p1 := Int.mul_nonneg hm hl
  have p2 := Int.mul_nonneg hk hl
  unfold strip bit
  simp only [decide_eq_true_eq]
  by_cases hs : side w (cu a u x y) (lu u)
  · have A2 : stripP a b w x y ↔ 0 ≤ du a u x y ∧ du a u x y < m * lu u + k * lu u := A.trans ⟨fun h => ⟨h.1, h.2.1⟩, fun h => ⟨h.1, h.2, hs⟩⟩
    have C2 : stripP a c w x y ↔ 0 ≤ du a u x y ∧ du a u x y < m * lu u := C.trans ⟨fun h => ⟨h.1, h.2.1⟩, fun h => ⟨h.1, h.2, hs⟩⟩
    have B2 : stripP c b w x y ↔ 0 ≤ du a u x y - m * lu u ∧ du a u x y - m * lu u < k * lu u := B.trans ⟨fun h => ⟨h.1, h.2.1⟩, fun h => ⟨h.1, h.2, hs⟩⟩
    by_cases q : stripP a c w x y
    · have hA : stripP a b w x y := A2.2 (by have := C2.1 q; omega)
      have hB : ¬ stripP c b w x y := fun h => by
        have h1 := C2.1 q
        have h2 := B2.1 h
        omega
      rw [if_pos hA, if_pos q, if_neg hB]
    · by_cases q2 : stripP c b w x y
      · have hA : stripP a b w x y := A2.2 (by have := B2.1 q2; omega)
        rw [if_pos hA, if_neg q, if_pos q2]
      · have hA : ¬ stripP a b w x y := fun h => by
          have h1 := A2.1 h
          by_cases g : du a u x y < m * lu u
          · exact q (C2.2 ⟨h1.1, g⟩)
          · exact q2 (B2.2 (by omega))
        rw [if_neg hA, if_neg q, if_neg q2]
  · rw [if_neg (fun h => hs (A.1 h).2.2), if_neg (fun h => hs (C.1 h).2.2), if_neg (fun h => hs (B.1 h).2.2)]
theorem cov_parts {a b c u : Nat → Int} {m k : Int} (hm : 0 ≤ m) (hk : 0 ≤ k) (c0 : c 0 = a 0 + m * u 0) (c1 : c 1 = a 1 + m * u 1) (b0 : b 0 = c 0 + k * u 0) (b1 : b 1 = c 1 + k * u 1) (w x y : Int) : cov a b w x y = cov a c w x y + cov c b w x y :=
  sum_add _ _ _ _ fun i _ => sum_add _ _ _ _ fun j _ => strip_parts hm hk c0 c1 b0 b1 w _ _
end SM
end Go.Proofs.Ytndaijcgjhmiaaa
