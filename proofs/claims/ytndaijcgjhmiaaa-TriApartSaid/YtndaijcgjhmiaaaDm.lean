/- Plain: diamonds of pixels, lines that meet them, for layer 13 (diamond). -/
import Derived.Test.YtndaijcgjhmiaaaL1
namespace Go.Proofs.Ytndaijcgjhmiaaa
set_option linter.unusedVariables false
namespace DM
/-- A place along one coordinate, from the middle of a pixel on. -/
def rel (c x : Int) : Int := c - 256 * x - 128
def inR (z : Int) : Bool := decide (-128 < z) && decide (z ≤ 128)
theorem inR_iff {z : Int} : inR z = true ↔ -128 < z ∧ z ≤ 128 := by simp [inR]
/-- Is a point in the diamond around the middle? -/
def inside (u v : Int) : Bool := inR (u + v) && inR (u - v)
theorem inside_iff {u v : Int} : inside u v = true ↔ (-128 < u + v ∧ u + v ≤ 128) ∧ (-128 < u - v ∧ u - v ≤ 128) := by
  rw [inside, Bool.and_eq_true, inR_iff, inR_iff]
/-- Both ends are not on the far side of one edge. -/
def box (a b c d : Int) : Prop := (min (a + b) (c + d) ≤ 128 ∧ -128 < max (a + b) (c + d)) ∧ (min (a - b) (c - d) ≤ 128 ∧ -128 < max (a - b) (c - d))
instance (a b c d : Int) : Decidable (box a b c d) := by unfold box; infer_instance
/-- Which way what is just on an edge is moved. -/
def neg (w h : Int) : Prop := h < 0 ∨ (h = 0 ∧ 0 < w)
def pos (w h : Int) : Prop := 0 < h ∨ (h = 0 ∧ w < 0)
instance (w h : Int) : Decidable (neg w h) := by unfold neg; infer_instance
instance (w h : Int) : Decidable (pos w h) := by unfold pos; infer_instance
def abs (n : Int) : Int := max n (0 - n)
def far (w h : Int) : Int := 128 * max (abs w) (abs h)
/-- The line is not beside the diamond. -/
def band (o w h : Int) : Prop := (o - far w h < 0 ∨ (o - far w h = 0 ∧ neg w h)) ∧ (0 < o + far w h ∨ (o + far w h = 0 ∧ pos w h))
instance (o w h : Int) : Decidable (band o w h) := by unfold band; infer_instance
def off (a b w h : Int) : Int := w * b - h * a
/-- Does the line from a, b to c, d meet the diamond around the middle? -/
def meetsP (a b c d : Int) : Prop := box a b c d ∧ ((a = c ∧ b = d) ∨ band (off a b (c - a) (d - b)) (c - a) (d - b))
instance (a b c d : Int) : Decidable (meetsP a b c d) := by unfold meetsP; infer_instance
def meets (a b c d : Int) : Bool := decide (meetsP a b c d)
theorem meets_iff {a b c d : Int} : meets a b c d = true ↔ meetsP a b c d := decide_eq_true_iff
/-- The two numbers that tell on which side of the line the middle lies, by the diagonals. -/
theorem off_two (a b w h : Int) : 2 * off a b w h = (w - h) * (a + b) - (w + h) * (a - b) := by
  unfold off
  simp only [Int.sub_mul, Int.add_mul, Int.mul_add, Int.mul_sub]
  omega
theorem far_two (w h : Int) : 2 * far w h = 128 * (abs (w + h) + abs (w - h)) := by
  unfold far abs
  omega
theorem off_shift (a b w h m : Int) : off (a + m * w) (b + m * h) w h = off a b w h := by
  unfold off
  rw [Int.mul_add, Int.mul_add, Int.mul_left_comm h m w, Int.mul_left_comm w m h, Int.mul_comm h w]
  omega
theorem off_end (a b c d : Int) : off c d (c - a) (d - b) = off a b (c - a) (d - b) := by
  have := off_shift a b (c - a) (d - b) 1
  rwa [Int.one_mul, Int.one_mul, show a + (c - a) = c by omega, show b + (d - b) = d by omega] at this
theorem off_back (a b w h : Int) : off a b (-w) (-h) = -off a b w h := by
  unfold off
  rw [Int.neg_mul, Int.neg_mul]
  omega
theorem far_back (w h : Int) : far (-w) (-h) = far w h := by unfold far abs; omega
theorem band_back {o w h : Int} : band (-o) (-w) (-h) ↔ band o w h := by
  unfold band
  rw [far_back]
  unfold neg pos
  omega
theorem meetsP_turned {a b c d : Int} : meetsP a b c d ↔ meetsP c d a b := by
  unfold meetsP
  have e : off c d (a - c) (b - d) = -off a b (c - a) (d - b) := by
    rw [show a - c = -(c - a) by omega, show b - d = -(d - b) by omega, off_back, off_end]
  have h1 : box a b c d ↔ box c d a b := by unfold box; omega
  have h2 : band (off c d (a - c) (b - d)) (a - c) (b - d) ↔ band (off a b (c - a) (d - b)) (c - a) (d - b) := by
    rw [e, show a - c = -(c - a) by omega, show b - d = -(d - b) by omega]
    exact band_back
  rw [h1, h2]
  have h3 : (a = c ∧ b = d) ↔ (c = a ∧ d = b) := by omega
  rw [h3]
theorem meets_turned (a b c d : Int) : meets a b c d = meets c d a b := by
  rw [Bool.eq_iff_iff, meets_iff, meets_iff]
  exact meetsP_turned
theorem meets_self (a b : Int) : meets a b a b = inside a b := by
  rw [Bool.eq_iff_iff, meets_iff, inside_iff]
  unfold meetsP box
  omega
theorem mul_b (A s : Int) : (0 ≤ A → 128 < s → 129 * A ≤ A * s) ∧ (0 ≤ A → s ≤ -128 → A * s ≤ -128 * A) ∧ (A ≤ 0 → 128 < s → A * s ≤ 129 * A) ∧ (A ≤ 0 → s ≤ -128 → -128 * A ≤ A * s) := by
  refine ⟨fun h1 h2 => ?_, fun h1 h2 => ?_, fun h1 h2 => ?_, fun h1 h2 => ?_⟩
  · have := Int.mul_le_mul_of_nonneg_left (show 129 ≤ s by omega) h1
    rw [Int.mul_comm A 129] at this
    exact this
  · have := Int.mul_le_mul_of_nonneg_left h2 h1
    rw [Int.mul_comm A (-128)] at this
    exact this
  · have := Int.mul_le_mul_of_nonpos_left (a := A) h1 (show 129 ≤ s by omega)
    rw [Int.mul_comm A 129] at this
    exact this
  · have := Int.mul_le_mul_of_nonpos_left (a := A) h1 h2
    rw [Int.mul_comm A (-128)] at this
    exact this
theorem mul_i (A s : Int) : (0 ≤ A → -128 < s → s ≤ 128 → -127 * A ≤ A * s ∧ A * s ≤ 128 * A) ∧ (A ≤ 0 → -128 < s → s ≤ 128 → 128 * A ≤ A * s ∧ A * s ≤ -127 * A) := by
  refine ⟨fun h1 h2 h3 => ?_, fun h1 h2 h3 => ?_⟩
  · have e1 := Int.mul_le_mul_of_nonneg_left (show -127 ≤ s by omega) h1
    have e2 := Int.mul_le_mul_of_nonneg_left h3 h1
    rw [Int.mul_comm A (-127)] at e1
    rw [Int.mul_comm A 128] at e2
    exact ⟨e1, e2⟩
  · have e1 := Int.mul_le_mul_of_nonpos_left (a := A) h1 (show -127 ≤ s by omega)
    have e2 := Int.mul_le_mul_of_nonpos_left (a := A) h1 h3
    rw [Int.mul_comm A (-127)] at e1
    rw [Int.mul_comm A 128] at e2
    exact ⟨e2, e1⟩
/-- A line through a point of the diamond is not beside it. -/
theorem inside_band {a b w h : Int} (hi : inside a b = true) (hw : ¬ (w = 0 ∧ h = 0)) : band (off a b w h) w h := by
  obtain ⟨⟨s1, s2⟩, d1, d2⟩ := inside_iff.1 hi
  have ho := off_two a b w h
  have hf := far_two w h
  obtain ⟨p1, p2⟩ := mul_i (w - h) (a + b)
  obtain ⟨q1, q2⟩ := mul_i (w + h) (a - b)
  unfold band neg pos
  unfold abs at hf
  generalize (w - h) * (a + b) = P at *
  generalize (w + h) * (a - b) = Q at *
  generalize off a b w h = o at *
  generalize far w h = f at *
  rcases (by omega : 0 ≤ w - h ∨ w - h ≤ 0) with c1 | c1
  · have := p1 c1 s1 s2
    rcases (by omega : 0 ≤ w + h ∨ w + h ≤ 0) with c2 | c2
    · have := q1 c2 d1 d2
      clear p1 p2 q1 q2
      omega
    · have := q2 c2 d1 d2
      clear p1 p2 q1 q2
      omega
  · have := p2 c1 s1 s2
    rcases (by omega : 0 ≤ w + h ∨ w + h ≤ 0) with c2 | c2
    · have := q1 c2 d1 d2
      clear p1 p2 q1 q2
      omega
    · have := q2 c2 d1 d2
      clear p1 p2 q1 q2
      omega
/-- A line meets the diamonds of its ends. -/
theorem inside_meets {a b : Int} (c d : Int) (hi : inside a b = true) : meets a b c d = true := by
  rw [meets_iff]
  refine ⟨?_, ?_⟩
  · obtain ⟨⟨s1, s2⟩, d1, d2⟩ := inside_iff.1 hi
    unfold box
    omega
  · by_cases h : a = c ∧ b = d
    · exact .inl h
    · exact .inr (inside_band hi (by omega))
/-- Many times as long. -/
theorem abs_scale {m : Int} (hm : 0 < m) (w : Int) : abs (m * w) = m * abs w := by
  unfold abs
  rcases (by omega : 0 ≤ w ∨ w ≤ 0) with h | h
  · have := Int.mul_nonneg (show 0 ≤ m by omega) h
    rw [Int.max_eq_left (by omega), Int.max_eq_left (by omega)]
  · have := Int.mul_nonneg (show 0 ≤ m by omega) (show 0 ≤ -w by omega)
    rw [Int.mul_neg] at this
    rw [Int.max_eq_right (by omega), Int.max_eq_right (by omega), Int.mul_sub]
    omega
theorem far_scale {m : Int} (hm : 0 < m) (w h : Int) : far (m * w) (m * h) = m * far w h := by
  unfold far
  rw [abs_scale hm, abs_scale hm]
  generalize abs w = x
  generalize abs h = y
  rcases (by omega : x ≤ y ∨ y ≤ x) with c | c
  · have := Int.mul_le_mul_of_nonneg_left c (show 0 ≤ m by omega)
    rw [Int.max_eq_right c, Int.max_eq_right this, Int.mul_left_comm]
  · have := Int.mul_le_mul_of_nonneg_left c (show 0 ≤ m by omega)
    rw [Int.max_eq_left c, Int.max_eq_left this, Int.mul_left_comm]
theorem off_scale (a b w h m : Int) : off a b (m * w) (m * h) = m * off a b w h := by
  unfold off
  rw [Int.mul_sub, Int.mul_assoc, Int.mul_assoc]
theorem mul_sign {m : Int} (hm : 0 < m) (z : Int) : (m * z < 0 ↔ z < 0) ∧ (0 < m * z ↔ 0 < z) ∧ (m * z = 0 ↔ z = 0) := by
  rcases (by omega : z < 0 ∨ z = 0 ∨ 0 < z) with h | rfl | h
  · have := Int.mul_pos hm (show 0 < -z by omega)
    rw [Int.mul_neg] at this
    omega
  · simp
  · have := Int.mul_pos hm h
    omega
theorem band_scale {m : Int} (hm : 0 < m) (o w h : Int) : band (m * o) (m * w) (m * h) ↔ band o w h := by
  unfold band neg pos
  rw [far_scale hm, ← Int.mul_sub, ← Int.mul_add]
  have h1 := mul_sign hm (o - far w h)
  have h2 := mul_sign hm (o + far w h)
  have h3 := mul_sign hm w
  have h4 := mul_sign hm h
  rw [h1.1, h1.2.2, h2.2.1, h2.2.2, h3.1, h3.2.1, h4.1, h4.2.1, h4.2.2]
/-- A point beyond a corner: a line through it that turns its back on the corner is beside the diamond. -/
theorem corner {a b w h : Int} (hs : a + b ≤ -128 ∨ 128 < a + b) (hd : a - b ≤ -128 ∨ 128 < a - b)
    (hc : ((128 < a + b → w + h < 0) ∧ (a + b ≤ -128 → 0 < w + h) ∧ (128 < a - b → 0 < w - h) ∧ (a - b ≤ -128 → w - h < 0)) ∨ ((128 < a + b → 0 < w + h) ∧ (a + b ≤ -128 → w + h < 0) ∧ (128 < a - b → w - h < 0) ∧ (a - b ≤ -128 → 0 < w - h))) : ¬ band (off a b w h) w h := by
  have ho := off_two a b w h
  have hf := far_two w h
  obtain ⟨p1, p2, p3, p4⟩ := mul_b (w - h) (a + b)
  obtain ⟨q1, q2, q3, q4⟩ := mul_b (w + h) (a - b)
  unfold band neg pos
  unfold abs at hf
  generalize (w - h) * (a + b) = P at *
  generalize (w + h) * (a - b) = Q at *
  generalize off a b w h = o at *
  generalize far w h = f at *
  rcases hc with ⟨k1, k2, k3, k4⟩ | ⟨k1, k2, k3, k4⟩ <;> rcases hs with hs | hs <;> rcases hd with hd | hd
  · have a1 := k2 hs; have a2 := k4 hd; have a3 := p4 (by omega) hs; have a4 := q2 (by omega) hd; clear p1 p2 p3 p4 q1 q2 q3 q4 k1 k2 k3 k4; omega
  · have a1 := k2 hs; have a2 := k3 hd; have a3 := p2 (by omega) hs; have a4 := q1 (by omega) hd; clear p1 p2 p3 p4 q1 q2 q3 q4 k1 k2 k3 k4; omega
  · have a1 := k1 hs; have a2 := k4 hd; have a3 := p3 (by omega) hs; have a4 := q4 (by omega) hd; clear p1 p2 p3 p4 q1 q2 q3 q4 k1 k2 k3 k4; omega
  · have a1 := k1 hs; have a2 := k3 hd; have a3 := p1 (by omega) hs; have a4 := q3 (by omega) hd; clear p1 p2 p3 p4 q1 q2 q3 q4 k1 k2 k3 k4; omega
  · have a1 := k2 hs; have a2 := k4 hd; have a3 := p2 (by omega) hs; have a4 := q4 (by omega) hd; clear p1 p2 p3 p4 q1 q2 q3 q4 k1 k2 k3 k4; omega
  · have a1 := k2 hs; have a2 := k3 hd; have a3 := p4 (by omega) hs; have a4 := q3 (by omega) hd; clear p1 p2 p3 p4 q1 q2 q3 q4 k1 k2 k3 k4; omega
  · have a1 := k1 hs; have a2 := k4 hd; have a3 := p1 (by omega) hs; have a4 := q2 (by omega) hd; clear p1 p2 p3 p4 q1 q2 q3 q4 k1 k2 k3 k4; omega
  · have a1 := k1 hs; have a2 := k3 hd; have a3 := p3 (by omega) hs; have a4 := q1 (by omega) hd; clear p1 p2 p3 p4 q1 q2 q3 q4 k1 k2 k3 k4; omega
/-- Of a way through a middle point: no part of it is on the near side of all edges, but the whole is. -/
theorem split {sa sc sb da dc db ws wd : Int} (hs : (ws < 0 ∧ sb < sc ∧ sc < sa) ∨ (ws = 0 ∧ sb = sc ∧ sc = sa) ∨ (0 < ws ∧ sa < sc ∧ sc < sb)) (hd : (wd < 0 ∧ db < dc ∧ dc < da) ∨ (wd = 0 ∧ db = dc ∧ dc = da) ∨ (0 < wd ∧ da < dc ∧ dc < db))
    (hb : (min sa sb ≤ 128 ∧ -128 < max sa sb) ∧ (min da db ≤ 128 ∧ -128 < max da db)) (h1 : ¬ ((min sa sc ≤ 128 ∧ -128 < max sa sc) ∧ (min da dc ≤ 128 ∧ -128 < max da dc))) (h2 : ¬ ((min sc sb ≤ 128 ∧ -128 < max sc sb) ∧ (min dc db ≤ 128 ∧ -128 < max dc db))) :
    (sc ≤ -128 ∨ 128 < sc) ∧ (dc ≤ -128 ∨ 128 < dc) ∧ (((128 < sc → ws < 0) ∧ (sc ≤ -128 → 0 < ws) ∧ (128 < dc → 0 < wd) ∧ (dc ≤ -128 → wd < 0)) ∨ ((128 < sc → 0 < ws) ∧ (sc ≤ -128 → ws < 0) ∧ (128 < dc → wd < 0) ∧ (dc ≤ -128 → 0 < wd))) := by
  rcases hs with ⟨w1, w2, w3⟩ | ⟨w1, w2, w3⟩ | ⟨w1, w2, w3⟩ <;> rcases hd with ⟨v1, v2, v3⟩ | ⟨v1, v2, v3⟩ | ⟨v1, v2, v3⟩
  · rw [show min sa sb = sb by omega, show max sa sb = sa by omega, show min da db = db by omega, show max da db = da by omega] at hb
    rw [show min sa sc = sc by omega, show max sa sc = sa by omega, show min da dc = dc by omega, show max da dc = da by omega] at h1
    rw [show min sc sb = sb by omega, show max sc sb = sc by omega, show min dc db = db by omega, show max dc db = dc by omega] at h2
    omega
  · rw [show min sa sb = sb by omega, show max sa sb = sa by omega, show min da db = dc by omega, show max da db = dc by omega] at hb
    rw [show min sa sc = sc by omega, show max sa sc = sa by omega, show min da dc = dc by omega, show max da dc = dc by omega] at h1
    rw [show min sc sb = sb by omega, show max sc sb = sc by omega, show min dc db = dc by omega, show max dc db = dc by omega] at h2
    omega
  · rw [show min sa sb = sb by omega, show max sa sb = sa by omega, show min da db = da by omega, show max da db = db by omega] at hb
    rw [show min sa sc = sc by omega, show max sa sc = sa by omega, show min da dc = da by omega, show max da dc = dc by omega] at h1
    rw [show min sc sb = sb by omega, show max sc sb = sc by omega, show min dc db = dc by omega, show max dc db = db by omega] at h2
    omega
  · rw [show min sa sb = sc by omega, show max sa sb = sc by omega, show min da db = db by omega, show max da db = da by omega] at hb
    rw [show min sa sc = sc by omega, show max sa sc = sc by omega, show min da dc = dc by omega, show max da dc = da by omega] at h1
    rw [show min sc sb = sc by omega, show max sc sb = sc by omega, show min dc db = db by omega, show max dc db = dc by omega] at h2
    omega
  · rw [show min sa sb = sc by omega, show max sa sb = sc by omega, show min da db = dc by omega, show max da db = dc by omega] at hb
    rw [show min sa sc = sc by omega, show max sa sc = sc by omega, show min da dc = dc by omega, show max da dc = dc by omega] at h1
    rw [show min sc sb = sc by omega, show max sc sb = sc by omega, show min dc db = dc by omega, show max dc db = dc by omega] at h2
    omega
  · rw [show min sa sb = sc by omega, show max sa sb = sc by omega, show min da db = da by omega, show max da db = db by omega] at hb
    rw [show min sa sc = sc by omega, show max sa sc = sc by omega, show min da dc = da by omega, show max da dc = dc by omega] at h1
    rw [show min sc sb = sc by omega, show max sc sb = sc by omega, show min dc db = dc by omega, show max dc db = db by omega] at h2
    omega
  · rw [show min sa sb = sa by omega, show max sa sb = sb by omega, show min da db = db by omega, show max da db = da by omega] at hb
    rw [show min sa sc = sa by omega, show max sa sc = sc by omega, show min da dc = dc by omega, show max da dc = da by omega] at h1
    rw [show min sc sb = sc by omega, show max sc sb = sb by omega, show min dc db = db by omega, show max dc db = dc by omega] at h2
    omega
  · rw [show min sa sb = sa by omega, show max sa sb = sb by omega, show min da db = dc by omega, show max da db = dc by omega] at hb
    rw [show min sa sc = sa by omega, show max sa sc = sc by omega, show min da dc = dc by omega, show max da dc = dc by omega] at h1
    rw [show min sc sb = sc by omega, show max sc sb = sb by omega, show min dc db = dc by omega, show max dc db = dc by omega] at h2
    omega
  · rw [show min sa sb = sa by omega, show max sa sb = sb by omega, show min da db = da by omega, show max da db = db by omega] at hb
    rw [show min sa sc = sa by omega, show max sa sc = sc by omega, show min da dc = da by omega, show max da dc = dc by omega] at h1
    rw [show min sc sb = sc by omega, show max sc sb = sb by omega, show min dc db = dc by omega, show max dc db = db by omega] at h2
    omega
theorem join {sa sc sb da dc db ws wd : Int} (hs : (ws < 0 ∧ sb < sc ∧ sc < sa) ∨ (ws = 0 ∧ sb = sc ∧ sc = sa) ∨ (0 < ws ∧ sa < sc ∧ sc < sb)) (hd : (wd < 0 ∧ db < dc ∧ dc < da) ∨ (wd = 0 ∧ db = dc ∧ dc = da) ∨ (0 < wd ∧ da < dc ∧ dc < db))
    (h : ((min sa sc ≤ 128 ∧ -128 < max sa sc) ∧ (min da dc ≤ 128 ∧ -128 < max da dc)) ∨ ((min sc sb ≤ 128 ∧ -128 < max sc sb) ∧ (min dc db ≤ 128 ∧ -128 < max dc db))) :
    (min sa sb ≤ 128 ∧ -128 < max sa sb) ∧ (min da db ≤ 128 ∧ -128 < max da db) := by
  rcases hs with ⟨w1, w2, w3⟩ | ⟨w1, w2, w3⟩ | ⟨w1, w2, w3⟩ <;> rcases hd with ⟨v1, v2, v3⟩ | ⟨v1, v2, v3⟩ | ⟨v1, v2, v3⟩
  · rw [show min sa sb = sb by omega, show max sa sb = sa by omega, show min da db = db by omega, show max da db = da by omega]
    rw [show min sa sc = sc by omega, show max sa sc = sa by omega, show min da dc = dc by omega, show max da dc = da by omega, show min sc sb = sb by omega, show max sc sb = sc by omega, show min dc db = db by omega, show max dc db = dc by omega] at h
    omega
  · rw [show min sa sb = sb by omega, show max sa sb = sa by omega, show min da db = dc by omega, show max da db = dc by omega]
    rw [show min sa sc = sc by omega, show max sa sc = sa by omega, show min da dc = dc by omega, show max da dc = dc by omega, show min sc sb = sb by omega, show max sc sb = sc by omega, show min dc db = dc by omega, show max dc db = dc by omega] at h
    omega
  · rw [show min sa sb = sb by omega, show max sa sb = sa by omega, show min da db = da by omega, show max da db = db by omega]
    rw [show min sa sc = sc by omega, show max sa sc = sa by omega, show min da dc = da by omega, show max da dc = dc by omega, show min sc sb = sb by omega, show max sc sb = sc by omega, show min dc db = dc by omega, show max dc db = db by omega] at h
    omega
  · rw [show min sa sb = sc by omega, show max sa sb = sc by omega, show min da db = db by omega, show max da db = da by omega]
    rw [show min sa sc = sc by omega, show max sa sc = sc by omega, show min da dc = dc by omega, show max da dc = da by omega, show min sc sb = sc by omega, show max sc sb = sc by omega, show min dc db = db by omega, show max dc db = dc by omega] at h
    omega
  · rw [show min sa sb = sc by omega, show max sa sb = sc by omega, show min da db = dc by omega, show max da db = dc by omega]
    rw [show min sa sc = sc by omega, show max sa sc = sc by omega, show min da dc = dc by omega, show max da dc = dc by omega, show min sc sb = sc by omega, show max sc sb = sc by omega, show min dc db = dc by omega, show max dc db = dc by omega] at h
    omega
  · rw [show min sa sb = sc by omega, show max sa sb = sc by omega, show min da db = da by omega, show max da db = db by omega]
    rw [show min sa sc = sc by omega, show max sa sc = sc by omega, show min da dc = da by omega, show max da dc = dc by omega, show min sc sb = sc by omega, show max sc sb = sc by omega, show min dc db = dc by omega, show max dc db = db by omega] at h
    omega
  · rw [show min sa sb = sa by omega, show max sa sb = sb by omega, show min da db = db by omega, show max da db = da by omega]
    rw [show min sa sc = sa by omega, show max sa sc = sc by omega, show min da dc = dc by omega, show max da dc = da by omega, show min sc sb = sc by omega, show max sc sb = sb by omega, show min dc db = db by omega, show max dc db = dc by omega] at h
    omega
  · rw [show min sa sb = sa by omega, show max sa sb = sb by omega, show min da db = dc by omega, show max da db = dc by omega]
    rw [show min sa sc = sa by omega, show max sa sc = sc by omega, show min da dc = dc by omega, show max da dc = dc by omega, show min sc sb = sc by omega, show max sc sb = sb by omega, show min dc db = dc by omega, show max dc db = dc by omega] at h
    omega
  · rw [show min sa sb = sa by omega, show max sa sb = sb by omega, show min da db = da by omega, show max da db = db by omega]
    rw [show min sa sc = sa by omega, show max sa sc = sc by omega, show min da dc = da by omega, show max da dc = dc by omega, show min sc sb = sc by omega, show max sc sb = sb by omega, show min dc db = dc by omega, show max dc db = db by omega] at h
    omega
theorem ways {m k : Int} (hm : 0 < m) (hk : 0 < k) (x s : Int) : (x < 0 ∧ s + m * x + k * x < s + m * x ∧ s + m * x < s) ∨ (x = 0 ∧ s + m * x + k * x = s + m * x ∧ s + m * x = s) ∨ (0 < x ∧ s < s + m * x ∧ s + m * x < s + m * x + k * x) := by
  have h1 := mul_sign hm x
  have h2 := mul_sign hk x
  rcases (by omega : x < 0 ∨ x = 0 ∨ 0 < x) with h | rfl | h
  · have := h1.1.2 h
    have := h2.1.2 h
    omega
  · simp
  · have := h1.2.1.2 h
    have := h2.2.1.2 h
    omega
/-- A line meets a diamond just if one of its parts does. -/
theorem partsP {a b w h m k : Int} (hm : 0 < m) (hk : 0 < k) (hw : ¬ (w = 0 ∧ h = 0)) :
    meetsP a b (a + (m * w + k * w)) (b + (m * h + k * h)) ↔ (meetsP a b (a + m * w) (b + m * h) ∨ meetsP (a + m * w) (b + m * h) (a + (m * w + k * w)) (b + (m * h + k * h))) := by
  have e0 : off a b (m * w + k * w) (m * h + k * h) = (m + k) * off a b w h := by rw [← Int.add_mul, ← Int.add_mul, off_scale]
  have e1 : off a b (m * w) (m * h) = m * off a b w h := off_scale _ _ _ _ _
  have e2 : off (a + m * w) (b + m * h) (k * w) (k * h) = k * off a b w h := by rw [off_scale, off_shift]
  have B0 : band ((m + k) * off a b w h) (m * w + k * w) (m * h + k * h) ↔ band (off a b w h) w h := by
    rw [← Int.add_mul, ← Int.add_mul]
    exact band_scale (by omega) _ _ _
  have B1 := band_scale hm (off a b w h) w h
  have B2 := band_scale hk (off a b w h) w h
  have n1 := mul_sign hm w
  have n2 := mul_sign hm h
  have n3 := mul_sign hk w
  have n4 := mul_sign hk h
  have es : (a + m * w) + (b + m * h) = (a + b) + m * (w + h) := by rw [Int.mul_add]; omega
  have ed : (a + m * w) - (b + m * h) = (a - b) + m * (w - h) := by rw [Int.mul_sub]; omega
  unfold meetsP
  rw [show a + (m * w + k * w) - a = m * w + k * w by omega, show b + (m * h + k * h) - b = m * h + k * h by omega, show a + m * w - a = m * w by omega, show b + m * h - b = m * h by omega,
    show a + (m * w + k * w) - (a + m * w) = k * w by omega, show b + (m * h + k * h) - (b + m * h) = k * h by omega, e0, e1, e2, B0, B1, B2]
  have z0 : ¬ (a = a + (m * w + k * w) ∧ b = b + (m * h + k * h)) := by omega
  have z1 : ¬ (a = a + m * w ∧ b = b + m * h) := by omega
  have z2 : ¬ (a + m * w = a + (m * w + k * w) ∧ b + m * h = b + (m * h + k * h)) := by omega
  simp only [z0, z1, z2, false_or]
  have Hs := ways hm hk (w + h) (a + b)
  have Hd := ways hm hk (w - h) (a - b)
  rw [show a + b + m * (w + h) + k * (w + h) = (a + (m * w + k * w)) + (b + (m * h + k * h)) by rw [Int.mul_add, Int.mul_add]; omega, show a + b + m * (w + h) = (a + m * w) + (b + m * h) by rw [Int.mul_add]; omega] at Hs
  rw [show a - b + m * (w - h) + k * (w - h) = (a + (m * w + k * w)) - (b + (m * h + k * h)) by rw [Int.mul_sub, Int.mul_sub]; omega, show a - b + m * (w - h) = (a + m * w) - (b + m * h) by rw [Int.mul_sub]; omega] at Hd
  rw [← or_and_right]
  constructor
  · rintro ⟨hb, hl⟩
    refine ⟨?_, hl⟩
    apply Classical.byContradiction
    intro hno
    have cc := @corner (a + m * w) (b + m * h) w h
    rw [off_shift] at cc
    have key := split Hs Hd hb (fun h => hno (.inl h)) (fun h => hno (.inr h))
    exact cc key.1 key.2.1 key.2.2 hl
  · rintro ⟨hb, hl⟩
    exact ⟨join Hs Hd hb, hl⟩
theorem parts {a b w h m k : Int} (hm : 0 ≤ m) (hk : 0 ≤ k) :
    meets a b (a + (m * w + k * w)) (b + (m * h + k * h)) = (meets a b (a + m * w) (b + m * h) || meets (a + m * w) (b + m * h) (a + (m * w + k * w)) (b + (m * h + k * h))) := by
  rcases (by omega : m = 0 ∨ 0 < m) with rfl | hm
  · simp only [Int.zero_mul, Int.zero_add, Int.add_zero]
    rw [meets_self]
    cases hi : inside a b
    · rw [Bool.false_or]
    · rw [inside_meets _ _ hi, Bool.true_or]
  rcases (by omega : k = 0 ∨ 0 < k) with rfl | hk
  · simp only [Int.zero_mul, Int.add_zero]
    rw [meets_self]
    cases hi : inside (a + m * w) (b + m * h)
    · rw [Bool.or_false]
    · rw [meets_turned, inside_meets _ _ hi, Bool.true_or]
  by_cases hw : w = 0 ∧ h = 0
  · obtain ⟨rfl, rfl⟩ := hw
    simp only [Int.mul_zero, Int.add_zero, Bool.or_self]
  · rw [Bool.eq_iff_iff, Bool.or_eq_true, meets_iff, meets_iff, meets_iff]
    exact partsP hm hk hw
/-- The pixel in whose diamond a point is. -/
def nS (X Y : Int) : Int := (X + Y - 129) / 256
def nD (X Y : Int) : Int := (X - Y + 127) / 256
def pix (X Y : Int) : Option (Int × Int) := if (nS X Y + nD X Y) % 2 = 0 then some ((nS X Y + nD X Y) / 2, (nS X Y - nD X Y) / 2) else none
theorem inside_num {X Y x y : Int} : inside (rel X x) (rel Y y) = true ↔ x + y = nS X Y ∧ x - y = nD X Y := by
  rw [inside_iff]
  unfold rel nS nD
  omega
theorem pix_iff {X Y x y : Int} : inside (rel X x) (rel Y y) = true ↔ pix X Y = some (x, y) := by
  rw [inside_num]
  unfold pix
  generalize nS X Y = n
  generalize nD X Y = m
  split
  · rw [Option.some.injEq, Prod.mk.injEq]
    omega
  · simp only [reduceCtorEq, iff_false]
    omega
theorem pix_none {X Y : Int} (h : pix X Y = none) (x y : Int) : inside (rel X x) (rel Y y) = false := by
  rw [← Bool.not_eq_true, pix_iff, h]
  simp
theorem inside_lim {X Y x y : Int} (h : inside (rel X x) (rel Y y) = true) : (256 * x < X + 0 + 1 ∧ X < 256 * x + 257) ∧ (256 * y < Y + 1 ∧ Y < 256 * y + 257) := by
  obtain ⟨⟨h1, h2⟩, h3, h4⟩ := inside_iff.1 h
  unfold rel at h1 h2 h3 h4
  omega
/-- How many of the first n from a number on. -/
def cnt (f : Int → Bool) (lo : Int) : Nat → Nat
  | 0 => 0
  | n + 1 => cnt f lo n + (if f (lo + n) then 1 else 0)
theorem cnt_one {f : Int → Bool} {lo y0 : Int} (hf : ∀ y, f y = decide (y = y0)) (h0 : lo ≤ y0) : ∀ n : Nat, cnt f lo n = if y0 < lo + n then 1 else 0
  | 0 => by rw [cnt, if_neg (by omega)]
  | n + 1 => by
    rw [cnt, cnt_one hf h0 n, hf]
    by_cases h1 : y0 < lo + n
    · rw [if_pos h1, if_neg (by rw [decide_eq_true_eq]; omega), if_pos (by omega)]
    · rw [if_neg h1]
      by_cases h2 : lo + (n : Int) = y0
      · rw [if_pos (by rw [decide_eq_true_eq]; exact h2), if_pos (by omega)]
      · rw [if_neg (by rw [decide_eq_true_eq]; exact h2), if_neg (by omega)]
theorem far_wide {W H : Int} (h1 : -W ≤ H) (h2 : H ≤ W) : far W H = 128 * W ∧ far H W = 128 * W := by unfold far abs; omega
theorem mul_between {W H u : Int} (h1 : -W ≤ H) (h2 : H ≤ W) (hu : 0 ≤ u) : -(W * u) ≤ H * u ∧ H * u ≤ W * u := by
  have e1 := Int.mul_le_mul_of_nonneg_right h1 hu
  have e2 := Int.mul_le_mul_of_nonneg_right h2 hu
  rw [Int.neg_mul] at e1
  exact ⟨e1, e2⟩
theorem mul_lt_cancel {W a b : Int} (hW : 0 < W) : (W * a ≤ W * b → a ≤ b) ∧ (W * a < W * b → a < b) :=
  ⟨fun h => Int.le_of_mul_le_mul_left h hW, fun h => Int.lt_of_mul_lt_mul_left h (by omega)⟩
/-- A column of diamonds whose middles a line crosses: what tells whether the line is beside one of them. -/
theorem col_box {W H ua va : Int} (hW : 513 ≤ W) (h1 : -W ≤ H) (h2 : H ≤ W) (hu : ua ≤ -129) (hu2 : -384 ≤ ua) (o : Int) (ho : o = W * va - H * ua) :
    (o ≤ 128 * W → ua + va ≤ 128 ∧ (va + H) - (ua + W) ≤ 128) ∧ (-(128 * W) ≤ o → ua - va ≤ 128) ∧ (-(128 * W) < o → -128 < (ua + W) + (va + H) ∧ ua - va < 128) ∧ (o < 128 * W → -128 < (ua + W) - (va + H)) ∧
    (0 ≤ H → -(128 * W) ≤ o → -128 < (ua + W) + (va + H)) ∧ (H ≤ 0 → o ≤ 128 * W → -128 < (ua + W) - (va + H)) := by
  have hW0 : 0 < W := by omega
  obtain ⟨a1, a2⟩ := mul_between h1 h2 (show 0 ≤ -ua by omega)
  obtain ⟨b1, b2⟩ := mul_between h1 h2 (show 0 ≤ ua + W by omega)
  have e1 : W * (va + H) = o + H * (ua + W) := by rw [ho, Int.mul_add, Int.mul_add, Int.mul_comm W H]; omega
  have e2 : W * va = o - H * -ua := by rw [ho, Int.mul_neg]; omega
  have c1 := fun b => @mul_lt_cancel W va b hW0
  have c2 := fun b => @mul_lt_cancel W b va hW0
  have c3 := fun b => @mul_lt_cancel W (va + H) b hW0
  have c4 := fun b => @mul_lt_cancel W b (va + H) hW0
  refine ⟨fun h => ⟨?_, ?_⟩, fun h => ?_, fun h => ⟨?_, ?_⟩, fun h => ?_, fun k h => ?_, fun k h => ?_⟩
  · have := (c1 (128 + -ua)).1 (by rw [Int.mul_add]; omega)
    omega
  · have := (c3 (128 + (ua + W))).1 (by rw [Int.mul_add W 128 (ua + W)]; omega)
    omega
  · have := (c2 (-128 + ua)).1 (by rw [Int.mul_add, show W * ua = -(W * -ua) by rw [Int.mul_neg]; omega]; omega)
    omega
  · have := (c4 (-128 + -(ua + W))).2 (by rw [Int.mul_add W (-128) (-(ua + W)), Int.mul_neg W (ua + W)]; omega)
    omega
  · have := (c2 (-128 + ua)).2 (by rw [Int.mul_add, show W * ua = -(W * -ua) by rw [Int.mul_neg]; omega]; omega)
    omega
  · have := (c3 (128 + (ua + W))).2 (by rw [Int.mul_add W 128 (ua + W)]; omega)
    omega
  · have := Int.mul_nonneg k (show 0 ≤ ua + W by omega)
    have := (c4 (-128)).1 (by omega)
    omega
  · have := Int.mul_nonneg (show 0 ≤ -H by omega) (show 0 ≤ ua + W by omega)
    rw [Int.neg_mul] at this
    have := (c3 128).1 (by omega)
    omega
/-- The line is beside all diamonds of the column but one. -/
def colY (W H T : Int) : Int := if 0 < H then T / (256 * W) else -(-T / (256 * W)) - 1
theorem colY_is {W H T : Int} (hW : 0 < W) (y : Int) : (if 0 < H then 256 * (W * y) ≤ T ∧ T < 256 * (W * y) + 256 * W else 256 * (W * y) < T ∧ T ≤ 256 * (W * y) + 256 * W) ↔ y = colY W H T := by
  unfold colY
  have e0 : ∀ z, 256 * W * z = 256 * (W * z) := fun z => Int.mul_assoc _ _ _
  split
  · have e1 := Int.emod_add_mul_ediv T (256 * W)
    have e2 := Int.emod_nonneg T (show 256 * W ≠ 0 by omega)
    have e3 := Int.emod_lt_of_pos T (show 0 < 256 * W by omega)
    rw [e0] at e1
    generalize T / (256 * W) = q at *
    generalize T % (256 * W) = r at *
    constructor
    · rintro ⟨h1, h2⟩
      have c1 := (@mul_lt_cancel W y (q + 1) hW).2 (by rw [Int.mul_add]; omega)
      have c2 := (@mul_lt_cancel W q (y + 1) hW).2 (by rw [Int.mul_add]; omega)
      omega
    · rintro rfl
      omega
  · have e1 := Int.emod_add_mul_ediv (-T) (256 * W)
    have e2 := Int.emod_nonneg (-T) (show 256 * W ≠ 0 by omega)
    have e3 := Int.emod_lt_of_pos (-T) (show 0 < 256 * W by omega)
    rw [e0] at e1
    generalize -T / (256 * W) = q at *
    generalize -T % (256 * W) = r at *
    constructor
    · rintro ⟨h1, h2⟩
      have c1 := (@mul_lt_cancel W y (-q) hW).2 (by rw [Int.mul_neg]; omega)
      have c2 := (@mul_lt_cancel W (-q - 1) (y + 1) hW).2 (by rw [Int.mul_sub, Int.mul_add, Int.mul_neg]; omega)
      omega
    · rintro rfl
      rw [Int.mul_sub, Int.mul_neg]
      omega
theorem rel_add (c d x : Int) : rel (c + d) x = rel c x + d := by unfold rel; omega
theorem col_T {W H ua ay y : Int} : W * rel ay y - H * ua = (W * ay - H * ua) - 256 * (W * y) - 128 * W := by
  unfold rel
  rw [Int.mul_sub, Int.mul_sub, Int.mul_left_comm W 256 y]
  omega
/-- A line that is as wide as high, or wider, and crosses the middles of a column with both ends a pixel away, meets just one diamond of the column. -/
theorem column {ax ay W H x : Int} (hW : 513 ≤ W) (h1 : -W ≤ H) (h2 : H ≤ W) (hx : x = (ax + 256) / 256) (y : Int) :
    meets (rel ax x) (rel ay y) (rel (ax + W) x) (rel (ay + H) y) = decide (y = colY W H (W * ay - H * rel ax x)) := by
  have hu : rel ax x ≤ -129 ∧ -384 ≤ rel ax x := by unfold rel; omega
  rw [rel_add, rel_add, Bool.eq_iff_iff, meets_iff, decide_eq_true_iff, ← colY_is (show 0 < W by omega) y]
  have hT := @col_T W H (rel ax x) ay y
  obtain ⟨b1, b2, b3, b4, b5, b6⟩ := col_box hW h1 h2 hu.1 hu.2 (W * rel ay y - H * rel ax x) rfl
  rw [hT] at b1 b2 b3 b4 b5 b6
  unfold meetsP band off neg pos box
  rw [show rel ax x + W - rel ax x = W by omega, show rel ay y + H - rel ay y = H by omega, (far_wide h1 h2).1, hT]
  generalize rel ax x = ua at *
  generalize rel ay y = va at *
  generalize W * ay - H * ua = T at *
  generalize W * y = P at *
  clear hT
  split
  · constructor
    · rintro ⟨_, h | ⟨h3, h4⟩⟩ <;> omega
    · rintro ⟨h3, h4⟩
      have a1 := b1 (by omega)
      have a2 := b2 (by omega)
      have a4 := b4 (by omega)
      have a5 := b5 (by omega) (by omega)
      clear b1 b2 b3 b4 b5 b6
      refine ⟨⟨⟨by omega, by omega⟩, by omega, by omega⟩, .inr ⟨by omega, by omega⟩⟩
  · constructor
    · rintro ⟨_, h | ⟨h3, h4⟩⟩ <;> omega
    · rintro ⟨h3, h4⟩
      have a1 := b1 (by omega)
      have a2 := b2 (by omega)
      have a3 := b3 (by omega)
      have a6 := b6 (by omega) (by omega)
      clear b1 b2 b3 b4 b5 b6
      refine ⟨⟨⟨by omega, by omega⟩, by omega, by omega⟩, .inr ⟨by omega, by omega⟩⟩
/-- The same of a line that is turned: as high as wide, or higher. -/
theorem columnT {ax ay W H x : Int} (hW : 513 ≤ W) (h1 : -W ≤ H) (h2 : H ≤ W) (hx : x = (ax + 256) / 256) (y : Int) :
    meets (rel ay y) (rel ax x) (rel (ay + H) y) (rel (ax + W) x) = decide (y = colY W 0 (W * ay - H * rel ax x)) := by
  have hu : rel ax x ≤ -129 ∧ -384 ≤ rel ax x := by unfold rel; omega
  rw [rel_add, rel_add, Bool.eq_iff_iff, meets_iff, decide_eq_true_iff, ← colY_is (show 0 < W by omega) y, if_neg (Int.lt_irrefl 0)]
  have hT := @col_T W H (rel ax x) ay y
  obtain ⟨b1, b2, b3, b4, b5, b6⟩ := col_box hW h1 h2 hu.1 hu.2 (W * rel ay y - H * rel ax x) rfl
  have hO : H * rel ax x - W * rel ay y = -((W * ay - H * rel ax x) - 256 * (W * y) - 128 * W) := by rw [← hT]; omega
  rw [hT] at b1 b2 b3 b4 b5 b6
  unfold meetsP band off neg pos box
  rw [show rel ax x + W - rel ax x = W by omega, show rel ay y + H - rel ay y = H by omega, (far_wide h1 h2).2, hO]
  generalize rel ax x = ua at *
  generalize rel ay y = va at *
  generalize W * ay - H * ua = T at *
  generalize W * y = P at *
  clear hT hO
  constructor
  · rintro ⟨_, h | ⟨h3, h4⟩⟩ <;> omega
  · rintro ⟨h3, h4⟩
    have a1 := b1 (by omega)
    have a2 := b2 (by omega)
    have a3 := b3 (by omega)
    clear b1 b2 b3 b4 b5 b6
    refine ⟨⟨⟨by omega, by omega⟩, by omega, by omega⟩, .inr ⟨by omega, by omega⟩⟩
theorem col_lim {ay W H u G : Int} (hW : 513 ≤ W) (hu : u ≤ -129) (hu2 : -384 ≤ u) : min ay (ay + H) / 256 - 1 ≤ colY W G (W * ay - H * u) ∧ colY W G (W * ay - H * u) ≤ max ay (ay + H) / 256 + 1 := by
  have hW0 : 0 < W := by omega
  have hc := (@colY_is W G (W * ay - H * u) hW0 (colY W G (W * ay - H * u))).2 rfl
  generalize colY W G (W * ay - H * u) = y at *
  have e1 : W * (ay + H) = W * ay + W * H := Int.mul_add _ _ _
  have c : 256 * (W * y) ≤ W * ay - H * u ∧ W * ay - H * u ≤ 256 * (W * y) + 256 * W := by
    split at hc <;> omega
  have d1 := fun z => @mul_lt_cancel W (256 * y) z hW0
  have d2 := fun z => @mul_lt_cancel W z (256 * y + 256) hW0
  have e2 : W * (256 * y) = 256 * (W * y) := Int.mul_left_comm _ _ _
  have e3 : W * (256 * y + 256) = 256 * (W * y) + 256 * W := by rw [Int.mul_add, e2]; omega
  rw [e2] at d1
  rw [e3] at d2
  clear hc
  rcases (by omega : 0 ≤ H ∨ H ≤ 0) with h | h
  · have f1 := Int.mul_nonneg h (show 0 ≤ -u by omega)
    have f2 := Int.mul_nonneg h (show 0 ≤ W + u by omega)
    rw [Int.mul_neg] at f1
    rw [Int.mul_add, Int.mul_comm H W] at f2
    have := (d1 (ay + H)).1 (by omega)
    have := (d2 ay).1 (by omega)
    omega
  · have f1 := Int.mul_nonneg (show 0 ≤ -H by omega) (show 0 ≤ -u by omega)
    have f2 := Int.mul_nonneg (show 0 ≤ -H by omega) (show 0 ≤ W + u by omega)
    rw [Int.mul_neg, Int.neg_mul] at f1
    rw [Int.mul_add, Int.neg_mul, Int.neg_mul, Int.mul_comm H W] at f2
    have := (d1 ay).1 (by omega)
    have := (d2 (ay + H)).1 (by omega)
    omega
end DM
end Go.Proofs.Ytndaijcgjhmiaaa
