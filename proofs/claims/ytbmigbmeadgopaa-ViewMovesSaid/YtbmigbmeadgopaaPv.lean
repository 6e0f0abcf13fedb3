/- Plain: places in the window, for layer 11 (view). -/
import Derived.Test.YtbmigbmeadgopaaL1
namespace Go.Proofs.Ytbmigbmeadgopaa
set_option linter.unusedVariables false
namespace V
/-- A quotient by a number above nought, rounded down, by the language's own one. -/
theorem down_tdiv {n d : Int} (hd : 0 < d) : n / d = (if n.tdiv d * d > n then n.tdiv d - 1 else n.tdiv d) := by
  have h1 := Int.tmod_add_mul_tdiv n d
  have h2 := Int.emod_add_mul_ediv n d
  have h3 := Int.emod_nonneg n (show d ≠ 0 by omega)
  have h4 := Int.emod_lt_of_pos n hd
  rw [Int.mul_comm] at h1 h2
  rcases (by omega : 0 ≤ n ∨ n < 0) with h | h
  · have e : n.tdiv d = n / d := Int.tdiv_eq_ediv_of_nonneg h
    rw [e, if_neg (by omega)]
  · have t1 : n.tmod d ≤ 0 := by
      have := Int.tmod_nonneg (a := -n) d (by omega)
      rw [Int.neg_tmod] at this
      omega
    have t2 : -d < n.tmod d := by
      have := Int.tmod_lt_of_pos (-n) hd
      rw [Int.neg_tmod] at this
      omega
    split
    · rename_i hg
      have a1 : (n.tdiv d - 1) * d = n.tdiv d * d - d := by rw [Int.sub_mul, Int.one_mul]
      exact Int.ediv_eq_iff_of_pos hd |>.2 ⟨by omega, by omega⟩
    · rename_i hg
      have a1 : (n.tdiv d + 1) * d = n.tdiv d * d + d := by rw [Int.add_mul, Int.one_mul]
      exact Int.ediv_eq_iff_of_pos hd |>.2 ⟨by omega, by omega⟩
theorem down_tmod {n d : Int} (hd : 0 < d) : n / d = (if n.tmod d < 0 then n.tdiv d - 1 else n.tdiv d) := by
  have h1 := Int.tmod_add_mul_tdiv n d
  rw [Int.mul_comm] at h1
  rw [down_tdiv hd]
  by_cases h : n.tmod d < 0
  · rw [if_pos h, if_pos (by omega)]
  · rw [if_neg h, if_neg (by omega)]
theorem le_down {n d k : Int} (hd : 0 < d) : k ≤ n / d ↔ k * d ≤ n := Int.le_ediv_iff_mul_le hd
theorem down_lt {n d k : Int} (hd : 0 < d) : n / d < k ↔ n < k * d := Int.ediv_lt_iff_lt_mul hd
theorem down_mono {m n d : Int} (hd : 0 < d) (h : m ≤ n) : m / d ≤ n / d := Int.ediv_le_ediv hd h
theorem down_mul {n d k : Int} (hk : 0 < k) : (k * n) / (k * d) = n / d := Int.mul_ediv_mul_of_pos n d hk
/-- May a port be? -/
def port (p : Nat → Int) : Bool := D.inB (-8192) 8192 (p 0) && (D.inB (-8192) 8192 (p 1) && (D.inB 0 4096 (p 2) && D.inB 0 4096 (p 3)))
theorem port_iff {p : Nat → Int} : port p = true ↔ (-8192 ≤ p 0 ∧ p 0 ≤ 8192) ∧ (-8192 ≤ p 1 ∧ p 1 ≤ 8192) ∧ (0 ≤ p 2 ∧ p 2 ≤ 4096) ∧ (0 ≤ p 3 ∧ p 3 ≤ 4096) := by
  simp only [port, Bool.and_eq_true, D.inB_iff]
/-- Is a place asked of a vertex by a port? -/
def good (v p : Nat → Int) : Bool := D.fits v && (decide (1 ≤ v 3) && port p)
theorem good_iff {v p : Nat → Int} : good v p = true ↔ D.fits v = true ∧ 1 ≤ v 3 ∧ port p = true := by
  simp only [good, Bool.and_eq_true, decide_eq_true_eq]
/-- How far along one side: its begin, its length, the coordinate, W. -/
def along (b s x w : Int) : Int := 256 * b + 128 * s * (x + w) / w
def deep (z w : Int) : Int := max 0 (min (16777215 * (z + w) / (2 * w)) 16777215)
/-- A place, as seven numbers. -/
def win (x y z : Int) (v : Nat → Int) (i : Nat) : Int := if i = 0 then x else if i = 1 then y else if i = 2 then z else v (i + 1)
def spot (x : Int) : Bool := D.inB (-268435456) 268435456 x
def map (v p : Nat → Int) : (Nat → Int) × Int :=
  if good v p then (if spot (along (p 0) (p 2) (v 0) (v 3)) && spot (along (p 1) (p 3) (v 1) (v 3)) then (win (along (p 0) (p 2) (v 0) (v 3)) (along (p 1) (p 3) (v 1) (v 3)) (deep (v 2) (v 3)) v, 0) else (M.zero, 9))
  else (M.zero, 1)
theorem map_bad {v p : Nat → Int} (h : good v p = false) : map v p = (M.zero, 1) := by rw [map, if_neg (by rw [h]; decide)]
theorem map_far {v p : Nat → Int} (h : good v p = true) (g : (spot (along (p 0) (p 2) (v 0) (v 3)) && spot (along (p 1) (p 3) (v 1) (v 3))) = false) : map v p = (M.zero, 9) := by rw [map, if_pos h, if_neg (by rw [g]; decide)]
theorem map_is {v p : Nat → Int} (h : good v p = true) (g : (spot (along (p 0) (p 2) (v 0) (v 3)) && spot (along (p 1) (p 3) (v 1) (v 3))) = true) : map v p = (win (along (p 0) (p 2) (v 0) (v 3)) (along (p 1) (p 3) (v 1) (v 3)) (deep (v 2) (v 3)) v, 0) := by rw [map, if_pos h, if_pos g]
/-- Where it is OK: all of it. -/
theorem map_ok {v p w : Nat → Int} (h : map v p = (w, 0)) : good v p = true ∧ w = win (along (p 0) (p 2) (v 0) (v 3)) (along (p 1) (p 3) (v 1) (v 3)) (deep (v 2) (v 3)) v := by
  unfold map at h
  split at h
  · rename_i hg
    split at h
    · injection h with h1 h2
      exact ⟨hg, h1.symm⟩
    · injection h with h1 h2
      cases h2
  · injection h with h1 h2
    cases h2
theorem map_not {v p w : Nat → Int} {e : Int} (h : map v p = (w, e)) (he : e ≠ 0) : w = M.zero := by
  unfold map at h
  split at h
  · split at h
    · injection h with h1 h2
      exact absurd h2.symm he
    · injection h with h1 h2
      exact h1.symm
  · injection h with h1 h2
    exact h1.symm
/-- Bounds: nothing runs over. -/
theorem side_le {s x w : Int} (hs : 0 ≤ s ∧ s ≤ 4096) (hx : -68719476736 ≤ x ∧ x ≤ 68719476736) (hw : 1 ≤ w ∧ w ≤ 68719476736) : -72057594037927936 ≤ 128 * s * (x + w) ∧ 128 * s * (x + w) ≤ 72057594037927936 := by
  have e1 := Int.mul_le_mul_of_nonneg_left (show x + w ≤ 137438953472 by omega) (show 0 ≤ 128 * s by omega)
  have e2 := Int.mul_le_mul_of_nonneg_left (show -137438953472 ≤ x + w by omega) (show 0 ≤ 128 * s by omega)
  omega
theorem along_le {b s x w : Int} (hb : -8192 ≤ b ∧ b ≤ 8192) (hs : 0 ≤ s ∧ s ≤ 4096) (hx : -68719476736 ≤ x ∧ x ≤ 68719476736) (hw : 1 ≤ w ∧ w ≤ 68719476736) : -72057594040025088 ≤ along b s x w ∧ along b s x w ≤ 72057594040025088 := by
  obtain ⟨h1, h2⟩ := side_le hs hx hw
  unfold along
  generalize 128 * s * (x + w) = n at *
  have h3 : -72057594037927936 ≤ n / w := (le_down (by omega)).2 (by
    have := Int.mul_le_mul_of_nonneg_left (show 1 ≤ w from hw.1) (show (0 : Int) ≤ 72057594037927936 by omega)
    omega)
  have h4 : n / w < 72057594037927937 := (down_lt (by omega)).2 (by
    have := Int.mul_le_mul_of_nonneg_left (show 1 ≤ w from hw.1) (show (0 : Int) ≤ 72057594037927937 by omega)
    omega)
  omega
theorem deep_rng (z w : Int) : 0 ≤ deep z w ∧ deep z w ≤ 16777215 := by
  unfold deep
  omega
/-- W or less from the middle: in the port. -/
theorem along_in {b s x w : Int} (hs : 0 ≤ s) (hw : 1 ≤ w) (h1 : -w ≤ x) (h2 : x ≤ w) : 256 * b ≤ along b s x w ∧ along b s x w ≤ 256 * (b + s) := by
  unfold along
  have e1 := Int.mul_nonneg (show 0 ≤ 128 * s by omega) (show 0 ≤ x + w by omega)
  have e2 := Int.mul_le_mul_of_nonneg_left (show x + w ≤ 2 * w by omega) (show 0 ≤ 128 * s by omega)
  have h3 : 0 ≤ 128 * s * (x + w) / w := (le_down (by omega)).2 (by rw [Int.zero_mul]; exact e1)
  have h4 : 128 * s * (x + w) / w < 256 * s + 1 := (down_lt (by omega)).2 (by
    have e3 : 128 * s * (2 * w) = 256 * s * w := by rw [← Int.mul_assoc]; congr 1; omega
    rw [Int.add_mul, Int.one_mul]
    omega)
  omega
theorem deep_near {z w : Int} (hw : 1 ≤ w) (h : z ≤ -w) : deep z w = 0 := by
  unfold deep
  have : 16777215 * (z + w) / (2 * w) < 1 := (down_lt (by omega)).2 (by omega)
  omega
theorem deep_far {z w : Int} (hw : 1 ≤ w) (h : w ≤ z) : deep z w = 16777215 := by
  unfold deep
  have : 16777215 ≤ 16777215 * (z + w) / (2 * w) := (le_down (by omega)).2 (by omega)
  omega
/-- All multiplied by one number. -/
theorem along_mul {b s x w k : Int} (hk : 0 < k) : along b s (k * x) (k * w) = along b s x w := by
  unfold along
  rw [← Int.mul_add, Int.mul_left_comm, down_mul hk]
theorem deep_mul {z w k : Int} (hk : 0 < k) : deep (k * z) (k * w) = deep z w := by
  unfold deep
  rw [← Int.mul_add, Int.mul_left_comm 16777215, Int.mul_left_comm 2, down_mul hk]
def sc (k : Int) (v : Nat → Int) (i : Nat) : Int := if i < 4 then k * v i else v i
theorem part_le {k x : Int} (hk : 1 ≤ k) (h1 : x ≤ 68719476736 / k) (h2 : -(68719476736 / k) ≤ x) : (-68719476736 ≤ k * x ∧ k * x ≤ 68719476736) ∧ -68719476736 ≤ x ∧ x ≤ 68719476736 := by
  have e : 68719476736 / k * k ≤ 68719476736 := Int.ediv_mul_le _ (by omega)
  have a1 := Int.mul_le_mul_of_nonneg_right h1 (show 0 ≤ k by omega)
  have a2 := Int.mul_le_mul_of_nonneg_right h2 (show 0 ≤ k by omega)
  rw [Int.neg_mul] at a2
  have q : 68719476736 / k ≤ 68719476736 := Int.ediv_le_self k (by omega)
  rw [Int.mul_comm k x]
  exact ⟨⟨by omega, by omega⟩, by omega, by omega⟩
theorem good_sc {v p : Nat → Int} {k : Int} (hk : 1 ≤ k) (h : ∀ i, i < 3 → v i ≤ 68719476736 / k ∧ -(68719476736 / k) ≤ v i) (h3 : v 3 ≤ 68719476736 / k) (h1 : 1 ≤ v 3) : good (sc k v) p = good v p := by
  have hw := part_le hk h3 (by have : 0 ≤ 68719476736 / k := Int.ediv_nonneg (by omega) (by omega); omega)
  have hkw : 1 ≤ k * v 3 := by
    have := Int.mul_le_mul_of_nonneg_left h1 (show 0 ≤ k by omega)
    omega
  have hf : ∀ i, i < 4 → (-68719476736 ≤ sc k v i ∧ sc k v i ≤ 68719476736) ∧ -68719476736 ≤ v i ∧ v i ≤ 68719476736 := fun i hi => by
    rw [sc, if_pos hi]
    rcases (by omega : i < 3 ∨ i = 3) with h4 | rfl
    · exact part_le hk (h i h4).1 (h i h4).2
    · exact hw
  rw [Bool.eq_iff_iff, good_iff, good_iff, D.fits_iff, D.fits_iff]
  constructor
  · rintro ⟨⟨a1, a2⟩, a3, a4⟩
    refine ⟨⟨fun i hi => (hf i hi).2, fun i hi => ?_⟩, h1, a4⟩
    have := a2 i hi
    rw [sc, if_neg (by omega)] at this
    exact this
  · rintro ⟨⟨a1, a2⟩, a3, a4⟩
    refine ⟨⟨fun i hi => (hf i hi).1, fun i hi => ?_⟩, hkw, a4⟩
    rw [sc, if_neg (by omega)]
    exact a2 i hi
theorem map_sc {v p : Nat → Int} {k : Int} (hk : 1 ≤ k) (h : ∀ i, i < 3 → v i ≤ 68719476736 / k ∧ -(68719476736 / k) ≤ v i) (h3 : v 3 ≤ 68719476736 / k) (h1 : 1 ≤ v 3) : map (sc k v) p = map v p := by
  have g := good_sc (p := p) hk h h3 h1
  have e : ∀ x y z, win x y z (sc k v) = win x y z v := fun x y z => by
    funext i
    unfold win
    split
    · rfl
    split
    · rfl
    split
    · rfl
    rw [sc, if_neg (by omega)]
  unfold map
  rw [g]
  simp only [e]
  rw [show sc k v 0 = k * v 0 from rfl, show sc k v 1 = k * v 1 from rfl, show sc k v 2 = k * v 2 from rfl, show sc k v 3 = k * v 3 from rfl, along_mul (by omega), along_mul (by omega), deep_mul (by omega)]
/-- They rise with coordinates, or stay. -/
theorem along_up {b s x x' w : Int} (hs : 0 ≤ s) (hw : 1 ≤ w) (h : x ≤ x') : along b s x w ≤ along b s x' w := by
  unfold along
  have := down_mono (d := w) (by omega) (Int.mul_le_mul_of_nonneg_left (show x + w ≤ x' + w by omega) (show 0 ≤ 128 * s by omega))
  omega
theorem deep_up {z z' w : Int} (hw : 1 ≤ w) (h : z ≤ z') : deep z w ≤ deep z' w := by
  unfold deep
  have := down_mono (d := 2 * w) (by omega) (Int.mul_le_mul_of_nonneg_left (show z + w ≤ z' + w by omega) (show (0 : Int) ≤ 16777215 by omega))
  omega
/-- They move with the port. -/
theorem along_move (b b' s x w : Int) : along b' s x w - along b s x w = 256 * (b' - b) := by
  unfold along
  omega
theorem awake_win : map (fun i => if i = 3 then 7 else 0) (fun i => if i = 2 then 10 else 0) = (win 1280 0 8388607 (fun i => if i = 3 then 7 else 0), 0) := by
  rw [map_is (by decide) (by decide)]
  rfl
end V
end Go.Proofs.Ytbmigbmeadgopaa
