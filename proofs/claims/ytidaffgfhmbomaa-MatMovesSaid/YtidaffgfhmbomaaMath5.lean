/- Plain: moves, and products of whole numbers. -/
import Derived.Test.YtidaffgfhmbomaaMove4
import Derived.Test.YtidaffgfhmbomaaAwake4
namespace Go.Proofs.Ytidaffgfhmbomaa
set_option linter.unusedVariables false
set_option linter.unusedSimpArgs false
namespace M
theorem prod_le {A B x y : Int} (hx : -A ≤ x ∧ x ≤ A) (hy : -B ≤ y ∧ y ≤ B) : -(A * B) ≤ x * y ∧ x * y ≤ A * B := by
  have e1 := Int.mul_nonneg (show 0 ≤ A - x by omega) (show 0 ≤ B - y by omega)
  have e2 := Int.mul_nonneg (show 0 ≤ A + x by omega) (show 0 ≤ B + y by omega)
  have e3 := Int.mul_nonneg (show 0 ≤ A - x by omega) (show 0 ≤ B + y by omega)
  have e4 := Int.mul_nonneg (show 0 ≤ A + x by omega) (show 0 ≤ B - y by omega)
  simp only [Int.sub_mul, Int.add_mul, Int.mul_sub, Int.mul_add] at e1 e2 e3 e4
  generalize x * y = p at *
  generalize A * B = q at *
  generalize A * y = r at *
  generalize x * B = s at *
  omega
theorem part4_le {A B : Int} {x y : Nat → Int} (hx : ∀ i, i < 4 → -A ≤ x i ∧ x i ≤ A) (hy : ∀ i, i < 4 → -B ≤ y i ∧ y i ≤ B) : -(4 * (A * B)) ≤ part x y 4 ∧ part x y 4 ≤ 4 * (A * B) := by
  have h0 := prod_le (hx 0 (by decide)) (hy 0 (by decide))
  have h1 := prod_le (hx 1 (by decide)) (hy 1 (by decide))
  have h2 := prod_le (hx 2 (by decide)) (hy 2 (by decide))
  have h3 := prod_le (hx 3 (by decide)) (hy 3 (by decide))
  have e : part x y 4 = 0 + x 0 * y 0 + x 1 * y 1 + x 2 * y 2 + x 3 * y 3 := rfl
  rw [e]
  generalize A * B = q at *
  generalize x 0 * y 0 = p0 at *
  generalize x 1 * y 1 = p1 at *
  generalize x 2 * y 2 = p2 at *
  generalize x 3 * y 3 = p3 at *
  omega
/-! Moves. -/
theorem move_is {x y z : Int} (hx : -4096 ≤ x ∧ x ≤ 4096) (hy : -4096 ≤ y ∧ y ≤ 4096) (hz : -4096 ≤ z ∧ z ≤ 4096) : move x y z = (mv x y z, 0) := by
  unfold move
  rw [inB_iff.2 hx, inB_iff.2 hy, inB_iff.2 hz]
  rfl
theorem right_mv {x y z : Int} (hx : -4096 ≤ x ∧ x ≤ 4096) (hy : -4096 ≤ y ∧ y ≤ 4096) (hz : -4096 ≤ z ∧ z ≤ 4096) : right (mv x y z) = true := by
  rw [right_iff]
  intro j hj
  unfold mv mvK
  split
  · rename_i h
    obtain h4 | h4 | h4 : j / 4 = 0 ∨ j / 4 = 1 ∨ j / 4 = 2 := by omega
    · rw [h4]; show -268435456 ≤ x * 65536 ∧ x * 65536 ≤ 268435456; omega
    · rw [h4]; show -268435456 ≤ y * 65536 ∧ y * 65536 ≤ 268435456; omega
    · rw [h4]; show -268435456 ≤ z * 65536 ∧ z * 65536 ≤ 268435456; omega
  · unfold unit
    split <;> omega
theorem app_row (x a b : Int) : (0 + 65536 * a + x * 65536 * b) / 65536 = a + x * b := by
  rw [show x * 65536 * b = 65536 * (x * b) by rw [Int.mul_comm x, Int.mul_assoc]]
  generalize x * b = t
  omega
theorem app_mv (x y z : Int) (v : Nat → Int) : mat 4 (app (mv x y z) v) = mat 4 (four (v 0 + x * v 3) (v 1 + y * v 3) (v 2 + z * v 3) (v 3)) := by
  refine mat_ext fun i hi => ?_
  match i, hi with
  | 0, _ =>
    show (0 + 65536 * v 0 + 0 * v 1 + 0 * v 2 + x * 65536 * v 3) / 65536 = v 0 + x * v 3
    rw [Int.zero_mul, Int.zero_mul, Int.add_zero, Int.add_zero]
    exact app_row x (v 0) (v 3)
  | 1, _ =>
    show (0 + 0 * v 0 + 65536 * v 1 + 0 * v 2 + y * 65536 * v 3) / 65536 = v 1 + y * v 3
    rw [Int.zero_mul, Int.zero_mul, Int.add_zero, Int.add_zero]
    exact app_row y (v 1) (v 3)
  | 2, _ =>
    show (0 + 0 * v 0 + 0 * v 1 + 65536 * v 2 + z * 65536 * v 3) / 65536 = v 2 + z * v 3
    rw [Int.zero_mul, Int.zero_mul, Int.add_zero, Int.add_zero]
    exact app_row z (v 2) (v 3)
  | 3, _ =>
    show (0 + 0 * v 0 + 0 * v 1 + 0 * v 2 + 65536 * v 3) / 65536 = v 3
    omega
theorem apply_mv {x y z : Int} {v : Nat → Int} (hx : -2000 ≤ x ∧ x ≤ 2000) (hy : -2000 ≤ y ∧ y ≤ 2000) (hz : -2000 ≤ z ∧ z ≤ 2000) (hv : ∀ i, i < 4 → -1048576 ≤ v i ∧ v i ≤ 1048576) :
    mat 4 (apply (mv x y z) v 68719476736).1 = mat 4 (four (v 0 + x * v 3) (v 1 + y * v 3) (v 2 + z * v 3) (v 3)) ∧ (apply (mv x y z) v 68719476736).2 = 0 := by
  have h1 : right (mv x y z) = true := right_mv (by omega) (by omega) (by omega)
  have h2 : allB 4 268435456 v = true := allB_iff.2 fun i hi => by have := hv i hi; omega
  have h3 : allB 4 68719476736 (app (mv x y z) v) = true := by
    have e := mat_inj (app_mv x y z v)
    rw [allB_iff]
    intro i hi
    rw [e i hi]
    have p0 := prod_le hx (hv 3 (by decide))
    have p1 := prod_le hy (hv 3 (by decide))
    have p2 := prod_le hz (hv 3 (by decide))
    have v0 := hv 0 (by decide)
    have v1 := hv 1 (by decide)
    have v2 := hv 2 (by decide)
    have v3 := hv 3 (by decide)
    generalize x * v 3 = a at *
    generalize y * v 3 = b at *
    generalize z * v 3 = c at *
    match i, hi with
    | 0, _ => show -68719476736 ≤ v 0 + a ∧ v 0 + a ≤ 68719476736; omega
    | 1, _ => show -68719476736 ≤ v 1 + b ∧ v 1 + b ≤ 68719476736; omega
    | 2, _ => show -68719476736 ≤ v 2 + c ∧ v 2 + c ≤ 68719476736; omega
    | 3, _ => show -68719476736 ≤ v 3 ∧ v 3 ≤ 68719476736; omega
  have e : apply (mv x y z) v 68719476736 = (app (mv x y z) v, 0) := by
    unfold apply
    rw [h1, h2, h3]
    rfl
  rw [e]
  exact ⟨app_mv x y z v, rfl⟩
theorem prod_mv (x y z x' y' z' : Int) : ∀ j, j < 16 → prod (mv x y z) (mv x' y' z') j = mv (x + x') (y + y') (z + z') j := by
  intro j hj
  obtain ⟨i, k, hi, hk, rfl⟩ : ∃ i k, i < 4 ∧ k < 4 ∧ j = 4 * i + k := ⟨j / 4, j % 4, by omega, by omega, by omega⟩
  rw [prod_at _ _ _ _ hk]
  have key : ∀ (u : Nat → Int), dot (row (mv x y z) i) u = app (mv x y z) u i := fun _ => rfl
  rw [key, mat_inj (app_mv x y z (col (mv x' y' z') k)) i hi]
  match i, hi, k, hk with
  | 0, _, 0, _ => show (65536 : Int) + x * 0 = 65536; omega
  | 0, _, 1, _ => show (0 : Int) + x * 0 = 0; omega
  | 0, _, 2, _ => show (0 : Int) + x * 0 = 0; omega
  | 0, _, 3, _ => show x' * 65536 + x * 65536 = (x + x') * 65536; omega
  | 1, _, 0, _ => show (0 : Int) + y * 0 = 0; omega
  | 1, _, 1, _ => show (65536 : Int) + y * 0 = 65536; omega
  | 1, _, 2, _ => show (0 : Int) + y * 0 = 0; omega
  | 1, _, 3, _ => show y' * 65536 + y * 65536 = (y + y') * 65536; omega
  | 2, _, 0, _ => show (0 : Int) + z * 0 = 0; omega
  | 2, _, 1, _ => show (0 : Int) + z * 0 = 0; omega
  | 2, _, 2, _ => show (65536 : Int) + z * 0 = 65536; omega
  | 2, _, 3, _ => show z' * 65536 + z * 65536 = (z + z') * 65536; omega
  | 3, _, 0, _ => rfl
  | 3, _, 1, _ => rfl
  | 3, _, 2, _ => rfl
  | 3, _, 3, _ => rfl
theorem mul_mv {x y z x' y' z' : Int} (hx : -2000 ≤ x ∧ x ≤ 2000) (hy : -2000 ≤ y ∧ y ≤ 2000) (hz : -2000 ≤ z ∧ z ≤ 2000) (hx' : -2000 ≤ x' ∧ x' ≤ 2000) (hy' : -2000 ≤ y' ∧ y' ≤ 2000) (hz' : -2000 ≤ z' ∧ z' ≤ 2000) :
    mat 16 (mul (mv x y z) (mv x' y' z')).1 = mat 16 (mv (x + x') (y + y') (z + z')) ∧ (mul (mv x y z) (mv x' y' z')).2 = 0 := by
  have h1 : right (mv x y z) = true := right_mv (by omega) (by omega) (by omega)
  have h2 : right (mv x' y' z') = true := right_mv (by omega) (by omega) (by omega)
  have h3 : right (prod (mv x y z) (mv x' y' z')) = true := by
    rw [right_ext (prod_mv x y z x' y' z')]
    exact right_mv (by omega) (by omega) (by omega)
  have e : mul (mv x y z) (mv x' y' z') = (prod (mv x y z) (mv x' y' z'), 0) := by
    unfold mul
    rw [h1, h2, h3]
    rfl
  rw [e]
  exact ⟨mat_ext (prod_mv x y z x' y' z'), rfl⟩
/-! Whole numbers. -/
/-- Each times One. -/
def whole (X : Nat → Int) (i : Nat) : Int := X i * 65536
def prodW (X Y : Nat → Int) (j : Nat) : Int := part (row X (j / 4)) (col Y (j % 4)) 4
def appW (X v : Nat → Int) (i : Nat) : Int := part (row X i) v 4
theorem dot_whole (X y : Nat → Int) (i : Nat) : dot (row (whole X) i) y = part (row X i) y 4 := by
  have e : part (row (whole X) i) y 4 = 0 + row X i 0 * 65536 * y 0 + row X i 1 * 65536 * y 1 + row X i 2 * 65536 * y 2 + row X i 3 * 65536 * y 3 := rfl
  have f : part (row X i) y 4 = 0 + row X i 0 * y 0 + row X i 1 * y 1 + row X i 2 * y 2 + row X i 3 * y 3 := rfl
  have g : ∀ a b : Int, a * 65536 * b = 65536 * (a * b) := fun a b => by rw [Int.mul_comm a, Int.mul_assoc]
  unfold dot
  rw [e, f, g, g, g, g]
  generalize row X i 0 * y 0 = p0
  generalize row X i 1 * y 1 = p1
  generalize row X i 2 * y 2 = p2
  generalize row X i 3 * y 3 = p3
  omega
theorem part_whole (x Y : Nat → Int) (k : Nat) : part x (col (whole Y) k) 4 = part x (col Y k) 4 * 65536 := by
  have e : part x (col (whole Y) k) 4 = 0 + x 0 * (col Y k 0 * 65536) + x 1 * (col Y k 1 * 65536) + x 2 * (col Y k 2 * 65536) + x 3 * (col Y k 3 * 65536) := rfl
  have f : part x (col Y k) 4 = 0 + x 0 * col Y k 0 + x 1 * col Y k 1 + x 2 * col Y k 2 + x 3 * col Y k 3 := rfl
  rw [e, f, ← Int.mul_assoc, ← Int.mul_assoc, ← Int.mul_assoc, ← Int.mul_assoc]
  generalize x 0 * col Y k 0 = p0
  generalize x 1 * col Y k 1 = p1
  generalize x 2 * col Y k 2 = p2
  generalize x 3 * col Y k 3 = p3
  omega
theorem prod_whole (X Y : Nat → Int) (j : Nat) : prod (whole X) (whole Y) j = whole (prodW X Y) j := by
  unfold prod
  rw [dot_whole, part_whole]
  rfl
theorem app_whole (X v : Nat → Int) (i : Nat) : app (whole X) v i = appW X v i := dot_whole X v i
theorem right_whole {X : Nat → Int} (h : ∀ i, i < 16 → -4096 ≤ X i ∧ X i ≤ 4096) : right (whole X) = true := by
  rw [right_iff]
  intro i hi
  have := h i hi
  unfold whole
  omega
theorem prodW_le {X Y : Nat → Int} (hX : ∀ i, i < 16 → -9 ≤ X i ∧ X i ≤ 9) (hY : ∀ i, i < 16 → -9 ≤ Y i ∧ Y i ≤ 9) : ∀ j, j < 16 → -324 ≤ prodW X Y j ∧ prodW X Y j ≤ 324 := by
  intro j hj
  have := part4_le (A := 9) (B := 9) (x := row X (j / 4)) (y := col Y (j % 4)) (fun i hi => hX _ (by omega)) (fun i hi => hY _ (by omega))
  unfold prodW
  omega
theorem appW_le {X v : Nat → Int} {A B C : Int} (hX : ∀ i, i < 16 → -A ≤ X i ∧ X i ≤ A) (hv : ∀ i, i < 4 → -B ≤ v i ∧ v i ≤ B) (hC : 4 * (A * B) ≤ C) : ∀ i, i < 4 → -C ≤ appW X v i ∧ appW X v i ≤ C := by
  intro i hi
  have := part4_le (x := row X i) (y := v) (fun k hk => hX (4 * i + k) (by omega)) hv
  unfold appW
  omega
theorem mul_whole {X Y : Nat → Int} (hX : ∀ i, i < 16 → -9 ≤ X i ∧ X i ≤ 9) (hY : ∀ i, i < 16 → -9 ≤ Y i ∧ Y i ≤ 9) :
    mat 16 (mul (whole X) (whole Y)).1 = mat 16 (whole (prodW X Y)) ∧ (mul (whole X) (whole Y)).2 = 0 := by
  have h1 : right (whole X) = true := right_whole fun i hi => by have := hX i hi; omega
  have h2 : right (whole Y) = true := right_whole fun i hi => by have := hY i hi; omega
  have h3 : right (prod (whole X) (whole Y)) = true := by
    rw [right_ext fun j _ => prod_whole X Y j]
    exact right_whole fun i hi => by have := prodW_le hX hY i hi; omega
  have e : mul (whole X) (whole Y) = (prod (whole X) (whole Y), 0) := by
    unfold mul
    rw [h1, h2, h3]
    rfl
  rw [e]
  exact ⟨mat_ext fun j _ => prod_whole X Y j, rfl⟩
theorem apply_whole {X v : Nat → Int} (hX : ∀ i, i < 16 → -4096 ≤ X i ∧ X i ≤ 4096) (hv : ∀ i, i < 4 → -268435456 ≤ v i ∧ v i ≤ 268435456) (hr : ∀ i, i < 4 → -68719476736 ≤ appW X v i ∧ appW X v i ≤ 68719476736) :
    mat 4 (apply (whole X) v 68719476736).1 = mat 4 (appW X v) ∧ (apply (whole X) v 68719476736).2 = 0 := by
  have h1 : right (whole X) = true := right_whole hX
  have h2 : allB 4 268435456 v = true := allB_iff.2 hv
  have h3 : allB 4 68719476736 (app (whole X) v) = true := allB_iff.2 fun i hi => by rw [app_whole]; exact hr i hi
  have e : apply (whole X) v 68719476736 = (app (whole X) v, 0) := by
    unfold apply
    rw [h1, h2, h3]
    rfl
  rw [e]
  exact ⟨mat_ext fun i _ => app_whole X v i, rfl⟩
theorem joins (X Y v : Nat → Int) : ∀ i, i < 4 → appW (prodW X Y) v i = appW X (appW Y v) i := by
  intro i hi
  have e : ∀ k, k < 4 → row (prodW X Y) i k = part (row X i) (col Y k) 4 := fun k hk => by
    unfold row prodW
    rw [show (4 * i + k) / 4 = i by omega, show (4 * i + k) % 4 = k by omega]
    rfl
  have f : appW (prodW X Y) v i = 0 + part (row X i) (col Y 0) 4 * v 0 + part (row X i) (col Y 1) 4 * v 1 + part (row X i) (col Y 2) 4 * v 2 + part (row X i) (col Y 3) 4 * v 3 := by
    have : appW (prodW X Y) v i = 0 + row (prodW X Y) i 0 * v 0 + row (prodW X Y) i 1 * v 1 + row (prodW X Y) i 2 * v 2 + row (prodW X Y) i 3 * v 3 := rfl
    rw [this, e 0 (by decide), e 1 (by decide), e 2 (by decide), e 3 (by decide)]
  rw [f]
  show 0 + (0 + X (4 * i + 0) * Y 0 + X (4 * i + 1) * Y 4 + X (4 * i + 2) * Y 8 + X (4 * i + 3) * Y 12) * v 0 + (0 + X (4 * i + 0) * Y 1 + X (4 * i + 1) * Y 5 + X (4 * i + 2) * Y 9 + X (4 * i + 3) * Y 13) * v 1 + (0 + X (4 * i + 0) * Y 2 + X (4 * i + 1) * Y 6 + X (4 * i + 2) * Y 10 + X (4 * i + 3) * Y 14) * v 2 + (0 + X (4 * i + 0) * Y 3 + X (4 * i + 1) * Y 7 + X (4 * i + 2) * Y 11 + X (4 * i + 3) * Y 15) * v 3
    = 0 + X (4 * i + 0) * (0 + Y 0 * v 0 + Y 1 * v 1 + Y 2 * v 2 + Y 3 * v 3) + X (4 * i + 1) * (0 + Y 4 * v 0 + Y 5 * v 1 + Y 6 * v 2 + Y 7 * v 3) + X (4 * i + 2) * (0 + Y 8 * v 0 + Y 9 * v 1 + Y 10 * v 2 + Y 11 * v 3) + X (4 * i + 3) * (0 + Y 12 * v 0 + Y 13 * v 1 + Y 14 * v 2 + Y 15 * v 3)
  simp only [Int.zero_add, Int.add_mul, Int.mul_add, Int.mul_assoc]
  ac_rfl
theorem part_comm (x y : Nat → Int) : ∀ n, part x y n = part y x n
  | 0 => rfl
  | n + 1 => by rw [part, part, part_comm x y n, Int.mul_comm]
theorem flips (X Y : Nat → Int) : ∀ j, j < 16 → whole (prodW (flip Y) (flip X)) j = flip (whole (prodW X Y)) j := by
  intro j hj
  show part (row (flip Y) (j / 4)) (col (flip X) (j % 4)) 4 * 65536 = part (row X ((4 * (j % 4) + j / 4) / 4)) (col Y ((4 * (j % 4) + j / 4) % 4)) 4 * 65536
  rw [show (4 * (j % 4) + j / 4) / 4 = j % 4 by omega, show (4 * (j % 4) + j / 4) % 4 = j / 4 by omega, part_comm (row X (j % 4))]
  congr 1
  refine part_ext 4 (fun n hn => ?_) (fun n hn => ?_)
  · unfold row flip col
    rw [show (4 * (j / 4) + n) % 4 = n by omega, show (4 * (j / 4) + n) / 4 = j / 4 by omega]
  · unfold col flip row
    rw [show (4 * n + j % 4) % 4 = j % 4 by omega, show (4 * n + j % 4) / 4 = n by omega]
end M
end Go.Proofs.Ytidaffgfhmbomaa
