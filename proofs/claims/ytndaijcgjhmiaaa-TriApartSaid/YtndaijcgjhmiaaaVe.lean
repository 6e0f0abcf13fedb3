/- Contracts: far, near, fits. -/
import Derived.Test.YtndaijcgjhmiaaaVt
namespace Go.Proofs.Ytndaijcgjhmiaaa
open Go.ChangeShapes Go.WideShapes Go.ChangeAt Go.RowKit
set_option linter.unusedVariables false
set_option linter.unusedSimpArgs false

namespace VM
def okc (x : Int) : Bool := decide (0 ≤ x) && decide (x ≤ 255)
theorem okc_iff {x : Int} : okc x = true ↔ 0 ≤ x ∧ x ≤ 255 := by simp [okc]
def okv (x y z : Int) : Bool := decide (-268435456 ≤ x) && (decide (x ≤ 268435456) && (decide (-268435456 ≤ y) && (decide (y ≤ 268435456) && (decide (0 ≤ z) && decide (z ≤ 16777215)))))
def fit (v : Nat → Int) : Bool := okc (v 3) && (okc (v 4) && (okc (v 5) && (okc (v 6) && okv (v 0) (v 1) (v 2))))
def near (p : Nat → Int) : Bool := decide (-4194304 ≤ p 0) && (decide (p 0 ≤ 4194304) && (decide (-4194304 ≤ p 1) && decide (p 1 ≤ 4194304)))
def far (x : Int) : Bool := decide (x < -1099511627776) || decide (1099511627776 < x)
theorem far_no {x : Int} (h : far x = false) : -1099511627776 ≤ x ∧ x ≤ 1099511627776 := by simp [far] at h; omega
theorem near_lim {p : Nat → Int} (h : near p = true) : (-4194304 ≤ p 0 ∧ p 0 ≤ 4194304) ∧ (-4194304 ≤ p 1 ∧ p 1 ≤ 4194304) := by simp [near] at h; omega
theorem fit_lim {v : Nat → Int} (h : fit v = true) : (-268435456 ≤ v 0 ∧ v 0 ≤ 268435456) ∧ (-268435456 ≤ v 1 ∧ v 1 ≤ 268435456) ∧ (0 ≤ v 2 ∧ v 2 ≤ 16777215) ∧ ∀ i, i < 4 → 0 ≤ v (3 + i) ∧ v (3 + i) ≤ 255 := by
  simp only [fit, okv, Bool.and_eq_true, okc_iff, decide_eq_true_eq] at h
  refine ⟨by omega, by omega, by omega, fun i hi => ?_⟩
  rcases (by omega : i = 0 ∨ i = 1 ∨ i = 2 ∨ i = 3) with rfl | rfl | rfl | rfl
  · exact h.1
  · exact h.2.1
  · exact h.2.2.1
  · exact h.2.2.2.1
theorem fit_out {v : Nat → Int} {i : Nat} (hi : i < 4) (h : okc (v (3 + i)) = false) : fit v = false := by
  rcases (by omega : i = 0 ∨ i = 1 ∨ i = 2 ∨ i = 3) with rfl | rfl | rfl | rfl <;> simp only [fit] <;> rw [h] <;> simp
theorem fit_end {v : Nat → Int} (h : ∀ i, i < 4 → okc (v (3 + i)) = true) : fit v = okv (v 0) (v 1) (v 2) := by
  have h0 : okc (v 3) = true := h 0 (by omega)
  have h1 : okc (v 4) = true := h 1 (by omega)
  have h2 : okc (v 5) = true := h 2 (by omega)
  have h3 : okc (v 6) = true := h 3 (by omega)
  rw [fit, h0, h1, h2, h3]
  rfl
end VM
end Go.Proofs.Ytndaijcgjhmiaaa
