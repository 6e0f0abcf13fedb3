/- Plain: sprites by number. -/
import Derived.Test.YtlmgilcigbnbaaaDs
namespace Go.Proofs.Ytlmgilcigbnbaaa
open Go.ChangeShapes Go.WideShapes Go.ChangeAt Go.RowKit
set_option linter.unusedVariables false
set_option linter.unusedSimpArgs false

namespace DT
theorem left_of {i S : Nat} (hS : 0 < S) (h : 0 < i % S) : (i - 1) % S = i % S - 1 ∧ (i - 1) / S = i / S := by
  have e := Nat.div_add_mod i S
  have l := Nat.mod_lt i hS
  obtain ⟨m, hm⟩ : ∃ m, i % S = m := ⟨_, rfl⟩
  obtain ⟨d, hd⟩ : ∃ d, i / S = d := ⟨_, rfl⟩
  rw [hm, hd] at e
  rw [hm] at l h
  rw [hm, hd, show i - 1 = S * d + (m - 1) by omega]
  rw [Nat.mul_add_mod, Nat.mod_eq_of_lt (by omega), Nat.mul_add_div hS, Nat.div_eq_of_lt (by omega)]
  exact ⟨rfl, rfl⟩
theorem below_of {i S : Nat} (hS : 0 < S) (h : 0 < i / S) : S ≤ i ∧ (i - S) % S = i % S ∧ (i - S) / S = i / S - 1 := by
  have e := Nat.div_add_mod i S
  have l := Nat.mod_lt i hS
  obtain ⟨m, hm⟩ : ∃ m, i % S = m := ⟨_, rfl⟩
  obtain ⟨d, hd⟩ : ∃ d, i / S = d := ⟨_, rfl⟩
  rw [hm, hd] at e
  rw [hm] at l
  rw [hd] at h
  obtain ⟨c, rfl⟩ : ∃ c, d = c + 1 := ⟨d - 1, by omega⟩
  rw [Nat.mul_add, Nat.mul_one] at e
  rw [hm, hd, show i - S = S * c + m by omega]
  rw [Nat.mul_add_mod, Nat.mod_eq_of_lt l, Nat.mul_add_div hS, Nat.div_eq_of_lt l]
  exact ⟨by omega, rfl, by omega⟩
theorem pt_sq_len {v : Nat → Int} {s k : Int} (h : right v s k = true) (hk : ¬ k = 1) : (pt v s k (whole v s)).length = s.toNat * s.toNat := by rw [pt_square h hk, grid_len]
/-- A sprite's fragment, and those to the left of it and under it. -/
theorem sprite_at {v : Nat → Int} {s : Int} (h : right v s 2 = true) {i : Nat} (hi : i < s.toNat * s.toNat) :
    ∃ f, (pt v s 2 (whole v s))[i]? = some f ∧ (f 5 = v 5 ∧ f 6 = v 6) ∧ ((0 ≤ f 3 ∧ f 3 ≤ 255) ∧ (0 ≤ f 4 ∧ f 4 ≤ 255)) ∧
      (0 < i % s.toNat → ∃ g, (pt v s 2 (whole v s))[i - 1]? = some g ∧ (g 3 ≤ f 3 ∧ f 3 - g 3 ≤ 256 / s + 1) ∧ g 4 = f 4) ∧
      (0 < i / s.toNat → ∃ g, (pt v s 2 (whole v s))[i - s.toNat]? = some g ∧ g 4 ≤ f 4 ∧ g 3 = f 3) := by
  obtain ⟨_, hs, _⟩ := right_iff.1 h
  rw [pt_square h (by decide)]
  obtain ⟨S, hS⟩ : ∃ S, s.toNat = S := ⟨_, rfl⟩
  rw [hS] at hi ⊢
  have hS0 : 0 < S := by omega
  have rise : ∀ (u c : Int) (n : Nat), part (256 * (c + ((n : Nat) : Int)) + 128) u s ≤ part (256 * (c + ((n + 1 : Nat) : Int)) + 128) u s ∧ part (256 * (c + ((n + 1 : Nat) : Int)) + 128) u s - part (256 * (c + ((n : Nat) : Int)) + 128) u s ≤ 256 / s + 1 := fun u c n => by
    have := part_rise (m := 256 * (c + (n : Int)) + 128) (u := u) (s := s) hs.1
    rw [show 256 * (c + (n : Int)) + 128 + 256 = 256 * (c + ((n + 1 : Nat) : Int)) + 128 by omega] at this
    exact this
  refine ⟨_, grid_at _ _ _ _ hi, ⟨rfl, rfl⟩, ⟨part_lim _ _ _, part_lim _ _ _⟩, fun hx => ?_, fun hy => ?_⟩
  · obtain ⟨e1, e2⟩ := left_of hS0 hx
    refine ⟨_, grid_at _ _ _ _ (by omega), ?_, ?_⟩
    · rw [e1, e2]
      obtain ⟨n, hn⟩ : ∃ n, i % S = n + 1 := ⟨i % S - 1, by omega⟩
      rw [hn, Nat.add_sub_cancel]
      exact rise (v 0) (first (v 0) s) n
    · rw [e1, e2]
      rfl
  · obtain ⟨e0, e1, e2⟩ := below_of hS0 hy
    refine ⟨_, grid_at _ _ _ _ (by omega), ?_, ?_⟩
    · rw [e1, e2]
      obtain ⟨n, hn⟩ : ∃ n, i / S = n + 1 := ⟨i / S - 1, by omega⟩
      rw [hn, Nat.add_sub_cancel]
      exact (rise (v 1) (first (v 1) s) n).1
    · rw [e1, e2]
      rfl
end DT
end Go.Proofs.Ytlmgilcigbnbaaa
