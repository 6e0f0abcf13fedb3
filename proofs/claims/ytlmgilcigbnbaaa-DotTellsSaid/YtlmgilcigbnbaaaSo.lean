/- Plain: aside by a root; how many of a row's samples lie between two numbers. -/
import Derived.Test.YtlmgilcigbnbaaaSn
namespace Go.Proofs.Ytlmgilcigbnbaaa
set_option linter.unusedVariables false
namespace SM
theorem sq_lt {c r : Int} (hc : 0 ≤ c) (hr : 0 ≤ r) : c * c < r * r ↔ c < r := by
  constructor
  · intro h
    rcases (by omega : c < r ∨ r ≤ c) with e | e
    · exact e
    · have := Int.mul_le_mul e e hr hc
      omega
  · intro h
    rcases (by omega : c = 0 ∨ 0 < c) with e | e
    · subst e
      have := Int.mul_pos (show 0 < r by omega) (show 0 < r by omega)
      omega
    · have h1 := Int.mul_lt_mul_of_pos_left h e
      have h2 := Int.mul_lt_mul_of_pos_right h (show 0 < r by omega)
      omega
theorem sq_le {c r : Int} (hc : 0 ≤ c) (hr : 0 ≤ r) : c * c ≤ r * r ↔ c ≤ r := by
  have := sq_lt hr hc
  omega
/-- Aside, by a root. -/
theorem side_root {S R c : Int} (hR : 0 ≤ R) (h1 : R * R ≤ S) (h2 : S < (R + 1) * (R + 1)) : (if 0 < c then c * c ≤ S else c * c < S) ↔ (0 - (if R * R = S then R - 1 else R) ≤ c ∧ c ≤ R) := by
  by_cases hc : 0 < c
  · rw [if_pos hc]
    constructor
    · intro h
      have h3 : c * c < (R + 1) * (R + 1) := by omega
      rw [sq_lt (by omega) (by omega)] at h3
      refine ⟨?_, by omega⟩
      split
      · omega
      · omega
    · rintro ⟨_, h⟩
      have := (sq_le (show 0 ≤ c by omega) hR).2 h
      omega
  · rw [if_neg hc]
    obtain ⟨d, hd⟩ : ∃ d, 0 - c = d := ⟨_, rfl⟩
    have hcc : c * c = d * d := by
      rw [← hd, Int.zero_sub, Int.neg_mul_neg]
    rw [hcc]
    have hd0 : 0 ≤ d := by omega
    split
    · rename_i e
      rw [← e, sq_lt hd0 hR]
      omega
    · rename_i e
      constructor
      · intro h
        have h3 : d * d < (R + 1) * (R + 1) := by omega
        rw [sq_lt hd0 (by omega)] at h3
        omega
      · rintro ⟨h, _⟩
        have := (sq_le hd0 hR).2 (show d ≤ R by omega)
        omega
end SM
end Go.Proofs.Ytlmgilcigbnbaaa
