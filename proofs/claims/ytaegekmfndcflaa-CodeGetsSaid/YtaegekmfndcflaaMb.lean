/- Plain: what comes of a stream is short. -/
import Derived.Test.YtaegekmfndcflaaM
namespace Go.Proofs.Ytaegekmfndcflaa.P
set_option linter.unusedVariables false

theorem go_small : ∀ (n : Nat) (a : List Int) (out : List Rec) (p : Nat), a.length ≤ n → (∀ r ∈ out, r.2.length ≤ 16) → ∀ r ∈ (go a out p).1, r.2.length ≤ 16 := by
  intro n
  induction n with
  | zero =>
    intro a out p ha h
    obtain rfl : a = [] := List.eq_nil_of_length_eq_zero (by omega)
    rw [go_nil]
    exact h
  | succ n ih =>
    intro a out p ha h
    rcases a with _ | ⟨x, r⟩
    · rw [go_nil]
      exact h
    · have hr : r.length ≤ n := by simpa using ha
      obtain ⟨m, e⟩ : ∃ m, first x (r.length + 1) out.length = m := ⟨_, rfl⟩
      rcases Classical.em (m.2 = 0) with hz | hz
      · obtain ⟨h4, bb, ht, hbb, hfe⟩ := first_ok (show (first x (r.length + 1) out.length).2 = 0 by rw [e]; exact hz)
        rw [go_cons x r out p _ hfe]
        refine ih _ _ _ (by rw [List.length_drop]; omega) (fun y hy => ?_)
        rcases List.mem_append.1 hy with hy | hy
        · exact h y hy
        · rw [List.mem_singleton.1 hy]
          have := tab_len ht
          simp only [List.length_take]
          omega
      · rw [go_bad x r out p m.1 m.2 e hz]
        intro y hy
        cases hy
theorem get_small (a : List Int) : (∀ r ∈ (get a).1, r.2.length ≤ 16) ∧ (get a).1.length ≤ a.length ∧ (get a).2.1 ≤ a.length := by
  refine ⟨go_small a.length a [] 0 (Nat.le_refl _) (fun _ h => by cases h), ?_, ?_⟩
  · have := (go_ends a.length a [] 0 (Nat.le_refl _)).2.2.1
    simpa [get] using this
  · have := (go_ends a.length a [] 0 (Nat.le_refl _)).2.2.2
    simpa [get] using this
end Go.Proofs.Ytaegekmfndcflaa.P
