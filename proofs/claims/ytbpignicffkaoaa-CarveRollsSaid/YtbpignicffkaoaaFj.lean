/- What the laws share. -/
import Derived.Test.YtbpignicffkaoaaFi
import Derived.Test.YtbpignicffkaoaaFh
namespace Go.Proofs.Ytbpignicffkaoaa
open Go.ChangeShapes Go.WideShapes Go.ChangeAt Go.RowKit
set_option linter.unusedVariables false
set_option linter.unusedSimpArgs false

/-- Some of the lists, their lower bounds let go. -/
theorem Held.sub {w0 w : World} {bs : List (Nat × TypeId × List Value)} {R : RowD} {es es' : List Ent} (O : Held w0 w bs R es) (h : ∀ y ∈ es', ∃ x ∈ es, x.A = y.A ∧ x.n = y.n ∧ x.c = y.c ∧ x.s = y.s ∧ x.xs = y.xs ∧ y.lo ≤ x.lo) : Held w0 w bs R es' :=
  ⟨O.1, O.2.1, O.2.2.1, fun y hy => by
    obtain ⟨⟨lo, A, n, c, s, xs⟩, hx, h1, h2, h3, h4, h5, h6⟩ := h y hy
    obtain ⟨lo2, A2, n2, c2, s2, xs2⟩ := y
    dsimp only at h1 h2 h3 h4 h5 h6
    subst h1 h2 h3 h4 h5
    exact (O.mem hx).low h6⟩
theorem res_len (l : List (Nat → Int)) (e : List Bool) (s : List (Nat → Int)) : (C.res l e s).length ≤ 200000 := by
  unfold C.res
  split
  · rename_i h
    rw [C.may, Bool.and_eq_true] at h
    obtain ⟨h1, h2⟩ := h
    obtain ⟨p1, p2, p3, p4⟩ := C.okP_iff.1 h1
    obtain ⟨s1, s2⟩ := C.okS_iff.1 h2
    have h3 := C.carve_len s (l.zip e)
    have h4 : (2 : Nat) ^ s.length ≤ 2 ^ 9 := Nat.pow_le_pow_right (by decide) s1
    have h5 : (l.zip e).length ≤ 256 := by rw [List.length_zip]; omega
    have h6 := Nat.mul_le_mul h4 h5
    exact Nat.le_trans h3 (Nat.le_trans h6 (by decide))
  · simp
theorem res_may {l : List (Nat → Int)} {e : List Bool} {s : List (Nat → Int)} (h : C.may l e.length s = true) : C.res l e s = C.carve s (l.zip e) ∧ C.err l e s = 0 := by simp [C.res, C.err, h]
theorem res_not {l : List (Nat → Int)} {e : List Bool} {s : List (Nat → Int)} (h : C.may l e.length s = false) : C.res l e s = [] ∧ C.err l e s = 1 := by simp [C.res, C.err, h]
theorem may_iff {l : List (Nat → Int)} {n : Nat} {s : List (Nat → Int)} : C.may l n s = true ↔ (3 ≤ l.length ∧ l.length ≤ 256 ∧ n = l.length ∧ ∀ x ∈ l, D.fits x = true) ∧ s.length ≤ 9 ∧ ∀ x ∈ s, D.right x = true := by
  rw [C.may, Bool.and_eq_true, C.okP_iff, C.okS_iff]
theorem part_len {l : List (Nat → Int)} {e : List Bool} {s : List (Nat → Int)} (h1 : l.length ≤ 256) (h2 : s.length ≤ 9) (k : Nat) : (C.carve (s.take k) (l.zip e)).length ≤ 200000 := by
  have h3 := C.carve_len (s.take k) (l.zip e)
  have h4 : (2 : Nat) ^ (s.take k).length ≤ 2 ^ 9 := Nat.pow_le_pow_right (by decide) (by rw [List.length_take]; omega)
  have h5 : (l.zip e).length ≤ 256 := by rw [List.length_zip]; omega
  have h6 := Nat.mul_le_mul h4 h5
  exact Nat.le_trans h3 (Nat.le_trans h6 (by decide))
theorem vs_fit {P : List C.PV} (h : C.Fit P) : ∀ x ∈ C.vs P, D.fits x = true := fun u hu => by
  obtain ⟨v, hv, rfl⟩ := List.mem_map.1 hu
  exact h v hv
end Go.Proofs.Ytbpignicffkaoaa
