/- Plain: what a lesser rectangle shows, in order. Two lists that calls in a region hand back. -/
import Derived.Test.YtdkppkdoconfhaaSq
namespace Go.Proofs.Ytdkppkdoconfhaa
open Go.ChangeShapes Go.WideShapes Go.ChangeAt Go.RowKit
set_option linter.unusedVariables false
set_option linter.unusedSimpArgs false

namespace SM
theorem px_mem {a b : Nat → Int} {n x y : Int} {z : Nat → Int} (h : z ∈ px a b n x y) : z 0 = x ∧ z 1 = y := by
  unfold px at h
  split at h
  · cases h
  · rw [List.mem_singleton] at h
    subst h
    exact ⟨rfl, rfl⟩
theorem has_no {r : Nat → Int} (h : RC.right r = false) (x y : Int) : RC.has r x y = false := by unfold RC.has; rw [h, Bool.false_and]
theorem line_has {a b : Nat → Int} {n : Int} {r f : Nat → Int} (h : f ∈ line a b n r) : RC.has r (f 0) (f 1) = true := by
  unfold line at h
  split at h
  · rename_i hq
    simp only [Bool.and_eq_true] at hq
    unfold rows at h
    obtain ⟨y, hy, h⟩ := List.mem_flatMap.1 h
    unfold row at h
    obtain ⟨x, hx, h⟩ := List.mem_flatMap.1 h
    obtain ⟨e0, e1⟩ := px_mem h
    have h1 := mem_upto.1 hx
    have h2 := mem_upto.1 hy
    rw [e0, e1]
    exact RC.has_iff.2 ⟨hq.2, h1.1, h1.2, h2.1, h2.2⟩
  · cases h
theorem line_cut {x y : Nat → Int} (h : ∀ p q, RC.has y p q = true → RC.has x p q = true) (a b : Nat → Int) (n : Int) : line a b n y = (line a b n x).filter (fun f => RC.has y (f 0) (f 1)) := by
  cases hr : right a b n
  · rw [line_bad (by rw [hr]; rfl), line_bad (by rw [hr]; rfl)]
    rfl
  cases hy : RC.right y
  · rw [line_bad (by rw [hy, Bool.and_false])]
    symm
    rw [List.filter_eq_nil_iff]
    intro f _
    rw [has_no hy]
    decide
  · have hl := RC.right_iff.1 hy
    have h1 := RC.has_iff.1 (h (y 0) (y 1) (RC.has_iff.2 ⟨hy, by omega, by omega, by omega, by omega⟩))
    have h2 := RC.has_iff.1 (h (y 2 - 1) (y 3 - 1) (RC.has_iff.2 ⟨hy, by omega, by omega, by omega, by omega⟩))
    rw [line_ok hr hy, line_ok hr h1.1]
    symm
    refine rows_part _ _ ⟨by omega, by omega⟩ ⟨by omega, by omega⟩ fun p q z hz => ?_
    obtain ⟨e0, e1⟩ := px_mem hz
    rw [e0, e1]
    unfold RC.has
    rw [hy, Bool.true_and, Bool.and_assoc]
/-- In order: by Y, then by X. -/
def Aft (f g : Nat → Int) : Prop := f 1 < g 1 ∨ (f 1 = g 1 ∧ f 0 < g 0)
theorem line_rise (a b : Nat → Int) (n : Int) (r : Nat → Int) : (line a b n r).Pairwise Aft := by
  unfold line
  split
  · refine rows_rise _ _ _ _ _ (fun x y => ?_) (fun x y x' z z' hx hz hz' => ?_) (fun x y x' y' z z' hy hz hz' => ?_)
    · unfold px
      split
      · exact List.Pairwise.nil
      · exact List.pairwise_singleton _ _
    · obtain ⟨e0, e1⟩ := px_mem hz
      obtain ⟨e2, e3⟩ := px_mem hz'
      exact .inr ⟨by rw [e1, e3], by rw [e0, e2]; exact hx⟩
    · obtain ⟨e0, e1⟩ := px_mem hz
      obtain ⟨e2, e3⟩ := px_mem hz'
      exact .inl (by rw [e1, e3]; exact hy)
  · exact List.Pairwise.nil
theorem rise_at {l : List (Nat → Int)} (h : l.Pairwise Aft) {k : Nat} {f g : Nat → Int} (hf : l[k]? = some f) (hg : l[k + 1]? = some g) : Aft f g := by
  obtain ⟨h1, rfl⟩ := List.getElem?_eq_some_iff.1 hf
  obtain ⟨h2, rfl⟩ := List.getElem?_eq_some_iff.1 hg
  exact (List.pairwise_iff_getElem.1 h) k (k + 1) h1 h2 (by omega)
theorem both_in {r q : Nat → Int} {x y : Int} (h : RC.has (RC.both r q) x y = true) : RC.has r x y = true := by
  unfold RC.both at h
  split at h
  · rename_i hh
    split at h
    · have h1 := RC.has_iff.1 h
      simp only [Bool.and_eq_true] at hh
      unfold RC.meet at h1
      simp only [RC.mk] at h1
      simp at h1
      exact RC.has_iff.2 ⟨hh.1, by omega, by omega, by omega, by omega⟩
    · rw [has_no RC.right_zero] at h
      cases h
  · rw [has_no RC.right_zero] at h
    cases h
theorem both_area {r q : Nat → Int} (hr : RC.right r = true) : RC.area (RC.both r q) ≤ RC.area r := by
  have hl := RC.right_iff.1 hr
  cases hb : RC.right (RC.both r q)
  · rw [RC.area_bad hb, RC.area_in hr]
    exact Int.mul_nonneg (by omega) (by omega)
  · have hc := RC.right_iff.1 hb
    have h1 := RC.has_iff.1 (both_in (RC.has_iff.2 ⟨hb, Int.le_refl _, hc.2.1, Int.le_refl _, hc.2.2⟩))
    have h2 := RC.has_iff.1 (both_in (r := r) (q := q) (x := RC.both r q 2 - 1) (y := RC.both r q 3 - 1) (RC.has_iff.2 ⟨hb, by omega, by omega, by omega, by omega⟩))
    rw [RC.area_in hb, RC.area_in hr]
    exact Int.mul_le_mul (by omega) (by omega) (by omega) (by omega)
end SM
theorem Held.two {w0 w : World} {bs : List (Nat × TypeId × List Value)} {R : RowD} {es es' : List Ent} (h : Held w0 w bs R es) (h' : Held w0 w bs R es') : Held w0 w bs R (es ++ es') := ⟨h.1, h.2.1, h.2.2.1, fun x hx => by
  rcases List.mem_append.1 hx with e | e
  · exact h.2.2.2 x e
  · exact h'.2.2.2 x e⟩
/-- Blocks of the call's own, and two lists that calls in a region hand back at any time (operations i and j). -/
def HS2 (w0 : World) (bs : List (Nat × TypeId × List Value)) (i j : Nat) (l m : List (Nat → Int)) (st : Nat → Option Value) (w : World) : Prop :=
  Own w0 w bs ∧ (∀ v, st i = some v → ∃ A c, v = .slice A l.length c ∧ Held w0 w bs nilRow [gE w0.heap.size A c l]) ∧ (∀ v, st j = some v → ∃ A c, v = .slice A m.length c ∧ Held w0 w bs nilRow [gE w0.heap.size A c m])
section
variable {w0 w w' : World} {bs : List (Nat × TypeId × List Value)} {i j : Nat} {l m : List (Nat → Int)} {st : Nat → Option Value}
theorem HS2.start (O : Own w0 w bs) : HS2 w0 bs i j l m (fun _ => none) w := ⟨O, fun v hv => (by cases hv), fun v hv => (by cases hv)⟩
theorem HS2.call (h : HS2 w0 bs i j l m st w) (hb : Below w.heap.size w w') : HS2 w0 bs i j l m st w' := ⟨h.1.call hb, fun v hv => by
  obtain ⟨A, c, e, hH⟩ := h.2.1 v hv
  exact ⟨A, c, e, hH.call hb⟩, fun v hv => by
  obtain ⟨A, c, e, hH⟩ := h.2.2 v hv
  exact ⟨A, c, e, hH.call hb⟩⟩
theorem HS2.gain1 (h : HS2 w0 bs i j l m st w) (hij : j ≠ i) {A : Option Addr} {c : Nat} (hL : Lies w' free (gE w.heap.size A c l)) (hb : Below w.heap.size w w') : HS2 w0 bs i j l m (upd st i (.slice A l.length c)) w' := by
  refine ⟨h.1.call hb, fun v hv => ?_, fun v hv => ?_⟩
  · rw [upd_same] at hv
    obtain rfl := Option.some.inj hv
    exact ⟨A, c, rfl, h.1.held.gain hb hL⟩
  · rw [upd_other _ _ hij] at hv
    exact (h.call hb).2.2 v hv
theorem HS2.gain2 (h : HS2 w0 bs i j l m st w) (hij : i ≠ j) {A : Option Addr} {c : Nat} (hL : Lies w' free (gE w.heap.size A c m)) (hb : Below w.heap.size w w') : HS2 w0 bs i j l m (upd st j (.slice A m.length c)) w' := by
  refine ⟨h.1.call hb, fun v hv => ?_, fun v hv => ?_⟩
  · rw [upd_other _ _ hij] at hv
    exact (h.call hb).2.1 v hv
  · rw [upd_same] at hv
    obtain rfl := Option.some.inj hv
    exact ⟨A, c, rfl, h.1.held.gain hb hL⟩
theorem HS2.get1 (h : HS2 w0 bs i j l m st w) (ha : (st i).isSome = true) : ∃ A c, st i = some (.slice A l.length c) ∧ Held w0 w bs nilRow [gE w0.heap.size A c l] := by
  obtain ⟨v, hv⟩ := Option.isSome_iff_exists.1 ha
  obtain ⟨A, c, rfl, hH⟩ := h.2.1 v hv
  exact ⟨A, c, hv, hH⟩
theorem HS2.get2 (h : HS2 w0 bs i j l m st w) (ha : (st j).isSome = true) : ∃ A c, st j = some (.slice A m.length c) ∧ Held w0 w bs nilRow [gE w0.heap.size A c m] := by
  obtain ⟨v, hv⟩ := Option.isSome_iff_exists.1 ha
  obtain ⟨A, c, rfl, hH⟩ := h.2.2 v hv
  exact ⟨A, c, hv, hH⟩
end
end Go.Proofs.Ytdkppkdoconfhaa
