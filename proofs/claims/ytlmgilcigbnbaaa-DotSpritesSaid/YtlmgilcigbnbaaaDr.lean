/- Two lists that calls in a region hand back. -/
import Derived.Test.YtlmgilcigbnbaaaDf
namespace Go.Proofs.Ytlmgilcigbnbaaa
open Go.ChangeShapes Go.WideShapes Go.ChangeAt Go.RowKit
set_option linter.unusedVariables false
set_option linter.unusedSimpArgs false

theorem Held.two {w0 w : World} {bs : List (Nat × TypeId × List Value)} {R : RowD} {es es' : List Ent} (h : Held w0 w bs R es) (h' : Held w0 w bs R es') : Held w0 w bs R (es ++ es') := ⟨h.1, h.2.1, h.2.2.1, fun x hx => by
  rcases List.mem_append.1 hx with e | e
  · exact h.2.2.2 x e
  · exact h'.2.2.2 x e⟩
/-- Blocks of the call's own, and two lists that calls in a region hand back at any time (operations i and j). -/
def HS2 (w0 : World) (bs : List (Nat × TypeId × List Value)) (i j : Nat) (l m : List (Nat → Int)) (st : Nat → Option Value) (w : World) : Prop :=
  Own w0 w bs ∧ (∀ v, st i = some v → ∃ A c, v = .slice A l.length c ∧ Held w0 w bs nilRow [gE w0.heap.size A c l]) ∧ (∀ v, st j = some v → ∃ A c, v = .slice A m.length c ∧ Held w0 w bs nilRow [gE w0.heap.size A c m])
section
variable {w0 w w' : World} {bs : List (Nat × TypeId × List Value)} {i j : Nat} {l m : List (Nat → Int)} {st : Nat → Option Value}
theorem HS2.start (O : Own w0 w bs) : HS2 w0 bs i j l m (fun _ => none) w := ⟨O, fun v hv => (by cases hv), fun v hv => (by cases hv)⟩
theorem HS2.call (h : HS2 w0 bs i j l m st w) (hb : Below w.heap.size w w') : HS2 w0 bs i j l m st w' := ⟨h.1.call hb, fun v hv => by
  obtain ⟨A, c, e, hH⟩ := h.2.1 v hv
  exact ⟨A, c, e, hH.call hb⟩, fun v hv => by
  obtain ⟨A, c, e, hH⟩ := h.2.2 v hv
  exact ⟨A, c, e, hH.call hb⟩⟩
theorem HS2.gain1 (h : HS2 w0 bs i j l m st w) (hij : j ≠ i) {A : Option Addr} {c : Nat} (hL : Lies w' free (gE w.heap.size A c l)) (hb : Below w.heap.size w w') : HS2 w0 bs i j l m (upd st i (.slice A l.length c)) w' := by
  refine ⟨h.1.call hb, fun v hv => ?_, fun v hv => ?_⟩
  · rw [upd_same] at hv
    obtain rfl := Option.some.inj hv
    exact ⟨A, c, rfl, h.1.held.gain hb hL⟩
  · rw [upd_other _ _ hij] at hv
    exact (h.call hb).2.2 v hv
theorem HS2.gain2 (h : HS2 w0 bs i j l m st w) (hij : i ≠ j) {A : Option Addr} {c : Nat} (hL : Lies w' free (gE w.heap.size A c m)) (hb : Below w.heap.size w w') : HS2 w0 bs i j l m (upd st j (.slice A m.length c)) w' := by
  refine ⟨h.1.call hb, fun v hv => ?_, fun v hv => ?_⟩
  · rw [upd_other _ _ hij] at hv
    exact (h.call hb).2.1 v hv
  · rw [upd_same] at hv
    obtain rfl := Option.some.inj hv
    exact ⟨A, c, rfl, h.1.held.gain hb hL⟩
theorem HS2.get1 (h : HS2 w0 bs i j l m st w) (ha : (st i).isSome = true) : ∃ A c, st i = some (.slice A l.length c) ∧ Held w0 w bs nilRow [gE w0.heap.size A c l] := by
  obtain ⟨v, hv⟩ := Option.isSome_iff_exists.1 ha
  obtain ⟨A, c, rfl, hH⟩ := h.2.1 v hv
  exact ⟨A, c, hv, hH⟩
theorem HS2.get2 (h : HS2 w0 bs i j l m st w) (ha : (st j).isSome = true) : ∃ A c, st j = some (.slice A m.length c) ∧ Held w0 w bs nilRow [gE w0.heap.size A c m] := by
  obtain ⟨v, hv⟩ := Option.isSome_iff_exists.1 ha
  obtain ⟨A, c, rfl, hH⟩ := h.2.2 v hv
  exact ⟨A, c, hv, hH⟩
end
end Go.Proofs.Ytlmgilcigbnbaaa
