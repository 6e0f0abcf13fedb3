/- Lists that calls hand back in a region that draws its order. -/
import Derived.Test.YthioeohmnlppcaaWh
namespace Go.Proofs.Ythioeohmnlppcaa
open Go.ChangeShapes Go.WideShapes Go.ChangeAt Go.RowKit
set_option linter.unusedVariables false
set_option linter.unusedSimpArgs false

/-- A list that a call has handed back, if it has. -/
def isL (w : World) (l : List (Nat → Int)) (a : Option Value) : Prop := ∀ v, a = some v → ∃ A c, v = .slice A l.length c ∧ Lies w free (rE 0 A c l)
theorem isL.below {w w' : World} {l : List (Nat → Int)} {a : Option Value} (h : isL w l a) (hb : Below w.heap.size w w') : isL w' l a := fun v hv => by
  obtain ⟨A, c, e, hL⟩ := h v hv
  exact ⟨A, c, e, hL.below hb⟩
/-- Blocks of the call's own, and lists that calls in a region hand back at any time. -/
def LS (w0 : World) (bs : List (Nat × TypeId × List Value)) (ls : List (Nat × List (Nat → Int))) (st : Nat → Option Value) (w : World) : Prop := Own w0 w bs ∧ ∀ x ∈ ls, isL w x.2 (st x.1)
section
variable {w0 w w' : World} {bs : List (Nat × TypeId × List Value)} {ls : List (Nat × List (Nat → Int))} {st : Nat → Option Value}
theorem LS.start (O : Own w0 w bs) : LS w0 bs ls (fun _ => none) w := ⟨O, fun x _ v hv => by cases hv⟩
theorem LS.call (h : LS w0 bs ls st w) (hb : Below w.heap.size w w') : LS w0 bs ls st w' := ⟨h.1.call hb, fun x hx => (h.2 x hx).below hb⟩
theorem LS.gain (h : LS w0 bs ls st w) (k : Nat) {i : Nat} {l : List (Nat → Int)} (hk : ls[k]? = some (i, l)) (hd : (ls.map (·.1)).Nodup) {A : Option Addr} {c : Nat} (hL : Lies w' free (rE w.heap.size A c l)) (hb : Below w.heap.size w w') : LS w0 bs ls (upd st i (.slice A l.length c)) w' := by
  refine ⟨h.1.call hb, fun x hx v hv => ?_⟩
  by_cases e : x.1 = i
  · have : x = (i, l) := by
      obtain ⟨j, hj⟩ := List.mem_iff_getElem?.1 hx
      have h1 : (ls.map (·.1))[j]? = some i := by rw [List.getElem?_map, hj]; exact congrArg some e
      have h2 : (ls.map (·.1))[k]? = some i := by rw [List.getElem?_map, hk]; rfl
      obtain ⟨l1, e1⟩ := List.getElem?_eq_some_iff.1 h1
      obtain ⟨l2, e2⟩ := List.getElem?_eq_some_iff.1 h2
      have hjk := (List.getElem_inj hd).1 (e1.trans e2.symm)
      rw [hjk, hk] at hj
      exact (Option.some.inj hj).symm
    subst this
    rw [upd_same] at hv
    obtain rfl := Option.some.inj hv
    exact ⟨A, c, rfl, hL.low (Nat.zero_le _)⟩
  · rw [upd_other st _ e] at hv
    exact (h.2 x hx).below hb v hv
theorem LS.get (h : LS w0 bs ls st w) (k : Nat) {i : Nat} {l : List (Nat → Int)} (hk : ls[k]? = some (i, l)) (ha : (st i).isSome = true) : ∃ A c, st i = some (.slice A l.length c) ∧ Lies w free (rE 0 A c l) := by
  obtain ⟨v, hv⟩ := Option.isSome_iff_exists.1 ha
  obtain ⟨A, c, rfl, hL⟩ := h.2 _ (List.mem_of_getElem? hk) v hv
  exact ⟨A, c, hv, hL⟩
end
end Go.Proofs.Ythioeohmnlppcaa
