/- Lists that calls hand back in a region that draws its order, and that stay. -/
import Derived.Test.YtheolajpjpnfjaaXs
namespace Go.Proofs.Ytheolajpjpnfjaa
open Go.ChangeShapes Go.WideShapes Go.ChangeAt Go.RowKit
set_option linter.unusedVariables false
set_option linter.unusedSimpArgs false

/-- A list that a call has handed back, if it has, beside the blocks of the call's own. -/
def isH (w0 w : World) (bs : List (Nat × TypeId × List Value)) (l : List (Int × Int × Int)) (a : Option Value) : Prop := ∀ v, a = some v → ∃ A c, v = .slice A l.length c ∧ Held w0 w bs nilRow [tE w0.heap.size A c l]
theorem isH.below {w0 w w' : World} {bs : List (Nat × TypeId × List Value)} {l : List (Int × Int × Int)} {a : Option Value} (h : isH w0 w bs l a) (hb : Below w.heap.size w w') : isH w0 w' bs l a := fun v hv => by
  obtain ⟨A, c, e, hL⟩ := h v hv
  exact ⟨A, c, e, hL.call hb⟩
/-- Blocks of the call's own, and lists that calls in a region hand back at any time. -/
def LH (w0 : World) (bs : List (Nat × TypeId × List Value)) (ls : List (Nat × List (Int × Int × Int))) (st : Nat → Option Value) (w : World) : Prop := Held w0 w bs nilRow [] ∧ ∀ x ∈ ls, isH w0 w bs x.2 (st x.1)
section
variable {w0 w w' : World} {bs : List (Nat × TypeId × List Value)} {ls : List (Nat × List (Int × Int × Int))} {st : Nat → Option Value}
theorem LH.start (O : Held w0 w bs nilRow []) : LH w0 bs ls (fun _ => none) w := ⟨O, fun x _ v hv => by cases hv⟩
theorem LH.call (h : LH w0 bs ls st w) (hb : Below w.heap.size w w') : LH w0 bs ls st w' := ⟨h.1.call hb, fun x hx => (h.2 x hx).below hb⟩
theorem LH.gain (h : LH w0 bs ls st w) (k : Nat) {i : Nat} {l : List (Int × Int × Int)} (hk : ls[k]? = some (i, l)) (hd : (ls.map (·.1)).Nodup) {A : Option Addr} {c : Nat} (hL : Lies w' free (tE w.heap.size A c l)) (hb : Below w.heap.size w w') : LH w0 bs ls (upd st i (.slice A l.length c)) w' := by
  refine ⟨h.1.call hb, fun x hx v hv => ?_⟩
  by_cases e : x.1 = i
  · have : x = (i, l) := by
      obtain ⟨j, hj⟩ := List.mem_iff_getElem?.1 hx
      have h1 : (ls.map (·.1))[j]? = some i := by rw [List.getElem?_map, hj]; exact congrArg some e
      have h2 : (ls.map (·.1))[k]? = some i := by rw [List.getElem?_map, hk]; rfl
      obtain ⟨l1, e1⟩ := List.getElem?_eq_some_iff.1 h1
      obtain ⟨l2, e2⟩ := List.getElem?_eq_some_iff.1 h2
      have hjk := (List.getElem_inj hd).1 (e1.trans e2.symm)
      rw [hjk, hk] at hj
      exact (Option.some.inj hj).symm
    subst this
    rw [upd_same] at hv
    obtain rfl := Option.some.inj hv
    exact ⟨A, c, rfl, h.1.gain hb hL⟩
  · rw [upd_other st _ e] at hv
    exact (h.2 x hx).below hb v hv
theorem LH.get (h : LH w0 bs ls st w) (k : Nat) {i : Nat} {l : List (Int × Int × Int)} (hk : ls[k]? = some (i, l)) (ha : (st i).isSome = true) : ∃ A c, st i = some (.slice A l.length c) ∧ Held w0 w bs nilRow [tE w0.heap.size A c l] := by
  obtain ⟨v, hv⟩ := Option.isSome_iff_exists.1 ha
  obtain ⟨A, c, rfl, hL⟩ := h.2 _ (List.mem_of_getElem? hk) v hv
  exact ⟨A, c, hv, hL⟩
theorem Held.three {x y z : Ent} (h1 : Held w0 w bs nilRow [x]) (h2 : Held w0 w bs nilRow [y]) (h3 : Held w0 w bs nilRow [z]) : Held w0 w bs nilRow [x, y, z] :=
  ⟨h1.1, h1.2.1, h1.2.2.1, fun e he => by
    simp only [List.mem_cons, List.not_mem_nil, or_false] at he
    rcases he with rfl | rfl | rfl
    · exact h1.2.2.2 _ List.mem_cons_self
    · exact h2.2.2.2 _ List.mem_cons_self
    · exact h3.2.2.2 _ List.mem_cons_self⟩
end
end Go.Proofs.Ytheolajpjpnfjaa
