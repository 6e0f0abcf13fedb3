/- Runs that calls hand back in a region that draws its order; arguments that came in: dashes. -/
import Derived.Test.YtpomdghalkphcaaHa
import Derived.Deep.Slices
import Derived.Lib.SmallJoins
import Derived.OpenShut
namespace Go.Proofs.Ytpomdghalkphcaa
open Go.ChangeShapes Go.WideShapes Go.ChangeAt Go.RowKit
set_option linter.unusedVariables false
set_option linter.unusedSimpArgs false

/-- A list that a call has handed back, if it has. -/
def isL (w : World) (l : List (Nat × Nat)) (a : Option Value) : Prop := ∀ v, a = some v → ∃ A c, v = .slice A l.length c ∧ Lies w free (tE 0 A c l)
theorem isL.below {w w' : World} {l : List (Nat × Nat)} {a : Option Value} (h : isL w l a) (hb : Below w.heap.size w w') : isL w' l a := fun v hv => by
  obtain ⟨A, c, e, hL⟩ := h v hv
  exact ⟨A, c, e, hL.below hb⟩
/-- Blocks of the call's own, and lists that calls in a region hand back at any time. -/
def LS (w0 : World) (bs : List (Nat × TypeId × List Value)) (ls : List (Nat × List (Nat × Nat))) (st : Nat → Option Value) (w : World) : Prop := Own w0 w bs ∧ ∀ x ∈ ls, isL w x.2 (st x.1)
section
variable {w0 w w' : World} {bs : List (Nat × TypeId × List Value)} {ls : List (Nat × List (Nat × Nat))} {st : Nat → Option Value}
theorem LS.start (O : Own w0 w bs) : LS w0 bs ls (fun _ => none) w := ⟨O, fun x _ v hv => by cases hv⟩
theorem LS.call (h : LS w0 bs ls st w) (hb : Below w.heap.size w w') : LS w0 bs ls st w' := ⟨h.1.call hb, fun x hx => (h.2 x hx).below hb⟩
theorem LS.gain (h : LS w0 bs ls st w) (k : Nat) {i : Nat} {l : List (Nat × Nat)} (hk : ls[k]? = some (i, l)) (hd : (ls.map (·.1)).Nodup) {A : Option Addr} {c : Nat} (hL : Lies w' free (tE w.heap.size A c l)) (hb : Below w.heap.size w w') : LS w0 bs ls (upd st i (.slice A l.length c)) w' := by
  refine ⟨h.1.call hb, fun x hx v hv => ?_⟩
  by_cases e : x.1 = i
  · have : x = (i, l) := by
      obtain ⟨j, hj⟩ := List.mem_iff_getElem?.1 hx
      have h1 : (ls.map (·.1))[j]? = some i := by rw [List.getElem?_map, hj]; exact congrArg some e
      have h2 : (ls.map (·.1))[k]? = some i := by rw [List.getElem?_map, hk]; rfl
      obtain ⟨l1, e1⟩ := List.getElem?_eq_some_iff.1 h1
      obtain ⟨l2, e2⟩ := List.getElem?_eq_some_iff.1 h2
      have hjk := (List.getElem_inj hd).1 (e1.trans e2.symm)
      rw [hjk, hk] at hj
      exact (Option.some.inj hj).symm
    subst this
    rw [upd_same] at hv
    obtain rfl := Option.some.inj hv
    exact ⟨A, c, rfl, hL.low (Nat.zero_le _)⟩
  · rw [upd_other st _ e] at hv
    exact (h.2 x hx).below hb v hv
theorem LS.get (h : LS w0 bs ls st w) (k : Nat) {i : Nat} {l : List (Nat × Nat)} (hk : ls[k]? = some (i, l)) (ha : (st i).isSome = true) : ∃ A c, st i = some (.slice A l.length c) ∧ Lies w free (tE 0 A c l) := by
  obtain ⟨v, hv⟩ := Option.isSome_iff_exists.1 ha
  obtain ⟨A, c, rfl, hL⟩ := h.2 _ (List.mem_of_getElem? hk) v hv
  exact ⟨A, c, hv, hL⟩
end
theorem o3 : Try.prog.cellsOf 3 = 1 := by kernel_rfl
theorem o23 : Try.prog.cellsOf 23 = 3 := by kernel_rfl
section
variable {H : Type} {enc : TypeId × Value → H} {w : World}
theorem dash_of {fuel : Nat} {cs : List Value} {x : DataW H × List MemPlace} (hf : DataW.trod enc Try.prog w 0 (fun _ => true) true fuel 23 cs = some x) : ∃ a : Nat → Int, cs = M.mat 3 a := by
  obtain ⟨xs, k, _, hx, hlen, hxl, hg⟩ := DataW.trod_struct Try.underlying23 hf
  rw [o23] at hlen
  match cs, hlen with
  | [v0, v1, v2], _ =>
    have g0 := hg 0 _ rfl
    have g1 := hg 1 _ rfl
    have g2 := hg 2 _ rfl
    simp [o3] at g0 g1 g2
    match xs, hxl with
    | [y0, y1, y2], _ =>
      obtain ⟨m0, e0, _, _⟩ := DataW.trod_int Try.underlying3 g0
      obtain ⟨m1, e1, _, _⟩ := DataW.trod_int Try.underlying3 g1
      obtain ⟨m2, e2, _, _⟩ := DataW.trod_int Try.underlying3 g2
      simp at e0 e1 e2
      subst e0 e1 e2
      exact ⟨HM.t3 m0 m1 m2, rfl⟩
variable {r : Reach} {b0 : Nat} {v : Value} {d : DataW H} {p : List MemPlace}
theorem openDash (hv : Value.okWide Try.prog w r b0 23 v) (h : DataW.Trod enc Try.prog w 0 (fun _ => true) true 23 v d p) : ∃ a : Nat → Int, v = arr 3 a := by
  obtain ⟨cs, rfl, hsz⟩ := okWide_struct Try.underlying23 hv
  obtain ⟨fuel, hf⟩ := h
  obtain ⟨a, ha⟩ := dash_of hf
  refine ⟨a, ?_⟩
  obtain ⟨l⟩ := cs
  have : l = M.mat 3 a := ha
  rw [this]
end
end Go.Proofs.Ytpomdghalkphcaa
