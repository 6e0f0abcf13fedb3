/- New stacks within a region; lists further down. -/
import Derived.Test.YthcieapfpgejdaaW23
import Derived.Test.YthcieapfpgejdaaOpen6
namespace Go.Proofs.Ythcieapfpgejdaa
open Go.ChangeShapes Go.WideShapes Go.ChangeAt Go.RowKit
set_option linter.unusedVariables false
set_option linter.unusedSimpArgs false

theorem OwnL.two2 {w0 w : World} {bs : List (Nat × TypeId × List Value)} {a b : Ent} {ls : List Ent} {L : Nat → Ent} (h : OwnL w0 w bs (a :: b :: L 0 :: L 1 :: ls)) : ∀ i, i < 2 → Lies w [] (L i) := fun i hi => by
  rcases i with _ | _ | i
  · exact h.ret 2 rfl
  · exact h.ret 3 rfl
  · omega
/-- New stacks that have come up. -/
def NewAt (o : Option Value) (ls : List Ent) : Prop := ∀ v, o = some v → ∃ N : Nat → Ent, v = .agg (sv 0 N).toArray ∧ ∀ i, i < 2 → N i ∈ ls ∧ (N i).l = [M.unit]
def NewsSt (w : World) (bs : List (Nat × TypeId × List Value)) (ls : List Ent) (a b : Option Value) (w2 : World) : Prop :=
  ∃ ls', OwnL w w2 bs ls' ∧ (∀ x ∈ ls, x ∈ ls') ∧ NewAt a ls' ∧ NewAt b ls'
theorem NewsSt.own {w w2 : World} {bs : List (Nat × TypeId × List Value)} {ls : List Ent} {a b : Option Value} (h : NewsSt w bs ls a b w2) : OwnL w w2 bs ls := by
  obtain ⟨ls', O, h1, _⟩ := h
  exact O.pick h1
theorem NewsSt.call {w w2 w3 : World} {bs : List (Nat × TypeId × List Value)} {ls : List Ent} {a b : Option Value} (h : NewsSt w bs ls a b w2) (hb : Below w2.heap.size w2 w3) : NewsSt w bs ls a b w3 := by
  obtain ⟨ls', O, h1, h2, h3⟩ := h
  exact ⟨ls', O.call hb, h1, h2, h3⟩
theorem NewAt.more {o : Option Value} {ls ls' : List Ent} (h : NewAt o ls) (hs : ∀ x ∈ ls, x ∈ ls') : NewAt o ls' := fun v hv => by
  obtain ⟨N, h1, h2⟩ := h v hv
  exact ⟨N, h1, fun i hi => ⟨hs _ (h2 i hi).1, (h2 i hi).2⟩⟩
theorem NewsSt.new {w w2 w3 : World} {bs : List (Nat × TypeId × List Value)} {ls : List Ent} {a b : Option Value} (h : NewsSt w bs ls a b w2) {v : Value} (hv : NewS w2 Stk.new w3 v) (hb : Below w2.heap.size w2 w3) : ∃ ls', OwnL w w3 bs ls' ∧ (∀ x ∈ ls, x ∈ ls') ∧ NewAt a ls' ∧ NewAt b ls' ∧ NewAt (some v) ls' := by
  obtain ⟨ls', O, h1, h2, h3⟩ := h
  obtain ⟨N, rfl, hN, O2⟩ := O.gainS hv hb
  have hs : ∀ x ∈ ls', x ∈ N 0 :: N 1 :: ls' := fun x hx => List.mem_cons_of_mem _ (List.mem_cons_of_mem _ hx)
  refine ⟨_, O2, fun x hx => hs x (h1 x hx), h2.more hs, h3.more hs, fun v hv => ?_⟩
  obtain rfl := Option.some.inj hv
  refine ⟨N, rfl, fun i hi => ⟨?_, (hN i hi).2⟩⟩
  rcases i with _ | _ | i
  · simp
  · simp
  · omega
theorem mem_lies {w0 w : World} {bs : List (Nat × TypeId × List Value)} {ls : List Ent} (O : OwnL w0 w bs ls) {x : Ent} (h : x ∈ ls) : Lies w [] x := (O.2 x h).turn (Nat.le_refl _) (fun _ _ _ => rfl) (fun _ _ _ => List.not_mem_nil)
end Go.Proofs.Ythcieapfpgejdaa
