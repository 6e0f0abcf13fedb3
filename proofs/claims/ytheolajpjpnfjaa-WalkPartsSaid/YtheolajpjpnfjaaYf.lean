/- Within: what stands between two rounds. -/
import Derived.Test.YtheolajpjpnfjaaYp
import Derived.Test.YtheolajpjpnfjaaYe
import Derived.RangeFuncBox
namespace Go.Proofs.Ytheolajpjpnfjaa
open Go.ChangeShapes Go.WideShapes Go.ChangeAt Go.RowKit
set_option linter.unusedVariables false
set_option linter.unusedSimpArgs false

/-- The box of a variable. -/
def Bx (W : World) (B : Nat) (v : Value) : Prop := W.heap[B]? = some (.cells #[v] 30 (0, 0))
/-- Between two rounds: what has come lies in the variable's row; the rectangle and the line lie as they lay. -/
def WI (w0 : World) (B gr gl : Nat) (r : Nat → Int) (Lc : List Value) (pre : List (Int × Int × Int)) (W : World) : Prop :=
  Below w0.heap.size w0 W ∧ (∃ v, Bx W B v ∧ W.ownsRow w0.heap.size 34 3 v pre.length (tC pre)) ∧ W.heap[gr]? = some (.cells (M.mat 4 r).toArray 25 (0, 0)) ∧ W.heap[gl]? = some (.cells Lc.toArray 52 (0, 0)) ∧ w0.heap.size ≤ B ∧ ∀ y ∈ pre, RC.has r y.2.1 y.2.2 = true
section
variable {w0 W W' : World} {B gr gl g : Nat} {r : Nat → Int} {Lc : List Value} {pre : List (Int × Int × Int)} {v v' : Value} {k : Nat} {xs : List Value}
theorem bx_not_row (h : Bx W B v') (hr : W.ownsRow w0.heap.size 34 3 v k xs) : some B ≠ v.ownBlock := by
  rcases hr.2 with ⟨rfl, _⟩ | ⟨g, cap, cur, rfl, _, hg, _⟩
  · simp [Value.ownBlock]
  · intro e
    have e' : B = g := by simpa [Value.ownBlock] using e
    subst e'
    unfold Bx at h
    rw [h] at hg
    simp at hg
theorem cells_not_row {t : TypeId} {cs : Array Value} (h : W.heap[g]? = some (.cells cs t (0, 0))) (ht : t ≠ 34) (hr : W.ownsRow w0.heap.size 34 3 v k xs) : some g ≠ v.ownBlock := by
  rcases hr.2 with ⟨rfl, _⟩ | ⟨b, cap, cur, rfl, _, hg, _⟩
  · simp [Value.ownBlock]
  · intro e
    have e' : g = b := by simpa [Value.ownBlock] using e
    subst e'
    rw [h] at hg
    simp at hg
    exact ht hg.2
theorem cells_ne {row : Option Nat} {cs : Array Value} {t : TypeId} (h : W.heap[g]? = some (.cells cs t (0, 0))) (hr : ∀ q, row = some q → ∃ o : Obj, W.heap[q]? = some o ∧ o.isCells = false) : some g ≠ row := fun e => by
  obtain ⟨o, ho, hc⟩ := hr g e.symm
  rw [h] at ho
  cases ho
  cases hc
theorem lt_of {o : Obj} (h : W.heap[g]? = some o) : g < W.heap.size := (Array.getElem?_eq_some_iff.1 h).1
theorem WI.grown (h : WI w0 B gr gl r Lc pre W) {row : Option Nat} (hg : W.grownBy W' row) (hr : ∀ q, row = some q → w0.heap.size ≤ q ∧ ∃ o : Obj, W.heap[q]? = some o ∧ o.isCells = false) : WI w0 B gr gl r Lc pre W' := by
  obtain ⟨h1, ⟨v, h2, h3⟩, h4, h5, h6, h7⟩ := h
  have hr2 := fun q e => (hr q e).2
  refine ⟨grown_below h1 h1.size hg (fun q e => (hr q e).1), ⟨v, (hg.block B (lt_of h2) (cells_ne h2 hr2)).trans h2, h3.kept hg ?_⟩, (hg.block gr (lt_of h4) (cells_ne h4 hr2)).trans h4, (hg.block gl (lt_of h5) (cells_ne h5 hr2)).trans h5, h6, h7⟩
  rcases h3.2 with ⟨rfl, _⟩ | ⟨b, cap, cur, rfl, _, hb, _⟩
  · exact .inl rfl
  · exact .inr (cells_ne hb hr2)
theorem WI.below (h : WI w0 B gr gl r Lc pre W) (hb : Below W.heap.size W W') : WI w0 B gr gl r Lc pre W' := h.grown (below_grown hb) (fun q e => by cases e)
theorem WI.ownFrom {D : Nat} (hD : w0.heap.size ≤ D) : OwnFrom D (WI w0 B gr gl r Lc) := fun s A C row hs hg hr => hs.grown hg (fun q e => ⟨Nat.le_trans hD (hr q e).1, (hr q e).2⟩)
/-- One more is appended. -/
theorem WI.push {w1 : World} {x : Int × Int × Int} (h : WI w0 B gr gl r Lc pre W) (hx : RC.has r x.2.1 x.2.2 = true) (hv : Bx W B v) (hrow : W.ownsRow w0.heap.size 34 3 v pre.length (tC pre)) (hown : w1.ownsRow w0.heap.size 34 3 v' (pre.length + 1) (tC pre ++ tC [x])) (hg : W.grownBy w1 v.ownBlock) :
    Bx w1 B v ∧ WI w0 B gr gl r Lc (pre ++ [x]) (w1.setCell ⟨B, 0, none⟩ v') ∧ KeepsOthers W (w1.setCell ⟨B, 0, none⟩ v') := by
  obtain ⟨h1, _, h4, h5, h6, h7⟩ := h
  have b1 : Bx w1 B v := (hg.block B (lt_of hv) (bx_not_row hv hrow)).trans hv
  have hs : w1.grownBy (w1.setCell ⟨B, 0, none⟩ v') (some B) := grownBy_setCell' w1 B v'
  have r4 : w1.heap[gr]? = some (.cells (M.mat 4 r).toArray 25 (0, 0)) := (hg.block gr (lt_of h4) (cells_not_row h4 (by decide) hrow)).trans h4
  have r5 : w1.heap[gl]? = some (.cells Lc.toArray 52 (0, 0)) := (hg.block gl (lt_of h5) (cells_not_row h5 (by decide) hrow)).trans h5
  have n4 : some gr ≠ some B := fun e => by
    have e' : gr = B := Option.some.inj e
    subst e'
    unfold Bx at b1
    rw [b1] at r4
    simp at r4
  have n5 : some gl ≠ some B := fun e => by
    have e' : gl = B := Option.some.inj e
    subst e'
    unfold Bx at b1
    rw [b1] at r5
    simp at r5
  refine ⟨b1, ⟨grown_below (grown_below h1 h1.size hg (fun q e => ?_)) (Nat.le_trans h1.size hg.size) hs (fun q e => by cases e; exact h6), ⟨v', Boxed.set (t := 30) v' b1, ?_⟩, (hs.block gr (lt_of r4) n4).trans r4, (hs.block gl (lt_of r5) n5).trans r5, h6, fun y hy => ?_⟩, (KeepsOthers.of_grownBy hg (fun j o e hj => ?_)).trans (KeepsOthers.setCell _ _ _)⟩
  · exact (hrow.lt q e).1
  · rw [tC_app, List.length_append]
    exact hown.kept hs (.inr (bx_not_row b1 hown).symm)
  · rcases List.mem_append.1 hy with hy | hy
    · exact h7 y hy
    · rw [List.mem_singleton.1 hy]
      exact hx
  · rcases hrow.2 with ⟨rfl, _⟩ | ⟨b, cap, cur, rfl, _, hb, _⟩
    · simp [Value.ownBlock] at e
    · have e' : b = j := by simpa [Value.ownBlock] using e
      subst e'
      rw [hb] at hj
      cases hj
      rfl
/-- What is handed back. -/
theorem WI.ret (h : WI w0 B gr gl r Lc pre W) (hv : Bx W B v) : RetT w0 pre (.returned v) W := by
  obtain ⟨h1, ⟨u, h2, h3⟩, _⟩ := h
  obtain rfl : u = v := by
    unfold Bx at hv h2
    rw [hv] at h2
    simpa using h2.symm
  obtain ⟨A, c, hA, hl⟩ := row_lies (R := ⟨u, 34, 3, pre.length, tC pre⟩) (w0 := w0) (w := W) h3
  dsimp only at hA
  subst hA
  exact ⟨A, c, rfl, hl free (fun _ _ h => h), h1⟩
theorem keeps_below {D : Nat} (h : Below W.heap.size W W') : KeepsFrom D W W' := ⟨h.size, fun k o _ hk _ => (h.block k (lt_of hk)).trans hk⟩
end
end Go.Proofs.Ytheolajpjpnfjaa
