/- Contract of rows: the document's table in memory. -/
import Derived.Test.YtaegekmfndcflaaTab
namespace Go.Proofs.Ytaegekmfndcflaa
open Go.ChangeShapes Go.WideShapes Go.ChangeAt Go.RowKit
set_option linter.unusedVariables false

/-- A list of numbers as cells. -/
def ints (l : List Int) : List Value := l.map (Value.int .i64)
theorem ints_one (l : List Int) : ∀ u ∈ ints l, u.oneCell' = true := by
  intro u hu
  rcases List.mem_map.1 hu with ⟨b, _, rfl⟩
  rfl
theorem ints_app (a b : List Int) : ints (a ++ b) = ints a ++ ints b := by simp [ints]
theorem ints_len (l : List Int) : (ints l).length = l.length * 1 := by simp [ints]
theorem ints_get {l : List Int} {i : Nat} (h : i < l.length) : (ints l)[i]? = some (.int .i64 l[i]) := by simp [ints, h]
/-- Rows laid one behind the other. -/
def laidRows (w : World) (l : List (List Int)) : World := l.foldl (fun W r => W.alloc (.cells (ints r).toArray 3)) w
theorem laidRows_spec : ∀ (l : List (List Int)) (w : World), (laidRows w l).heap.size = w.heap.size + l.length ∧ Below w.heap.size w (laidRows w l) ∧ ∀ i (h : i < l.length), (laidRows w l).heap[w.heap.size + i]? = some (.cells (ints l[i]).toArray 3 (0, 0))
  | [], w => ⟨rfl, Below.refl _ _, fun i h => absurd h (by simp)⟩
  | r :: l, w => by
    obtain ⟨h1, h2, h3⟩ := laidRows_spec l (w.alloc (.cells (ints r).toArray 3))
    have e : laidRows w (r :: l) = laidRows (w.alloc (.cells (ints r).toArray 3)) l := rfl
    have z : (w.alloc (.cells (ints r).toArray 3)).heap.size = w.heap.size + 1 := by simp
    rw [z] at h1 h2 h3
    rw [e]
    refine ⟨by rw [h1, List.length_cons]; omega, ((Below.refl _ w).alloc (Nat.le_refl _) _).trans (h2.mono (by omega)), fun i h => ?_⟩
    rcases i with _ | i
    · rw [Nat.add_zero, h2.block w.heap.size (by omega)]
      exact alloc_at rfl _
    · have := h3 i (by simpa using h)
      rw [show w.heap.size + (i + 1) = w.heap.size + 1 + i by omega]
      simpa using this
/-- The table's own row: a slice of each. -/
def heads (n : Nat) : Nat → List (List Int) → List Value
  | _, [] => []
  | i, r :: l => .slice (some ⟨n + i, 0, none⟩) r.length r.length :: heads n (i + 1) l
theorem heads_at (n : Nat) : ∀ (l : List (List Int)) (j i : Nat) (h : i < l.length), (heads n j l)[i]? = some (.slice (some ⟨n + (j + i), 0, none⟩) l[i].length l[i].length)
  | r :: l, j, 0, _ => rfl
  | r :: l, j, i + 1, h => by
    have := heads_at n l (j + 1) i (by simpa using h)
    rw [show j + (i + 1) = j + 1 + i by omega]
    simpa [heads] using this
def tableWorld (w : World) : World := (laidRows w P.table).alloc (.cells (heads w.heap.size 0 P.table).toArray 28)
/-- The table lies at block g. -/
def TableAt (w : World) (B g : Nat) : Prop := g < B ∧ ∀ i (h : i < P.table.length), ∃ ad : Addr, w.cell? ⟨g, i, none⟩ = some (.slice (some ad) P.table[i].length P.table[i].length) ∧ ad.block < B ∧ ∀ j (h' : j < P.table[i].length), w.cell? (ad.add j) = some (.int .i64 P.table[i][j])
theorem TableAt.below {w w' : World} {B g : Nat} (h : TableAt w B g) (hb : Below B w w') : TableAt w' B g := by
  refine ⟨h.1, fun i hi => ?_⟩
  obtain ⟨ad, h1, h2, h3⟩ := h.2 i hi
  exact ⟨ad, (hb.cell (p := ⟨g, i, none⟩) h.1).trans h1, h2, fun j hj => (hb.cell (by rw [block_of_add]; exact h2)).trans (h3 j hj)⟩
theorem add_zero_block (b j : Nat) : (⟨b, 0, none⟩ : Addr).add j = ⟨b, j, none⟩ := by unfold Addr.add; split <;> simp_all
theorem table_world (w : World) : Below w.heap.size w (tableWorld w) ∧ TableAt (tableWorld w) (tableWorld w).heap.size (w.heap.size + 32) := by
  obtain ⟨h1, h2, h3⟩ := laidRows_spec P.table w
  have hl : P.table.length = 32 := by decide
  rw [hl] at h1
  have z : (tableWorld w).heap.size = w.heap.size + 33 := by unfold tableWorld; simp [h1]
  refine ⟨h2.alloc h2.size _, by rw [z]; omega, fun i hi => ?_⟩
  refine ⟨⟨w.heap.size + i, 0, none⟩, ?_, by rw [z]; dsimp only; omega, fun j hj => ?_⟩
  · have := heads_at w.heap.size P.table 0 i hi
    rw [Nat.zero_add] at this
    unfold tableWorld
    rw [new_cell h1]
    simpa using this
  · have e : (tableWorld w).heap[w.heap.size + i]? = some (.cells (ints P.table[i]).toArray 3 (0, 0)) := (Below.heap_alloc _ _ _ (by rw [h1]; omega)).trans (h3 i hi)
    rw [add_zero_block, cell_of_row _ _ j _ _ _ e]
    simpa using ints_get hj
set_option maxRecDepth 100000 in
set_option maxHeartbeats 2000000 in
theorem rows_any (w : World) : Calls Try.prog 28 #[] w fun e w' => ∃ g, e = .returned (.slice (some ⟨g, 0, none⟩) 32 32) ∧ TableAt w' w'.heap.size g ∧ Below w.heap.size w w' := by
  have T := Lib.hid (table_world w)
  go_enter Try.func28, Try.ntmps28
  go_wp2_with fail
  go_ret
  exact ⟨w.heap.size + 32, rfl, T.out.2, T.out.1⟩
end Go.Proofs.Ytaegekmfndcflaa
