/- How spans hands back what a command's numbers may be. -/
import Derived.Test.YtaegekmfndcflaaRep
namespace Go.Proofs.Ytaegekmfndcflaa
open Go.ChangeShapes Go.WideShapes Go.ChangeAt Go.RowKit
set_option linter.unusedVariables false

/-- How what a command's numbers may be is handed back. -/
def RetTab (w : World) (o : Option (List (Int × Int))) (e : Ending) (w' : World) : Prop :=
  ∃ A c, e = .returned (.tuple #[.slice A (o.getD []).length c, .bool o.isSome]) ∧ Reads w' w'.heap.size 2 A (o.getD []).length (pairs (o.getD [])) ∧ Below w.heap.size w w'
theorem tab_empty {w w' : World} {op : Int} (h : P.tab op = some []) (hb : Below w.heap.size w w') : RetTab w (P.tab op) (.returned (.tuple #[.slice none 0 0, .bool true])) w' := by
  rw [h]
  exact ⟨none, 0, rfl, Reads.none_, hb⟩
theorem tab_none {w w' : World} {op : Int} (h : P.tab op = none) (hb : Below w.heap.size w w') : RetTab w (P.tab op) (.returned (.tuple #[.slice none 0 0, .bool false])) w' := by
  rw [h]
  exact ⟨none, 0, rfl, Reads.none_, hb⟩
theorem tab_lit {w w' : World} {op : Int} {g n c : Nat} (b : List (Int × Int)) (h : P.tab op = some b) (hn : n = b.length) (hg : w'.heap[g]? = some (.cells (pairs b).toArray 51 (0, 0))) (hb : Below w.heap.size w w') :
    RetTab w (P.tab op) (.returned (.tuple #[.slice (some ⟨g, 0, none⟩) n c, .bool true])) w' := by
  subst hn
  rw [h]
  exact ⟨_, _, rfl, reads_block hg, hb⟩
theorem tab_same {w w' : World} {op : Int} {A : Option Addr} {n c : Nat} (b : List (Int × Int)) (h : P.tab op = some b) (hn : n = b.length) (hr : Reads w' w'.heap.size 2 A b.length (pairs b)) (hb : Below w.heap.size w w') :
    RetTab w (P.tab op) (.returned (.tuple #[.slice A n c, .bool true])) w' := by
  subst hn
  rw [h]
  exact ⟨_, _, rfl, hr, hb⟩
/-- The world behind spans' four variables. -/
def four_ (w : World) : World := (((w.alloc (.cells #[.int .i64 0, .int .i64 1] 51)).alloc (.cells #[.int .i64 (-9223372036854775808), .int .i64 9223372036854775807] 51)).alloc (.cells #[.int .i64 (-8192), .int .i64 8192] 51)).alloc (.cells #[.int .i64 (-32768), .int .i64 32768] 51)
theorem four (w : World) : Below w.heap.size w ((((w.alloc (.cells #[.int .i64 0, .int .i64 1] 51)).alloc (.cells #[.int .i64 (-9223372036854775808), .int .i64 9223372036854775807] 51)).alloc (.cells #[.int .i64 (-8192), .int .i64 8192] 51)).alloc (.cells #[.int .i64 (-32768), .int .i64 32768] 51)) := ((((Below.refl _ w).alloc (Nat.le_refl _) _).alloc (by simp) _).alloc (by simp; omega) _).alloc (by simp; omega) _
theorem alloc_at {W : World} {n : Nat} (h : W.heap.size = n) (o : Obj) : (W.alloc o).heap[n]? = some o := by
  subst h
  exact heap_alloc_new W o
theorem new_cell {W : World} {n : Nat} (h : W.heap.size = n) (cs : Array Value) (t : TypeId) (i : Nat) : (W.alloc (.cells cs t)).cell? ⟨n, i, none⟩ = cs[i]? :=
  cell_of_row _ n i cs t (0, 0) (alloc_at h _)
end Go.Proofs.Ytaegekmfndcflaa
