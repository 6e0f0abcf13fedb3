/- Many times the same number. -/
import Derived.Test.YtaegekmfndcflaaAwake
import Derived.Test.YtaegekmfndcflaaMb
namespace Go.Proofs.Ytaegekmfndcflaa
open Go.ChangeShapes Go.WideShapes Go.ChangeAt Go.RowKit
set_option linter.unusedVariables false

/-- make([]int, n). -/
theorem make_ints (n : Nat) (hn : n ≤ 100000) : ∃ Z : Array Value, Z = (ints (List.replicate n 0)).toArray ∧ ∀ w : World, (Instr.makeSlice 28 (.int .i64 (n : Int)) (.int .i64 (n : Int))).run Try.prog w = .ok (.slice (some ⟨w.heap.size, 0, none⟩) n n) (w.alloc (.cells Z 3)) := by
  obtain ⟨i0, hi0, hz0, hz1, hz2⟩ := info_parts int_info
  have e : madeCells (Value.int .i64 0).cells (n * 1) = (ints (List.replicate n 0)).toArray := by
    apply Array.ext'
    apply List.ext_getElem
    · simp [madeCells, ints]
    · intro i h1 h2
      simp [madeCells, ints, Value.cells, Nat.mod_one]
  refine ⟨_, e, fun w => ?_⟩
  have := run_make (P := Try.prog) w 28 3 i0 (.int .i64 0) Try.underlying28 hi0 hz0 .i64 .i64 (n : Int) (n : Int) (by omega) (by omega) (by rw [hz2]; omega) (by omega)
  rw [Int.toNat_natCast, hz1] at this
  exact this
/-- n numbers of which i are 18. -/
def part (n i : Nat) : List Int := List.replicate i 18 ++ List.replicate (n - i) 0
theorem part_len {n i : Nat} (h : i ≤ n) : (part n i).length = n := by simp [part]; omega
theorem part_set {n i : Nat} (h : i < n) : (ints (part n i)).toArray.setIfInBounds i (.int .i64 18) = (ints (part n (i + 1))).toArray := by
  have e : (part n i).set i 18 = part n (i + 1) := by
    unfold part
    rw [List.set_append_right _ _ (by simp), List.length_replicate, Nat.sub_self, show n - i = n - (i + 1) + 1 by omega, List.replicate_succ, List.set_cons_zero, List.replicate_succ' (n := i), List.append_assoc]
    rfl
  rw [← e]
  simp [ints, List.map_set]
theorem part_last {n : Nat} (h : 0 < n) : (ints (part n n)).toArray.setIfInBounds (n - 1) (.int .i64 0) = (ints (List.replicate (n - 1) 18 ++ [0])).toArray := by
  have e : (part n n).set (n - 1) 0 = List.replicate (n - 1) 18 ++ [0] := by
    unfold part
    rw [Nat.sub_self, List.replicate_zero, List.append_nil]
    obtain ⟨m, rfl⟩ : ∃ m, n = m + 1 := ⟨n - 1, by omega⟩
    rw [List.replicate_succ', Nat.add_sub_cancel, List.set_append_right _ _ (by simp), List.length_replicate, Nat.sub_self]
    rfl
  rw [← e]
  simp [ints, List.map_set]
theorem part_all (n : Nat) : part n n = List.replicate n 18 := by simp [part]
theorem store_row {w : World} {g i : Nat} {cur : Array Value} {t : TypeId} (h : w.heap[g]? = some (.cells cur t (0, 0))) (v : Value) : (w.setCell ⟨g, i, none⟩ v).heap[g]? = some (.cells (cur.setIfInBounds i v) t (0, 0)) := by
  rw [setCell_eq_setRow w g i cur t (0, 0) v h]
  exact setRow_heap w g cur _ t _ h
theorem reads_ints {w : World} {g : Nat} {l : List Int} (h : w.heap[g]? = some (.cells (ints l).toArray 3 (0, 0))) : Reads w w.heap.size 1 (some ⟨g, 0, none⟩) l.length (ints l) where
  len := ints_len l
  lies := fun _ => ⟨_, rfl, (Array.getElem?_eq_some_iff.1 h).1, fun j u hu => by
    rw [add_zero_block, cell_of_row w g j _ _ _ h]
    simpa using hu⟩
end Go.Proofs.Ytaegekmfndcflaa
