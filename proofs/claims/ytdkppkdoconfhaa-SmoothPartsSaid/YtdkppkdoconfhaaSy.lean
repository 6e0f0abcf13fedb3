/- Types: span, row, strip; elements of a row. -/
import Derived.Test.YtdkppkdoconfhaaSu
import Derived.Test.YtdkppkdoconfhaaTw
namespace Go.Proofs.Ytdkppkdoconfhaa
open Go.ChangeShapes Go.WideShapes Go.ChangeAt Go.RowKit
set_option linter.unusedVariables false
set_option linter.unusedSimpArgs false

theorem sizeN18 : (Try.prog.info? 62).map (·.size) = some 2 := by kernel_rfl
theorem sN18 (a : Nat → Int) : (Try.prog.info? 62).map (·.size) = some (M.mat 2 a).length := by rw [M.mat_len]; exact sizeN18
theorem zeroN18 : (Try.prog.info? 62).map (·.zero) = some (some (.agg (M.mat 2 M.zero).toArray)) := by kernel_rfl
theorem sizeV18 : (Try.prog.info? 65).map (·.size) = some 16 := by kernel_rfl
theorem sV18 (a : Nat → Int) : (Try.prog.info? 65).map (·.size) = some (M.mat 16 a).length := by rw [M.mat_len]; exact sizeV18
theorem zeroV18 : (Try.prog.info? 65).map (·.zero) = some (some (.agg (M.mat 16 M.zero).toArray)) := by kernel_rfl
theorem sizeY18 : (Try.prog.info? 59).map (·.size) = some 5 := by kernel_rfl
theorem sY18 (a : Nat → Int) : (Try.prog.info? 59).map (·.size) = some (M.mat 5 a).length := by rw [M.mat_len]; exact sizeY18
theorem zeroY18 : (Try.prog.info? 59).map (·.zero) = some (some (.agg (M.mat 5 M.zero).toArray)) := by kernel_rfl
theorem builtN18 (x y : Int) : Try.prog.built 62 [(0, .int .i64 x), (1, .int .i64 y)] = some (M.mat 2 (SP.mk x y)).toArray := by kernel_rfl
theorem builtY18 (a b c d e : Int) : Try.prog.built 59 [(0, .int .i64 a), (1, .int .i64 b), (2, .int .i64 c), (3, .int .i64 d), (4, .int .i64 e)] = some (M.mat 5 (SP.st5 a b c d e)).toArray := by kernel_rfl
theorem builtY2 (a b : Int) : Try.prog.built 59 [(0, .int .i64 a), (1, .int .i64 b)] = some (M.mat 5 (SP.st5 a b 0 0 0)).toArray := by kernel_rfl
theorem builtR18 (a b c d : Int) : Try.prog.built 27 [(0, .int .i64 a), (1, .int .i64 b), (2, .int .i64 c), (3, .int .i64 d)] = some (M.mat 4 (RC.mk a b c d)).toArray := by kernel_rfl
theorem aggN18 (w : World) : (isAgg 62).run Try.prog w = .ok true w := by kernel_rfl
theorem sizeOfN18 (w : World) : (sizeOf 62).run Try.prog w = .ok 2 w := by kernel_rfl
theorem cut_two (L : List Value) (k : Nat) : L.toArray.extract k (k + 2) = ((L.drop k).take 2).toArray := by
  simp [List.extract]
/-- An element of a row by value. -/
theorem run_index_span (r : Nat → Int) {i : Nat} (h : i < 8) (w : World) : (Instr.index 65 (arr 16 r) (.int .i64 i)).run Try.prog w = .ok (arr 2 (D.sub (i * 2) r)) w := by
  have hu : Try.prog.underlying 65 = some (.array 8 62) := Try.underlying65
  have h1 : (0 : Int) ≤ i ∧ (i : Int) < 8 := by omega
  have hp : (part 62 (M.mat 16 r).toArray (i * 2)).run Try.prog w = .ok (arr 2 (D.sub (i * 2) r)) w := by
    simp only [part, Sem.run_bind, aggN18 w, Result.andThen_ok, if_true, sizeOfN18 w, Sem.run_pure]
    rw [cut_two, mat_cut (n := 16) (k := i * 2) (m := 2) r (by omega)]
  unfold Instr.index
  simp [asIntOf, Sem.run_bind, run_underlying hu, h1, sizeOfN18, hp, show ¬ 8 ≤ i by omega]
theorem wp_index_span {ops : Array Oper} {Q : Exit → Act → World → Prop} {a : Act} {w : World} {dst : Option Tmp} {ty : TypeId} {pos : String} {after : Array Edge} {K : Act → World → Prop} {x y : Operand} {gd : Option (Nat × Bool)} (r : Nat → Int) (i : Nat) (hi : i < 8) (hx : a.eval x = arr 16 r) {z : Int} (hy : a.eval y = .int .i64 z) (hz : z = (i : Int)) (h : K (a.put dst (arr 2 (D.sub (i * 2) r))) w) : Oper.wp Try.prog ⟨dst, .index 65 x y, ty, pos, after, gd⟩ a w K Q := by
  subst hz
  unfold Oper.wp execOp
  simp only [hx, hy, Sem.run_bind, run_index_span r hi w, Result.andThen_ok]
  exact h
section
variable {P : Program} {ops : Array Oper} {Q : Exit → Act → World → Prop} {a : Act} {w w0 : World} {rest : List Oper} {bs : List (Nat × TypeId × List Value)} {dst : Option Tmp} {ty : TypeId} {pos : String} {after : Array Edge} {K : Act → World → Prop}
theorem at_vindex (d : Nat) {t : TypeId} {x y : Operand} {gd : Option (Nat × Bool)} (h : wpList P ops Q (⟨some d, .index t x y, ty, pos, after, gd⟩ :: rest) a w) : wpList P ops Q (⟨some d, .index t x y, ty, pos, after, gd⟩ :: rest) a w := h
theorem wpList_index_span {x y : Operand} (r : Nat → Int) (i : Nat) (hi : i < 8) (hx : a.eval x = arr 16 r) {z : Int} (hy : a.eval y = .int .i64 z) (hz : z = (i : Int)) (h : wpList Try.prog ops Q rest (a.put dst (arr 2 (D.sub (i * 2) r))) w) : wpList Try.prog ops Q (⟨dst, .index 65 x y, ty, pos, after, none⟩ :: rest) a w :=
  wpList_plain rfl fun K hK => wp_index_span (ops := ops) r i hi hx hy hz (hK _ _ h)
/-- The address of an element of two cells. -/
theorem wp_ino2 {t e : TypeId} {x y : Operand} {gd : Option (Nat × Bool)} {n : Nat} (hu : P.underlying t = some (.array n e)) (hs : ∀ w, (sizeOf e).run P w = .ok 2 w) (hn : 1 < n) {g : Nat} {kd : IntKind} {z : Int} (i : Nat)
    (hx : a.eval x = .pointer (some ⟨g, 0, none⟩)) (hy : a.eval y = .int kd z) (hz : z = (i : Int)) (hi : i < n) (h : K (a.put dst (.pointer (some ⟨g, i * 2, none⟩))) w) : Oper.wp P ⟨dst, .indexAddr t x y, ty, pos, after, gd⟩ a w K Q := by
  subst hz
  have hr : (Instr.indexAt t (.pointer (some ⟨g, 0, none⟩)) (.int kd i)).run P w = .ok (.pointer (some ⟨g, i * 2, none⟩)) w := by
    have h1 : (0 : Int) ≤ i ∧ (i : Int) < n := by omega
    unfold Instr.indexAt
    simp [asIntOf, Sem.run_bind, run_underlying hu, Instr.sureAddr, hs w, add_zero_off, show ¬ n ≤ i by omega, show ¬ n ≤ 1 by omega]
  unfold Oper.wp execOp
  simp only [hx, hy, Sem.run_bind, hr, Result.andThen_ok]
  exact h
/-- Some cells in the midst of a block. -/
theorem wp_putmid_own {t : TypeId} {x y : Operand} {gd : Option (Nat × Bool)} (O : Own w0 w bs) (k : Nat) {g o : Nat} {t' : TypeId} {cs : List Value} (ds es : List Value) (hk : bs[k]? = some (g, t', cs)) (hx : a.eval x = .pointer (some ⟨g, o, none⟩))
    (hy : a.eval y = .agg ds.toArray) (hi : (P.info? t).map (·.size) = some ds.length) (hl : o + ds.length ≤ cs.length) (h1 : ∀ v ∈ ds, v.oneCell' = true) (he : cs.take o ++ ds ++ cs.drop (o + ds.length) = es)
    (h : ∀ w1, Own w0 w1 (bs.set k (g, t', es)) → K (a.put dst undef) w1) : Oper.wp P ⟨dst, .store t x y, ty, pos, after, gd⟩ a w K Q := by
  have hst := run_storeCells_at P g o t' ds 0 cs.toArray w (O.blk k hk) (by simpa using hl) h1
  have hst2 : (storeVar t ⟨g, o, none⟩ (.agg ds.toArray)).run P w = .ok () (w.setRow g es.toArray) := by
    cases hq : P.info? t with
    | none => simp [hq] at hi
    | some j =>
      have hs : ds.length = j.size := by simp [hq] at hi; omega
      simp only [Nat.add_zero, List.toList_toArray, he] at hst
      simp [storeVar, sizeOf, typeInfo, hq, Value.cells, hs, hst]
  unfold Oper.wp execOp
  simp only [hx, hy, Instr.storeAt, Instr.sureAddr, Sem.run_bind, Sem.run_pure, Result.andThen_ok, hst2]
  exact h _ (O.setRow k hk es)
end
/-- One more element of a row. -/
theorem row_put {r s : Nat → Int} {k : Nat} (hk : k < 8) (h0 : s 0 = r (2 * k)) (h1 : s 1 = r (2 * k + 1)) : (M.mat 16 (SP.rowk r k)).take (k * 2) ++ M.mat 2 s ++ (M.mat 16 (SP.rowk r k)).drop (k * 2 + (M.mat 2 s).length) = M.mat 16 (SP.rowk r (k + 1)) := by
  apply List.ext_getElem?
  intro i
  rw [List.append_assoc, List.getElem?_append, List.length_take, M.mat_len, M.mat_len, Nat.min_eq_left (by omega)]
  by_cases hi : i < k * 2
  · rw [if_pos hi, List.getElem?_take, if_pos hi, M.mat_get (by omega), M.mat_get (by omega), SP.rowk, SP.rowk, if_pos (by omega), if_pos (by omega)]
  · rw [if_neg hi, List.getElem?_append, M.mat_len]
    by_cases hj : i - k * 2 < 2
    · rw [if_pos hj, M.mat_get hj, M.mat_get (by omega), SP.rowk, if_pos (by omega)]
      rcases (by omega : i = 2 * k ∨ i = 2 * k + 1) with rfl | rfl
      · rw [show 2 * k - k * 2 = 0 by omega, h0]
      · rw [show 2 * k + 1 - k * 2 = 1 by omega, h1]
    · rw [if_neg hj, List.getElem?_drop, show k * 2 + 2 + (i - k * 2 - 2) = i by omega]
      by_cases hl : i < 16
      · rw [M.mat_get hl, M.mat_get hl, SP.rowk, SP.rowk, if_neg (by omega), if_neg (by omega)]
      · rw [List.getElem?_eq_none (by rw [M.mat_len]; omega), List.getElem?_eq_none (by rw [M.mat_len]; omega)]
theorem row_start (r : Nat → Int) : M.mat 16 M.zero = M.mat 16 (SP.rowk r 0) := by
  refine M.mat_ext fun i hi => ?_
  rw [SP.rowk, if_neg (by omega)]
  rfl
theorem row_end (r : Nat → Int) : M.mat 16 (SP.rowk r 8) = M.mat 16 r := by
  refine M.mat_ext fun i hi => ?_
  rw [SP.rowk, if_pos (by omega)]
end Go.Proofs.Ytdkppkdoconfhaa
