/- Types: rectangles, arrays of four and of two numbers. -/
import Derived.Test.YthioeohmnlppcaaL2
import Derived.Test.YthioeohmnlppcaaRp
namespace Go.Proofs.Ythioeohmnlppcaa
open Go.ChangeShapes Go.WideShapes Go.ChangeAt Go.RowKit
set_option linter.unusedVariables false
set_option linter.unusedSimpArgs false

theorem sizeR : (Try.prog.info? 23).map (·.size) = some 4 := by kernel_rfl
theorem sR (a : Nat → Int) : (Try.prog.info? 23).map (·.size) = some (M.mat 4 a).length := by rw [M.mat_len]; exact sizeR
theorem zeroR : (Try.prog.info? 23).map (·.zero) = some (some (.agg (M.mat 4 M.zero).toArray)) := by kernel_rfl
theorem sizeQ : (Try.prog.info? 42).map (·.size) = some 4 := by kernel_rfl
theorem sQ (a : Nat → Int) : (Try.prog.info? 42).map (·.size) = some (M.mat 4 a).length := by rw [M.mat_len]; exact sizeQ
theorem zeroQ : (Try.prog.info? 42).map (·.zero) = some (some (.agg (M.mat 4 M.zero).toArray)) := by kernel_rfl
theorem sizeD : (Try.prog.info? 24).map (·.size) = some 2 := by kernel_rfl
theorem sD (a : Nat → Int) : (Try.prog.info? 24).map (·.size) = some (M.mat 2 a).length := by rw [M.mat_len]; exact sizeD
theorem zeroD : (Try.prog.info? 24).map (·.zero) = some (some (.agg (M.mat 2 M.zero).toArray)) := by kernel_rfl
theorem sizeOfR (w : World) : (sizeOf 23).run Try.prog w = .ok 4 w := by kernel_rfl
theorem infoR : (Try.prog.info? 23).map (fun i => (i.zero, i.size)) = some (some (.agg (M.mat 4 M.zero).toArray), 4) := by kernel_rfl
theorem infoRb : (Try.prog.info? 23).map (fun i => (i.zero, i.size, i.bytes)) = some (some (.agg (M.mat 4 M.zero).toArray), 4, 32) := by kernel_rfl
theorem builtR (x0 y0 x1 y1 : Int) : Try.prog.built 23 [(0, .int .i64 x0), (1, .int .i64 y0), (2, .int .i64 x1), (3, .int .i64 y1)] = some (M.mat 4 (RC.mk x0 y0 x1 y1)).toArray := by kernel_rfl
theorem builtRz : Try.prog.built 23 [] = some (M.mat 4 M.zero).toArray := by kernel_rfl
theorem builtQ (x0 y0 x1 y1 : Int) : Try.prog.built 42 [(0, .int .i64 x0), (1, .int .i64 y0), (2, .int .i64 x1), (3, .int .i64 y1)] = some (M.mat 4 (RC.mk x0 y0 x1 y1)).toArray := by kernel_rfl
theorem cell_is {n i : Nat} {a : Nat → Int} {z : Int} (h : a i = z) (hi : i < n) : Hid ((M.mat n a)[i]? = some (.int .i64 z)) := Lib.hid (by rw [← h]; exact M.mat_get hi)
theorem run_eqR (a b : Nat → Int) (w : World) : (Op.equalIn 10000 23 (arr 4 a) (arr 4 b)).run Try.prog w = .ok (M.eqB 4 a b) w := by
  have hf : (Try.prog.fieldsOf 23).toList = [⟨"X0", 3, 0, false, "", "", 0⟩, ⟨"Y0", 3, 1, false, "", "", 8⟩, ⟨"X1", 3, 2, false, "", "", 16⟩, ⟨"Y1", 3, 3, false, "", "", 24⟩] := by kernel_rfl
  rw [show (10000 : Nat) = 9997 + 2 + 1 from rfl, run_equalIn_struct w (9997 + 2) 23 _ _ (by kernel_rfl) Try.stoodInHeld23, hf,
    eqF_int (d := 9997 + 1) w (by decide) rfl 0 rfl (by decide), eqF_int (d := 9997 + 1) w (by decide) rfl 1 rfl (by decide), eqF_int (d := 9997 + 1) w (by decide) rfl 2 rfl (by decide), eqF_int (d := 9997 + 1) w (by decide) rfl 3 rfl (by decide)]
  have e : M.eqB 4 a b = ((a 0 == b 0) && ((a 1 == b 1) && ((a 2 == b 2) && (a 3 == b 3)))) := by
    rw [Bool.eq_iff_iff]
    simp only [Bool.and_eq_true, M.eqB_iff, beq_iff_eq]
    refine ⟨fun h => ⟨h 0 (by omega), h 1 (by omega), h 2 (by omega), h 3 (by omega)⟩, fun ⟨h0, h1, h2, h3⟩ i hi => ?_⟩
    rcases (by omega : i = 0 ∨ i = 1 ∨ i = 2 ∨ i = 3) with rfl | rfl | rfl | rfl
    · exact h0
    · exact h1
    · exact h2
    · exact h3
  rw [e]
  cases h0 : a 0 == b 0
  · simp
  cases h1 : a 1 == b 1
  · simp
  cases h2 : a 2 == b 2
  · simp
  cases h3 : a 3 == b 3
  · simp
  · simp [Op.eqFields]
section
variable {ops : Array Oper} {Q : Exit → Act → World → Prop} {a : Act} {w : World} {rest : List Oper} {dst : Option Tmp} {ty : TypeId} {pos : String} {after : Array Edge} {K : Act → World → Prop}
theorem wp_eqR {t' : TypeId} {x y : Operand} {gd : Option (Nat × Bool)} (p q : Nat → Int) (hx : a.eval x = arr 4 p) (hy : a.eval y = arr 4 q)
    (h : K (a.put dst (.bool (M.eqB 4 p q))) w) : Oper.wp Try.prog ⟨dst, .binOp .eql 23 x y t', ty, pos, after, gd⟩ a w K Q := by
  unfold Oper.wp execOp
  simp only [hx, hy, Sem.run_bind, run_eqGuard_agg _ _ _ _ _ _ _ Try.eqGuardType23, run_eql_struct, run_eqR, Result.andThen_ok]
  exact h
theorem wpList_eqR {t' : TypeId} {x y : Operand} {gd : Option (Nat × Bool)} (hw : Region.wanted ⟨dst, .binOp .eql 23 x y t', ty, pos, after, gd⟩ (yielded ops a.tmps) = true) (p q : Nat → Int) (hx : a.eval x = arr 4 p) (hy : a.eval y = arr 4 q)
    (h : wpList Try.prog ops Q rest (a.put dst (.bool (M.eqB 4 p q))) w) : wpList Try.prog ops Q (⟨dst, .binOp .eql 23 x y t', ty, pos, after, gd⟩ :: rest) a w :=
  wpList_step fun K hK => by rw [if_pos hw]; exact wp_eqR p q hx hy (hK _ _ h)
theorem wp_neqR {t' : TypeId} {x y : Operand} {gd : Option (Nat × Bool)} (p q : Nat → Int) (hx : a.eval x = arr 4 p) (hy : a.eval y = arr 4 q)
    (h : K (a.put dst (.bool (!M.eqB 4 p q))) w) : Oper.wp Try.prog ⟨dst, .binOp .neq 23 x y t', ty, pos, after, gd⟩ a w K Q := by
  unfold Oper.wp execOp
  simp only [hx, hy, Sem.run_bind, run_eqGuard_agg _ _ _ _ _ _ _ Try.eqGuardType23, run_neq_struct, run_eqR, Result.andThen_ok]
  exact h
end
end Go.Proofs.Ythioeohmnlppcaa
