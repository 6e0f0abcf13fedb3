/- Equality of fragments, of rectangles. -/
import Derived.Test.YtlmgilcigbnbaaaSw
namespace Go.Proofs.Ytlmgilcigbnbaaa
open Go.ChangeShapes Go.WideShapes Go.ChangeAt Go.RowKit
set_option linter.unusedVariables false
set_option linter.unusedSimpArgs false

set_option maxRecDepth 100000
theorem run_eqR (a b : Nat → Int) (w : World) : (Op.equalIn 10000 27 (arr 4 a) (arr 4 b)).run Try.prog w = .ok (M.eqB 4 a b) w := by
  have hf : (Try.prog.fieldsOf 27).toList = [⟨"X0", 3, 0, false, "", "", 0⟩, ⟨"Y0", 3, 1, false, "", "", 8⟩, ⟨"X1", 3, 2, false, "", "", 16⟩, ⟨"Y1", 3, 3, false, "", "", 24⟩] := by kernel_rfl
  rw [show (10000 : Nat) = 9997 + 2 + 1 from rfl, run_equalIn_struct w (9997 + 2) 27 _ _ (by kernel_rfl) Try.stoodInHeld27, hf,
    eqF_int (d := 9997 + 1) w (by decide) rfl 0 rfl (by decide), eqF_int (d := 9997 + 1) w (by decide) rfl 1 rfl (by decide), eqF_int (d := 9997 + 1) w (by decide) rfl 2 rfl (by decide), eqF_int (d := 9997 + 1) w (by decide) rfl 3 rfl (by decide)]
  have e : M.eqB 4 a b = ((a 0 == b 0) && ((a 1 == b 1) && ((a 2 == b 2) && (a 3 == b 3)))) := by
    rw [Bool.eq_iff_iff]
    simp only [Bool.and_eq_true, M.eqB_iff, beq_iff_eq]
    refine ⟨fun h => ⟨h 0 (by omega), h 1 (by omega), h 2 (by omega), h 3 (by omega)⟩, fun ⟨h0, h1, h2, h3⟩ i hi => ?_⟩
    rcases (by omega : i = 0 ∨ i = 1 ∨ i = 2 ∨ i = 3) with rfl | rfl | rfl | rfl
    · exact h0
    · exact h1
    · exact h2
    · exact h3
  rw [e]
  cases h0 : a 0 == b 0
  · simp
  cases h1 : a 1 == b 1
  · simp
  cases h2 : a 2 == b 2
  · simp
  cases h3 : a 3 == b 3
  · simp
  · simp [Op.eqFields]
section
variable {ops : Array Oper} {Q : Exit → Act → World → Prop} {a : Act} {w : World} {rest : List Oper} {dst : Option Tmp} {ty : TypeId} {pos : String} {after : Array Edge} {K : Act → World → Prop}
theorem wp_eqR {t' : TypeId} {x y : Operand} {gd : Option (Nat × Bool)} (p q : Nat → Int) (hx : a.eval x = arr 4 p) (hy : a.eval y = arr 4 q)
    (h : K (a.put dst (.bool (M.eqB 4 p q))) w) : Oper.wp Try.prog ⟨dst, .binOp .eql 27 x y t', ty, pos, after, gd⟩ a w K Q := by
  unfold Oper.wp execOp
  simp only [hx, hy, Sem.run_bind, run_eqGuard_agg _ _ _ _ _ _ _ Try.eqGuardType27, run_eql_struct, run_eqR, Result.andThen_ok]
  exact h
theorem wpList_eqR {t' : TypeId} {x y : Operand} {gd : Option (Nat × Bool)} (hw : Region.wanted ⟨dst, .binOp .eql 27 x y t', ty, pos, after, gd⟩ (yielded ops a.tmps) = true) (p q : Nat → Int) (hx : a.eval x = arr 4 p) (hy : a.eval y = arr 4 q)
    (h : wpList Try.prog ops Q rest (a.put dst (.bool (M.eqB 4 p q))) w) : wpList Try.prog ops Q (⟨dst, .binOp .eql 27 x y t', ty, pos, after, gd⟩ :: rest) a w :=
  wpList_step fun K hK => by rw [if_pos hw]; exact wp_eqR p q hx hy (hK _ _ h)
theorem wp_eqG {t' : TypeId} {x y : Operand} {gd : Option (Nat × Bool)} (p q : Nat → Int) (hx : a.eval x = arr 8 p) (hy : a.eval y = arr 8 q)
    (h : K (a.put dst (.bool (M.eqB 8 p q))) w) : Oper.wp Try.prog ⟨dst, .binOp .eql 40 x y t', ty, pos, after, gd⟩ a w K Q := by
  unfold Oper.wp execOp
  simp only [hx, hy, Sem.run_bind, run_eqGuard_agg _ _ _ _ _ _ _ Try.eqGuardType40, run_eql_struct, run_eqG, Result.andThen_ok]
  exact h
theorem wpList_eqG {t' : TypeId} {x y : Operand} {gd : Option (Nat × Bool)} (hw : Region.wanted ⟨dst, .binOp .eql 40 x y t', ty, pos, after, gd⟩ (yielded ops a.tmps) = true) (p q : Nat → Int) (hx : a.eval x = arr 8 p) (hy : a.eval y = arr 8 q)
    (h : wpList Try.prog ops Q rest (a.put dst (.bool (M.eqB 8 p q))) w) : wpList Try.prog ops Q (⟨dst, .binOp .eql 40 x y t', ty, pos, after, gd⟩ :: rest) a w :=
  wpList_step fun K hK => by rw [if_pos hw]; exact wp_eqG p q hx hy (hK _ _ h)
end
end Go.Proofs.Ytlmgilcigbnbaaa
