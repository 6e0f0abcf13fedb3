/- Types: places in the window, colors, two numbers. -/
import Derived.Test.YtndaijcgjhmiaaaL2
import Derived.Test.YtndaijcgjhmiaaaTy
import Derived.Test.YtndaijcgjhmiaaaLa
import Derived.Test.YtndaijcgjhmiaaaNb
import Derived.Test.YtndaijcgjhmiaaaVm
namespace Go.Proofs.Ytndaijcgjhmiaaa
open Go.ChangeShapes Go.WideShapes Go.ChangeAt Go.RowKit
set_option linter.unusedVariables false
set_option linter.unusedSimpArgs false

theorem sizeW : (Try.prog.info? 34).map (·.size) = some 7 := by kernel_rfl
theorem sW (a : Nat → Int) : (Try.prog.info? 34).map (·.size) = some (M.mat 7 a).length := by rw [M.mat_len]; exact sizeW
theorem zeroW : (Try.prog.info? 34).map (·.zero) = some (some (.agg (M.mat 7 M.zero).toArray)) := by kernel_rfl
theorem sizeC : (Try.prog.info? 32).map (·.size) = some 4 := by kernel_rfl
theorem sC (a : Nat → Int) : (Try.prog.info? 32).map (·.size) = some (M.mat 4 a).length := by rw [M.mat_len]; exact sizeC
theorem zeroC : (Try.prog.info? 32).map (·.zero) = some (some (.agg (M.mat 4 M.zero).toArray)) := by kernel_rfl
theorem run_eqC (a b : Nat → Int) (w : World) : (Op.equalIn 10000 32 (arr 4 a) (arr 4 b)).run Try.prog w = .ok (M.eqB 4 a b) w := run_eq_arr 9998 Try.underlying32 a b w
section
variable {ops : Array Oper} {Q : Exit → Act → World → Prop} {a : Act} {w : World} {rest : List Oper} {dst : Option Tmp} {ty : TypeId} {pos : String} {after : Array Edge} {K : Act → World → Prop}
theorem wp_eqC {t' : TypeId} {x y : Operand} {gd : Option (Nat × Bool)} (p q : Nat → Int) (hx : a.eval x = arr 4 p) (hy : a.eval y = arr 4 q)
    (h : K (a.put dst (.bool (M.eqB 4 p q))) w) : Oper.wp Try.prog ⟨dst, .binOp .eql 32 x y t', ty, pos, after, gd⟩ a w K Q := by
  unfold Oper.wp execOp
  simp only [hx, hy, Sem.run_bind, run_eqGuard_agg _ _ _ _ _ _ _ Try.eqGuardType32, run_eql_struct, run_eqC, Result.andThen_ok]
  exact h
theorem wpList_eqC {t' : TypeId} {x y : Operand} {gd : Option (Nat × Bool)} (hw : Region.wanted ⟨dst, .binOp .eql 32 x y t', ty, pos, after, gd⟩ (yielded ops a.tmps) = true) (p q : Nat → Int) (hx : a.eval x = arr 4 p) (hy : a.eval y = arr 4 q)
    (h : wpList Try.prog ops Q rest (a.put dst (.bool (M.eqB 4 p q))) w) : wpList Try.prog ops Q (⟨dst, .binOp .eql 32 x y t', ty, pos, after, gd⟩ :: rest) a w :=
  wpList_step fun K hK => by rw [if_pos hw]; exact wp_eqC p q hx hy (hK _ _ h)
end
end Go.Proofs.Ytndaijcgjhmiaaa
