/- Types: points, three numbers, two numbers. -/
import Derived.Test.YtpfhaocmcfnhnaaGreatL2
namespace Go.Proofs.YtpfhaocmcfnhnaaGreat
open Go.ChangeShapes Go.WideShapes Go.ChangeAt Go.RowKit
set_option linter.unusedVariables false
set_option linter.unusedSimpArgs false

theorem sizeP : (Tryz.prog.info? 44).map (·.size) = some 2 := by kernel_rfl
theorem sP (a : Nat → Int) : (Tryz.prog.info? 44).map (·.size) = some (M.mat 2 a).length := by rw [M.mat_len]; exact sizeP
theorem zeroP : (Tryz.prog.info? 44).map (·.zero) = some (some (.agg (M.mat 2 M.zero).toArray)) := by kernel_rfl
namespace DM
def t2 (x y : Int) (i : Nat) : Int := if i = 0 then x else y
def t3 (x y z : Int) (i : Nat) : Int := if i = 0 then x else if i = 1 then y else z
end DM
theorem builtP (x y : Int) : Tryz.prog.built 44 [(0, .int .i64 x), (1, .int .i64 y)] = some (M.mat 2 (DM.t2 x y)).toArray := by kernel_rfl
theorem builtN (x y z : Int) : Tryz.prog.built 117 [(0, .int .i64 x), (1, .int .i64 y), (2, .int .i64 z)] = some (M.mat 3 (DM.t3 x y z)).toArray := by kernel_rfl
theorem cell_is {n i : Nat} {a : Nat → Int} {z : Int} (h : a i = z) (hi : i < n) : Hid ((M.mat n a)[i]? = some (.int .i64 z)) := Lib.hid (by rw [← h]; exact M.mat_get hi)
theorem min_if (x y : Int) : (if y < x then y else x) = min x y := by omega
theorem max_if (x y : Int) : (if x < y then y else x) = max x y := by omega
theorem Own.as {w0 w : World} {l l' : List (Nat × TypeId × List Value)} (h : Own w0 w l) (e : l = l') : Own w0 w l' := e ▸ h
theorem run_eqP (a b : Nat → Int) (w : World) : (Op.equalIn 10000 44 (arr 2 a) (arr 2 b)).run Tryz.prog w = .ok (M.eqB 2 a b) w := by
 have hf : (Tryz.prog.fieldsOf 44).toList = [⟨"X", 3, 0, false, "", "", 0⟩, ⟨"Y", 3, 1, false, "", "", 8⟩] := by kernel_rfl
 rw [show (10000 : Nat) = 9997 + 2 + 1 from rfl, run_equalIn_struct w (9997 + 2) 44 _ _ (by kernel_rfl) Tryz.stoodInHeld44, hf,
  eqF_int (d := 9997 + 1) w (by decide) rfl 0 rfl (by decide), eqF_int (d := 9997 + 1) w (by decide) rfl 1 rfl (by decide)]
 have e : M.eqB 2 a b = ((a 0 == b 0) && (a 1 == b 1)) := by
  rw [Bool.eq_iff_iff]
  simp only [Bool.and_eq_true, M.eqB_iff, beq_iff_eq]
  refine ⟨fun h => ⟨h 0 (by omega), h 1 (by omega)⟩, fun ⟨h0, h1⟩ i hi => ?_⟩
  rcases (by omega : i = 0 ∨ i = 1) with rfl | rfl
  · exact h0
  · exact h1
 rw [e]
 cases h0 : a 0 == b 0
 · simp
 cases h1 : a 1 == b 1
 · simp
 · simp [Op.eqFields]
section
variable {ops : Array Oper} {Q : Exit → Act → World → Prop} {a : Act} {w : World} {rest : List Oper} {dst : Option Tmp} {ty : TypeId} {pos : String} {after : Array Edge} {K : Act → World → Prop}
theorem wp_eqP {t' : TypeId} {x y : Operand} {gd : Option (Nat × Bool)} (p q : Nat → Int) (hx : a.eval x = arr 2 p) (hy : a.eval y = arr 2 q)
  (h : K (a.put dst (.bool (M.eqB 2 p q))) w) : Oper.wp Tryz.prog ⟨dst, .binOp .eql 44 x y t', ty, pos, after, gd⟩ a w K Q := by
 unfold Oper.wp execOp
 simp only [hx, hy, Sem.run_bind, run_eqGuard_agg _ _ _ _ _ _ _ Tryz.eqGuardType44, run_eql_struct, run_eqP, Result.andThen_ok]
 exact h
theorem wpList_eqP {t' : TypeId} {x y : Operand} {gd : Option (Nat × Bool)} (hw : Region.wanted ⟨dst, .binOp .eql 44 x y t', ty, pos, after, gd⟩ (yielded ops a.tmps) = true) (p q : Nat → Int) (hx : a.eval x = arr 2 p) (hy : a.eval y = arr 2 q)
  (h : wpList Tryz.prog ops Q rest (a.put dst (.bool (M.eqB 2 p q))) w) : wpList Tryz.prog ops Q (⟨dst, .binOp .eql 44 x y t', ty, pos, after, gd⟩ :: rest) a w :=
 wpList_step fun K hK => by rw [if_pos hw]; exact wp_eqP p q hx hy (hK _ _ h)
end
end Go.Proofs.YtpfhaocmcfnhnaaGreat
