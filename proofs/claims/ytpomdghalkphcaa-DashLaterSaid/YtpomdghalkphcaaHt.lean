/- Types: dashes, runs. -/
import Derived.Test.YtpomdghalkphcaaL2
import Derived.Test.YtpomdghalkphcaaLa
import Derived.Test.YtpomdghalkphcaaNb
import Derived.Test.YtpomdghalkphcaaHm
namespace Go.Proofs.Ytpomdghalkphcaa
open Go.ChangeShapes Go.WideShapes Go.ChangeAt Go.RowKit
set_option linter.unusedVariables false
set_option linter.unusedSimpArgs false

theorem sizeH : (Try.prog.info? 23).map (·.size) = some 3 := by kernel_rfl
theorem sH (a : Nat → Int) : (Try.prog.info? 23).map (·.size) = some (M.mat 3 a).length := by rw [M.mat_len]; exact sizeH
theorem zeroH : (Try.prog.info? 23).map (·.zero) = some (some (.agg (M.mat 3 M.zero).toArray)) := by kernel_rfl
theorem sizeD : (Try.prog.info? 33).map (·.size) = some 2 := by kernel_rfl
theorem sD (a : Nat → Int) : (Try.prog.info? 33).map (·.size) = some (M.mat 2 a).length := by rw [M.mat_len]; exact sizeD
theorem zeroD : (Try.prog.info? 33).map (·.zero) = some (some (.agg (M.mat 2 M.zero).toArray)) := by kernel_rfl
theorem sizeOfD (w : World) : (sizeOf 33).run Try.prog w = .ok 2 w := by kernel_rfl
theorem infoD : (Try.prog.info? 33).map (fun i => (i.zero, i.size)) = some (some (.agg (M.mat 2 M.zero).toArray), 2) := by kernel_rfl
theorem infoDs : (Try.prog.info? 33).map (·.size) = some 2 := by kernel_rfl
theorem infoDb : (Try.prog.info? 33).map (fun i => (i.zero, i.size, i.bytes)) = some (some (.agg (M.mat 2 M.zero).toArray), 2, 16) := by kernel_rfl
namespace HM
def t2 (x y : Int) (i : Nat) : Int := if i = 0 then x else y
def t3 (x y z : Int) (i : Nat) : Int := if i = 0 then x else if i = 1 then y else z
end HM
theorem builtD (x y : Int) : Try.prog.built 33 [(0, .int .i64 x), (1, .int .i64 y)] = some (M.mat 2 (HM.t2 x y)).toArray := by kernel_rfl
theorem builtH (x y : Int) : Try.prog.built 23 [(0, .int .i64 x), (1, .int .i64 y)] = some (M.mat 3 (HM.t3 x y 0)).toArray := by kernel_rfl
theorem cell_is {n i : Nat} {a : Nat → Int} {z : Int} (h : a i = z) (hi : i < n) : Hid ((M.mat n a)[i]? = some (.int .i64 z)) := Lib.hid (by rw [← h]; exact M.mat_get hi)
theorem Own.as {w0 w : World} {l l' : List (Nat × TypeId × List Value)} (h : Own w0 w l) (e : l = l') : Own w0 w l' := e ▸ h
theorem run_eqH (a b : Nat → Int) (w : World) : (Op.equalIn 10000 23 (arr 3 a) (arr 3 b)).run Try.prog w = .ok (M.eqB 3 a b) w := by
  have hf : (Try.prog.fieldsOf 23).toList = [⟨"Pattern", 3, 0, false, "", "", 0⟩, ⟨"Repeat", 3, 1, false, "", "", 8⟩, ⟨"Count", 3, 2, false, "", "", 16⟩] := by kernel_rfl
  rw [show (10000 : Nat) = 9997 + 2 + 1 from rfl, run_equalIn_struct w (9997 + 2) 23 _ _ (by kernel_rfl) Try.stoodInHeld23, hf,
    eqF_int (d := 9997 + 1) w (by decide) rfl 0 rfl (by decide), eqF_int (d := 9997 + 1) w (by decide) rfl 1 rfl (by decide), eqF_int (d := 9997 + 1) w (by decide) rfl 2 rfl (by decide)]
  have e : M.eqB 3 a b = ((a 0 == b 0) && ((a 1 == b 1) && ((a 2 == b 2)))) := by
    rw [Bool.eq_iff_iff]
    simp only [Bool.and_eq_true, M.eqB_iff, beq_iff_eq]
    refine ⟨fun h => ⟨h 0 (by omega), h 1 (by omega), h 2 (by omega)⟩, fun ⟨h0, h1, h2⟩ i hi => ?_⟩
    rcases (by omega : i = 0 ∨ i = 1 ∨ i = 2) with rfl | rfl | rfl
    · exact h0
    · exact h1
    · exact h2
  rw [e]
  cases h0 : a 0 == b 0
  · simp
  cases h1 : a 1 == b 1
  · simp
  cases h2 : a 2 == b 2
  · simp
  · simp [Op.eqFields]
section
variable {ops : Array Oper} {Q : Exit → Act → World → Prop} {a : Act} {w : World} {rest : List Oper} {dst : Option Tmp} {ty : TypeId} {pos : String} {after : Array Edge} {K : Act → World → Prop}
theorem wp_eqH {t' : TypeId} {x y : Operand} {gd : Option (Nat × Bool)} (p q : Nat → Int) (hx : a.eval x = arr 3 p) (hy : a.eval y = arr 3 q)
    (h : K (a.put dst (.bool (M.eqB 3 p q))) w) : Oper.wp Try.prog ⟨dst, .binOp .eql 23 x y t', ty, pos, after, gd⟩ a w K Q := by
  unfold Oper.wp execOp
  simp only [hx, hy, Sem.run_bind, run_eqGuard_agg _ _ _ _ _ _ _ Try.eqGuardType23, run_eql_struct, run_eqH, Result.andThen_ok]
  exact h
theorem wpList_eqH {t' : TypeId} {x y : Operand} {gd : Option (Nat × Bool)} (hw : Region.wanted ⟨dst, .binOp .eql 23 x y t', ty, pos, after, gd⟩ (yielded ops a.tmps) = true) (p q : Nat → Int) (hx : a.eval x = arr 3 p) (hy : a.eval y = arr 3 q)
    (h : wpList Try.prog ops Q rest (a.put dst (.bool (M.eqB 3 p q))) w) : wpList Try.prog ops Q (⟨dst, .binOp .eql 23 x y t', ty, pos, after, gd⟩ :: rest) a w :=
  wpList_step fun K hK => by rw [if_pos hw]; exact wp_eqH p q hx hy (hK _ _ h)
end
end Go.Proofs.Ytpomdghalkphcaa
