/- Types: a port, a place in the window, three numbers. -/
import Derived.Test.YtbmigbmeadgopaaL2
import Derived.Test.YtbmigbmeadgopaaPv
namespace Go.Proofs.Ytbmigbmeadgopaa
open Go.ChangeShapes Go.WideShapes Go.ChangeAt Go.RowKit
set_option linter.unusedVariables false
set_option linter.unusedSimpArgs false

theorem sizeP : (Try.prog.info? 27).map (·.size) = some 4 := by kernel_rfl
theorem sP (a : Nat → Int) : (Try.prog.info? 27).map (·.size) = some (M.mat 4 a).length := by rw [M.mat_len]; exact sizeP
theorem zeroP : (Try.prog.info? 27).map (·.zero) = some (some (.agg (M.mat 4 M.zero).toArray)) := by kernel_rfl
theorem sizeW : (Try.prog.info? 29).map (·.size) = some 7 := by kernel_rfl
theorem sW (a : Nat → Int) : (Try.prog.info? 29).map (·.size) = some (M.mat 7 a).length := by rw [M.mat_len]; exact sizeW
theorem zeroW : (Try.prog.info? 29).map (·.zero) = some (some (.agg (M.mat 7 M.zero).toArray)) := by kernel_rfl
theorem sizeT : (Try.prog.info? 50).map (·.size) = some 3 := by kernel_rfl
theorem sT (a : Nat → Int) : (Try.prog.info? 50).map (·.size) = some (M.mat 3 a).length := by rw [M.mat_len]; exact sizeT
theorem zeroT : (Try.prog.info? 50).map (·.zero) = some (some (.agg (M.mat 3 M.zero).toArray)) := by kernel_rfl
theorem builtWz : Try.prog.built 29 [] = some (M.mat 7 M.zero).toArray := by kernel_rfl
theorem builtW (x y z : Int) (v : Nat → Int) : Try.prog.built 29 [(0, .int .i64 x), (1, .int .i64 y), (2, .int .i64 z), (3, arr 4 (D.sub 4 v))] = some (M.mat 7 (V.win x y z v)).toArray := by kernel_rfl
theorem builtT (a : Nat → Int) : Try.prog.built 50 [(0, .int .i64 (a 0)), (1, .int .i64 (a 1)), (2, .int .i64 (a 2))] = some (M.mat 3 a).toArray := by kernel_rfl
theorem run_eq25 (a b : Nat → Int) (w : World) : (Op.equalIn 10000 23 (arr 4 a) (arr 4 b)).run Try.prog w = .ok (M.eqB 4 a b) w := run_eq_arr 9998 Try.underlying23 a b w
theorem run_eqW (a b : Nat → Int) (w : World) : (Op.equalIn 10000 29 (arr 7 a) (arr 7 b)).run Try.prog w = .ok (M.eqB 7 a b) w := by
  have hf : (Try.prog.fieldsOf 29).toList = [⟨"X", 3, 0, false, "", "", 0⟩, ⟨"Y", 3, 1, false, "", "", 8⟩, ⟨"Z", 3, 2, false, "", "", 16⟩, ⟨"C", 23, 3, false, "", "", 24⟩] := by kernel_rfl
  rw [show (10000 : Nat) = 9997 + 2 + 1 from rfl, run_equalIn_struct w (9997 + 2) 29 _ _ (by kernel_rfl) Try.stoodInHeld29, hf,
    eqF_int (d := 9997 + 1) w (by decide) rfl 0 rfl (by decide), eqF_int (d := 9997 + 1) w (by decide) rfl 1 rfl (by decide), eqF_int (d := 9997 + 1) w (by decide) rfl 2 rfl (by decide),
    eqF_arr (d := 9997) w (by decide) rfl Try.underlying23 (Try.sizeOf23 w) rfl (by decide)]
  have e : M.eqB 7 a b = ((a 0 == b 0) && ((a 1 == b 1) && ((a 2 == b 2) && M.eqB 4 (D.sub 3 a) (D.sub 3 b)))) := by
    rw [Bool.eq_iff_iff]
    simp only [Bool.and_eq_true, M.eqB_iff, beq_iff_eq]
    refine ⟨fun h => ⟨h 0 (by omega), h 1 (by omega), h 2 (by omega), fun i hi => h (3 + i) (by omega)⟩, fun ⟨h0, h1, h2, h4⟩ i hi => ?_⟩
    rcases (by omega : i = 0 ∨ i = 1 ∨ i = 2 ∨ 3 ≤ i) with rfl | rfl | rfl | h5
    · exact h0
    · exact h1
    · exact h2
    · have := h4 (i - 3) (by omega)
      simp only [D.sub] at this
      rwa [show 3 + (i - 3) = i by omega] at this
  rw [e]
  cases h0 : a 0 == b 0
  · simp
  cases h1 : a 1 == b 1
  · simp
  cases h2 : a 2 == b 2
  · simp
  cases h4 : M.eqB 4 (D.sub 3 a) (D.sub 3 b)
  · simp
  · simp [Op.eqFields]
section
variable {ops : Array Oper} {Q : Exit → Act → World → Prop} {a : Act} {w : World} {rest : List Oper} {dst : Option Tmp} {ty : TypeId} {pos : String} {after : Array Edge} {K : Act → World → Prop}
theorem wp_eq25 {t' : TypeId} {x y : Operand} {gd : Option (Nat × Bool)} (p q : Nat → Int) (hx : a.eval x = arr 4 p) (hy : a.eval y = arr 4 q)
    (h : K (a.put dst (.bool (M.eqB 4 p q))) w) : Oper.wp Try.prog ⟨dst, .binOp .eql 23 x y t', ty, pos, after, gd⟩ a w K Q := by
  unfold Oper.wp execOp
  simp only [hx, hy, Sem.run_bind, run_eqGuard_agg _ _ _ _ _ _ _ Try.eqGuardType23, run_eql_struct, run_eq25, Result.andThen_ok]
  exact h
theorem wpList_eq25 {t' : TypeId} {x y : Operand} {gd : Option (Nat × Bool)} (hw : Region.wanted ⟨dst, .binOp .eql 23 x y t', ty, pos, after, gd⟩ (yielded ops a.tmps) = true) (p q : Nat → Int) (hx : a.eval x = arr 4 p) (hy : a.eval y = arr 4 q)
    (h : wpList Try.prog ops Q rest (a.put dst (.bool (M.eqB 4 p q))) w) : wpList Try.prog ops Q (⟨dst, .binOp .eql 23 x y t', ty, pos, after, gd⟩ :: rest) a w :=
  wpList_step fun K hK => by rw [if_pos hw]; exact wp_eq25 p q hx hy (hK _ _ h)
theorem wp_eqW {t' : TypeId} {x y : Operand} {gd : Option (Nat × Bool)} (p q : Nat → Int) (hx : a.eval x = arr 7 p) (hy : a.eval y = arr 7 q)
    (h : K (a.put dst (.bool (M.eqB 7 p q))) w) : Oper.wp Try.prog ⟨dst, .binOp .eql 29 x y t', ty, pos, after, gd⟩ a w K Q := by
  unfold Oper.wp execOp
  simp only [hx, hy, Sem.run_bind, run_eqGuard_agg _ _ _ _ _ _ _ Try.eqGuardType29, run_eql_struct, run_eqW, Result.andThen_ok]
  exact h
theorem wpList_eqW {t' : TypeId} {x y : Operand} {gd : Option (Nat × Bool)} (hw : Region.wanted ⟨dst, .binOp .eql 29 x y t', ty, pos, after, gd⟩ (yielded ops a.tmps) = true) (p q : Nat → Int) (hx : a.eval x = arr 7 p) (hy : a.eval y = arr 7 q)
    (h : wpList Try.prog ops Q rest (a.put dst (.bool (M.eqB 7 p q))) w) : wpList Try.prog ops Q (⟨dst, .binOp .eql 29 x y t', ty, pos, after, gd⟩ :: rest) a w :=
  wpList_step fun K hK => by rw [if_pos hw]; exact wp_eqW p q hx hy (hK _ _ h)
end
theorem V.win_col (x y z : Int) (v : Nat → Int) : D.sub 3 (V.win x y z v) = D.sub 4 v := by
  funext i
  simp only [D.sub, V.win]
  rw [if_neg (by omega), if_neg (by omega), if_neg (by omega), show 3 + i + 1 = 4 + i by omega]
end Go.Proofs.Ytbmigbmeadgopaa
