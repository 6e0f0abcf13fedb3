/- Contract of spans. -/
import Derived.Test.YtaegekmfndcflaaSpansA
import Derived.Test.YtaegekmfndcflaaSpansB
import Derived.Test.YtaegekmfndcflaaSpansC
namespace Go.Proofs.Ytaegekmfndcflaa
open Go.ChangeShapes Go.WideShapes Go.ChangeAt Go.RowKit
set_option linter.unusedVariables false

set_option maxRecDepth 100000 in
set_option maxHeartbeats 1000000 in
theorem spans_none (op : Int) (h : op < 1 ∨ 32 < op) (w : World) : Calls Try.prog 22 #[.int .i64 op] w (RetTab w (P.tab op)) := by
  have K0 := four w
  have E := P.tab_small h
  have b1 : (op == 1) = false := beq_eq_false_iff_ne.2 (by omega)
  have b2 : (op == 2) = false := beq_eq_false_iff_ne.2 (by omega)
  have b3 : (op == 3) = false := beq_eq_false_iff_ne.2 (by omega)
  have b4 : (op == 4) = false := beq_eq_false_iff_ne.2 (by omega)
  have b5 : (op == 5) = false := beq_eq_false_iff_ne.2 (by omega)
  have b6 : (op == 6) = false := beq_eq_false_iff_ne.2 (by omega)
  have b7 : (op == 7) = false := beq_eq_false_iff_ne.2 (by omega)
  have b8 : (op == 8) = false := beq_eq_false_iff_ne.2 (by omega)
  have b9 : (op == 9) = false := beq_eq_false_iff_ne.2 (by omega)
  have b10 : (op == 10) = false := beq_eq_false_iff_ne.2 (by omega)
  have b11 : (op == 11) = false := beq_eq_false_iff_ne.2 (by omega)
  have b12 : (op == 12) = false := beq_eq_false_iff_ne.2 (by omega)
  have b13 : (op == 13) = false := beq_eq_false_iff_ne.2 (by omega)
  have b14 : (op == 14) = false := beq_eq_false_iff_ne.2 (by omega)
  have b15 : (op == 15) = false := beq_eq_false_iff_ne.2 (by omega)
  have b16 : (op == 16) = false := beq_eq_false_iff_ne.2 (by omega)
  have b17 : (op == 17) = false := beq_eq_false_iff_ne.2 (by omega)
  have b18 : (op == 18) = false := beq_eq_false_iff_ne.2 (by omega)
  have b19 : (op == 19) = false := beq_eq_false_iff_ne.2 (by omega)
  have b20 : (op == 20) = false := beq_eq_false_iff_ne.2 (by omega)
  have b21 : (op == 21) = false := beq_eq_false_iff_ne.2 (by omega)
  have b22 : (op == 22) = false := beq_eq_false_iff_ne.2 (by omega)
  have b23 : (op == 23) = false := beq_eq_false_iff_ne.2 (by omega)
  have b24 : (op == 24) = false := beq_eq_false_iff_ne.2 (by omega)
  have b25 : (op == 25) = false := beq_eq_false_iff_ne.2 (by omega)
  have b26 : (op == 26) = false := beq_eq_false_iff_ne.2 (by omega)
  have b27 : (op == 27) = false := beq_eq_false_iff_ne.2 (by omega)
  have b28 : (op == 28) = false := beq_eq_false_iff_ne.2 (by omega)
  have b29 : (op == 29) = false := beq_eq_false_iff_ne.2 (by omega)
  have b30 : (op == 30) = false := beq_eq_false_iff_ne.2 (by omega)
  have b31 : (op == 31) = false := beq_eq_false_iff_ne.2 (by omega)
  have b32 : (op == 32) = false := beq_eq_false_iff_ne.2 (by omega)
  have HE := Lib.hid E
  clear E h
  go_enter Try.func22, Try.ntmps22
  go_wp2_with fail
  go_ret2
  exact tab_none HE.out K0
theorem spans_any (op : Int) (w : World) : Calls Try.prog 22 #[.int .i64 op] w (RetTab w (P.tab op)) := by
  by_cases h : op < 1 ∨ 32 < op
  · exact spans_none op h w
  have h2 : op = 1 ∨ op = 2 ∨ op = 3 ∨ op = 4 ∨ op = 5 ∨ op = 6 ∨ op = 7 ∨ op = 8 ∨ op = 9 ∨ op = 10 ∨ op = 11 ∨ op = 12 ∨ op = 13 ∨ op = 14 ∨ op = 15 ∨ op = 16 ∨ op = 17 ∨ op = 18 ∨ op = 19 ∨ op = 20 ∨ op = 21 ∨ op = 22 ∨ op = 23 ∨ op = 24 ∨ op = 25 ∨ op = 26 ∨ op = 27 ∨ op = 28 ∨ op = 29 ∨ op = 30 ∨ op = 31 ∨ op = 32 := by omega
  clear h
  rcases h2 with rfl | rfl | rfl | rfl | rfl | rfl | rfl | rfl | rfl | rfl | rfl | rfl | rfl | rfl | rfl | rfl | rfl | rfl | rfl | rfl | rfl | rfl | rfl | rfl | rfl | rfl | rfl | rfl | rfl | rfl | rfl | rfl
  · exact spans_1 w
  · exact spans_2 w
  · exact spans_3 w
  · exact spans_4 w
  · exact spans_5 w
  · exact spans_6 w
  · exact spans_7 w
  · exact spans_8 w
  · exact spans_9 w
  · exact spans_10 w
  · exact spans_11 w
  · exact spans_12 w
  · exact spans_13 w
  · exact spans_14 w
  · exact spans_15 w
  · exact spans_16 w
  · exact spans_17 w
  · exact spans_18 w
  · exact spans_19 w
  · exact spans_20 w
  · exact spans_21 w
  · exact spans_22 w
  · exact spans_23 w
  · exact spans_24 w
  · exact spans_25 w
  · exact spans_26 w
  · exact spans_27 w
  · exact spans_28 w
  · exact spans_29 w
  · exact spans_30 w
  · exact spans_31 w
  · exact spans_32 w
end Go.Proofs.Ytaegekmfndcflaa
