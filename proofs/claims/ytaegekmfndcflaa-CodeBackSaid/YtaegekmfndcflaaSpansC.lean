/- Contract of spans, Op by Op. -/
import Derived.Test.YtaegekmfndcflaaTab
namespace Go.Proofs.Ytaegekmfndcflaa
open Go.ChangeShapes Go.WideShapes Go.ChangeAt Go.RowKit
set_option linter.unusedVariables false

set_option maxRecDepth 100000 in
set_option maxHeartbeats 1000000 in
theorem spans_23 (w : World) : Calls Try.prog 22 #[.int .i64 23] w (RetTab w (P.tab 23)) := by
  have K0 := four w
  have T := same_any 0 2 2 (by omega)
  go_enter Try.func22, Try.ntmps22
  go_wp2_with fail
  refine (T _).mono ?_
  rintro e w1 ⟨A, c, rfl, hr, hb⟩
  clear T
  have K1 := K0.trans (hb.mono K0.size)
  clear K0 hb
  go_wp2_with fail
  go_ret2
  exact tab_same (List.replicate 2 (0, 2)) (by decide) rfl hr K1
set_option maxRecDepth 100000 in
set_option maxHeartbeats 1000000 in
theorem spans_24 (w : World) : Calls Try.prog 22 #[.int .i64 24] w (RetTab w (P.tab 24)) := by
  have K0 := four w
  have K1 := K0.alloc K0.size (.cells (pairs [(0, 1), (0, 3)]).toArray 51)
  go_enter Try.func22, Try.ntmps22
  go_wp2_with fail
  go_ret2
  exact tab_lit [(0, 1), (0, 3)] (by decide) rfl (alloc_at (W := four_ w) (by simp [four_]) _) K1
set_option maxRecDepth 100000 in
set_option maxHeartbeats 1000000 in
theorem spans_25 (w : World) : Calls Try.prog 22 #[.int .i64 25] w (RetTab w (P.tab 25)) := by
  have K0 := four w
  have K1 := K0.alloc K0.size (.cells (pairs [(0, 1), ((-65536), 65536), ((-16777216), 16777216)]).toArray 51)
  go_enter Try.func22, Try.ntmps22
  go_wp2_with fail
  go_ret2
  exact tab_lit [(0, 1), ((-65536), 65536), ((-16777216), 16777216)] (by decide) rfl (alloc_at (W := four_ w) (by simp [four_]) _) K1
set_option maxRecDepth 100000 in
set_option maxHeartbeats 1000000 in
theorem spans_26 (w : World) : Calls Try.prog 22 #[.int .i64 26] w (RetTab w (P.tab 26)) := by
  have K0 := four w
  have K1 := K0.alloc K0.size (.cells (pairs [(0, 1), (0, 7), (0, 1)]).toArray 51)
  go_enter Try.func22, Try.ntmps22
  go_wp2_with fail
  go_ret2
  exact tab_lit [(0, 1), (0, 7), (0, 1)] (by decide) rfl (alloc_at (W := four_ w) (by simp [four_]) _) K1
set_option maxRecDepth 100000 in
set_option maxHeartbeats 1000000 in
theorem spans_27 (w : World) : Calls Try.prog 22 #[.int .i64 27] w (RetTab w (P.tab 27)) := by
  have K0 := four w
  have K1 := K0.alloc K0.size (.cells (pairs [(0, 1), (0, 7), (0, 7)]).toArray 51)
  go_enter Try.func22, Try.ntmps22
  go_wp2_with fail
  go_ret2
  exact tab_lit [(0, 1), (0, 7), (0, 7)] (by decide) rfl (alloc_at (W := four_ w) (by simp [four_]) _) K1
set_option maxRecDepth 100000 in
set_option maxHeartbeats 1000000 in
theorem spans_28 (w : World) : Calls Try.prog 22 #[.int .i64 28] w (RetTab w (P.tab 28)) := by
  have K0 := four w
  have K1 := K0.alloc K0.size (.cells (pairs [(0, 1), (0, 1), (0, 1), (0, 1)]).toArray 51)
  go_enter Try.func22, Try.ntmps22
  go_wp2_with fail
  go_ret2
  exact tab_lit [(0, 1), (0, 1), (0, 1), (0, 1)] (by decide) rfl (alloc_at (W := four_ w) (by simp [four_]) _) K1
set_option maxRecDepth 100000 in
set_option maxHeartbeats 1000000 in
theorem spans_29 (w : World) : Calls Try.prog 22 #[.int .i64 29] w (RetTab w (P.tab 29)) := by
  have K0 := four w
  have K1 := K0.alloc K0.size (.cells (pairs [(0, 1), (0, 1)]).toArray 51)
  go_enter Try.func22, Try.ntmps22
  go_wp2_with fail
  go_ret2
  exact tab_lit [(0, 1), (0, 1)] (by decide) rfl (alloc_at (W := four_ w) (by simp [four_]) _) K1
set_option maxRecDepth 100000 in
set_option maxHeartbeats 1000000 in
theorem spans_30 (w : World) : Calls Try.prog 22 #[.int .i64 30] w (RetTab w (P.tab 30)) := by
  have K0 := four w
  have K1 := K0.alloc K0.size (.cells (pairs [((-9223372036854775808), 9223372036854775807), ((-9223372036854775808), 9223372036854775807), ((-9223372036854775808), 9223372036854775807), ((-9223372036854775808), 9223372036854775807)]).toArray 51)
  go_enter Try.func22, Try.ntmps22
  go_wp2_with fail
  go_ret2
  exact tab_lit [((-9223372036854775808), 9223372036854775807), ((-9223372036854775808), 9223372036854775807), ((-9223372036854775808), 9223372036854775807), ((-9223372036854775808), 9223372036854775807)] (by decide) rfl (alloc_at (W := four_ w) (by simp [four_]) _) K1
set_option maxRecDepth 100000 in
set_option maxHeartbeats 1000000 in
theorem spans_31 (w : World) : Calls Try.prog 22 #[.int .i64 31] w (RetTab w (P.tab 31)) := by
  have K0 := four w
  have T := repeat_any (-9223372036854775808) 9223372036854775807 16 (by omega) ⟨w.heap.size + 1 + 1 + 1 + 1, 0, none⟩ ((four_ w).alloc (.cells #[.int .i64 (-9223372036854775808), .int .i64 9223372036854775807] 51)) (by simp [four_]) (new_cell (W := four_ w) (by simp [four_]) _ 51 0) (new_cell (W := four_ w) (by simp [four_]) _ 51 1)
  have K2 := K0.alloc K0.size (.cells #[.int .i64 (-9223372036854775808), .int .i64 9223372036854775807] 51)
  unfold four_ at T K2
  clear K0
  go_enter Try.func22, Try.ntmps22
  go_wp2_with fail
  refine T.mono ?_
  rintro e w1 ⟨A, c, rfl, hr, hb⟩
  clear T
  have K1 := K2.trans (hb.mono K2.size)
  clear K2 hb
  go_wp2_with fail
  go_ret2
  exact tab_same (List.replicate 16 ((-9223372036854775808), 9223372036854775807)) (by decide) rfl hr K1
set_option maxRecDepth 100000 in
set_option maxHeartbeats 1000000 in
theorem spans_32 (w : World) : Calls Try.prog 22 #[.int .i64 32] w (RetTab w (P.tab 32)) := by
  have K0 := four w
  have K1 := K0.alloc K0.size (.cells (pairs [((-9223372036854775808), 9223372036854775807)]).toArray 51)
  go_enter Try.func22, Try.ntmps22
  go_wp2_with fail
  go_ret2
  exact tab_lit [((-9223372036854775808), 9223372036854775807)] (by decide) rfl (alloc_at (W := four_ w) (by simp [four_]) _) K1
end Go.Proofs.Ytaegekmfndcflaa
