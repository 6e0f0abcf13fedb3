/- Contract of spans, Op by Op. -/
import Derived.Test.YtaegekmfndcflaaTab
namespace Go.Proofs.Ytaegekmfndcflaa
open Go.ChangeShapes Go.WideShapes Go.ChangeAt Go.RowKit
set_option linter.unusedVariables false

set_option maxRecDepth 100000 in
set_option maxHeartbeats 1000000 in
theorem spans_12 (w : World) : Calls Try.prog 22 #[.int .i64 12] w (RetTab w (P.tab 12)) := by
  have K0 := four w
  go_enter Try.func22, Try.ntmps22
  go_wp2_with fail
  go_ret2
  exact tab_empty (by decide) K0
set_option maxRecDepth 100000 in
set_option maxHeartbeats 1000000 in
theorem spans_13 (w : World) : Calls Try.prog 22 #[.int .i64 13] w (RetTab w (P.tab 13)) := by
  have K0 := four w
  have K1 := K0.alloc K0.size (.cells (pairs [(0, 5), (0, 1), ((-32768), 32768), ((-32768), 32768), ((-32768), 32768), ((-32768), 32768)]).toArray 51)
  go_enter Try.func22, Try.ntmps22
  go_wp2_with fail
  go_ret2
  exact tab_lit [(0, 5), (0, 1), ((-32768), 32768), ((-32768), 32768), ((-32768), 32768), ((-32768), 32768)] (by decide) rfl (alloc_at (W := four_ w) (by simp [four_]) _) K1
set_option maxRecDepth 100000 in
set_option maxHeartbeats 1000000 in
theorem spans_14 (w : World) : Calls Try.prog 22 #[.int .i64 14] w (RetTab w (P.tab 14)) := by
  have K0 := four w
  have T := same_any 0 255 4 (by omega)
  go_enter Try.func22, Try.ntmps22
  go_wp2_with fail
  refine (T _).mono ?_
  rintro e w1 ⟨A, c, rfl, hr, hb⟩
  clear T
  have K1 := K0.trans (hb.mono K0.size)
  clear K0 hb
  go_wp2_with fail
  go_ret2
  exact tab_same (List.replicate 4 (0, 255)) (by decide) rfl hr K1
set_option maxRecDepth 100000 in
set_option maxHeartbeats 1000000 in
theorem spans_15 (w : World) : Calls Try.prog 22 #[.int .i64 15] w (RetTab w (P.tab 15)) := by
  have K0 := four w
  have K1 := K0.alloc K0.size (.cells (pairs [(0, 1)]).toArray 51)
  go_enter Try.func22, Try.ntmps22
  go_wp2_with fail
  go_ret2
  exact tab_lit [(0, 1)] (by decide) rfl (alloc_at (W := four_ w) (by simp [four_]) _) K1
set_option maxRecDepth 100000 in
set_option maxHeartbeats 1000000 in
theorem spans_16 (w : World) : Calls Try.prog 22 #[.int .i64 16] w (RetTab w (P.tab 16)) := by
  have K0 := four w
  have T := same_any 0 9 1 (by omega)
  go_enter Try.func22, Try.ntmps22
  go_wp2_with fail
  refine (T _).mono ?_
  rintro e w1 ⟨A, c, rfl, hr, hb⟩
  clear T
  have K1 := K0.trans (hb.mono K0.size)
  clear K0 hb
  go_wp2_with fail
  go_ret2
  exact tab_same (List.replicate 1 (0, 9)) (by decide) rfl hr K1
set_option maxRecDepth 100000 in
set_option maxHeartbeats 1000000 in
theorem spans_17 (w : World) : Calls Try.prog 22 #[.int .i64 17] w (RetTab w (P.tab 17)) := by
  have K0 := four w
  have T := same_any (-1048576) 1048576 4 (by omega)
  go_enter Try.func22, Try.ntmps22
  go_wp2_with fail
  refine (T _).mono ?_
  rintro e w1 ⟨A, c, rfl, hr, hb⟩
  clear T
  have K1 := K0.trans (hb.mono K0.size)
  clear K0 hb
  go_wp2_with fail
  go_ret2
  exact tab_same (List.replicate 4 ((-1048576), 1048576)) (by decide) rfl hr K1
set_option maxRecDepth 100000 in
set_option maxHeartbeats 1000000 in
theorem spans_18 (w : World) : Calls Try.prog 22 #[.int .i64 18] w (RetTab w (P.tab 18)) := by
  have K0 := four w
  go_enter Try.func22, Try.ntmps22
  go_wp2_with fail
  go_ret2
  exact tab_empty (by decide) K0
set_option maxRecDepth 100000 in
set_option maxHeartbeats 1000000 in
theorem spans_19 (w : World) : Calls Try.prog 22 #[.int .i64 19] w (RetTab w (P.tab 19)) := by
  have K0 := four w
  have T := same_any 1 64 1 (by omega)
  go_enter Try.func22, Try.ntmps22
  go_wp2_with fail
  refine (T _).mono ?_
  rintro e w1 ⟨A, c, rfl, hr, hb⟩
  clear T
  have K1 := K0.trans (hb.mono K0.size)
  clear K0 hb
  go_wp2_with fail
  go_ret2
  exact tab_same (List.replicate 1 (1, 64)) (by decide) rfl hr K1
set_option maxRecDepth 100000 in
set_option maxHeartbeats 1000000 in
theorem spans_20 (w : World) : Calls Try.prog 22 #[.int .i64 20] w (RetTab w (P.tab 20)) := by
  have K0 := four w
  have K1 := K0.alloc K0.size (.cells (pairs [(0, 1), (1, 256), (0, 65535)]).toArray 51)
  go_enter Try.func22, Try.ntmps22
  go_wp2_with fail
  go_ret2
  exact tab_lit [(0, 1), (1, 256), (0, 65535)] (by decide) rfl (alloc_at (W := four_ w) (by simp [four_]) _) K1
set_option maxRecDepth 100000 in
set_option maxHeartbeats 1000000 in
theorem spans_21 (w : World) : Calls Try.prog 22 #[.int .i64 21] w (RetTab w (P.tab 21)) := by
  have K0 := four w
  have K1 := K0.alloc K0.size (.cells (pairs [(1, 64), (0, 2)]).toArray 51)
  go_enter Try.func22, Try.ntmps22
  go_wp2_with fail
  go_ret2
  exact tab_lit [(1, 64), (0, 2)] (by decide) rfl (alloc_at (W := four_ w) (by simp [four_]) _) K1
set_option maxRecDepth 100000 in
set_option maxHeartbeats 1000000 in
theorem spans_22 (w : World) : Calls Try.prog 22 #[.int .i64 22] w (RetTab w (P.tab 22)) := by
  have K0 := four w
  have K1 := K0.alloc K0.size (.cells (pairs [(0, 1)]).toArray 51)
  go_enter Try.func22, Try.ntmps22
  go_wp2_with fail
  go_ret2
  exact tab_lit [(0, 1)] (by decide) rfl (alloc_at (W := four_ w) (by simp [four_]) _) K1
end Go.Proofs.Ytaegekmfndcflaa
