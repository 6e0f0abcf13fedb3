/- Contract of spans, Op by Op. -/
import Derived.Test.YtaegekmfndcflaaTab
namespace Go.Proofs.Ytaegekmfndcflaa
open Go.ChangeShapes Go.WideShapes Go.ChangeAt Go.RowKit
set_option linter.unusedVariables false

set_option maxRecDepth 100000 in
set_option maxHeartbeats 1000000 in
theorem spans_1 (w : World) : Calls Try.prog 22 #[.int .i64 1] w (RetTab w (P.tab 1)) := by
  have K0 := four w
  have T := same_any 1 1024 2 (by omega)
  go_enter Try.func22, Try.ntmps22
  go_wp2_with fail
  refine (T _).mono ?_
  rintro e w1 ⟨A, c, rfl, hr, hb⟩
  clear T
  have K1 := K0.trans (hb.mono K0.size)
  clear K0 hb
  go_wp2_with fail
  go_ret2
  exact tab_same (List.replicate 2 (1, 1024)) (by decide) rfl hr K1
set_option maxRecDepth 100000 in
set_option maxHeartbeats 1000000 in
theorem spans_2 (w : World) : Calls Try.prog 22 #[.int .i64 2] w (RetTab w (P.tab 2)) := by
  have K0 := four w
  have T := same_any 0 255 4 (by omega)
  go_enter Try.func22, Try.ntmps22
  go_wp2_with fail
  refine (T _).mono ?_
  rintro e w1 ⟨A, c, rfl, hr, hb⟩
  clear T
  have K1 := K0.trans (hb.mono K0.size)
  clear K0 hb
  go_wp2_with fail
  go_ret2
  exact tab_same (List.replicate 4 (0, 255)) (by decide) rfl hr K1
set_option maxRecDepth 100000 in
set_option maxHeartbeats 1000000 in
theorem spans_3 (w : World) : Calls Try.prog 22 #[.int .i64 3] w (RetTab w (P.tab 3)) := by
  have K0 := four w
  have T := same_any 0 16777215 1 (by omega)
  go_enter Try.func22, Try.ntmps22
  go_wp2_with fail
  refine (T _).mono ?_
  rintro e w1 ⟨A, c, rfl, hr, hb⟩
  clear T
  have K1 := K0.trans (hb.mono K0.size)
  clear K0 hb
  go_wp2_with fail
  go_ret2
  exact tab_same (List.replicate 1 (0, 16777215)) (by decide) rfl hr K1
set_option maxRecDepth 100000 in
set_option maxHeartbeats 1000000 in
theorem spans_4 (w : World) : Calls Try.prog 22 #[.int .i64 4] w (RetTab w (P.tab 4)) := by
  have K0 := four w
  have T := same_any 0 3 1 (by omega)
  go_enter Try.func22, Try.ntmps22
  go_wp2_with fail
  refine (T _).mono ?_
  rintro e w1 ⟨A, c, rfl, hr, hb⟩
  clear T
  have K1 := K0.trans (hb.mono K0.size)
  clear K0 hb
  go_wp2_with fail
  go_ret2
  exact tab_same (List.replicate 1 (0, 3)) (by decide) rfl hr K1
set_option maxRecDepth 100000 in
set_option maxHeartbeats 1000000 in
theorem spans_5 (w : World) : Calls Try.prog 22 #[.int .i64 5] w (RetTab w (P.tab 5)) := by
  have K0 := four w
  have K1 := K0.alloc K0.size (.cells (pairs [((-8192), 8192), ((-8192), 8192), (0, 4096), (0, 4096)]).toArray 51)
  go_enter Try.func22, Try.ntmps22
  go_wp2_with fail
  go_ret2
  exact tab_lit [((-8192), 8192), ((-8192), 8192), (0, 4096), (0, 4096)] (by decide) rfl (alloc_at (W := four_ w) (by simp [four_]) _) K1
set_option maxRecDepth 100000 in
set_option maxHeartbeats 1000000 in
theorem spans_6 (w : World) : Calls Try.prog 22 #[.int .i64 6] w (RetTab w (P.tab 6)) := by
  have K0 := four w
  have K1 := K0.alloc K0.size (.cells (pairs [(0, 1), ((-8192), 8192), ((-8192), 8192), (0, 8192), (0, 8192)]).toArray 51)
  go_enter Try.func22, Try.ntmps22
  go_wp2_with fail
  go_ret2
  exact tab_lit [(0, 1), ((-8192), 8192), ((-8192), 8192), (0, 8192), (0, 8192)] (by decide) rfl (alloc_at (W := four_ w) (by simp [four_]) _) K1
set_option maxRecDepth 100000 in
set_option maxHeartbeats 1000000 in
theorem spans_7 (w : World) : Calls Try.prog 22 #[.int .i64 7] w (RetTab w (P.tab 7)) := by
  have K0 := four w
  have K1 := K0.alloc K0.size (.cells (pairs [(0, 1)]).toArray 51)
  go_enter Try.func22, Try.ntmps22
  go_wp2_with fail
  go_ret2
  exact tab_lit [(0, 1)] (by decide) rfl (alloc_at (W := four_ w) (by simp [four_]) _) K1
set_option maxRecDepth 100000 in
set_option maxHeartbeats 1000000 in
theorem spans_8 (w : World) : Calls Try.prog 22 #[.int .i64 8] w (RetTab w (P.tab 8)) := by
  have K0 := four w
  have T := same_any (-268435456) 268435456 16 (by omega)
  go_enter Try.func22, Try.ntmps22
  go_wp2_with fail
  refine (T _).mono ?_
  rintro e w1 ⟨A, c, rfl, hr, hb⟩
  clear T
  have K1 := K0.trans (hb.mono K0.size)
  clear K0 hb
  go_wp2_with fail
  go_ret2
  exact tab_same (List.replicate 16 ((-268435456), 268435456)) (by decide) rfl hr K1
set_option maxRecDepth 100000 in
set_option maxHeartbeats 1000000 in
theorem spans_9 (w : World) : Calls Try.prog 22 #[.int .i64 9] w (RetTab w (P.tab 9)) := by
  have K0 := four w
  have T := same_any (-268435456) 268435456 16 (by omega)
  go_enter Try.func22, Try.ntmps22
  go_wp2_with fail
  refine (T _).mono ?_
  rintro e w1 ⟨A, c, rfl, hr, hb⟩
  clear T
  have K1 := K0.trans (hb.mono K0.size)
  clear K0 hb
  go_wp2_with fail
  go_ret2
  exact tab_same (List.replicate 16 ((-268435456), 268435456)) (by decide) rfl hr K1
set_option maxRecDepth 100000 in
set_option maxHeartbeats 1000000 in
theorem spans_10 (w : World) : Calls Try.prog 22 #[.int .i64 10] w (RetTab w (P.tab 10)) := by
  have K0 := four w
  go_enter Try.func22, Try.ntmps22
  go_wp2_with fail
  go_ret2
  exact tab_empty (by decide) K0
set_option maxRecDepth 100000 in
set_option maxHeartbeats 1000000 in
theorem spans_11 (w : World) : Calls Try.prog 22 #[.int .i64 11] w (RetTab w (P.tab 11)) := by
  have K0 := four w
  go_enter Try.func22, Try.ntmps22
  go_wp2_with fail
  go_ret2
  exact tab_empty (by decide) K0
end Go.Proofs.Ytaegekmfndcflaa
