/- XintRoots where the root is the greatest int: the last test is not asked. -/
import Derived.Test.YtdjhloilpgfcjaaAwake
namespace Go.Proofs.Ytdjhloilpgfcjaa
open Go.ChangeShapes Go.WideShapes Go.ChangeAt Go.RowKit
set_option linter.unusedVariables false
set_option maxHeartbeats 4000000 in
theorem roots_max (h0 l0 g ph pl : Int) (aw : ∀ w, Calls Try.prog 19 #[] w fun e w' => e = .returned (.bool true) ∧ Below w.heap.size w w')
    (rt : ∀ w, Calls Try.prog 28 #[.agg #[.int .i64 h0, .int .u64 l0]] w fun e w' => e = .returned (.tuple #[.int .i64 9223372036854775807, .bool true]) ∧ Below w.heap.size w w')
    (cm : ∀ w, Calls Try.prog 30 #[.int .i64 9223372036854775807, .int .i64 9223372036854775807] w fun e w' => e = .returned (.agg #[.int .i64 ph, .int .u64 pl]) ∧ Below w.heap.size w w')
    (cc : ∀ w, Calls Try.prog 24 #[.agg #[.int .i64 ph, .int .u64 pl], .agg #[.int .i64 h0, .int .u64 l0]] w fun e w' => e = .returned (.int .i64 g) ∧ Below w.heap.size w w')
    (t1 : decide (0 < g) = false) (w : World) :
    Calls Try.prog 8 #[.agg #[.int .i64 h0, .int .u64 l0]] w fun e w' => e = .returned (.bool true) ∧ Below w.heap.size w w' := by
  go_enter Try.func8, Try.ntmps8
  go_wp2_with fail
  refine (rt _).mono ?_; rintro e w1 ⟨rfl, hb⟩
  have K := hb
  obtain ⟨d0, d1, hz⟩ := box2 hb (by simp)
  clear hb
  go_wp2_with fail
  go_region_held3 (fun w' => w'.cell? ⟨w.heap.size, 0, none⟩ = some (.int .i64 h0) ∧ w'.cell? ⟨w.heap.size, 1, none⟩ = some (.int .u64 l0) ∧ w.heap.size < w'.heap.size) (first | go_keep | exact keep2 hbB (by assumption) | exact keep2 hbA (by assumption))
    ((first | (go_at_call 30; refine (cm _).mono ?_; rintro e w2 ⟨rfl, hbA⟩) | (go_at_call 24; refine (cc _).mono ?_; rintro e w3 ⟨rfl, hbB⟩)))
  replace K := (K.drew.trans (hbA.mono K.drew.size)).trans (hbB.mono (Nat.le_trans K.drew.size hbA.size))
  clear hbA hbB d0 d1 hz
  obtain ⟨d0, d1, hz⟩ := box2 K (by simp)
  go_wp2_with fail
  first
    | go_region_with ((go_at_call 19; refine (aw _).mono ?_; rintro e w4 ⟨rfl, hbA⟩))
    | fail
  all_goals go_wp2_with fail
  all_goals go_ret
  all_goals exact ⟨retb (by first | rfl | simp), ((Below.refl _ _).alloc (Nat.le_refl _) _).trans ((K.drew.trans (hbA.mono K.drew.size)).mono (by simp))⟩
end Go.Proofs.Ytdjhloilpgfcjaa
