/-
  For every three ints, the law RealOrders returns true: Compare is an order on floats, 0 just where the bits are alike, and NaN comes last. No condition.
-/
import Derived.Test.YtoimobmnbcbjiaaRows
import Derived.WalkKit
import Derived.ProofKit
import Derived.OpenShut
import Derived.Test.YtoimobmnbcbjiaaUnit
import Derived.Test.YtoimobmnbcbjiaaOrd
namespace Go.Proofs.Ytoimobmnbcbjiaa.realOrders
open Go.ChangeShapes Go.WideShapes Go.ChangeAt Go.RowKit
set_option linter.unusedVariables false      -- a walk need not use every 'w<i>' (that an integer argument fits its kind)

theorem own : ownKnob Try.prog.godebug = none := by kernel_rfl

/-! ### STEP 1: THE WALK: the Go text returns true. 'Grown w w'': the world has at most new blocks (Derived/RowKit3.lean). Part the cases AHEAD of 'go_enter' where a test parts the walk; take each callee by a contract of your own. -/
set_option maxHeartbeats 4000000 in
theorem walk (a0 : Int) (a1 : Int) (a2 : Int) (w0 : (Lit.int .i64 a0).wf = true) (w1 : (Lit.int .i64 a1).wf = true) (w2 : (Lit.int .i64 a2).wf = true) (w : World) :
    Calls Try.prog 5 #[.int .i64 a0, .int .i64 a1, .int .i64 a2] w fun e w' => e = .returned (.bool true) ∧ Grown w w' := by
  have o1 := of_any a0
  have o2 := of_any a1
  have o3 := of_any a2
  have c1 := compare_any (M.ofV a0) (M.ofV a1) (M.ofV_lt a0) (M.ofV_lt a1)
  have c2 := compare_any (M.ofV a1) (M.ofV a2) (M.ofV_lt a1) (M.ofV_lt a2)
  have c3 := compare_any (M.ofV a0) (M.ofV a2) (M.ofV_lt a0) (M.ofV_lt a2)
  have c4 := compare_any (M.ofV a1) (M.ofV a0) (M.ofV_lt a1) (M.ofV_lt a0)
  have b1 := bits_any (M.ofV a0) (M.ofV_lt a0)
  have b2 := bits_any (M.ofV a1) (M.ofV_lt a1)
  have k1 := kind_any (M.ofV a0) (M.ofV_lt a0)
  have hb := M.rank_eq (M.ofV a0) (M.ofV a1) (M.ofV_lt a0) (M.ofV_lt a1)
  have ht := M.rank_top (M.ofV a1)
  have hn := M.rank_nan (M.ofV a0)
  have t1 := M.tri (M.ofV a0) (M.ofV a1)
  have t2 := M.tri (M.ofV a1) (M.ofV a2)
  have t3 := M.tri (M.ofV a0) (M.ofV a2)
  clear w0 w1 w2
  generalize M.ofV a0 = x at *
  generalize M.ofV a1 = y at *
  generalize M.ofV a2 = z at *
  generalize M.bitsV x = bx at *
  generalize M.bitsV y = cy at *
  generalize M.kind x = k at *
  rcases t1 with ⟨r1, e1, f1⟩ | ⟨r1, e1, f1⟩ | ⟨r1, e1, f1⟩ <;> rcases t2 with ⟨r2, e2, f2⟩ | ⟨r2, e2, f2⟩ | ⟨r2, e2, f2⟩ <;> rcases t3 with ⟨r3, e3, f3⟩ | ⟨r3, e3, f3⟩ | ⟨r3, e3, f3⟩ <;> by_cases hk : k = 1
  all_goals
    first
    | (exfalso; omega)
    | (exfalso; have := hn hk; omega)
    | skip
  all_goals
    rw [e1] at c1
    rw [e2] at c2
    rw [e3] at c3
    rw [f1] at c4
    first
    | (have hB : (bx == cy) = true := by simpa using hb.1 r1)
    | (have hB : (bx == cy) = false := by have := hb.2; simp; omega)
    first
    | (have hK : (k != 1) = true := by simpa using hk)
    | (have hK : (k != 1) = false := by simpa using hk)
    clear hb ht hn hk r1 r2 r3 e1 e2 e3 f1 f2 f3
  all_goals
    go_enter Try.func5, Try.ntmps5
    go_wp2_with fail
    refine (o1 _).mono ?_; rintro e w' ⟨rfl, rfl⟩
    go_wp2_with fail
    refine (o2 _).mono ?_; rintro e w' ⟨rfl, rfl⟩
    go_wp2_with fail
    refine (o3 _).mono ?_; rintro e w' ⟨rfl, rfl⟩
    go_wp2_with fail
    refine (c1 _).mono ?_; rintro e w' ⟨rfl, rfl⟩
    go_wp2_with fail
    refine (c2 _).mono ?_; rintro e w' ⟨rfl, rfl⟩
    go_wp2_with fail
    refine (c3 _).mono ?_; rintro e w' ⟨rfl, rfl⟩
    go_wp2_with fail
    refine (awake_any _).mono ?_; rintro e w1 ⟨rfl, q1⟩
    go_wp2_with fail
    refine (c4 _).mono ?_; rintro e w' ⟨rfl, rfl⟩
    go_wp2_with fail
    refine (b1 _).mono ?_; rintro e w' ⟨rfl, rfl⟩
    go_wp2_with fail
    refine (b2 _).mono ?_; rintro e w' ⟨rfl, rfl⟩
    go_wp2_with fail
    refine (k1 _).mono ?_; rintro e w' ⟨rfl, rfl⟩
    go_wp2_with fail
    go_ret
    exact ⟨rfl, q1.grown⟩

/-! ### THE ROW's STEP: WRITTEN OUT: LEAVE IT -/
set_option maxRecDepth 100000 in
theorem lifted (os : Os) (started : os.Started) (H : Type) (enc : TypeId × Value → H) :
    ReturnsInHanded {} Try.checked os 5 .any (Rows.realOrdersSpec.pre6 enc Try.prog Try.f5 Rows.realOrdersRow.domain false) (Rows.realOrdersSpec.post enc Try.prog Try.f5 false true false false) := by
  refine returnsInHanded_of_change (C := Try.checked) own started (by kernel_rfl) Try.func5
    (ChangeSpec.witness6 (enc := enc) (C := Try.checked) false ⟨#[], #[.int .i64 0, .int .i64 0, .int .i64 0], []⟩ 8 (by kernel_rfl) (by kernel_rfl) (by kernel_rfl) (by kernel_rfl)) ?_
  intro W base args ds gs before hval0 hW hcnd _
  have hval : ∀ (j : Nat) t v, Try.f5.params[j]? = some t → args[j]? = some v → Value.okWide Try.prog W .any base t v := hval0
  have hW' := hW
  obtain ⟨p, q, hA0, hV, rfl, hfz, hnd⟩ := hW
  have hA : DataW.TrodAll enc Try.prog W 0 (fun _ => true) true Try.f5.params.toList args.toList ds p := hA0
  rw [Try.params5] at hA hval
  obtain ⟨v0, vs0, d0, ds0, p0, q0, hargs, rfl, rfl, h0, r0⟩ := trodAll_cons hA
  obtain ⟨v1, vs1, d1, ds1, p1, q1, rfl, rfl, rfl, h1, r1⟩ := trodAll_cons r0
  obtain ⟨v2, vs2, d2, ds2, p2, q2, rfl, rfl, rfl, h2, r2⟩ := trodAll_cons r1
  obtain ⟨rfl, rfl, rfl⟩ := trodAll_nil r2
  obtain rfl : args = #[v0, v1, v2] := by cases args; simp_all
  obtain ⟨rfl, rfl⟩ := trodVars_none hV
  obtain ⟨a0, rfl, rfl, rfl, w0⟩ := open_int Try.underlying3 (hval 0 3 v0 rfl rfl) h0
  obtain ⟨a1, rfl, rfl, rfl, w1⟩ := open_int Try.underlying3 (hval 1 3 v1 rfl rfl) h1
  obtain ⟨a2, rfl, rfl, rfl, w2⟩ := open_int Try.underlying3 (hval 2 3 v2 rfl rfl) h2
  clear hA0 hval0
  simp only [List.append_nil] at hW'
  refine (walk a0 a1 a2 w0 w1 w2 W).mono fun e W' ⟨he, hg⟩ => ?_
  subst he
  exact ⟨_, rfl, post_of_same (pa := []) (pv := []) hW' (fun _ _ _ => (trodAll_cons_mk (shut_bool Try.underlying4 _) trodAll_mk0)) (fun sp _ => (trodAll_cons_mk (shut_int Try.underlying3 w0) (trodAll_cons_mk (shut_int Try.underlying3 w1) (trodAll_cons_mk (shut_int Try.underlying3 w2) trodAll_mk0)))) (fun _ _ => rfl) rfl
    (hg.frame _) hg.2.1 (ok_one (by kernel_rfl) rfl (okWide_bool_mk Try.underlying4 _))⟩

theorem over : Rows.realOrdersRow.holds Try.pinned (OpenSpec.ofChange Rows.realOrdersSpec) :=
  OpenClaim.holds_of_wide 5 Try.f5 rfl rfl rfl rfl rfl rfl rfl ⟨rfl, rfl, rfl, rfl, rfl⟩ rfl rfl rfl rfl rfl (by kernel_rfl) Try.func5 (by kernel_rfl)
    (of_decide_eq_true (by kernel_rfl)) (by unfold Func.isWrapper; first | (rw [if_pos (by decide +kernel)]; kernel_rfl) | (rw [if_neg (by decide +kernel)]; exact ⟨rfl, rfl⟩))
    (fun os started H enc _ => lifted os started H enc)

/-- ████ THE STATEMENT ████ -/
theorem proved : Rows.RealOrdersSaid :=
  over
#print axioms proved
end Go.Proofs.Ytoimobmnbcbjiaa.realOrders
