/-
  For every two ints, the law RealNear returns true: no whole number is nearer to a float times a power of 2 than its fixed number, and where two are as near, it is even. No condition.
-/
import Derived.Test.YtoimobmnbcbjiaaRows
import Derived.WalkKit
import Derived.ProofKit
import Derived.OpenShut
import Derived.Test.YtoimobmnbcbjiaaUnit
import Derived.Test.YtoimobmnbcbjiaaNear
namespace Go.Proofs.Ytoimobmnbcbjiaa.realNear
open Go.ChangeShapes Go.WideShapes Go.ChangeAt Go.RowKit
set_option linter.unusedVariables false      -- a walk need not use every 'w<i>' (that an integer argument fits its kind)

theorem own : ownKnob Try.prog.godebug = none := by kernel_rfl

/-! ### STEP 1: THE WALK: the Go text returns true. 'Grown w w'': the world has at most new blocks (Derived/RowKit3.lean). Part the cases AHEAD of 'go_enter' where a test parts the walk; take each callee by a contract of your own. -/
set_option maxHeartbeats 2000000 in
theorem walk (a0 : Int) (a1 : Int) (w0 : (Lit.int .i64 a0).wf = true) (w1 : (Lit.int .i64 a1).wf = true) (w : World) :
    Calls Try.prog 7 #[.int .i64 a0, .int .i64 a1] w fun e w' => e = .returned (.bool true) ∧ Grown w w' := by
  have cx := of_any a0
  have c1 := fixed_any (M.ofV a0) (M.ofV_lt a0) a1 1099511627776
  have he := M.fix_err (M.ofV a0) a1 1099511627776
  have hx := M.ofV_lt a0
  have hn := M.fix_near (M.ofV a0)
  clear w0 w1
  generalize M.ofV a0 = x at *
  by_cases h1 : (M.fixV x a1 1099511627776).2 = 0
  · by_cases h2 : 31 < a1
    · rw [h1] at c1
      generalize (M.fixV x a1 1099511627776).1 = A at *
      clear he hx hn h1
      go_enter Try.func7, Try.ntmps7
      go_wp2_with fail
      refine (cx _).mono ?_; rintro e w' ⟨rfl, rfl⟩
      go_wp2_with fail
      refine (c1 _).mono ?_; rintro e w1 ⟨rfl, q1⟩
      go_wp2_with fail
      refine (awake_any _).mono ?_; rintro e w2 ⟨rfl, q2⟩
      go_wp2_with fail
      go_ret
      exact ⟨rfl, (q1.trans q2).grown⟩
    · obtain ⟨i1, _⟩ := M.fix_ok x a1 _ h1
      obtain ⟨k, rfl⟩ := Int.eq_ofNat_of_zero_le (M.inB_lo i1)
      obtain ⟨a, ha⟩ : ∃ a, (M.fixV x k 1099511627776).1 = a := ⟨_, rfl⟩
      obtain ⟨f1, f2, f3, f4, f5, f6⟩ := hn k (by omega) h1 a ha
      rw [h1, ha] at c1
      have hk1 : ((k : Int) + 1).toNat = k + 1 := by omega
      have vl : backV (2 * a - 1) ((k : Int) + 1) = (M.backB (2 * a - 1) (k + 1), 0) := by rw [backV, if_neg (by simp [M.inB]; omega), hk1]
      have vh : backV (2 * a + 1) ((k : Int) + 1) = (M.backB (2 * a + 1) (k + 1), 0) := by rw [backV, if_neg (by simp [M.inB]; omega), hk1]
      have cl := back_any (2 * a - 1) ((k : Int) + 1)
      have ch := back_any (2 * a + 1) ((k : Int) + 1)
      rw [vl] at cl
      rw [vh] at ch
      have sl := M.back_sv (2 * a - 1) (k + 1) (by omega) (by omega) (by omega) (by omega)
      have sh := M.back_sv (2 * a + 1) (k + 1) (by omega) (by omega) (by omega) (by omega)
      obtain ⟨_, ll, _, lf, _⟩ := M.back_parts (2 * a - 1) (k + 1) (by omega) (by omega) (by omega) (by omega)
      obtain ⟨_, hl, _, hf, _⟩ := M.back_parts (2 * a + 1) (k + 1) (by omega) (by omega) (by omega) (by omega)
      rw [show 1074 - (k + 1) = 1073 - k from by omega] at sl sh
      rw [← sl] at f4 f6
      rw [← sh] at f5 f6
      have o1 := M.order_eq x _ hx ll f1 lf
      have o2 := M.order_eq x _ hx hl f1 hf
      have r1 := M.sv_rank _ x ll hx lf f1
      have r2 := M.sv_rank x _ hx hl f1 hf
      have cc1 := compare_any _ x ll hx
      have cc2 := compare_any x _ hx hl
      clear sl sh vl vh hn he i1 ha hk1 lf hf h1
      generalize M.backB (2 * a - 1) (k + 1) = lo at *
      generalize M.backB (2 * a + 1) (k + 1) = hi at *
      by_cases e1 : M.sv x = M.sv lo
      · have g1 : (FloatKind.f64.format.order x lo == some .eq) = true := by
          rw [show FloatKind.f64.format = Ieee.double from rfl, o1]; exact decide_eq_true e1
        have ge : (a.tmod 2 == 0) = true := M.even_tmod a (f6 (Or.inl e1.symm))
        clear o1 o2 r1 r2 f1 f4 f5 f6 e1 ll hl hx
        go_enter Try.func7, Try.ntmps7
        go_wp2_with fail
        refine (cx _).mono ?_; rintro e w' ⟨rfl, rfl⟩
        go_wp2_with fail
        refine (c1 _).mono ?_; rintro e w1 ⟨rfl, q1⟩
        go_wp2_with fail
        refine (cl _).mono ?_; rintro e w' ⟨rfl, rfl⟩
        go_wp2_with fail
        refine (ch _).mono ?_; rintro e w' ⟨rfl, rfl⟩
        go_wp2_with fail
        refine (cc1 _).mono ?_; rintro e w' ⟨rfl, rfl⟩
        go_wp2_with fail
        refine (cc2 _).mono ?_; rintro e w' ⟨rfl, rfl⟩
        go_wp2_with fail
        refine (awake_any _).mono ?_; rintro e w2 ⟨rfl, q2⟩
        go_wp2_with fail
        go_ret
        exact ⟨rfl, (q1.trans q2).grown⟩
      · have g1 : (FloatKind.f64.format.order x lo == some .eq) = false := by
          rw [show FloatKind.f64.format = Ieee.double from rfl, o1]; exact decide_eq_false e1
        by_cases e2 : M.sv x = M.sv hi
        · have g2 : (FloatKind.f64.format.order x hi == some .eq) = true := by
            rw [show FloatKind.f64.format = Ieee.double from rfl, o2]; exact decide_eq_true e2
          have ge : (a.tmod 2 == 0) = true := M.even_tmod a (f6 (Or.inr e2))
          clear o1 o2 r1 r2 f1 f4 f5 f6 e1 e2 ll hl hx
          go_enter Try.func7, Try.ntmps7
          go_wp2_with fail
          refine (cx _).mono ?_; rintro e w' ⟨rfl, rfl⟩
          go_wp2_with fail
          refine (c1 _).mono ?_; rintro e w1 ⟨rfl, q1⟩
          go_wp2_with fail
          refine (cl _).mono ?_; rintro e w' ⟨rfl, rfl⟩
          go_wp2_with fail
          refine (ch _).mono ?_; rintro e w' ⟨rfl, rfl⟩
          go_wp2_with fail
          refine (cc1 _).mono ?_; rintro e w' ⟨rfl, rfl⟩
          go_wp2_with fail
          refine (cc2 _).mono ?_; rintro e w' ⟨rfl, rfl⟩
          go_wp2_with fail
          refine (awake_any _).mono ?_; rintro e w2 ⟨rfl, q2⟩
          go_wp2_with fail
          go_ret
          exact ⟨rfl, (q1.trans q2).grown⟩
        · have g2 : (FloatKind.f64.format.order x hi == some .eq) = false := by
            rw [show FloatKind.f64.format = Ieee.double from rfl, o2]; exact decide_eq_false e2
          have v1 : M.cmpV lo x = -1 := (M.sgn_lt (r1 (by omega))).symm
          have v2 : M.cmpV x hi = -1 := (M.sgn_lt (r2 (by omega))).symm
          rw [v1] at cc1
          rw [v2] at cc2
          clear o1 o2 r1 r2 f1 f4 f5 f6 e1 e2 ll hl hx v1 v2
          go_enter Try.func7, Try.ntmps7
          go_wp2_with fail
          refine (cx _).mono ?_; rintro e w' ⟨rfl, rfl⟩
          go_wp2_with fail
          refine (c1 _).mono ?_; rintro e w1 ⟨rfl, q1⟩
          go_wp2_with fail
          refine (cl _).mono ?_; rintro e w' ⟨rfl, rfl⟩
          go_wp2_with fail
          refine (ch _).mono ?_; rintro e w' ⟨rfl, rfl⟩
          go_wp2_with fail
          refine (cc1 _).mono ?_; rintro e w' ⟨rfl, rfl⟩
          go_wp2_with fail
          refine (cc2 _).mono ?_; rintro e w' ⟨rfl, rfl⟩
          go_wp2_with fail
          refine (awake_any _).mono ?_; rintro e w2 ⟨rfl, q2⟩
          go_wp2_with fail
          go_ret
          exact ⟨rfl, (q1.trans q2).grown⟩
  · have h2 : (M.fixV x a1 1099511627776).1 = 0 := he.resolve_left h1
    rw [h2] at c1
    generalize (M.fixV x a1 1099511627776).2 = E at *
    have h3 : (E == 0) = false := by simpa using h1
    have h4 : (E != 0) = true := by simpa using h1
    clear he hx hn h2
    go_enter Try.func7, Try.ntmps7
    go_wp2_with fail
    refine (cx _).mono ?_; rintro e w' ⟨rfl, rfl⟩
    go_wp2_with fail
    refine (c1 _).mono ?_; rintro e w1 ⟨rfl, q1⟩
    go_wp2_with fail
    refine (awake_any _).mono ?_; rintro e w2 ⟨rfl, q2⟩
    go_wp2_with fail
    go_ret
    exact ⟨rfl, (q1.trans q2).grown⟩

/-! ### THE ROW's STEP: WRITTEN OUT: LEAVE IT -/
set_option maxRecDepth 100000 in
theorem lifted (os : Os) (started : os.Started) (H : Type) (enc : TypeId × Value → H) :
    ReturnsInHanded {} Try.checked os 7 .any (Rows.realNearSpec.pre6 enc Try.prog Try.f7 Rows.realNearRow.domain false) (Rows.realNearSpec.post enc Try.prog Try.f7 false true false false) := by
  refine returnsInHanded_of_change (C := Try.checked) own started (by kernel_rfl) Try.func7
    (ChangeSpec.witness6 (enc := enc) (C := Try.checked) false ⟨#[], #[.int .i64 0, .int .i64 0], []⟩ 8 (by kernel_rfl) (by kernel_rfl) (by kernel_rfl) (by kernel_rfl)) ?_
  intro W base args ds gs before hval0 hW hcnd _
  have hval : ∀ (j : Nat) t v, Try.f7.params[j]? = some t → args[j]? = some v → Value.okWide Try.prog W .any base t v := hval0
  have hW' := hW
  obtain ⟨p, q, hA0, hV, rfl, hfz, hnd⟩ := hW
  have hA : DataW.TrodAll enc Try.prog W 0 (fun _ => true) true Try.f7.params.toList args.toList ds p := hA0
  rw [Try.params7] at hA hval
  obtain ⟨v0, vs0, d0, ds0, p0, q0, hargs, rfl, rfl, h0, r0⟩ := trodAll_cons hA
  obtain ⟨v1, vs1, d1, ds1, p1, q1, rfl, rfl, rfl, h1, r1⟩ := trodAll_cons r0
  obtain ⟨rfl, rfl, rfl⟩ := trodAll_nil r1
  obtain rfl : args = #[v0, v1] := by cases args; simp_all
  obtain ⟨rfl, rfl⟩ := trodVars_none hV
  obtain ⟨a0, rfl, rfl, rfl, w0⟩ := open_int Try.underlying3 (hval 0 3 v0 rfl rfl) h0
  obtain ⟨a1, rfl, rfl, rfl, w1⟩ := open_int Try.underlying3 (hval 1 3 v1 rfl rfl) h1
  clear hA0 hval0
  simp only [List.append_nil] at hW'
  refine (walk a0 a1 w0 w1 W).mono fun e W' ⟨he, hg⟩ => ?_
  subst he
  exact ⟨_, rfl, post_of_same (pa := []) (pv := []) hW' (fun _ _ _ => (trodAll_cons_mk (shut_bool Try.underlying4 _) trodAll_mk0)) (fun sp _ => (trodAll_cons_mk (shut_int Try.underlying3 w0) (trodAll_cons_mk (shut_int Try.underlying3 w1) trodAll_mk0))) (fun _ _ => rfl) rfl
    (hg.frame _) hg.2.1 (ok_one (by kernel_rfl) rfl (okWide_bool_mk Try.underlying4 _))⟩

theorem over : Rows.realNearRow.holds Try.pinned (OpenSpec.ofChange Rows.realNearSpec) :=
  OpenClaim.holds_of_wide 7 Try.f7 rfl rfl rfl rfl rfl rfl rfl ⟨rfl, rfl, rfl, rfl, rfl⟩ rfl rfl rfl rfl rfl (by kernel_rfl) Try.func7 (by kernel_rfl)
    (of_decide_eq_true (by kernel_rfl)) (by unfold Func.isWrapper; first | (rw [if_pos (by decide +kernel)]; kernel_rfl) | (rw [if_neg (by decide +kernel)]; exact ⟨rfl, rfl⟩))
    (fun os started H enc _ => lifted os started H enc)

/-- ████ THE STATEMENT ████ -/
theorem proved : Rows.RealNearSaid :=
  over
#print axioms proved
end Go.Proofs.Ytoimobmnbcbjiaa.realNear
