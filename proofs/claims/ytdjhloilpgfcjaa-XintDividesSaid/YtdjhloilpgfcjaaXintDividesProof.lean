/-
  For every number of 128 bits and every two ints the law XintDivides returns true: the product of the ints, the quotient with what is left, and the root, are the document's. No condition.
-/
import Derived.Test.YtdjhloilpgfcjaaRow
import Derived.Deep.DeepCutAuto
import Derived.Test.YtdjhloilpgfcjaaAwake
import Derived.Test.YtdjhloilpgfcjaaRRoot
import Derived.Test.YtdjhloilpgfcjaaDiv
import Derived.Test.YtdjhloilpgfcjaaRoot
import Derived.Test.YtdjhloilpgfcjaaMul
namespace Go.Proofs.Ytdjhloilpgfcjaa.xintDivides
open Go.ChangeShapes Go.WideShapes Go.ChangeAt Go.RowKit Go.Joins
set_option linter.unusedVariables false

theorem own : ownKnob Try.prog.godebug = none := by kernel_rfl

set_option maxRecDepth 100000 in
set_option maxHeartbeats 4000000 in
theorem walk (h0 l0 : Int) (b0 : M.B h0 l0) (a1 : Int) (r1 : -9223372036854775808 ≤ a1) (s1 : a1 < 9223372036854775808) (a2 : Int) (r2 : -9223372036854775808 ≤ a2) (s2 : a2 < 9223372036854775808) (w : World) :
    Calls Try.prog 4 #[.agg #[.int .i64 h0, .int .u64 l0], .int .i64 a1, .int .i64 a2] w fun e w' => e = .returned (.bool true) ∧ Below w.heap.size w w' := by
  have aw := awake_any
  obtain ⟨qh, ql, rm, ok, c26, c27⟩ : ∃ (qh ql rm : Int) (ok : Bool), (∀ w, Calls Try.prog 26 #[.agg #[.int .i64 h0, .int .u64 l0], .int .i64 a2] w fun e w' => e = .returned (.tuple #[.agg #[.int .i64 qh, .int .u64 ql], .int .i64 rm, .bool ok]) ∧ Below w.heap.size w w') ∧
      (∀ w, Calls Try.prog 27 #[.agg #[.int .i64 h0, .int .u64 l0], .int .i64 a2] w fun e w' => e = .returned (.tuple #[.agg #[.int .i64 qh, .int .u64 ql], .int .i64 rm, .bool ok]) ∧ Below w.heap.size w w') := by
    by_cases g : a2 < 1
    · exact ⟨0, 0, 0, false, fun w => div_no h0 l0 a2 g w, fun w => rdiv_no h0 l0 a2 g w⟩
    · exact ⟨_, _, _, true, fun w => div_yes h0 l0 a2 b0 (by omega) s2 w, fun w => rdiv_yes h0 l0 a2 b0 (by omega) s2 w⟩
  obtain ⟨rt, is, c28, c29⟩ : ∃ (rt : Int) (is : Bool), (∀ w, Calls Try.prog 28 #[.agg #[.int .i64 h0, .int .u64 l0]] w fun e w' => e = .returned (.tuple #[.int .i64 rt, .bool is]) ∧ Below w.heap.size w w') ∧
      (∀ w, Calls Try.prog 29 #[.agg #[.int .i64 h0, .int .u64 l0]] w fun e w' => e = .returned (.tuple #[.int .i64 rt, .bool is]) ∧ Below w.heap.size w w') := by
    by_cases g : h0 < 0 ∨ 4611686018427387904 ≤ h0
    · exact ⟨0, false, fun w => root_no h0 l0 g w, fun w => rroot_no h0 l0 b0 g w⟩
    · obtain ⟨r, hr⟩ := M.root_ex (M.val h0 l0) (by have := b0.2.2.1; unfold M.val; omega)
      exact ⟨r, true, fun w => root_yes h0 l0 r b0 (by omega) (by omega) hr w, fun w => rroot_yes h0 l0 r b0 (by omega) (by omega) hr w⟩
  have c30 := fun w => mul_any a1 a2 r1 s1 r2 s2 w
  have c31 := fun w => rmul_any a1 a2 r1 s1 r2 s2 w
  generalize M.oh (a1 * a2) = mh at *
  generalize M.ol (a1 * a2) = ml at *
  clear b0 r1 s1 r2 s2
  go_enter Try.func4, Try.ntmps4
  have N := new2 (v := .int .i64 h0) (u := .int .u64 l0) (t := 24) (Below.refl w.heap.size w)
  have FA : _ ∧ _ ∧ _ := ⟨N.1, N.2.1, N.2.2.1⟩
  have K := N.2.2.2
  clear N
  have FAx := FA.1
  have FAy := FA.2.1
  go_wp2_with fail
  clear FAx FAy
  refine (c26 _).mono ?_; rintro e w1 ⟨rfl, hb⟩
  replace K := K.trans (hb.mono K.size)
  replace FA := keep2 hb FA
  clear hb
  have N := new2 (v := .int .i64 qh) (u := .int .u64 ql) (t := 24) K
  replace FA := keep2a (o := .cells #[.int .i64 qh, .int .u64 ql] 24) FA
  have FQ : _ ∧ _ ∧ _ := ⟨N.1, N.2.1, N.2.2.1⟩
  replace K := N.2.2.2
  clear N
  have FAx := FA.1
  have FAy := FA.2.1
  go_wp2_with fail
  clear FAx FAy
  refine (c27 _).mono ?_; rintro e w2 ⟨rfl, hb⟩
  replace K := K.trans (hb.mono K.size)
  replace FA := keep2 hb FA
  replace FQ := keep2 hb FQ
  clear hb
  have N := new2 (v := .int .i64 qh) (u := .int .u64 ql) (t := 24) K
  replace FA := keep2a (o := .cells #[.int .i64 qh, .int .u64 ql] 24) FA
  replace FQ := keep2a (o := .cells #[.int .i64 qh, .int .u64 ql] 24) FQ
  have FP : _ ∧ _ ∧ _ := ⟨N.1, N.2.1, N.2.2.1⟩
  replace K := N.2.2.2
  clear N
  have FAx := FA.1
  have FAy := FA.2.1
  go_wp2_with fail
  clear FAx FAy
  refine (c28 _).mono ?_; rintro e w3 ⟨rfl, hb⟩
  replace K := K.trans (hb.mono K.size)
  replace FA := keep2 hb FA
  replace FQ := keep2 hb FQ
  replace FP := keep2 hb FP
  clear hb
  have FAx := FA.1
  have FAy := FA.2.1
  go_wp2_with fail
  clear FAx FAy
  refine (c29 _).mono ?_; rintro e w4 ⟨rfl, hb⟩
  replace K := K.trans (hb.mono K.size)
  replace FQ := keep2 hb FQ
  replace FP := keep2 hb FP
  clear hb FA
  go_wp2_with fail
  refine (aw _).mono ?_; rintro e w5 ⟨rfl, hb⟩
  replace K := K.trans (hb.mono K.size)
  replace FQ := keep2 hb FQ
  replace FP := keep2 hb FP
  clear hb
  go_wp2_with fail
  refine (c30 _).mono ?_; rintro e w6 ⟨rfl, hb⟩
  replace K := K.trans (hb.mono K.size)
  replace FQ := keep2 hb FQ
  replace FP := keep2 hb FP
  clear hb
  go_wp2_with fail
  refine (c31 _).mono ?_; rintro e w7 ⟨rfl, hb⟩
  replace K := K.trans (hb.mono K.size)
  replace FQ := keep2 hb FQ
  replace FP := keep2 hb FP
  clear hb
  have FQx := FQ.1
  have FQy := FQ.2.1
  have FPx := FP.1
  have FPy := FP.2.1
  go_wp2_with fail
  go_ret
  exact ⟨retb (by first | rfl | simp), K⟩

set_option maxRecDepth 100000 in
theorem lifted (os : Os) (started : os.Started) (H : Type) (enc : TypeId × Value → H) :
    ReturnsInHanded {} Try.checked os 4 .any (Rows.xintDividesSpec.pre6 enc Try.prog Try.f4 Rows.xintDividesRow.domain false) (Rows.xintDividesSpec.post enc Try.prog Try.f4 false true false false) := by
  refine returnsInHanded_of_change (C := Try.checked) own started (by kernel_rfl) Try.func4
    (ChangeSpec.witness6 (enc := enc) (C := Try.checked) false ⟨#[], #[.agg #[.int .i64 0, .int .u64 0], .int .i64 0, .int .i64 0], []⟩ 8 (by kernel_rfl) (by kernel_rfl) (by kernel_rfl) (by kernel_rfl)) ?_
  intro W base args ds gs before hval0 hW hcnd _
  have hval : ∀ (j : Nat) t v, Try.f4.params[j]? = some t → args[j]? = some v → Value.okWide Try.prog W .any base t v := hval0
  have hW' := hW
  obtain ⟨p, q, hA0, hV, rfl, hfz, hnd⟩ := hW
  have hA : DataW.TrodAll enc Try.prog W 0 (fun _ => true) true Try.f4.params.toList args.toList ds p := hA0
  rw [Try.params4] at hA hval
  obtain ⟨v0, vs0, d0, ds0, p0, q0, hargs, rfl, rfl, h0, rr0⟩ := trodAll_cons hA
  obtain ⟨v1, vs1, d1, ds1, p1, q1, rfl, rfl, rfl, h1, rr1⟩ := trodAll_cons rr0
  obtain ⟨v2, vs2, d2, ds2, p2, q2, rfl, rfl, rfl, h2, rr2⟩ := trodAll_cons rr1
  obtain ⟨rfl, rfl, rfl⟩ := trodAll_nil rr2
  obtain rfl : args = #[v0, v1, v2] := by cases args; simp_all
  obtain ⟨rfl, rfl⟩ := trodVars_none hV
  obtain ⟨c0, e0, rfl, rfl, rfl, x0, y0⟩ := open24 (hval 0 24 v0 rfl rfl) h0
  obtain ⟨a1, rfl, rfl, rfl, x1⟩ := open_int Try.underlying3 (hval 1 3 v1 rfl rfl) h1
  obtain ⟨a2, rfl, rfl, rfl, x2⟩ := open_int Try.underlying3 (hval 2 3 v2 rfl rfl) h2
  clear hA0 hval0
  simp only [List.append_nil] at hW'
  refine (walk c0 e0 ⟨(wf_rng x0).1, (wf_rng x0).2, (wf_urng y0).1, (wf_urng y0).2⟩ a1 (wf_rng x1).1 (wf_rng x1).2 a2 (wf_rng x2).1 (wf_rng x2).2 W).mono fun e W' ⟨he, hg⟩ => ?_
  subst he
  exact ⟨_, rfl, post_of_below (pa := []) (pv := []) hW' (fun _ _ _ => trodAll_cons_mk (shut_bool Try.underlying4 _) trodAll_mk0) (fun sp _ => (trodAll_cons_mk (shut24 x0 y0 _ _ _ _) (trodAll_cons_mk (shut_int Try.underlying3 x1) (trodAll_cons_mk (shut_int Try.underlying3 x2) trodAll_mk0)))) (fun _ _ => rfl) rfl
    hg (ok_one (by kernel_rfl) rfl (okWide_bool_mk Try.underlying4 _))⟩

theorem over : Rows.xintDividesRow.holds Try.pinned (OpenSpec.ofChange Rows.xintDividesSpec) :=
  OpenClaim.holds_of_wide 4 Try.f4 rfl rfl rfl rfl rfl rfl rfl ⟨rfl, rfl, rfl, rfl, rfl⟩ rfl rfl rfl rfl rfl (by kernel_rfl) Try.func4 (by kernel_rfl)
    (of_decide_eq_true (by kernel_rfl)) (by unfold Func.isWrapper; first | (rw [if_pos (by decide +kernel)]; kernel_rfl) | (rw [if_neg (by decide +kernel)]; exact ⟨rfl, rfl⟩))
    (fun os started H enc _ => lifted os started H enc)

theorem proved : Rows.XintDividesSaid :=
  over
#print axioms proved
end Go.Proofs.Ytdjhloilpgfcjaa.xintDivides
