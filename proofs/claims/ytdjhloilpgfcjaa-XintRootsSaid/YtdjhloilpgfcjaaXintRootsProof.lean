/-
  For every number of 128 bits the law XintRoots returns true: a square root is not above the number when squared, and that of one more is. No condition.
-/
import Derived.Test.YtdjhloilpgfcjaaRow
import Derived.Test.YtdjhloilpgfcjaaRootsMax
namespace Go.Proofs.Ytdjhloilpgfcjaa.xintRoots
open Go.ChangeShapes Go.WideShapes Go.ChangeAt Go.RowKit Go.Joins
set_option linter.unusedVariables false

theorem own : ownKnob Try.prog.godebug = none := by kernel_rfl

set_option maxHeartbeats 4000000 in
theorem walk (h0 l0 : Int) (b0 : M.B h0 l0) (w : World) :
    Calls Try.prog 8 #[.agg #[.int .i64 h0, .int .u64 l0]] w fun e w' => e = .returned (.bool true) ∧ Below w.heap.size w w' := by
  have aw := awake_any
  have sg := sign_any h0 l0 b0
  by_cases o : h0 < 0 ∨ 4611686018427387904 ≤ h0
  · have rn := root_no h0 l0 o
    by_cases n : h0 < 0
    · have sv : M.sgn (M.val h0 l0) 0 = -1 := (M.sgn_lt (by obtain ⟨x1, x2, x3, x4⟩ := b0; unfold M.val; omega)).symm
      rw [sv] at sg
      clear o sv b0
      go_enter Try.func8, Try.ntmps8
      go_wp2_with fail
      refine (rn _).mono ?_; rintro e w1 ⟨rfl, hb⟩
      have K := hb
      obtain ⟨d0, d1, hz⟩ := box2 hb (by simp)
      clear hb
      go_wp2_with fail
      refine (aw _).mono ?_; rintro e w2 ⟨rfl, hb⟩
      replace K := K.trans (hb.mono K.size)
      clear hb d0 d1 hz
      obtain ⟨d0, d1, hz⟩ := box2 K (by simp)
      go_wp2_with fail
      refine (sg _).mono ?_; rintro e w3 ⟨rfl, hb⟩
      replace K := K.trans (hb.mono K.size)
      clear hb d0 d1 hz
      obtain ⟨d0, d1, hz⟩ := box2 K (by simp)
      go_wp2_with fail
      go_ret
      exact ⟨retb (by first | rfl | simp), ((Below.refl _ _).alloc (Nat.le_refl _) _).trans (K.mono (by simp))⟩
    · have b : 4611686018427387904 ≤ h0 := by omega
      have sv : M.sgn (M.val h0 l0) 0 = 1 := (M.sgn_gt (by obtain ⟨x1, x2, x3, x4⟩ := b0; unfold M.val; omega)).symm
      rw [sv] at sg
      clear o sv b0 n
      go_enter Try.func8, Try.ntmps8
      go_wp2_with fail
      refine (rn _).mono ?_; rintro e w1 ⟨rfl, hb⟩
      have K := hb
      obtain ⟨d0, d1, hz⟩ := box2 hb (by simp)
      clear hb
      go_wp2_with fail
      refine (aw _).mono ?_; rintro e w2 ⟨rfl, hb⟩
      replace K := K.trans (hb.mono K.size)
      clear hb d0 d1 hz
      obtain ⟨d0, d1, hz⟩ := box2 K (by simp)
      go_wp2_with fail
      refine (sg _).mono ?_; rintro e w3 ⟨rfl, hb⟩
      replace K := K.trans (hb.mono K.size)
      clear hb d0 d1 hz
      obtain ⟨d0, d1, hz⟩ := box2 K (by simp)
      go_wp2_with fail
      go_ret
      exact ⟨retb (by first | rfl | simp), ((Below.refl _ _).alloc (Nat.le_refl _) _).trans (K.mono (by simp))⟩
  · obtain ⟨r, hr⟩ := M.root_ex (M.val h0 l0) (by obtain ⟨x1, x2, x3, x4⟩ := b0; unfold M.val; omega)
    have rt := root_yes h0 l0 r b0 (by omega) (by omega) hr
    obtain ⟨r0, r1, r2⟩ := hr
    have hV : M.val h0 l0 < 85070591730234615865843651857942052864 := by obtain ⟨x1, x2, x3, x4⟩ := b0; unfold M.val; omega
    have r3 : r < 9223372036854775808 := by
      rcases Int.lt_or_le r 9223372036854775808 with k | k
      · exact k
      · have := M.sq_le (a := 9223372036854775808) (b := r) (by omega) k; omega
    have cm := mul_any r r (by omega) r3 (by omega) r3
    have cc := cmp_any (M.oh (r * r)) (M.ol (r * r)) h0 l0 (M.b_of _) b0
    rw [M.val_of (v := r * r) (by rw [M.ok_iff]; have := Int.mul_nonneg r0 r0; omega)] at cc
    have c2 : r ≠ 9223372036854775807 → ∀ w, Calls Try.prog 30 #[.int .i64 (r + 1), .int .i64 (r + 1)] w fun e w' => e = .returned (.agg #[.int .i64 (M.oh ((r + 1) * (r + 1))), .int .u64 (M.ol ((r + 1) * (r + 1)))]) ∧ Below w.heap.size w w' :=
      fun k w => mul_any (r + 1) (r + 1) (by omega) (by omega) (by omega) (by omega) w
    have c3 : r ≠ 9223372036854775807 → ∀ w, Calls Try.prog 24 #[.agg #[.int .i64 (M.oh ((r + 1) * (r + 1))), .int .u64 (M.ol ((r + 1) * (r + 1)))], .agg #[.int .i64 h0, .int .u64 l0]] w fun e w' => e = .returned (.int .i64 1) ∧ Below w.heap.size w w' := fun k w => by
      have c := cmp_any (M.oh ((r + 1) * (r + 1))) (M.ol ((r + 1) * (r + 1))) h0 l0 (M.b_of _) b0 w
      rw [M.val_of (v := (r + 1) * (r + 1)) (by
        have := M.mul_hi (a := r + 1) (b := r + 1) (A := 9223372036854775807) (B := 9223372036854775807) (by omega) (by omega) (by omega) (by omega)
        rw [M.ok_iff]; omega), ← M.sgn_gt r2] at c
      exact c
    have t1 : decide (0 < M.sgn (r * r) (M.val h0 l0)) = false := by
      apply decide_eq_false
      rcases Int.lt_or_eq_of_le r1 with k | k
      · rw [← M.sgn_lt k]; omega
      · rw [k, ← M.sgn_eq (by omega) (by omega)]; omega
    generalize M.sgn (r * r) (M.val h0 l0) = g at *
    generalize M.oh (r * r) = ph at *
    generalize M.ol (r * r) = pl at *
    generalize M.oh ((r + 1) * (r + 1)) = qh at *
    generalize M.ol ((r + 1) * (r + 1)) = ql at *
    clear b0 sg r1 r2 hV o
    have n0 : decide (r < 0) = false := decide_eq_false (by omega)
    by_cases k : r = 9223372036854775807
    · subst k
      exact roots_max h0 l0 g ph pl aw rt cm cc t1 w
    · have kb : (r == 9223372036854775807) = false := by simpa using k
      replace c2 := c2 k
      replace c3 := c3 k
      have r4 : IntKind.i64.wrap (r + 1) = r + 1 := IntWalk.i64_in _ (by omega)
      clear k
      go_enter Try.func8, Try.ntmps8
      go_wp2_with fail
      refine (rt _).mono ?_; rintro e w1 ⟨rfl, hb⟩
      have K := hb
      obtain ⟨d0, d1, hz⟩ := box2 hb (by simp)
      clear hb
      go_wp2_with fail
      go_region_held3 (fun w' => w'.cell? ⟨w.heap.size, 0, none⟩ = some (.int .i64 h0) ∧ w'.cell? ⟨w.heap.size, 1, none⟩ = some (.int .u64 l0) ∧ w.heap.size < w'.heap.size) (first | go_keep | exact keep2 hbB (by assumption) | exact keep2 hbA (by assumption))
        ((first | (go_at_call 30; refine (cm _).mono ?_; rintro e w2 ⟨rfl, hbA⟩) | (go_at_call 24; refine (cc _).mono ?_; rintro e w3 ⟨rfl, hbB⟩)))
      replace K := (K.drew.trans (hbA.mono K.drew.size)).trans (hbB.mono (Nat.le_trans K.drew.size hbA.size))
      clear hbA hbB d0 d1 hz
      obtain ⟨d0, d1, hz⟩ := box2 K (by simp)
      go_wp2_with fail
      go_region_held3 (fun w' => w'.cell? ⟨w.heap.size, 0, none⟩ = some (.int .i64 h0) ∧ w'.cell? ⟨w.heap.size, 1, none⟩ = some (.int .u64 l0) ∧ w.heap.size < w'.heap.size) (first | go_keep | exact keep2 hbC (by assumption) | exact keep2 hbB (by assumption) | exact keep2 hbA (by assumption))
        ((first | (go_at_call 19; refine (aw _).mono ?_; rintro e w4 ⟨rfl, hbA⟩) | (go_at_call 30; refine (c2 _).mono ?_; rintro e w5 ⟨rfl, hbB⟩) | (go_at_call 24; refine (c3 _).mono ?_; rintro e w6 ⟨rfl, hbC⟩)))
      all_goals go_wp2_with fail
      all_goals go_ret
      all_goals exact ⟨retb (by first | rfl | simp), ((Below.refl _ _).alloc (Nat.le_refl _) _).trans ((((K.drew.trans (hbA.mono K.drew.size)).trans (hbB.mono (Nat.le_trans K.drew.size hbA.size))).trans (hbC.mono (Nat.le_trans (Nat.le_trans K.drew.size hbA.size) hbB.size))).mono (by simp))⟩

set_option maxRecDepth 100000 in
theorem lifted (os : Os) (started : os.Started) (H : Type) (enc : TypeId × Value → H) :
    ReturnsInHanded {} Try.checked os 8 .any (Rows.xintRootsSpec.pre6 enc Try.prog Try.f8 Rows.xintRootsRow.domain false) (Rows.xintRootsSpec.post enc Try.prog Try.f8 false true false false) := by
  refine returnsInHanded_of_change (C := Try.checked) own started (by kernel_rfl) Try.func8
    (ChangeSpec.witness6 (enc := enc) (C := Try.checked) false ⟨#[], #[.agg #[.int .i64 0, .int .u64 0]], []⟩ 8 (by kernel_rfl) (by kernel_rfl) (by kernel_rfl) (by kernel_rfl)) ?_
  intro W base args ds gs before hval0 hW hcnd _
  have hval : ∀ (j : Nat) t v, Try.f8.params[j]? = some t → args[j]? = some v → Value.okWide Try.prog W .any base t v := hval0
  have hW' := hW
  obtain ⟨p, q, hA0, hV, rfl, hfz, hnd⟩ := hW
  have hA : DataW.TrodAll enc Try.prog W 0 (fun _ => true) true Try.f8.params.toList args.toList ds p := hA0
  rw [Try.params8] at hA hval
  obtain ⟨v0, d0, rfl, rfl, h0⟩ := trodAll_one hA
  obtain ⟨rfl, rfl⟩ := trodVars_none hV
  obtain ⟨c0, e0, rfl, rfl, rfl, x0, y0⟩ := open24 (hval 0 24 v0 rfl rfl) h0
  clear hA0 hval0
  simp only [List.append_nil] at hW'
  refine (walk c0 e0 ⟨(wf_rng x0).1, (wf_rng x0).2, (wf_urng y0).1, (wf_urng y0).2⟩ W).mono fun e W' ⟨he, hg⟩ => ?_
  subst he
  exact ⟨_, rfl, post_of_below (pa := []) (pv := []) hW' (fun _ _ _ => trodAll_cons_mk (shut_bool Try.underlying4 _) trodAll_mk0) (fun sp _ => trodAll_mk1 (shut24 x0 y0 _ _ _ _)) (fun _ _ => rfl) rfl
    hg (ok_one (by kernel_rfl) rfl (okWide_bool_mk Try.underlying4 _))⟩

theorem over : Rows.xintRootsRow.holds Try.pinned (OpenSpec.ofChange Rows.xintRootsSpec) :=
  OpenClaim.holds_of_wide 8 Try.f8 rfl rfl rfl rfl rfl rfl rfl ⟨rfl, rfl, rfl, rfl, rfl⟩ rfl rfl rfl rfl rfl (by kernel_rfl) Try.func8 (by kernel_rfl)
    (of_decide_eq_true (by kernel_rfl)) (by unfold Func.isWrapper; first | (rw [if_pos (by decide +kernel)]; kernel_rfl) | (rw [if_neg (by decide +kernel)]; exact ⟨rfl, rfl⟩))
    (fun os started H enc _ => lifted os started H enc)

theorem proved : Rows.XintRootsSaid :=
  over
#print axioms proved
end Go.Proofs.Ytdjhloilpgfcjaa.xintRoots
