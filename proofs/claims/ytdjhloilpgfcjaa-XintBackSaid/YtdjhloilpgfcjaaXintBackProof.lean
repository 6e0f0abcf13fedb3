/-
  For every number of 128 bits and every int the law XintBack returns true: a quotient times its divisor, and what is left, is the number. No condition.
-/
import Derived.Test.YtdjhloilpgfcjaaRow
import Derived.Deep.DeepCutAuto
import Derived.Test.YtdjhloilpgfcjaaAwake
namespace Go.Proofs.Ytdjhloilpgfcjaa.xintBack
open Go.ChangeShapes Go.WideShapes Go.ChangeAt Go.RowKit Go.Joins
set_option linter.unusedVariables false

theorem own : ownKnob Try.prog.godebug = none := by kernel_rfl

set_option maxHeartbeats 4000000 in
theorem walk (h0 l0 : Int) (b0 : M.B h0 l0) (a1 : Int) (r1 : -9223372036854775808 ≤ a1) (s1 : a1 < 9223372036854775808) (w : World) :
    Calls Try.prog 7 #[.agg #[.int .i64 h0, .int .u64 l0], .int .i64 a1] w fun e w' => e = .returned (.bool true) ∧ Below w.heap.size w w' := by
  have aw := awake_any
  by_cases d1 : a1 < 1
  · have dn := div_no h0 l0 a1 d1
    clear b0 r1 s1
    go_enter Try.func7, Try.ntmps7
    go_wp2_with fail
    refine (dn _).mono ?_; rintro e w1 ⟨rfl, hb⟩
    have K := (((Below.refl _ w).alloc (Nat.le_refl _) _).trans (hb.mono (by simp))).alloc (by have := hb.size; simp at this; omega) (.cells #[.int .i64 0, .int .u64 0] 24)
    clear hb
    go_wp2_with fail
    refine (aw _).mono ?_; rintro e w2 ⟨rfl, hb⟩
    replace K := K.trans (hb.mono K.size)
    clear hb
    go_wp2_with fail
    go_ret
    exact ⟨retb (by first | rfl | simp), K⟩
  have V := M.ok_val b0
  have dy := div_yes h0 l0 a1 b0 (by omega) s1
  have QR := Int.mul_ediv_add_emod (M.val h0 l0) a1
  have R0 := Int.emod_nonneg (M.val h0 l0) (b := a1) (by omega)
  have R1 := Int.emod_lt_of_pos (M.val h0 l0) (b := a1) (by omega)
  have oq := M.div_ok V (show 1 ≤ a1 by omega)
  have tm := times_any (M.oh (M.val h0 l0 / a1)) (M.ol (M.val h0 l0 / a1)) a1 (M.b_of _) (by omega) s1
  have t1 := times_any (M.oh (M.val h0 l0 / a1)) (M.ol (M.val h0 l0 / a1)) 1 (M.b_of _) (by omega) (by omega)
  rw [M.val_of oq] at tm t1
  rw [Int.mul_one, oq] at t1
  rw [Int.mul_comm] at QR
  generalize M.val h0 l0 / a1 = Q at *
  generalize hR : M.val h0 l0 % a1 = R at *
  by_cases oe : M.ok (Q * a1) = true
  · have oR := of_any R (by omega) (by omega)
    have ad := add_any (M.oh (Q * a1)) (M.ol (Q * a1)) (M.oh R) (M.ol R) (M.b_of _) (M.b_of _)
    rw [M.val_of oe, M.val_of (v := R) (by rw [M.ok_iff]; omega), QR, V, M.oh_val b0, M.ol_val b0] at ad
    rw [oe] at tm
    have H0 := Lib.hid R0
    have H1 := Lib.hid R1
    clear t1 oq V QR b0 oe hR
    generalize M.oh (Q * a1) = ph at *
    generalize M.ol (Q * a1) = pl at *
    generalize M.oh Q = qh at *
    generalize M.ol Q = ql at *
    generalize M.oh R = rh at *
    generalize M.ol R = rl at *
    go_enter Try.func7, Try.ntmps7
    go_wp2_with fail
    refine (dy _).mono ?_; rintro e w1 ⟨rfl, hb⟩
    have K := hb
    clear hb
    go_wp2_with fail
    refine (tm _).mono ?_; rintro e w2 ⟨rfl, hb⟩
    replace K := (K.alloc K.size _).trans (hb.mono (K.alloc K.size _).size)
    clear hb
    go_upto_region 8 with fail
    go_cut [10, 11] (fun t10 t11 wx => ∃ g : Nat, t10 = .pointer (some ⟨g, 0, none⟩) ∧ t11 = .bool true ∧ wx.cell? ⟨g, 0, none⟩ = some (.int .i64 h0) ∧ wx.cell? ⟨g, 1, none⟩ = some (.int .u64 l0) ∧ g < wx.heap.size ∧ Below (w.alloc (.cells #[.int .i64 h0, .int .u64 l0] 24)).heap.size (w.alloc (.cells #[.int .i64 h0, .int .u64 l0] 24)) wx)
    case first =>
      go_region_held3 (fun w' => w'.cell? ⟨w2.heap.size, 0, none⟩ = some (.int .i64 ph) ∧ w'.cell? ⟨w2.heap.size, 1, none⟩ = some (.int .u64 pl) ∧ w2.heap.size < w'.heap.size) (first | exact keep2a (by assumption) | exact keep2b zB (by assumption) | exact keep2b zA (by assumption) | exact keep2s (by (dsimp only; omega)) (keep2s (by (dsimp only; omega)) (by assumption)) | exact keep2 hbB (by assumption) | exact keep2 hbA (by assumption) | go_keep)
            ((first | (go_at_call 20; refine (oR _).mono ?_; rintro e w3 ⟨rfl, hbA⟩; have zA : w2.heap.size < w3.heap.size := (by (have := hbA.size; (try simp at this); omega)); (try have yA : w2.heap.size + 1 < w3.heap.size := (by (have := hbA.size; (try simp at this); omega))); obtain ⟨hcA, hfA⟩ := bcell hbA) | (go_at_call 13; refine (ad _).mono ?_; rintro e w4 ⟨rfl, hbB⟩; have zB : w2.heap.size < w4.heap.size := (by (have := hbB.size; (try simp at this); omega)); (try have xB : w3.heap.size < w4.heap.size := (by (have := hbB.size; (try simp at this); omega))); (try have yB : w2.heap.size + 1 < w4.heap.size := (by (have := hbB.size; (try simp at this); omega))); obtain ⟨hcB, hfB⟩ := bcell hbB)))
      all_goals (go_wp2_with fail; go_meet)
      · have K4 := (K.alloc K.size (.cells #[.int .i64 ph, .int .u64 pl] 24)).drew
        have K5 := K4.trans (hbA.mono K4.size)
        have K6 := K5.trans (hbB.mono K5.size)
        have N := new2 (v := .int .i64 h0) (u := .int .u64 l0) (t := 24) K6
        exact ⟨w4.heap.size, rfl, rfl, N.1, N.2.1, N.2.2.1, N.2.2.2⟩
      · have K4 := (K.alloc K.size (.cells #[.int .i64 ph, .int .u64 pl] 24)).drew
        have K5 := K4.trans (hbA.mono K4.size)
        have K5' := K5.alloc K5.size (.cells #[.int .i64 0, .int .u64 0] 24)
        have K6 := K5'.trans (hbB.mono K5'.size)
        have c0 := hcB w3.heap.size 0 (by simp)
        have c1 := hcB w3.heap.size 1 (by simp)
        simp [World.cell?_alloc_new] at c0 c1
        have N := set2 (v := .int .i64 h0) (u := .int .u64 l0) K6 K5.size c0 c1 xB
        exact ⟨w3.heap.size, rfl, rfl, N.1, N.2.1, N.2.2.1, N.2.2.2⟩
      · have K4 := K.alloc K.size (.cells #[.int .i64 ph, .int .u64 pl] 24)
        have K4' := (K4.alloc K4.size (.cells #[.int .i64 0, .int .u64 0] 24)).drew
        have K5 := K4'.trans (hbA.mono K4'.size)
        have K6 := K5.trans (hbB.mono K5.size)
        have e0 : w3.cell? ⟨w2.heap.size + 1, 0, none⟩ = some (.int .i64 0) := by
          have := (hcA (w2.alloc (.cells #[.int .i64 ph, .int .u64 pl] 24)).heap.size 0 (by simp)).trans (World.cell?_alloc_new (w2.alloc (.cells #[.int .i64 ph, .int .u64 pl] 24)) #[.int .i64 0, .int .u64 0] 24 0)
          simpa using this
        have e1 : w3.cell? ⟨w2.heap.size + 1, 1, none⟩ = some (.int .u64 0) := by
          have := (hcA (w2.alloc (.cells #[.int .i64 ph, .int .u64 pl] 24)).heap.size 1 (by simp)).trans (World.cell?_alloc_new (w2.alloc (.cells #[.int .i64 ph, .int .u64 pl] 24)) #[.int .i64 0, .int .u64 0] 24 1)
          simpa using this
        have c0 := (hcB (w2.heap.size + 1) 0 yA).trans e0
        have c1 := (hcB (w2.heap.size + 1) 1 yA).trans e1
        have N := set2 (v := .int .i64 h0) (u := .int .u64 l0) K6 (by have := K4.size; simp at this ⊢; omega) c0 c1 yB
        exact ⟨w2.heap.size + 1, rfl, rfl, N.1, N.2.1, N.2.2.1, N.2.2.2⟩
    case rest =>
      obtain ⟨g, rfl, rfl, c0, c1, hg, K9⟩ := hcut
      obtain ⟨e0, e1, hz⟩ := box2 K9 (by simp)
      clear R0 R1
      have k0 : decide (R < a1) = true := decide_eq_true H1.out
      have k1 : decide (R < 0) = false := decide_eq_false (by have := H0.out; omega)
      have k2 : decide (0 ≤ R) = true := decide_eq_true H0.out
      go_wp2_with fail
      refine (aw _).mono ?_; rintro e w5 ⟨rfl, hb⟩
      have K10 := K9.trans (hb.mono K9.size)
      obtain ⟨hc, hf⟩ := bcell hb
      have hz5 : w.heap.size < w5.heap.size := Nat.lt_of_lt_of_le hz hb.size
      clear K9
      go_wp2_with fail
      go_ret
      exact ⟨retb (by first | rfl | simp), ((Below.refl _ _).alloc (Nat.le_refl _) _).trans (K10.mono (by simp))⟩
  · have oe := Bool.eq_false_iff.2 oe
    rw [oe] at tm
    obtain ⟨N1, N2⟩ := M.no_of oe
    have V1 := M.ok_iff.1 V
    have Q1 := M.ok_iff.1 oq
    have E := M.ok_no oe
    have Rp : 0 < R := by omega
    have Qn : Q < 0 := by
      rcases Int.lt_or_le Q 0 with q | q
      · exact q
      · have := Int.mul_nonneg q (show 0 ≤ a1 by omega); omega
    have sg := sign_any (M.oh Q) (M.ol Q) (M.b_of _)
    rw [M.val_of oq, ← M.sgn_lt Qn] at sg
    rw [N1, N2] at tm
    have H0 := Lib.hid Rp
    clear oq V QR b0 oe hR V1 Q1 E N1 N2 Qn R1
    generalize M.oh Q = qh at *
    generalize M.ol Q = ql at *
    go_enter Try.func7, Try.ntmps7
    go_wp2_with fail
    refine (dy _).mono ?_; rintro e w1 ⟨rfl, hb⟩
    have K := hb
    clear hb
    go_wp2_with fail
    refine (tm _).mono ?_; rintro e w2 ⟨rfl, hb⟩
    obtain ⟨hc, hf⟩ := bcell hb
    have h1 : w1.heap.size < w2.heap.size := by have := hb.size; simp at this; omega
    replace K := (K.alloc K.size _).trans (hb.mono (K.alloc K.size _).size)
    clear hb
    go_wp2_with fail
    refine (t1 _).mono ?_; rintro e w3 ⟨rfl, hb⟩
    clear hc hf
    obtain ⟨hc, hf⟩ := bcell hb
    have h2 : w2.heap.size < w3.heap.size := by have := hb.size; simp at this; omega
    have kz := K.size
    have KK := (K.alloc K.size (.cells #[.int .i64 0, .int .u64 0] 24))
    replace K := KK.trans (hb.mono KK.size)
    clear hb
    go_wp2_with fail
    refine (aw _).mono ?_; rintro e w4 ⟨rfl, hb⟩
    have c0 := hc w2.heap.size 0 (by simp)
    have c1 := hc w2.heap.size 1 (by simp)
    simp [World.cell?_alloc_new] at c0 c1
    obtain ⟨f0, f1, hz, K4⟩ := set2 (v := .int .i64 qh) (u := .int .u64 ql) K kz c0 c1 h2
    have K5 := K4.trans (hb.mono K4.size)
    have d0 := (hb.cell (p := ⟨w2.heap.size, 0, none⟩) hz).trans f0
    have d1 := (hb.cell (p := ⟨w2.heap.size, 1, none⟩) hz).trans f1
    clear hc hf hb c0 c1 f0 f1 hz K4 K KK
    go_wp2_with fail
    refine (sg _).mono ?_; rintro e w5 ⟨rfl, hb⟩
    have K6 := K5.trans (hb.mono K5.size)
    go_wp2_with fail
    go_ret
    exact ⟨retb (by first | rfl | simp), ((Below.refl _ _).alloc (Nat.le_refl _) _).trans (K6.mono (by simp))⟩

set_option maxRecDepth 100000 in
theorem lifted (os : Os) (started : os.Started) (H : Type) (enc : TypeId × Value → H) :
    ReturnsInHanded {} Try.checked os 7 .any (Rows.xintBackSpec.pre6 enc Try.prog Try.f7 Rows.xintBackRow.domain false) (Rows.xintBackSpec.post enc Try.prog Try.f7 false true false false) := by
  refine returnsInHanded_of_change (C := Try.checked) own started (by kernel_rfl) Try.func7
    (ChangeSpec.witness6 (enc := enc) (C := Try.checked) false ⟨#[], #[.agg #[.int .i64 0, .int .u64 0], .int .i64 0], []⟩ 8 (by kernel_rfl) (by kernel_rfl) (by kernel_rfl) (by kernel_rfl)) ?_
  intro W base args ds gs before hval0 hW hcnd _
  have hval : ∀ (j : Nat) t v, Try.f7.params[j]? = some t → args[j]? = some v → Value.okWide Try.prog W .any base t v := hval0
  have hW' := hW
  obtain ⟨p, q, hA0, hV, rfl, hfz, hnd⟩ := hW
  have hA : DataW.TrodAll enc Try.prog W 0 (fun _ => true) true Try.f7.params.toList args.toList ds p := hA0
  rw [Try.params7] at hA hval
  obtain ⟨v0, vs0, d0, ds0, p0, q0, hargs, rfl, rfl, h0, rr0⟩ := trodAll_cons hA
  obtain ⟨v1, vs1, d1, ds1, p1, q1, rfl, rfl, rfl, h1, rr1⟩ := trodAll_cons rr0
  obtain ⟨rfl, rfl, rfl⟩ := trodAll_nil rr1
  obtain rfl : args = #[v0, v1] := by cases args; simp_all
  obtain ⟨rfl, rfl⟩ := trodVars_none hV
  obtain ⟨c0, e0, rfl, rfl, rfl, x0, y0⟩ := open24 (hval 0 24 v0 rfl rfl) h0
  obtain ⟨a1, rfl, rfl, rfl, x1⟩ := open_int Try.underlying3 (hval 1 3 v1 rfl rfl) h1
  clear hA0 hval0
  simp only [List.append_nil] at hW'
  refine (walk c0 e0 ⟨(wf_rng x0).1, (wf_rng x0).2, (wf_urng y0).1, (wf_urng y0).2⟩ a1 (wf_rng x1).1 (wf_rng x1).2 W).mono fun e W' ⟨he, hg⟩ => ?_
  subst he
  exact ⟨_, rfl, post_of_below (pa := []) (pv := []) hW' (fun _ _ _ => trodAll_cons_mk (shut_bool Try.underlying4 _) trodAll_mk0) (fun sp _ => (trodAll_cons_mk (shut24 x0 y0 _ _ _ _) (trodAll_cons_mk (shut_int Try.underlying3 x1) trodAll_mk0))) (fun _ _ => rfl) rfl
    hg (ok_one (by kernel_rfl) rfl (okWide_bool_mk Try.underlying4 _))⟩

theorem over : Rows.xintBackRow.holds Try.pinned (OpenSpec.ofChange Rows.xintBackSpec) :=
  OpenClaim.holds_of_wide 7 Try.f7 rfl rfl rfl rfl rfl rfl rfl ⟨rfl, rfl, rfl, rfl, rfl⟩ rfl rfl rfl rfl rfl (by kernel_rfl) Try.func7 (by kernel_rfl)
    (of_decide_eq_true (by kernel_rfl)) (by unfold Func.isWrapper; first | (rw [if_pos (by decide +kernel)]; kernel_rfl) | (rw [if_neg (by decide +kernel)]; exact ⟨rfl, rfl⟩))
    (fun os started H enc _ => lifted os started H enc)

theorem proved : Rows.XintBackSaid :=
  over
#print axioms proved
end Go.Proofs.Ytdjhloilpgfcjaa.xintBack
