/-
  For every two quotients the law XintRatios returns true: which of them is greater is the document's. No condition.
-/
import Derived.Test.YtdjhloilpgfcjaaRowB
import Derived.Test.YtdjhloilpgfcjaaRRatio
import Derived.Test.YtdjhloilpgfcjaaRatio
import Derived.Test.YtdjhloilpgfcjaaAwake
import Derived.Deep.DeepCutAuto
namespace Go.Proofs.Ytdjhloilpgfcjaa.xintRatios
open Go.ChangeShapes Go.WideShapes Go.ChangeAt Go.RowKit
set_option linter.unusedVariables false

theorem own : ownKnob Try.prog.godebug = none := by kernel_rfl
theorem cells41 : Try.prog.cellsOf 41 = 6 := by kernel_rfl
theorem M.sgn_opp (m n : Int) : M.sgn n m = -(M.sgn m n) := by
  unfold M.sgn
  rcases Int.lt_trichotomy m n with h | h | h
  · simp only [if_pos h, if_neg (show ¬ n < m by omega)]; rfl
  · subst h; simp
  · simp only [if_pos h, if_neg (show ¬ m < n by omega)]
theorem M.sgn_rng (m n : Int) : -1 ≤ M.sgn m n ∧ M.sgn m n ≤ 1 := by
  unfold M.sgn
  split
  · omega
  · split <;> omega
/-- Two quotients that came in. -/
theorem open41 {H : Type} {enc : TypeId × Value → H} {w : World} {r : Reach} {b0 : Nat} {v : Value} {d : DataW H} {p : List MemPlace}
    (hv : Value.okWide Try.prog w r b0 41 v) (h : DataW.Trod enc Try.prog w 0 (fun _ => true) true 41 v d p) :
    ∃ a0 a1 c0 c1 b d' : Int, v = .agg #[.int .i64 a0, .int .u64 a1, .int .i64 c0, .int .u64 c1, .int .i64 b, .int .i64 d'] ∧ M.B a0 a1 ∧ M.B c0 c1 ∧ (-9223372036854775808 ≤ b ∧ b < 9223372036854775808) ∧ (-9223372036854775808 ≤ d' ∧ d' < 9223372036854775808) := by
  obtain ⟨cs, rfl, hsz⟩ := okWide_struct Try.underlying41 hv
  obtain ⟨l⟩ := cs
  match l, hsz.trans cells41 with
  | [v0, v1, v2, v3, v4, v5], _ =>
    obtain ⟨fuel, hf⟩ := h
    obtain ⟨xs, n, _, hx, _, hlen, hg⟩ := DataW.trod_struct Try.underlying41 hf
    have c3 : Try.prog.cellsOf 3 = 1 := by kernel_rfl
    have c22 : Try.prog.cellsOf 22 = 1 := by kernel_rfl
    match xs, hlen with
    | [y0, y1, y2, y3], _ =>
      have g0 : DataW.trod enc Try.prog w 0 (fun _ => true) true n 24 [v0, v1] = some y0 := by simpa [c3, cells24, Value.cells] using hg 0 _ rfl
      have g1 : DataW.trod enc Try.prog w 0 (fun _ => true) true n 24 [v2, v3] = some y1 := by simpa [c3, cells24, Value.cells] using hg 1 _ rfl
      have g2 : DataW.trod enc Try.prog w 0 (fun _ => true) true n 3 [v4] = some y2 := by simpa [c3, cells24, Value.cells] using hg 2 _ rfl
      have g3 : DataW.trod enc Try.prog w 0 (fun _ => true) true n 3 [v5] = some y3 := by simpa [c3, cells24, Value.cells] using hg 3 _ rfl
      obtain ⟨m2, e2, _, w2⟩ := DataW.trod_int Try.underlying3 g2
      obtain ⟨m3, e3, _, w3⟩ := DataW.trod_int Try.underlying3 g3
      obtain ⟨xs0, n0, _, _, _, hl0, hg0⟩ := DataW.trod_struct Try.underlying24 g0
      obtain ⟨xs1, n1, _, _, _, hl1, hg1⟩ := DataW.trod_struct Try.underlying24 g1
      match xs0, hl0, xs1, hl1 with
      | [z0, z1], _, [z2, z3], _ =>
        have q0 := hg0 0 _ rfl
        have q1 := hg0 1 _ rfl
        have q2 := hg1 0 _ rfl
        have q3 := hg1 1 _ rfl
        simp [c3, c22] at q0 q1 q2 q3
        obtain ⟨a0, f0, _, u0⟩ := DataW.trod_int Try.underlying3 q0
        obtain ⟨a1, f1, _, u1⟩ := DataW.trod_int Try.underlying22 q1
        obtain ⟨a2, f2, _, u2⟩ := DataW.trod_int Try.underlying3 q2
        obtain ⟨a3, f3, _, u3⟩ := DataW.trod_int Try.underlying22 q3
        obtain ⟨e2, _⟩ := List.cons.inj e2
        obtain ⟨e3, _⟩ := List.cons.inj e3
        obtain ⟨f0, _⟩ := List.cons.inj f0
        obtain ⟨f1, _⟩ := List.cons.inj f1
        obtain ⟨f2, _⟩ := List.cons.inj f2
        obtain ⟨f3, _⟩ := List.cons.inj f3
        subst e2 e3 f0 f1 f2 f3
        exact ⟨a0, a1, a2, a3, m2, m3, rfl, ⟨(wf_rng u0).1, (wf_rng u0).2, (wf_urng u1).1, (wf_urng u1).2⟩, ⟨(wf_rng u2).1, (wf_rng u2).2, (wf_urng u3).1, (wf_urng u3).2⟩, wf_rng w2, wf_rng w3⟩
theorem held6 {w y : World} {a b c d e f : Value} {t : TypeId} (hb : Below (w.alloc (.cells #[a, b, c, d, e, f] t)).heap.size (w.alloc (.cells #[a, b, c, d, e, f] t)) y) :
    y.cell? ⟨w.heap.size, 0, none⟩ = some a ∧ y.cell? ⟨w.heap.size, 1, none⟩ = some b ∧ y.cell? ⟨w.heap.size, 2, none⟩ = some c ∧ y.cell? ⟨w.heap.size, 3, none⟩ = some d ∧ y.cell? ⟨w.heap.size, 4, none⟩ = some e ∧ y.cell? ⟨w.heap.size, 5, none⟩ = some f := by
  have s : ∀ k, y.cell? ⟨w.heap.size, k, none⟩ = (w.alloc (.cells #[a, b, c, d, e, f] t)).cell? ⟨w.heap.size, k, none⟩ := fun k => hb.cell (p := ⟨w.heap.size, k, none⟩) (by simp)
  exact ⟨(s 0).trans (by simp), (s 1).trans (by simp), (s 2).trans (by simp), (s 3).trans (by simp), (s 4).trans (by simp), (s 5).trans (by simp)⟩

set_option maxRecDepth 100000 in
set_option maxHeartbeats 4000000 in
theorem walk (a0 a1 c0 c1 b d : Int) (B1 : M.B a0 a1) (B2 : M.B c0 c1) (rb : -9223372036854775808 ≤ b ∧ b < 9223372036854775808) (rd : -9223372036854775808 ≤ d ∧ d < 9223372036854775808) (w : World) :
    Calls Try.prog 5 #[.agg #[.int .i64 a0, .int .u64 a1, .int .i64 c0, .int .u64 c1, .int .i64 b, .int .i64 d]] w fun e w' => e = .returned (.bool true) ∧ Below w.heap.size w w' := by
  have aw := awake_any
  obtain ⟨x, y, ok, t1, t2, t3⟩ : ∃ (x : Int) (s : Bool), (-1 ≤ x ∧ x ≤ 1) ∧ (∀ w, Calls Try.prog 32 #[.agg #[.int .i64 a0, .int .u64 a1], .int .i64 b, .agg #[.int .i64 c0, .int .u64 c1], .int .i64 d] w fun e w' => e = .returned (.tuple #[.int .i64 x, .bool s]) ∧ Below w.heap.size w w') ∧
      (∀ w, Calls Try.prog 33 #[.agg #[.int .i64 a0, .int .u64 a1], .int .i64 b, .agg #[.int .i64 c0, .int .u64 c1], .int .i64 d] w fun e w' => e = .returned (.tuple #[.int .i64 x, .bool s]) ∧ Below w.heap.size w w') ∧
      (∀ w, Calls Try.prog 32 #[.agg #[.int .i64 c0, .int .u64 c1], .int .i64 d, .agg #[.int .i64 a0, .int .u64 a1], .int .i64 b] w fun e w' => e = .returned (.tuple #[.int .i64 (-x), .bool s]) ∧ Below w.heap.size w w') := by
    by_cases h : b < 1 ∨ d < 1
    · exact ⟨0, false, by omega, fun w => ratio_no _ _ _ _ _ _ h w, fun w => rratio_no _ _ _ _ _ _ h w, fun w => ratio_no _ _ _ _ _ _ (h.symm) w⟩
    · refine ⟨M.sgn (M.val a0 a1 * d) (M.val c0 c1 * b), true, M.sgn_rng _ _, fun w => ratio_yes _ _ _ _ _ _ B1 B2 (by omega) rb.2 (by omega) rd.2 w, fun w => rratio_yes _ _ _ _ _ _ B1 B2 (by omega) rb.2 (by omega) rd.2 w, fun w => ?_⟩
      rw [← M.sgn_opp]
      exact ratio_yes _ _ _ _ _ _ B2 B1 (by omega) rd.2 (by omega) rb.2 w
  clear B1 B2 rb rd
  have K0 : Below w.heap.size w (w.alloc (.cells #[.int .i64 a0, .int .u64 a1, .int .i64 c0, .int .u64 c1, .int .i64 b, .int .i64 d] 41)) := (Below.refl _ w).alloc (Nat.le_refl _) _
  go_enter Try.func5, Try.ntmps5
  go_wp2_with fail
  refine (t1 _).mono ?_
  rintro e w1 ⟨rfl, hb⟩
  have K1 := hb
  obtain ⟨q0, q1, q2, q3, q4, q5⟩ := held6 K1
  clear hb
  go_wp2_with fail
  refine (t2 _).mono ?_
  rintro e w2 ⟨rfl, hb⟩
  have K2 := K1.trans (hb.mono K1.size)
  clear hb q0 q1 q2 q3 q4 q5
  obtain ⟨q0, q1, q2, q3, q4, q5⟩ := held6 K2
  go_wp2_with fail
  refine (t3 _).mono ?_
  rintro e w3 ⟨rfl, hb⟩
  have K3 := K2.trans (hb.mono K2.size)
  clear hb q0 q1 q2 q3 q4 q5
  go_wp2_with fail
  refine (aw _).mono ?_
  rintro e w4 ⟨rfl, hb⟩
  have K4 := K3.trans (hb.mono K3.size)
  clear hb
  go_wp2_with fail
  go_ret
  exact ⟨by simp, K0.trans (K4.mono K0.size)⟩

theorem readable : ∀ t ∈ Try.f5.params.toList, Try.prog.readableRec t = true ∧ t < Try.prog.types.size := by
  intro t ht
  rw [Try.params5] at ht
  simp only [List.mem_cons, List.not_mem_nil, or_false] at ht
  repeat (first | (rcases ht with rfl | ht; exact ⟨by kernel_rfl, of_decide_eq_true (by kernel_rfl)⟩) | (subst ht; exact ⟨by kernel_rfl, of_decide_eq_true (by kernel_rfl)⟩))
set_option maxRecDepth 100000 in
theorem lifted (os : Os) (started : os.Started) (H : Type) (enc : TypeId × Value → H) :
    ReturnsInHanded {} Try.checked os 5 .any (Rows.xintRatiosSpec.pre6 enc Try.prog Try.f5 Rows.xintRatiosRow.domain false) (Rows.xintRatiosSpec.post enc Try.prog Try.f5 false true false false) := by
  refine returnsInHanded_of_change (C := Try.checked) own started (by kernel_rfl) Try.func5
    (ChangeSpec.witness6 (enc := enc) (C := Try.checked) false ⟨#[], #[.agg #[.int .i64 0, .int .u64 0, .int .i64 0, .int .u64 0, .int .i64 0, .int .i64 0]], []⟩ 8 (by kernel_rfl) (by kernel_rfl) (by kernel_rfl) (by kernel_rfl)) ?_
  intro W base args ds gs before hval0 hW hcnd _
  have hval : ∀ (j : Nat) t v, Try.f5.params[j]? = some t → args[j]? = some v → Value.okWide Try.prog W .any base t v := hval0
  have hW' := hW
  obtain ⟨p, q, hA0, hV, rfl, hfz, hnd⟩ := hW
  have hA : DataW.TrodAll enc Try.prog W 0 (fun _ => true) true Try.f5.params.toList args.toList ds p := hA0
  rw [Try.params5] at hA hval
  obtain ⟨v0, d0, rfl, rfl, h0⟩ := trodAll_one hA
  obtain ⟨rfl, rfl⟩ := trodVars_none hV
  obtain ⟨a0, a1, c0, c1, b, d, rfl, B1, B2, rb, rd⟩ := open41 (hval 0 41 v0 rfl rfl) h0
  clear hA0 hval0
  refine (walk a0 a1 c0 c1 b d B1 B2 rb rd W).mono fun e W' ⟨he, hg⟩ => ?_
  subst he
  exact ⟨_, rfl, post_true (tb := 4) laid readable (by kernel_rfl) Try.underlying4 rfl (fun l hl => by
    match l, hl with
    | [_], _ => exact ⟨rfl, rfl, rfl⟩) hW' hg⟩

theorem over : Rows.xintRatiosRow.holds Try.pinned (OpenSpec.ofChange Rows.xintRatiosSpec) :=
  OpenClaim.holds_of_wide 5 Try.f5 rfl rfl rfl rfl rfl rfl rfl ⟨rfl, rfl, rfl, rfl, rfl⟩ rfl rfl rfl rfl rfl (by kernel_rfl) Try.func5 (by kernel_rfl)
    (of_decide_eq_true (by kernel_rfl)) (by unfold Func.isWrapper; first | (rw [if_pos (by decide +kernel)]; kernel_rfl) | (rw [if_neg (by decide +kernel)]; exact ⟨rfl, rfl⟩))
    (fun os started H enc _ => lifted os started H enc)

theorem proved : Rows.XintRatiosSaid :=
  over
#print axioms proved
end Go.Proofs.Ytdjhloilpgfcjaa.xintRatios
