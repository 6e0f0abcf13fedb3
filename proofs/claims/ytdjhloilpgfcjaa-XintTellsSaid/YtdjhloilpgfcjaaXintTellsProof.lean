/-
  For every two numbers of 128 bits and every int the law XintTells returns true: whether one is small, its sign and order, sums, differences and products, or that there are none, are the document's. No condition.
-/
import Derived.Test.YtdjhloilpgfcjaaRow
import Derived.Deep.DeepCutAuto
import Derived.Test.YtdjhloilpgfcjaaAwake
import Derived.Test.YtdjhloilpgfcjaaThinB
import Derived.Test.YtdjhloilpgfcjaaSmall
namespace Go.Proofs.Ytdjhloilpgfcjaa.xintTells
open Go.ChangeShapes Go.WideShapes Go.ChangeAt Go.RowKit Go.Joins
set_option linter.unusedVariables false

theorem own : ownKnob Try.prog.godebug = none := by kernel_rfl
theorem keepT {x y : World} (hb : Below x.heap.size x y) {b0 b1 b2 b3 b4 b5 b6 b7 b8 b9 : Nat} {v0 u0 v1 u1 v2 u2 v3 u3 v4 u4 v5 u5 v6 u6 v7 u7 v8 u8 v9 u9 : Value}
    (h : x.cell? ⟨b0, 0, none⟩ = some v0 ∧ x.cell? ⟨b0, 1, none⟩ = some u0 ∧ b0 < x.heap.size ∧ x.cell? ⟨b1, 0, none⟩ = some v1 ∧ x.cell? ⟨b1, 1, none⟩ = some u1 ∧ b1 < x.heap.size ∧ x.cell? ⟨b2, 0, none⟩ = some v2 ∧ x.cell? ⟨b2, 1, none⟩ = some u2 ∧ b2 < x.heap.size ∧ x.cell? ⟨b3, 0, none⟩ = some v3 ∧ x.cell? ⟨b3, 1, none⟩ = some u3 ∧ b3 < x.heap.size ∧ x.cell? ⟨b4, 0, none⟩ = some v4 ∧ x.cell? ⟨b4, 1, none⟩ = some u4 ∧ b4 < x.heap.size ∧ x.cell? ⟨b5, 0, none⟩ = some v5 ∧ x.cell? ⟨b5, 1, none⟩ = some u5 ∧ b5 < x.heap.size ∧ x.cell? ⟨b6, 0, none⟩ = some v6 ∧ x.cell? ⟨b6, 1, none⟩ = some u6 ∧ b6 < x.heap.size ∧ x.cell? ⟨b7, 0, none⟩ = some v7 ∧ x.cell? ⟨b7, 1, none⟩ = some u7 ∧ b7 < x.heap.size ∧ x.cell? ⟨b8, 0, none⟩ = some v8 ∧ x.cell? ⟨b8, 1, none⟩ = some u8 ∧ b8 < x.heap.size ∧ x.cell? ⟨b9, 0, none⟩ = some v9 ∧ x.cell? ⟨b9, 1, none⟩ = some u9 ∧ b9 < x.heap.size) :
    y.cell? ⟨b0, 0, none⟩ = some v0 ∧ y.cell? ⟨b0, 1, none⟩ = some u0 ∧ b0 < y.heap.size ∧ y.cell? ⟨b1, 0, none⟩ = some v1 ∧ y.cell? ⟨b1, 1, none⟩ = some u1 ∧ b1 < y.heap.size ∧ y.cell? ⟨b2, 0, none⟩ = some v2 ∧ y.cell? ⟨b2, 1, none⟩ = some u2 ∧ b2 < y.heap.size ∧ y.cell? ⟨b3, 0, none⟩ = some v3 ∧ y.cell? ⟨b3, 1, none⟩ = some u3 ∧ b3 < y.heap.size ∧ y.cell? ⟨b4, 0, none⟩ = some v4 ∧ y.cell? ⟨b4, 1, none⟩ = some u4 ∧ b4 < y.heap.size ∧ y.cell? ⟨b5, 0, none⟩ = some v5 ∧ y.cell? ⟨b5, 1, none⟩ = some u5 ∧ b5 < y.heap.size ∧ y.cell? ⟨b6, 0, none⟩ = some v6 ∧ y.cell? ⟨b6, 1, none⟩ = some u6 ∧ b6 < y.heap.size ∧ y.cell? ⟨b7, 0, none⟩ = some v7 ∧ y.cell? ⟨b7, 1, none⟩ = some u7 ∧ b7 < y.heap.size ∧ y.cell? ⟨b8, 0, none⟩ = some v8 ∧ y.cell? ⟨b8, 1, none⟩ = some u8 ∧ b8 < y.heap.size ∧ y.cell? ⟨b9, 0, none⟩ = some v9 ∧ y.cell? ⟨b9, 1, none⟩ = some u9 ∧ b9 < y.heap.size := by
  obtain ⟨p0, q0, r0, p1, q1, r1, p2, q2, r2, p3, q3, r3, p4, q4, r4, p5, q5, r5, p6, q6, r6, p7, q7, r7, p8, q8, r8, p9, q9, r9⟩ := h
  exact ⟨(keep2 hb ⟨p0, q0, r0⟩).1, (keep2 hb ⟨p0, q0, r0⟩).2.1, (keep2 hb ⟨p0, q0, r0⟩).2.2, (keep2 hb ⟨p1, q1, r1⟩).1, (keep2 hb ⟨p1, q1, r1⟩).2.1, (keep2 hb ⟨p1, q1, r1⟩).2.2, (keep2 hb ⟨p2, q2, r2⟩).1, (keep2 hb ⟨p2, q2, r2⟩).2.1, (keep2 hb ⟨p2, q2, r2⟩).2.2, (keep2 hb ⟨p3, q3, r3⟩).1, (keep2 hb ⟨p3, q3, r3⟩).2.1, (keep2 hb ⟨p3, q3, r3⟩).2.2, (keep2 hb ⟨p4, q4, r4⟩).1, (keep2 hb ⟨p4, q4, r4⟩).2.1, (keep2 hb ⟨p4, q4, r4⟩).2.2, (keep2 hb ⟨p5, q5, r5⟩).1, (keep2 hb ⟨p5, q5, r5⟩).2.1, (keep2 hb ⟨p5, q5, r5⟩).2.2, (keep2 hb ⟨p6, q6, r6⟩).1, (keep2 hb ⟨p6, q6, r6⟩).2.1, (keep2 hb ⟨p6, q6, r6⟩).2.2, (keep2 hb ⟨p7, q7, r7⟩).1, (keep2 hb ⟨p7, q7, r7⟩).2.1, (keep2 hb ⟨p7, q7, r7⟩).2.2, (keep2 hb ⟨p8, q8, r8⟩).1, (keep2 hb ⟨p8, q8, r8⟩).2.1, (keep2 hb ⟨p8, q8, r8⟩).2.2, (keep2 hb ⟨p9, q9, r9⟩).1, (keep2 hb ⟨p9, q9, r9⟩).2.1, (keep2 hb ⟨p9, q9, r9⟩).2.2⟩

set_option maxRecDepth 100000 in
set_option maxHeartbeats 4000000 in
theorem walk (h0 l0 : Int) (b0 : M.B h0 l0) (h1 l1 : Int) (b1 : M.B h1 l1) (a2 : Int) (r2 : -9223372036854775808 ≤ a2) (s2 : a2 < 9223372036854775808) (w : World) :
    Calls Try.prog 3 #[.agg #[.int .i64 h0, .int .u64 l0], .agg #[.int .i64 h1, .int .u64 l1], .int .i64 a2] w fun e w' => e = .returned (.bool true) ∧ Below w.heap.size w w' := by
  have aw := awake_any
  have q9 := small_any h0 l0 b0
  have q10 := rsmall_any h0 l0 b0
  have q11 := neg_any h0 l0 b0
  have q12 := rneg_any h0 l0 b0
  have q13 := add_any h0 l0 h1 l1 b0 b1
  have q14 := radd_any h0 l0 h1 l1 b0 b1
  have q15 := sub_any h0 l0 h1 l1 b0 b1
  have q16 := rsub_any h0 l0 h1 l1 b0 b1
  have q17 := times_any h0 l0 a2 b0 r2 s2
  have q18 := rtimes_any h0 l0 a2 b0 r2 s2
  have q20 := of_any a2 r2 s2
  have q21 := rof_any a2 r2 s2
  have q22 := sign_any h0 l0 b0
  have q23 := rsign_any h0 l0 b0
  have q24 := cmp_any h0 l0 h1 l1 b0 b1
  have q25 := rcmp_any h0 l0 h1 l1 b0 b1
  clear b0 b1 r2 s2
  generalize M.smv (M.val h0 l0) = v1 at *
  generalize M.fits (M.val h0 l0) = v2 at *
  generalize M.sgn (M.val h0 l0) 0 = v3 at *
  generalize M.sgn (M.val h0 l0) (M.val h1 l1) = v4 at *
  generalize M.oh (-(M.val h0 l0)) = oh0 at *
  generalize M.ol (-(M.val h0 l0)) = ol0 at *
  generalize M.ok (-(M.val h0 l0)) = ok0 at *
  generalize M.oh (M.val h0 l0 + M.val h1 l1) = oh1 at *
  generalize M.ol (M.val h0 l0 + M.val h1 l1) = ol1 at *
  generalize M.ok (M.val h0 l0 + M.val h1 l1) = ok1 at *
  generalize M.oh (M.val h0 l0 - M.val h1 l1) = oh2 at *
  generalize M.ol (M.val h0 l0 - M.val h1 l1) = ol2 at *
  generalize M.ok (M.val h0 l0 - M.val h1 l1) = ok2 at *
  generalize M.oh (M.val h0 l0 * a2) = oh3 at *
  generalize M.ol (M.val h0 l0 * a2) = ol3 at *
  generalize M.ok (M.val h0 l0 * a2) = ok3 at *
  generalize M.oh a2 = ph at *
  generalize M.ol a2 = pl at *
  go_enter Try.func3, Try.ntmps3
  have N := new2 (v := .int .i64 h0) (u := .int .u64 l0) (t := 24) (Below.refl w.heap.size w)
  have FA : _ ∧ _ ∧ _ := ⟨N.1, N.2.1, N.2.2.1⟩
  have K := N.2.2.2
  clear N
  have N := new2 (v := .int .i64 h1) (u := .int .u64 l1) (t := 24) K
  replace FA := keep2a (o := .cells #[.int .i64 h1, .int .u64 l1] 24) FA
  have FB : ((w.alloc (.cells #[.int .i64 h0, .int .u64 l0] 24)).alloc (.cells #[.int .i64 h1, .int .u64 l1] 24)).cell? ⟨w.heap.size + 1, 0, none⟩ = some (.int .i64 h1) ∧ ((w.alloc (.cells #[.int .i64 h0, .int .u64 l0] 24)).alloc (.cells #[.int .i64 h1, .int .u64 l1] 24)).cell? ⟨w.heap.size + 1, 1, none⟩ = some (.int .u64 l1) ∧ w.heap.size + 1 < ((w.alloc (.cells #[.int .i64 h0, .int .u64 l0] 24)).alloc (.cells #[.int .i64 h1, .int .u64 l1] 24)).heap.size := ⟨by simp, by simp, by simp⟩
  replace K := N.2.2.2
  clear N
  have FAx := FA.1
  have FAy := FA.2.1
  go_wp2_with fail
  clear FAx FAy
  refine (q9 _).mono ?_; rintro e w1 ⟨rfl, hb⟩
  replace K := K.trans (hb.mono K.size)
  replace FA := keep2 hb FA
  replace FB := keep2 hb FB
  clear hb
  have FAx := FA.1
  have FAy := FA.2.1
  go_wp2_with fail
  clear FAx FAy
  refine (q10 _).mono ?_; rintro e w2 ⟨rfl, hb⟩
  replace K := K.trans (hb.mono K.size)
  replace FA := keep2 hb FA
  replace FB := keep2 hb FB
  clear hb
  have FAx := FA.1
  have FAy := FA.2.1
  go_wp2_with fail
  clear FAx FAy
  refine (q11 _).mono ?_; rintro e w3 ⟨rfl, hb⟩
  replace K := K.trans (hb.mono K.size)
  replace FA := keep2 hb FA
  replace FB := keep2 hb FB
  clear hb
  have N := new2 (v := .int .i64 oh0) (u := .int .u64 ol0) (t := 24) K
  replace FA := keep2a (o := .cells #[.int .i64 oh0, .int .u64 ol0] 24) FA
  replace FB := keep2a (o := .cells #[.int .i64 oh0, .int .u64 ol0] 24) FB
  have F11 : _ ∧ _ ∧ _ := ⟨N.1, N.2.1, N.2.2.1⟩
  replace K := N.2.2.2
  clear N
  have FAx := FA.1
  have FAy := FA.2.1
  go_wp2_with fail
  clear FAx FAy
  refine (q12 _).mono ?_; rintro e w4 ⟨rfl, hb⟩
  replace K := K.trans (hb.mono K.size)
  replace FA := keep2 hb FA
  replace FB := keep2 hb FB
  replace F11 := keep2 hb F11
  clear hb
  have N := new2 (v := .int .i64 oh0) (u := .int .u64 ol0) (t := 24) K
  replace FA := keep2a (o := .cells #[.int .i64 oh0, .int .u64 ol0] 24) FA
  replace FB := keep2a (o := .cells #[.int .i64 oh0, .int .u64 ol0] 24) FB
  replace F11 := keep2a (o := .cells #[.int .i64 oh0, .int .u64 ol0] 24) F11
  have F13 : _ ∧ _ ∧ _ := ⟨N.1, N.2.1, N.2.2.1⟩
  replace K := N.2.2.2
  clear N
  have FAx := FA.1
  have FAy := FA.2.1
  have FBx := FB.1
  have FBy := FB.2.1
  go_wp2_with fail
  clear FAx FAy FBx FBy
  refine (q13 _).mono ?_; rintro e w5 ⟨rfl, hb⟩
  replace K := K.trans (hb.mono K.size)
  replace FA := keep2 hb FA
  replace FB := keep2 hb FB
  replace F11 := keep2 hb F11
  replace F13 := keep2 hb F13
  clear hb
  have N := new2 (v := .int .i64 oh1) (u := .int .u64 ol1) (t := 24) K
  replace FA := keep2a (o := .cells #[.int .i64 oh1, .int .u64 ol1] 24) FA
  replace FB := keep2a (o := .cells #[.int .i64 oh1, .int .u64 ol1] 24) FB
  replace F11 := keep2a (o := .cells #[.int .i64 oh1, .int .u64 ol1] 24) F11
  replace F13 := keep2a (o := .cells #[.int .i64 oh1, .int .u64 ol1] 24) F13
  have F15 : _ ∧ _ ∧ _ := ⟨N.1, N.2.1, N.2.2.1⟩
  replace K := N.2.2.2
  clear N
  have FAx := FA.1
  have FAy := FA.2.1
  have FBx := FB.1
  have FBy := FB.2.1
  go_wp2_with fail
  clear FAx FAy FBx FBy
  refine (q14 _).mono ?_; rintro e w6 ⟨rfl, hb⟩
  replace K := K.trans (hb.mono K.size)
  replace FA := keep2 hb FA
  replace FB := keep2 hb FB
  replace F11 := keep2 hb F11
  replace F13 := keep2 hb F13
  replace F15 := keep2 hb F15
  clear hb
  have N := new2 (v := .int .i64 oh1) (u := .int .u64 ol1) (t := 24) K
  replace FA := keep2a (o := .cells #[.int .i64 oh1, .int .u64 ol1] 24) FA
  replace FB := keep2a (o := .cells #[.int .i64 oh1, .int .u64 ol1] 24) FB
  replace F11 := keep2a (o := .cells #[.int .i64 oh1, .int .u64 ol1] 24) F11
  replace F13 := keep2a (o := .cells #[.int .i64 oh1, .int .u64 ol1] 24) F13
  replace F15 := keep2a (o := .cells #[.int .i64 oh1, .int .u64 ol1] 24) F15
  have F17 : _ ∧ _ ∧ _ := ⟨N.1, N.2.1, N.2.2.1⟩
  replace K := N.2.2.2
  clear N
  have FAx := FA.1
  have FAy := FA.2.1
  have FBx := FB.1
  have FBy := FB.2.1
  go_wp2_with fail
  clear FAx FAy FBx FBy
  refine (q15 _).mono ?_; rintro e w7 ⟨rfl, hb⟩
  replace K := K.trans (hb.mono K.size)
  replace FA := keep2 hb FA
  replace FB := keep2 hb FB
  replace F11 := keep2 hb F11
  replace F13 := keep2 hb F13
  replace F15 := keep2 hb F15
  replace F17 := keep2 hb F17
  clear hb
  have N := new2 (v := .int .i64 oh2) (u := .int .u64 ol2) (t := 24) K
  replace FA := keep2a (o := .cells #[.int .i64 oh2, .int .u64 ol2] 24) FA
  replace FB := keep2a (o := .cells #[.int .i64 oh2, .int .u64 ol2] 24) FB
  replace F11 := keep2a (o := .cells #[.int .i64 oh2, .int .u64 ol2] 24) F11
  replace F13 := keep2a (o := .cells #[.int .i64 oh2, .int .u64 ol2] 24) F13
  replace F15 := keep2a (o := .cells #[.int .i64 oh2, .int .u64 ol2] 24) F15
  replace F17 := keep2a (o := .cells #[.int .i64 oh2, .int .u64 ol2] 24) F17
  have F19 : _ ∧ _ ∧ _ := ⟨N.1, N.2.1, N.2.2.1⟩
  replace K := N.2.2.2
  clear N
  have FAx := FA.1
  have FAy := FA.2.1
  have FBx := FB.1
  have FBy := FB.2.1
  go_wp2_with fail
  clear FAx FAy FBx FBy
  refine (q16 _).mono ?_; rintro e w8 ⟨rfl, hb⟩
  replace K := K.trans (hb.mono K.size)
  replace FA := keep2 hb FA
  replace FB := keep2 hb FB
  replace F11 := keep2 hb F11
  replace F13 := keep2 hb F13
  replace F15 := keep2 hb F15
  replace F17 := keep2 hb F17
  replace F19 := keep2 hb F19
  clear hb
  have N := new2 (v := .int .i64 oh2) (u := .int .u64 ol2) (t := 24) K
  replace FA := keep2a (o := .cells #[.int .i64 oh2, .int .u64 ol2] 24) FA
  replace FB := keep2a (o := .cells #[.int .i64 oh2, .int .u64 ol2] 24) FB
  replace F11 := keep2a (o := .cells #[.int .i64 oh2, .int .u64 ol2] 24) F11
  replace F13 := keep2a (o := .cells #[.int .i64 oh2, .int .u64 ol2] 24) F13
  replace F15 := keep2a (o := .cells #[.int .i64 oh2, .int .u64 ol2] 24) F15
  replace F17 := keep2a (o := .cells #[.int .i64 oh2, .int .u64 ol2] 24) F17
  replace F19 := keep2a (o := .cells #[.int .i64 oh2, .int .u64 ol2] 24) F19
  have F21 : _ ∧ _ ∧ _ := ⟨N.1, N.2.1, N.2.2.1⟩
  replace K := N.2.2.2
  clear N
  have FAx := FA.1
  have FAy := FA.2.1
  go_wp2_with fail
  clear FAx FAy
  refine (q17 _).mono ?_; rintro e w9 ⟨rfl, hb⟩
  replace K := K.trans (hb.mono K.size)
  replace FA := keep2 hb FA
  replace FB := keep2 hb FB
  replace F11 := keep2 hb F11
  replace F13 := keep2 hb F13
  replace F15 := keep2 hb F15
  replace F17 := keep2 hb F17
  replace F19 := keep2 hb F19
  replace F21 := keep2 hb F21
  clear hb
  have N := new2 (v := .int .i64 oh3) (u := .int .u64 ol3) (t := 24) K
  replace FA := keep2a (o := .cells #[.int .i64 oh3, .int .u64 ol3] 24) FA
  replace FB := keep2a (o := .cells #[.int .i64 oh3, .int .u64 ol3] 24) FB
  replace F11 := keep2a (o := .cells #[.int .i64 oh3, .int .u64 ol3] 24) F11
  replace F13 := keep2a (o := .cells #[.int .i64 oh3, .int .u64 ol3] 24) F13
  replace F15 := keep2a (o := .cells #[.int .i64 oh3, .int .u64 ol3] 24) F15
  replace F17 := keep2a (o := .cells #[.int .i64 oh3, .int .u64 ol3] 24) F17
  replace F19 := keep2a (o := .cells #[.int .i64 oh3, .int .u64 ol3] 24) F19
  replace F21 := keep2a (o := .cells #[.int .i64 oh3, .int .u64 ol3] 24) F21
  have F23 : _ ∧ _ ∧ _ := ⟨N.1, N.2.1, N.2.2.1⟩
  replace K := N.2.2.2
  clear N
  have FAx := FA.1
  have FAy := FA.2.1
  go_wp2_with fail
  clear FAx FAy
  refine (q18 _).mono ?_; rintro e w10 ⟨rfl, hb⟩
  replace K := K.trans (hb.mono K.size)
  replace FA := keep2 hb FA
  replace FB := keep2 hb FB
  replace F11 := keep2 hb F11
  replace F13 := keep2 hb F13
  replace F15 := keep2 hb F15
  replace F17 := keep2 hb F17
  replace F19 := keep2 hb F19
  replace F21 := keep2 hb F21
  replace F23 := keep2 hb F23
  clear hb
  have N := new2 (v := .int .i64 oh3) (u := .int .u64 ol3) (t := 24) K
  replace FA := keep2a (o := .cells #[.int .i64 oh3, .int .u64 ol3] 24) FA
  replace FB := keep2a (o := .cells #[.int .i64 oh3, .int .u64 ol3] 24) FB
  replace F11 := keep2a (o := .cells #[.int .i64 oh3, .int .u64 ol3] 24) F11
  replace F13 := keep2a (o := .cells #[.int .i64 oh3, .int .u64 ol3] 24) F13
  replace F15 := keep2a (o := .cells #[.int .i64 oh3, .int .u64 ol3] 24) F15
  replace F17 := keep2a (o := .cells #[.int .i64 oh3, .int .u64 ol3] 24) F17
  replace F19 := keep2a (o := .cells #[.int .i64 oh3, .int .u64 ol3] 24) F19
  replace F21 := keep2a (o := .cells #[.int .i64 oh3, .int .u64 ol3] 24) F21
  replace F23 := keep2a (o := .cells #[.int .i64 oh3, .int .u64 ol3] 24) F23
  have F25 : _ ∧ _ ∧ _ := ⟨N.1, N.2.1, N.2.2.1⟩
  replace K := N.2.2.2
  clear N
  go_wp2_with fail
  simp only [List.append_eq, List.cons_append, List.nil_append]
  go_region_held3 (fun w' => w'.cell? ⟨w.heap.size, 0, none⟩ = some (.int .i64 h0) ∧ w'.cell? ⟨w.heap.size, 1, none⟩ = some (.int .u64 l0) ∧ w.heap.size < w'.heap.size ∧ w'.cell? ⟨w.heap.size + 1, 0, none⟩ = some (.int .i64 h1) ∧ w'.cell? ⟨w.heap.size + 1, 1, none⟩ = some (.int .u64 l1) ∧ w.heap.size + 1 < w'.heap.size ∧ w'.cell? ⟨w3.heap.size, 0, none⟩ = some (.int .i64 oh0) ∧ w'.cell? ⟨w3.heap.size, 1, none⟩ = some (.int .u64 ol0) ∧ w3.heap.size < w'.heap.size ∧ w'.cell? ⟨w4.heap.size, 0, none⟩ = some (.int .i64 oh0) ∧ w'.cell? ⟨w4.heap.size, 1, none⟩ = some (.int .u64 ol0) ∧ w4.heap.size < w'.heap.size ∧ w'.cell? ⟨w5.heap.size, 0, none⟩ = some (.int .i64 oh1) ∧ w'.cell? ⟨w5.heap.size, 1, none⟩ = some (.int .u64 ol1) ∧ w5.heap.size < w'.heap.size ∧ w'.cell? ⟨w6.heap.size, 0, none⟩ = some (.int .i64 oh1) ∧ w'.cell? ⟨w6.heap.size, 1, none⟩ = some (.int .u64 ol1) ∧ w6.heap.size < w'.heap.size ∧ w'.cell? ⟨w7.heap.size, 0, none⟩ = some (.int .i64 oh2) ∧ w'.cell? ⟨w7.heap.size, 1, none⟩ = some (.int .u64 ol2) ∧ w7.heap.size < w'.heap.size ∧ w'.cell? ⟨w8.heap.size, 0, none⟩ = some (.int .i64 oh2) ∧ w'.cell? ⟨w8.heap.size, 1, none⟩ = some (.int .u64 ol2) ∧ w8.heap.size < w'.heap.size ∧ w'.cell? ⟨w9.heap.size, 0, none⟩ = some (.int .i64 oh3) ∧ w'.cell? ⟨w9.heap.size, 1, none⟩ = some (.int .u64 ol3) ∧ w9.heap.size < w'.heap.size ∧ w'.cell? ⟨w10.heap.size, 0, none⟩ = some (.int .i64 oh3) ∧ w'.cell? ⟨w10.heap.size, 1, none⟩ = some (.int .u64 ol3) ∧ w10.heap.size < w'.heap.size)
        (first | exact ⟨FA.1, FA.2.1, FA.2.2, FB.1, FB.2.1, FB.2.2, F11.1, F11.2.1, F11.2.2, F13.1, F13.2.1, F13.2.2, F15.1, F15.2.1, F15.2.2, F17.1, F17.2.1, F17.2.2, F19.1, F19.2.1, F19.2.2, F21.1, F21.2.1, F21.2.2, F23.1, F23.2.1, F23.2.2, F25.1, F25.2.1, F25.2.2⟩ | exact keepT hbwG (by assumption) | exact keepT hbwF (by assumption) | exact keepT hbwE (by assumption) | exact keepT hbwD (by assumption) | exact keepT hbwC (by assumption) | exact keepT hbwB (by assumption) | exact keepT hbwA (by assumption) | go_keep)
        ((first | (go_at_call 19; refine (aw _).mono ?_; rintro e wA ⟨rfl, hbwA⟩) | (go_at_call 20; refine (q20 _).mono ?_; rintro e wB ⟨rfl, hbwB⟩) | (go_at_call 21; refine (q21 _).mono ?_; rintro e wC ⟨rfl, hbwC⟩) | (go_at_call 22; refine (q22 _).mono ?_; rintro e wD ⟨rfl, hbwD⟩) | (go_at_call 23; refine (q23 _).mono ?_; rintro e wE ⟨rfl, hbwE⟩) | (go_at_call 24; refine (q24 _).mono ?_; rintro e wF ⟨rfl, hbwF⟩) | (go_at_call 25; refine (q25 _).mono ?_; rintro e wG ⟨rfl, hbwG⟩)))
  all_goals go_wp2_with fail
  have K0 := K.drew
  have KA := K0.trans (hbwA.mono K0.size)
  have KB := KA.trans (hbwB.mono KA.size)
  have KC := KB.trans (hbwC.mono KB.size)
  have KD := KC.trans (hbwD.mono KC.size)
  have KE := KD.trans (hbwE.mono KD.size)
  have KF := KE.trans (hbwF.mono KE.size)
  have KG := KF.trans (hbwG.mono KF.size)
  clear hbwA hbwB hbwC hbwD hbwE hbwF hbwG
  go_ret
  exact ⟨rfl, KG⟩

set_option maxRecDepth 100000 in
theorem lifted (os : Os) (started : os.Started) (H : Type) (enc : TypeId × Value → H) :
    ReturnsInHanded {} Try.checked os 3 .any (Rows.xintTellsSpec.pre6 enc Try.prog Try.f3 Rows.xintTellsRow.domain false) (Rows.xintTellsSpec.post enc Try.prog Try.f3 false true false false) := by
  refine returnsInHanded_of_change (C := Try.checked) own started (by kernel_rfl) Try.func3
    (ChangeSpec.witness6 (enc := enc) (C := Try.checked) false ⟨#[], #[.agg #[.int .i64 0, .int .u64 0], .agg #[.int .i64 0, .int .u64 0], .int .i64 0], []⟩ 8 (by kernel_rfl) (by kernel_rfl) (by kernel_rfl) (by kernel_rfl)) ?_
  intro W base args ds gs before hval0 hW hcnd _
  have hval : ∀ (j : Nat) t v, Try.f3.params[j]? = some t → args[j]? = some v → Value.okWide Try.prog W .any base t v := hval0
  have hW' := hW
  obtain ⟨p, q, hA0, hV, rfl, hfz, hnd⟩ := hW
  have hA : DataW.TrodAll enc Try.prog W 0 (fun _ => true) true Try.f3.params.toList args.toList ds p := hA0
  rw [Try.params3] at hA hval
  obtain ⟨v0, vs0, d0, ds0, p0, q0, hargs, rfl, rfl, h0, rr0⟩ := trodAll_cons hA
  obtain ⟨v1, vs1, d1, ds1, p1, q1, rfl, rfl, rfl, h1, rr1⟩ := trodAll_cons rr0
  obtain ⟨v2, vs2, d2, ds2, p2, q2, rfl, rfl, rfl, h2, rr2⟩ := trodAll_cons rr1
  obtain ⟨rfl, rfl, rfl⟩ := trodAll_nil rr2
  obtain rfl : args = #[v0, v1, v2] := by cases args; simp_all
  obtain ⟨rfl, rfl⟩ := trodVars_none hV
  obtain ⟨c0, e0, rfl, rfl, rfl, x0, y0⟩ := open24 (hval 0 24 v0 rfl rfl) h0
  obtain ⟨c1, e1, rfl, rfl, rfl, x1, y1⟩ := open24 (hval 1 24 v1 rfl rfl) h1
  obtain ⟨a2, rfl, rfl, rfl, x2⟩ := open_int Try.underlying3 (hval 2 3 v2 rfl rfl) h2
  clear hA0 hval0
  simp only [List.append_nil] at hW'
  refine (walk c0 e0 ⟨(wf_rng x0).1, (wf_rng x0).2, (wf_urng y0).1, (wf_urng y0).2⟩ c1 e1 ⟨(wf_rng x1).1, (wf_rng x1).2, (wf_urng y1).1, (wf_urng y1).2⟩ a2 (wf_rng x2).1 (wf_rng x2).2 W).mono fun e W' ⟨he, hg⟩ => ?_
  subst he
  exact ⟨_, rfl, post_of_below (pa := []) (pv := []) hW' (fun _ _ _ => trodAll_cons_mk (shut_bool Try.underlying4 _) trodAll_mk0) (fun sp _ => (trodAll_cons_mk (shut24 x0 y0 _ _ _ _) (trodAll_cons_mk (shut24 x1 y1 _ _ _ _) (trodAll_cons_mk (shut_int Try.underlying3 x2) trodAll_mk0)))) (fun _ _ => rfl) rfl
    hg (ok_one (by kernel_rfl) rfl (okWide_bool_mk Try.underlying4 _))⟩

theorem over : Rows.xintTellsRow.holds Try.pinned (OpenSpec.ofChange Rows.xintTellsSpec) :=
  OpenClaim.holds_of_wide 3 Try.f3 rfl rfl rfl rfl rfl rfl rfl ⟨rfl, rfl, rfl, rfl, rfl⟩ rfl rfl rfl rfl rfl (by kernel_rfl) Try.func3 (by kernel_rfl)
    (of_decide_eq_true (by kernel_rfl)) (by unfold Func.isWrapper; first | (rw [if_pos (by decide +kernel)]; kernel_rfl) | (rw [if_neg (by decide +kernel)]; exact ⟨rfl, rfl⟩))
    (fun os started H enc _ => lifted os started H enc)

theorem proved : Rows.XintTellsSaid :=
  over
#print axioms proved
end Go.Proofs.Ytdjhloilpgfcjaa.xintTells
