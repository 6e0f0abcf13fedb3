/-
  For every three ints the law XintRings returns true: sums and products go both ways, through three, and over one another. No condition.
-/
import Derived.Test.YtdjhloilpgfcjaaRow
import Derived.Deep.DeepCutAuto
import Derived.Test.YtdjhloilpgfcjaaAwake
namespace Go.Proofs.Ytdjhloilpgfcjaa.xintRings
open Go.ChangeShapes Go.WideShapes Go.ChangeAt Go.RowKit Go.Joins
set_option linter.unusedVariables false

theorem own : ownKnob Try.prog.godebug = none := by kernel_rfl

set_option maxRecDepth 100000 in
set_option maxHeartbeats 4000000 in
theorem walk (a0 : Int) (r0 : -9223372036854775808 ≤ a0) (s0 : a0 < 9223372036854775808) (a1 : Int) (r1 : -9223372036854775808 ≤ a1) (s1 : a1 < 9223372036854775808) (a2 : Int) (r2 : -9223372036854775808 ≤ a2) (s2 : a2 < 9223372036854775808) (w : World) :
    Calls Try.prog 6 #[.int .i64 a0, .int .i64 a1, .int .i64 a2] w fun e w' => e = .returned (.bool true) ∧ Below w.heap.size w w' := by
  have aw := awake_any
  have bm := M.mul_hi (a := a0) (b := a1) (A := 9223372036854775808) (B := 9223372036854775808) r0 (by omega) r1 (by omega)
  have bp := M.mul_hi (a := a0) (b := a2) (A := 9223372036854775808) (B := 9223372036854775808) r0 (by omega) r2 (by omega)
  have fm : M.ok (a0 * a1) = true := by rw [M.ok_iff]; omega
  have fp : M.ok (a0 * a2) = true := by rw [M.ok_iff]; omega
  have f0 : M.ok a0 = true := by rw [M.ok_iff]; omega
  have f1 : M.ok a1 = true := by rw [M.ok_iff]; omega
  have f2 : M.ok a2 = true := by rw [M.ok_iff]; omega
  have fs : M.ok (a1 + a2) = true := by rw [M.ok_iff]; omega
  have fx : M.ok (a0 * a1 + a2) = true := by rw [M.ok_iff]; omega
  have cA := of_any a0 r0 s0
  have cB := of_any a1 r1 s1
  have cC := of_any a2 r2 s2
  have m1 := mul_any a0 a1 r0 s0 r1 s1
  have m2 := mul_any a1 a0 r1 s1 r0 s0
  rw [Int.mul_comm a1 a0] at m2
  have m3 := mul_any a0 a2 r0 s0 r2 s2
  have d1 := add_any (M.oh (a0 * a1)) (M.ol (a0 * a1)) (M.oh a2) (M.ol a2) (M.b_of _) (M.b_of _)
  rw [M.val_of fm, M.val_of f2, fx] at d1
  have d2 := add_any (M.oh a2) (M.ol a2) (M.oh (a0 * a1)) (M.ol (a0 * a1)) (M.b_of _) (M.b_of _)
  rw [M.val_of fm, M.val_of f2, Int.add_comm a2, fx] at d2
  have t1 := times_any (M.oh a0) (M.ol a0) a1 (M.b_of _) r1 s1
  rw [M.val_of f0, fm] at t1
  have d3 := add_any (M.oh a1) (M.ol a1) (M.oh a2) (M.ol a2) (M.b_of _) (M.b_of _)
  rw [M.val_of f1, M.val_of f2, fs] at d3
  have t2 := times_any (M.oh (a1 + a2)) (M.ol (a1 + a2)) a0 (M.b_of _) r0 s0
  rw [M.val_of fs] at t2
  have d4 := add_any (M.oh (a0 * a1)) (M.ol (a0 * a1)) (M.oh (a0 * a2)) (M.ol (a0 * a2)) (M.b_of _) (M.b_of _)
  rw [M.val_of fm, M.val_of fp, ← Int.mul_add, Int.mul_comm a0 (a1 + a2)] at d4
  have u1 := sub_any (M.oh (a0 * a1 + a2)) (M.ol (a0 * a1 + a2)) (M.oh a2) (M.ol a2) (M.b_of _) (M.b_of _)
  rw [M.val_of fx, M.val_of f2, Int.add_sub_cancel, fm] at u1
  clear bm bp fm fp f0 f1 f2 fs fx r0 s0 r1 s1 r2 s2
  generalize M.oh (a0 * a1 + a2) = xh at *
  generalize M.ol (a0 * a1 + a2) = xl at *
  generalize M.oh (a0 * a1) = mh at *
  generalize M.ol (a0 * a1) = ml at *
  generalize M.oh (a0 * a2) = ph at *
  generalize M.ol (a0 * a2) = pl at *
  generalize M.oh ((a1 + a2) * a0) = nh at *
  generalize M.ol ((a1 + a2) * a0) = nl at *
  generalize M.ok ((a1 + a2) * a0) = og at *
  generalize M.oh (a1 + a2) = sh at *
  generalize M.ol (a1 + a2) = sl at *
  generalize M.oh a0 = ah at *
  generalize M.ol a0 = al at *
  generalize M.oh a1 = bh at *
  generalize M.ol a1 = bl at *
  generalize M.oh a2 = ch at *
  generalize M.ol a2 = cl at *
  have K : Below w.heap.size w w := Below.refl _ _
  go_enter Try.func6, Try.ntmps6
  go_wp2_with fail
  refine (m1 _).mono ?_; rintro e w1 ⟨rfl, hb⟩
  replace K := K.trans (hb.mono K.size)
  clear hb
  go_wp2_with fail
  refine (cC _).mono ?_; rintro e w2 ⟨rfl, hb⟩
  replace K := K.trans (hb.mono K.size)
  clear hb
  go_wp2_with fail
  refine (d1 _).mono ?_; rintro e w3 ⟨rfl, hb⟩
  replace K := K.trans (hb.mono K.size)
  clear hb
  have N := new2 (v := .int .i64 xh) (u := .int .u64 xl) (t := 24) K
  have FX : _ ∧ _ ∧ _ := ⟨N.1, N.2.1, N.2.2.1⟩
  replace K := N.2.2.2
  clear N
  go_wp2_with fail
  refine (cC _).mono ?_; rintro e w4 ⟨rfl, hb⟩
  replace K := K.trans (hb.mono K.size)
  replace FX := keep2 hb FX
  clear hb
  go_wp2_with fail
  refine (m2 _).mono ?_; rintro e w5 ⟨rfl, hb⟩
  replace K := K.trans (hb.mono K.size)
  replace FX := keep2 hb FX
  clear hb
  go_wp2_with fail
  refine (d2 _).mono ?_; rintro e w6 ⟨rfl, hb⟩
  replace K := K.trans (hb.mono K.size)
  replace FX := keep2 hb FX
  clear hb
  have N := new2 (v := .int .i64 xh) (u := .int .u64 xl) (t := 24) K
  replace FX := keep2a (o := .cells #[.int .i64 xh, .int .u64 xl] 24) FX
  have FY : _ ∧ _ ∧ _ := ⟨N.1, N.2.1, N.2.2.1⟩
  replace K := N.2.2.2
  clear N
  have x0 := FX.1
  have x1 := FX.2.1
  have y0 := FY.1
  have y1 := FY.2.1
  go_wp2_with fail
  clear x0 x1 y0 y1 FY
  refine (cA _).mono ?_; rintro e w7 ⟨rfl, hb⟩
  replace K := K.trans (hb.mono K.size)
  replace FX := keep2 hb FX
  clear hb
  go_wp2_with fail
  refine (t1 _).mono ?_; rintro e w8 ⟨rfl, hb⟩
  replace K := K.trans (hb.mono K.size)
  replace FX := keep2 hb FX
  clear hb
  have N := new2 (v := .int .i64 mh) (u := .int .u64 ml) (t := 24) K
  replace FX := keep2a (o := .cells #[.int .i64 mh, .int .u64 ml] 24) FX
  have FL : _ ∧ _ ∧ _ := ⟨N.1, N.2.1, N.2.2.1⟩
  replace K := N.2.2.2
  clear N
  go_wp2_with fail
  refine (cB _).mono ?_; rintro e w9 ⟨rfl, hb⟩
  replace K := K.trans (hb.mono K.size)
  replace FX := keep2 hb FX
  replace FL := keep2 hb FL
  clear hb
  go_wp2_with fail
  refine (cC _).mono ?_; rintro e w10 ⟨rfl, hb⟩
  replace K := K.trans (hb.mono K.size)
  replace FX := keep2 hb FX
  replace FL := keep2 hb FL
  clear hb
  go_wp2_with fail
  refine (d3 _).mono ?_; rintro e w11 ⟨rfl, hb⟩
  replace K := K.trans (hb.mono K.size)
  replace FX := keep2 hb FX
  replace FL := keep2 hb FL
  clear hb
  have N := new2 (v := .int .i64 sh) (u := .int .u64 sl) (t := 24) K
  replace FX := keep2a (o := .cells #[.int .i64 sh, .int .u64 sl] 24) FX
  replace FL := keep2a (o := .cells #[.int .i64 sh, .int .u64 sl] 24) FL
  have FM : _ ∧ _ ∧ _ := ⟨N.1, N.2.1, N.2.2.1⟩
  replace K := N.2.2.2
  clear N
  go_wp2_with fail
  have HL := FL
  go_region_held3 (fun w' => w'.cell? ⟨w8.heap.size, 0, none⟩ = some (.int .i64 mh) ∧ w'.cell? ⟨w8.heap.size, 1, none⟩ = some (.int .u64 ml) ∧ w8.heap.size < w'.heap.size) (first | exact keep2 hbM (by assumption) | exact HL | go_keep)
    ((go_at_call 30; refine (m1 _).mono ?_; rintro e w12 ⟨rfl, hbM⟩))
  replace K := K.drew.trans (hbM.mono K.drew.size)
  clear HL
  replace FX := keep2 hbM FX
  replace FL := keep2 hbM FL
  replace FM := keep2 hbM FM
  clear hbM
  have z0 := FM.1
  have z1 := FM.2.1
  go_wp2_with fail
  clear z0 z1 FM
  refine (t2 _).mono ?_; rintro e w13 ⟨rfl, hb⟩
  replace K := K.trans (hb.mono K.size)
  replace FX := keep2 hb FX
  replace FL := keep2 hb FL
  clear hb
  have N := new2 (v := .int .i64 nh) (u := .int .u64 nl) (t := 24) K
  replace FX := keep2a (o := .cells #[.int .i64 nh, .int .u64 nl] 24) FX
  replace FL := keep2a (o := .cells #[.int .i64 nh, .int .u64 nl] 24) FL
  have FN : _ ∧ _ ∧ _ := ⟨N.1, N.2.1, N.2.2.1⟩
  replace K := N.2.2.2
  clear N
  go_wp2_with fail
  refine (m1 _).mono ?_; rintro e w14 ⟨rfl, hb⟩
  replace K := K.trans (hb.mono K.size)
  replace FX := keep2 hb FX
  replace FL := keep2 hb FL
  replace FN := keep2 hb FN
  clear hb
  go_wp2_with fail
  refine (m3 _).mono ?_; rintro e w15 ⟨rfl, hb⟩
  replace K := K.trans (hb.mono K.size)
  replace FX := keep2 hb FX
  replace FL := keep2 hb FL
  replace FN := keep2 hb FN
  clear hb
  go_wp2_with fail
  refine (d4 _).mono ?_; rintro e w16 ⟨rfl, hb⟩
  replace K := K.trans (hb.mono K.size)
  replace FX := keep2 hb FX
  replace FL := keep2 hb FL
  replace FN := keep2 hb FN
  clear hb
  have N := new2 (v := .int .i64 nh) (u := .int .u64 nl) (t := 24) K
  replace FX := keep2a (o := .cells #[.int .i64 nh, .int .u64 nl] 24) FX
  replace FL := keep2a (o := .cells #[.int .i64 nh, .int .u64 nl] 24) FL
  replace FN := keep2a (o := .cells #[.int .i64 nh, .int .u64 nl] 24) FN
  have FO : _ ∧ _ ∧ _ := ⟨N.1, N.2.1, N.2.2.1⟩
  replace K := N.2.2.2
  clear N
  have x0 := FN.1
  have x1 := FN.2.1
  have y0 := FO.1
  have y1 := FO.2.1
  go_upto_region 13 with fail
  clear x0 x1 y0 y1 FN FO
  have zX : w3.heap.size < w16.heap.size + 1 := by have := FX.2.2; simpa using this
  have zL : w8.heap.size < w16.heap.size + 1 := by have := FL.2.2; simpa using this
  go_cut [19, 20] (fun t19 t20 wx => ∃ g : Nat, t19 = .pointer (some ⟨g, 0, none⟩) ∧ t20 = .bool true ∧ wx.cell? ⟨g, 0, none⟩ = some (.int .i64 mh) ∧ wx.cell? ⟨g, 1, none⟩ = some (.int .u64 ml) ∧ g < wx.heap.size ∧ Below w.heap.size w wx ∧ wx.cell? ⟨w8.heap.size, 0, none⟩ = some (.int .i64 mh) ∧ wx.cell? ⟨w8.heap.size, 1, none⟩ = some (.int .u64 ml) ∧ w8.heap.size < wx.heap.size)
  case first =>
    have HX := FX
    go_region_held3 (fun w' => w'.cell? ⟨w3.heap.size, 0, none⟩ = some (.int .i64 xh) ∧ w'.cell? ⟨w3.heap.size, 1, none⟩ = some (.int .u64 xl) ∧ w3.heap.size < w'.heap.size)
      (first | exact keep2a (by assumption) | exact keep2b zB (by assumption) | exact keep2b zA (by assumption) | exact keep2s (by (dsimp only; omega)) (keep2s (by (dsimp only; omega)) (by assumption)) | exact keep2 hbB (by assumption) | exact keep2 hbA (by assumption) | exact HX | go_keep)
      ((first | (go_at_call 20; refine (cC _).mono ?_; rintro e w17 ⟨rfl, hbA⟩; have zA : w3.heap.size < w17.heap.size := (by (have := hbA.size; (try simp at this); omega)); (try have yA : w16.heap.size + 1 < w17.heap.size := (by (have := hbA.size; (try simp at this); omega))); obtain ⟨hcA, hfA⟩ := bcell hbA) | (go_at_call 15; refine (u1 _).mono ?_; rintro e w18 ⟨rfl, hbB⟩; have zB : w3.heap.size < w18.heap.size := (by (have := hbB.size; (try simp at this); omega)); (try have xB : w17.heap.size < w18.heap.size := (by (have := hbB.size; (try simp at this); omega))); (try have yB : w16.heap.size + 1 < w18.heap.size := (by (have := hbB.size; (try simp at this); omega))); obtain ⟨hcB, hfB⟩ := bcell hbB)))
    all_goals (go_wp2_with fail; go_meet)
    · have K4 := K.drew
      have K5 := K4.trans (hbA.mono K4.size)
      have K6 := K5.trans (hbB.mono K5.size)
      have N := new2 (v := .int .i64 mh) (u := .int .u64 ml) (t := 24) K6
      exact ⟨w18.heap.size, rfl, rfl, N.1, N.2.1, N.2.2.1, N.2.2.2, keep2a (keep2 hbB (keep2 hbA FL))⟩
    · have K4 := K.drew
      have K5 := K4.trans (hbA.mono K4.size)
      have K5' := K5.alloc K5.size (.cells #[.int .i64 0, .int .u64 0] 24)
      have K6 := K5'.trans (hbB.mono K5'.size)
      have c0 := hcB w17.heap.size 0 (by simp)
      have c1 := hcB w17.heap.size 1 (by simp)
      simp [World.cell?_alloc_new] at c0 c1
      have N := set2 (v := .int .i64 mh) (u := .int .u64 ml) K6 K5.size c0 c1 xB
      have F1 := keep2 hbA FL
      exact ⟨w17.heap.size, rfl, rfl, N.1, N.2.1, N.2.2.1, N.2.2.2, keep2s F1.2.2 (keep2s F1.2.2 (keep2 hbB (keep2a F1)))⟩
    · have K4 := (K.alloc K.size (.cells #[.int .i64 0, .int .u64 0] 24)).drew
      have K5 := K4.trans (hbA.mono K4.size)
      have K6 := K5.trans (hbB.mono K5.size)
      have e0 : w17.cell? ⟨w16.heap.size + 1, 0, none⟩ = some (.int .i64 0) := by
        have := (hcA (w16.alloc (.cells #[.int .i64 nh, .int .u64 nl] 24)).heap.size 0 (by simp)).trans (World.cell?_alloc_new (w16.alloc (.cells #[.int .i64 nh, .int .u64 nl] 24)) #[.int .i64 0, .int .u64 0] 24 0)
        simpa using this
      have e1 : w17.cell? ⟨w16.heap.size + 1, 1, none⟩ = some (.int .u64 0) := by
        have := (hcA (w16.alloc (.cells #[.int .i64 nh, .int .u64 nl] 24)).heap.size 1 (by simp)).trans (World.cell?_alloc_new (w16.alloc (.cells #[.int .i64 nh, .int .u64 nl] 24)) #[.int .i64 0, .int .u64 0] 24 1)
        simpa using this
      have c0 := (hcB (w16.heap.size + 1) 0 yA).trans e0
      have c1 := (hcB (w16.heap.size + 1) 1 yA).trans e1
      have N := set2 (v := .int .i64 mh) (u := .int .u64 ml) K6 (by have := K.size; simp at this; omega) c0 c1 yB
      exact ⟨w16.heap.size + 1, rfl, rfl, N.1, N.2.1, N.2.2.1, N.2.2.2, keep2s zL (keep2s zL (keep2 hbB (keep2 hbA (keep2a (o := .cells #[.int .i64 0, .int .u64 0] 24) FL))))⟩
  case rest =>
    obtain ⟨g, rfl, rfl, c0, c1, hg, K9, F9⟩ := hcut
    clear FX FL K zX zL
    go_wp2_with fail
    refine (aw _).mono ?_; rintro e w19 ⟨rfl, hb⟩
    have K10 := K9.trans (hb.mono K9.size)
    have G := keep2 hb ⟨c0, c1, hg⟩
    have F := keep2 hb F9
    clear c0 c1 hg K9 F9 hb
    have g0 := G.1
    have g1 := G.2.1
    have l0 := F.1
    have l1 := F.2.1
    go_wp2_with fail
    go_ret
    exact ⟨retb (by first | rfl | simp), K10⟩

set_option maxRecDepth 100000 in
theorem lifted (os : Os) (started : os.Started) (H : Type) (enc : TypeId × Value → H) :
    ReturnsInHanded {} Try.checked os 6 .any (Rows.xintRingsSpec.pre6 enc Try.prog Try.f6 Rows.xintRingsRow.domain false) (Rows.xintRingsSpec.post enc Try.prog Try.f6 false true false false) := by
  refine returnsInHanded_of_change (C := Try.checked) own started (by kernel_rfl) Try.func6
    (ChangeSpec.witness6 (enc := enc) (C := Try.checked) false ⟨#[], #[.int .i64 0, .int .i64 0, .int .i64 0], []⟩ 8 (by kernel_rfl) (by kernel_rfl) (by kernel_rfl) (by kernel_rfl)) ?_
  intro W base args ds gs before hval0 hW hcnd _
  have hval : ∀ (j : Nat) t v, Try.f6.params[j]? = some t → args[j]? = some v → Value.okWide Try.prog W .any base t v := hval0
  have hW' := hW
  obtain ⟨p, q, hA0, hV, rfl, hfz, hnd⟩ := hW
  have hA : DataW.TrodAll enc Try.prog W 0 (fun _ => true) true Try.f6.params.toList args.toList ds p := hA0
  rw [Try.params6] at hA hval
  obtain ⟨v0, vs0, d0, ds0, p0, q0, hargs, rfl, rfl, h0, rr0⟩ := trodAll_cons hA
  obtain ⟨v1, vs1, d1, ds1, p1, q1, rfl, rfl, rfl, h1, rr1⟩ := trodAll_cons rr0
  obtain ⟨v2, vs2, d2, ds2, p2, q2, rfl, rfl, rfl, h2, rr2⟩ := trodAll_cons rr1
  obtain ⟨rfl, rfl, rfl⟩ := trodAll_nil rr2
  obtain rfl : args = #[v0, v1, v2] := by cases args; simp_all
  obtain ⟨rfl, rfl⟩ := trodVars_none hV
  obtain ⟨a0, rfl, rfl, rfl, x0⟩ := open_int Try.underlying3 (hval 0 3 v0 rfl rfl) h0
  obtain ⟨a1, rfl, rfl, rfl, x1⟩ := open_int Try.underlying3 (hval 1 3 v1 rfl rfl) h1
  obtain ⟨a2, rfl, rfl, rfl, x2⟩ := open_int Try.underlying3 (hval 2 3 v2 rfl rfl) h2
  clear hA0 hval0
  simp only [List.append_nil] at hW'
  refine (walk a0 (wf_rng x0).1 (wf_rng x0).2 a1 (wf_rng x1).1 (wf_rng x1).2 a2 (wf_rng x2).1 (wf_rng x2).2 W).mono fun e W' ⟨he, hg⟩ => ?_
  subst he
  exact ⟨_, rfl, post_of_below (pa := []) (pv := []) hW' (fun _ _ _ => trodAll_cons_mk (shut_bool Try.underlying4 _) trodAll_mk0) (fun sp _ => (trodAll_cons_mk (shut_int Try.underlying3 x0) (trodAll_cons_mk (shut_int Try.underlying3 x1) (trodAll_cons_mk (shut_int Try.underlying3 x2) trodAll_mk0)))) (fun _ _ => rfl) rfl
    hg (ok_one (by kernel_rfl) rfl (okWide_bool_mk Try.underlying4 _))⟩

theorem over : Rows.xintRingsRow.holds Try.pinned (OpenSpec.ofChange Rows.xintRingsSpec) :=
  OpenClaim.holds_of_wide 6 Try.f6 rfl rfl rfl rfl rfl rfl rfl ⟨rfl, rfl, rfl, rfl, rfl⟩ rfl rfl rfl rfl rfl (by kernel_rfl) Try.func6 (by kernel_rfl)
    (of_decide_eq_true (by kernel_rfl)) (by unfold Func.isWrapper; first | (rw [if_pos (by decide +kernel)]; kernel_rfl) | (rw [if_neg (by decide +kernel)]; exact ⟨rfl, rfl⟩))
    (fun os started H enc _ => lifted os started H enc)

theorem proved : Rows.XintRingsSaid :=
  over
#print axioms proved
end Go.Proofs.Ytdjhloilpgfcjaa.xintRings
