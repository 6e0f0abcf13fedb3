/-
  For every axis and numbers of quarters the law MatTurns returns true: turns around one axis add up, four quarters are none, and the rows as columns of a turn are the turn back. No condition.
-/
import Derived.Test.YtidaffgfhmbomaaRow
import Derived.Test.YtidaffgfhmbomaaAwake4
import Derived.Test.YtidaffgfhmbomaaRTurn4
import Derived.Test.YtidaffgfhmbomaaOpen4
import Derived.Deep.DeepCutAuto
namespace Go.Proofs.Ytidaffgfhmbomaa.matTurns
open Go.ChangeShapes Go.WideShapes Go.ChangeAt Go.RowKit
set_option linter.unusedVariables false
set_option linter.unusedSimpArgs false

theorem own : ownKnob Try.prog.godebug = none := by kernel_rfl
theorem turn_tab : ((List.range 3).all fun a => (List.range 4).all fun r => (List.range 4).all fun s => M.eqB 16 (M.mul (M.turnA a r) (M.turnA a s)).1 (M.turnA a ((r + s) % 4)) && ((M.mul (M.turnA a r) (M.turnA a s)).2 == 0) && M.eqB 16 (M.flip (M.turnA a r)) (M.turnA a ((4 - r) % 4))) = true := by kernel_rfl
theorem turn_at {a r s : Nat} (ha : a < 3) (hr : r < 4) (hs : s < 4) : M.mat 16 (M.mul (M.turnA a r) (M.turnA a s)).1 = M.mat 16 (M.turnA a ((r + s) % 4)) ∧ (M.mul (M.turnA a r) (M.turnA a s)).2 = 0 ∧ M.eqB 16 (M.flip (M.turnA a r)) (M.turnA a ((4 - r) % 4)) = true := by
  have h := turn_tab
  simp only [List.all_eq_true, List.mem_range, Bool.and_eq_true, beq_iff_eq] at h
  obtain ⟨⟨h1, h2⟩, h3⟩ := h a ha r hr s hs
  exact ⟨M.mat_ext (M.eqB_iff.1 h1), h2, h3⟩
theorem turn_is (k x : Int) (a r : Nat) (hk : k = (a : Int)) (ha : a < 3) (hr : M.quarters x = r) (w : World) : Calls Try.prog 22 #[.int .i64 k, .int .i64 x] w fun e w' => e = .returned (.tuple #[arr 16 (M.turnA a r), .int .i64 0]) ∧ Below w.heap.size w w' := by
  have e : M.turn k x = (M.turnA a r, 0) := by unfold M.turn; rw [if_pos (by omega), hr, show k.toNat = a by omega]
  have c := turn_any k x w
  rw [e] at c
  exact c

set_option maxRecDepth 100000 in
set_option maxHeartbeats 8000000 in
theorem walk (axis p q : Int) (h0 : 0 ≤ axis ∧ axis ≤ 255) (h1 : -9223372036854775808 ≤ p ∧ p < 9223372036854775808) (h2 : -9223372036854775808 ≤ q ∧ q < 9223372036854775808) (w : World) :
    Calls Try.prog 6 #[.int .u8 axis, .int .i64 p, .int .i64 q] w fun e w' => e = .returned (.bool true) ∧ Below w.heap.size w w' := by
  obtain ⟨k, hk1, hk2, a, hka, ha⟩ : ∃ k : Int, axis % 3 = k ∧ axis.tmod 3 = k ∧ ∃ a : Nat, k = (a : Int) ∧ a < 3 := ⟨axis % 3, rfl, Int.tmod_eq_emod_of_nonneg (by omega), (axis % 3).toNat, by omega, by omega⟩
  obtain ⟨x, hx, hx1, hx2⟩ : ∃ x : Int, p.tmod 8 = x ∧ -8 < x ∧ x < 8 := ⟨_, rfl, Int.lt_tmod_of_pos p (by decide), Int.tmod_lt_of_pos p (by decide)⟩
  obtain ⟨y, hy, hy1, hy2⟩ : ∃ y : Int, q.tmod 8 = y ∧ -8 < y ∧ y < 8 := ⟨_, rfl, Int.lt_tmod_of_pos q (by decide), Int.tmod_lt_of_pos q (by decide)⟩
  obtain ⟨z, hz, hz1, hz2⟩ : ∃ z : Int, p.tmod 9 = z ∧ -9 < z ∧ z < 9 := ⟨_, rfl, Int.lt_tmod_of_pos p (by decide), Int.tmod_lt_of_pos p (by decide)⟩
  obtain ⟨r, hr⟩ : ∃ r, M.quarters x = r := ⟨_, rfl⟩
  obtain ⟨s, hs⟩ : ∃ s, M.quarters y = s := ⟨_, rfl⟩
  have lr : r < 4 := by rw [← hr]; exact M.quarters_lt x
  have ls : s < 4 := by rw [← hs]; exact M.quarters_lt y
  obtain ⟨m1, m2, m3⟩ := turn_at ha lr ls
  have T1 := fun w => turn_is k x a r hka ha hr w
  have T2 := fun w => turn_is k y a s hka ha hs w
  have T3 := fun w => turn_is k (x + y) a ((r + s) % 4) hka ha (by subst hr hs; unfold M.quarters; omega) w
  have T4 := fun w => two_is (mul_any (M.turnA a r) (M.turnA a s) w) _ _ m1 m2
  have T5 := fun w => turn_is k (-x) a ((4 - r) % 4) hka ha (by subst hr; unfold M.quarters; omega) w
  have T6 : ∀ w, Calls Try.prog 22 #[.int .i64 k, .int .i64 (4 * z)] w fun e w' => e = .returned (.tuple #[arr 16 M.unit, .int .i64 0]) ∧ Below w.heap.size w w' := fun w => by
    have c := turn_is k (4 * z) a 0 hka ha (by unfold M.quarters; omega) w
    rw [arr, turnA_0] at c
    exact c
  have HM := Lib.hid m3
  clear m1 m2 m3 hr hs
  have hkb1 : 0 ≤ k := by omega
  have hkb2 : k < 3 := by omega
  have HK := Lib.hid hka
  clear hka
  have O := Own.start w
  have hu2 := Try.underlying23
  go_enter Try.func6, Try.ntmps6
  go_wp2_with (first | (go_at_call 22; (first | (with_reducible refine (T1 _).mono ?_) | (with_reducible refine (T2 _).mono ?_) | (with_reducible refine (T3 _).mono ?_) | (with_reducible refine (T5 _).mono ?_) | (with_reducible refine (T6 _).mono ?_)); rintro e w1 ⟨rfl, hb⟩; replace O := O.call hb; clear hb) | ((with_reducible refine at_alloc 8 ?_); refine wpList_alloc_own O (M.mat 16 M.zero) zero23 ?_; clear O; intro g8 w1 O) | ((with_reducible refine at_store 8 ?_); refine wpList_put_own O 0 (M.mat 16 (M.turnA a r)) rfl rfl rfl (s23 _) (M.mat_len2 _ _ _) (M.mat_one _ _) ?_; clear O; intro w1 O) | ((with_reducible refine at_alloc 10 ?_); refine wpList_alloc_own O (M.mat 16 M.zero) zero23 ?_; clear O; intro g10 w1 O) | ((with_reducible refine at_store 10 ?_); refine wpList_put_own O 0 (M.mat 16 (M.turnA a s)) rfl rfl rfl (s23 _) (M.mat_len2 _ _ _) (M.mat_one _ _) ?_; clear O; intro w1 O) | ((with_reducible refine at_alloc 12 ?_); refine wpList_alloc_own O (M.mat 16 M.zero) zero23 ?_; clear O; intro g12 w1 O) | ((with_reducible refine at_store 12 ?_); refine wpList_put_own O 0 (M.mat 16 (M.turnA a ((r + s) % 4))) rfl rfl rfl (s23 _) (M.mat_len2 _ _ _) (M.mat_one _ _) ?_; clear O; intro w1 O) | ((with_reducible refine at_load 48 ?_); refine wpList_row_own O 2 rfl rfl Try.underlying23 (s23 _) ?_) | ((with_reducible refine at_load 49 ?_); refine wpList_row_own O 1 rfl rfl Try.underlying23 (s23 _) ?_) | (go_at_call 9; refine (T4 _).mono ?_; rintro e w1 ⟨rfl, hb⟩; replace O := O.call hb; clear hb) | ((with_reducible refine at_alloc 14 ?_); refine wpList_alloc_own O (M.mat 16 M.zero) zero23 ?_; clear O; intro g14 w1 O) | ((with_reducible refine at_store 14 ?_); refine wpList_put_own O 0 (M.mat 16 (M.turnA a ((r + s) % 4))) rfl rfl rfl (s23 _) (M.mat_len2 _ _ _) (M.mat_one _ _) ?_; clear O; intro w1 O) | ((with_reducible refine at_alloc 16 ?_); refine wpList_alloc_own O (M.mat 16 M.zero) zero23 ?_; clear O; intro g16 w1 O) | ((with_reducible refine at_store 16 ?_); refine wpList_put_own O 0 (M.mat 16 (M.turnA a ((4 - r) % 4))) rfl rfl rfl (s23 _) (M.mat_len2 _ _ _) (M.mat_one _ _) ?_; clear O; intro w1 O) | ((with_reducible refine at_alloc 18 ?_); refine wpList_alloc_own O (M.mat 16 M.zero) zero23 ?_; clear O; intro g18 w1 O) | ((with_reducible refine at_store 18 ?_); refine wpList_put_own O 0 (M.mat 16 (M.unit)) rfl rfl rfl (s23 _) (M.mat_len2 _ _ _) (M.mat_one _ _) ?_; clear O; intro w1 O))
  refine region_V (fun w2 => Own w w2 [(g18, 23, M.mat 16 M.unit), (g16, 23, M.mat 16 (M.turnA a ((4 - r) % 4))), (g14, 23, M.mat 16 (M.turnA a ((r + s) % 4))), (g12, 23, M.mat 16 (M.turnA a ((r + s) % 4))), (g10, 23, M.mat 16 (M.turnA a s)), (g8, 23, M.mat 16 (M.turnA a r))]) [0, 1, 2, 3, 4, 5, 6, 7, 8, 9, 10, 11, 12, 13, 14, 15, 16, 17, 18, 19, 20, 21, 22, 23, 24, 25, 26, 27, 28, 29, 30, 31, 32, 33, 34, 35, 36, 37, 38, 39, 40] [some 69, some 70, some 71, some 72, some 73, some 74, some 75, some 76, some 77, some 78, some 79, some 80, some 81, some 82, some 83, some 84, some 85, some 86, some 87, some 88, some 89, some 90, some 91, some 92, some 93, some 94, some 95, some 96, some 97, some 98, some 99, some 100, some 101, some 102, some 103, some 104, some 105, some 106, some 107, some 108, some 109] [.bool true, .bool true, .int .i64 0, .bool true, .bool true, .bool true, .int .i64 0, .bool true, .bool true, .bool true, .int .i64 0, .bool true, .bool true, .bool true, .int .i64 0, .bool true, .bool true, .bool true, .int .i64 0, .bool true, .bool true, .bool true, .int .i64 0, .bool true, .bool true, .bool true, arr 16 (M.turnA a ((r + s) % 4)), arr 16 (M.turnA a ((r + s) % 4)), .bool true, .bool true, .bool true, arr 16 (M.turnA a r), arr 16 (M.flip (M.turnA a r)), arr 16 (M.turnA a ((4 - r) % 4)), .bool true, .bool true, .bool true, arr 16 M.unit, arr 16 M.unit, .bool true, .bool true] 1 (by kernel_rfl) (by kernel_rfl) (by rfl) (by rfl) (O.drew) (fun F hF => ?_)
  simp only [fillD, Act.put, List.setIfInBounds_toArray, List.set_cons_zero, List.set_cons_succ] at hF
  subst hF
  refine ⟨⟨does_want rfl (by rfl) (fun w' O K hK => ?_), does_want rfl (by rfl) (fun w' O K hK => ?_), does_want rfl (by rfl) (fun w' O K hK => ?_), does_want rfl (by rfl) (fun w' O K hK => ?_), does_want rfl (by rfl) (fun w' O K hK => ?_), does_want rfl (by rfl) (fun w' O K hK => ?_), does_want rfl (by rfl) (fun w' O K hK => ?_), does_want rfl (by rfl) (fun w' O K hK => ?_), does_want rfl (by rfl) (fun w' O K hK => ?_), does_want rfl (by rfl) (fun w' O K hK => ?_), does_want rfl (by rfl) (fun w' O K hK => ?_), does_want rfl (by rfl) (fun w' O K hK => ?_), does_want rfl (by rfl) (fun w' O K hK => ?_), does_want rfl (by rfl) (fun w' O K hK => ?_), does_want rfl (by rfl) (fun w' O K hK => ?_), does_want rfl (by rfl) (fun w' O K hK => ?_), does_want rfl (by rfl) (fun w' O K hK => ?_), does_want rfl (by rfl) (fun w' O K hK => ?_), does_want rfl (by rfl) (fun w' O K hK => ?_), does_want rfl (by rfl) (fun w' O K hK => ?_), does_want rfl (by rfl) (fun w' O K hK => ?_), does_want rfl (by rfl) (fun w' O K hK => ?_), does_want rfl (by rfl) (fun w' O K hK => ?_), does_want rfl (by rfl) (fun w' O K hK => ?_), does_want rfl (by rfl) (fun w' O K hK => ?_), does_want rfl (by rfl) (fun w' O K hK => ?_), does_want rfl (by rfl) (fun w' O K hK => ?_), does_want rfl (by rfl) (fun w' O K hK => ?_), does_want rfl (by rfl) (fun w' O K hK => ?_), does_want rfl (by rfl) (fun w' O K hK => ?_), does_want rfl (by rfl) (fun w' O K hK => ?_), does_want rfl (by rfl) (fun w' O K hK => ?_), does_want rfl (by rfl) (fun w' O K hK => ?_), does_want rfl (by rfl) (fun w' O K hK => ?_), does_want rfl (by rfl) (fun w' O K hK => ?_), does_want rfl (by rfl) (fun w' O K hK => ?_), does_want rfl (by rfl) (fun w' O K hK => ?_), does_want rfl (by rfl) (fun w' O K hK => ?_), does_want rfl (by rfl) (fun w' O K hK => ?_), does_want rfl (by rfl) (fun w' O K hK => ?_), does_want rfl (by rfl) (fun w' O K hK => ?_), trivial⟩, fun w' O => ?_⟩
  · go_simp
    go_at_call 11
    refine (awake_any _).mono ?_
    rintro e w2 ⟨rfl, hb⟩
    exact hK _ (O.call hb)
  · go_simp
    exact hK _ O
  · go_simp
    exact hK _ O
  · go_simp
    exact hK _ O
  · go_simp
    exact hK _ O
  · go_simp
    exact hK _ O
  · go_simp
    exact hK _ O
  · go_simp
    exact hK _ O
  · go_simp
    exact hK _ O
  · go_simp
    exact hK _ O
  · go_simp
    exact hK _ O
  · go_simp
    exact hK _ O
  · go_simp
    exact hK _ O
  · go_simp
    exact hK _ O
  · go_simp
    exact hK _ O
  · go_simp
    exact hK _ O
  · go_simp
    exact hK _ O
  · go_simp
    exact hK _ O
  · go_simp
    exact hK _ O
  · go_simp
    exact hK _ O
  · go_simp
    exact hK _ O
  · go_simp
    exact hK _ O
  · go_simp
    exact hK _ O
  · go_simp
    exact hK _ O
  · go_simp
    exact hK _ O
  · go_simp
    exact hK _ O
  · exact wp_row_own O 3 rfl rfl Try.underlying23 (s23 _) (hK _ O)
  · exact wp_row_own O 2 rfl rfl Try.underlying23 (s23 _) (hK _ O)
  · refine wp_eq_mat Try.underlying23 Try.eqGuardType23 (M.turnA a ((r + s) % 4)) (M.turnA a ((r + s) % 4)) rfl rfl ?_
    rw [M.eqB_refl]
    exact hK _ O
  · go_simp
    exact hK _ O
  · go_simp
    exact hK _ O
  · exact wp_row_own O 5 rfl rfl Try.underlying23 (s23 _) (hK _ O)
  · go_simp
    go_at_call 14
    refine (flip_any _ _).mono ?_
    rintro e w2 ⟨rfl, hb⟩
    exact hK _ (O.call hb)
  · exact wp_row_own O 1 rfl rfl Try.underlying23 (s23 _) (hK _ O)
  · refine wp_eq_mat Try.underlying23 Try.eqGuardType23 (M.flip (M.turnA a r)) (M.turnA a ((4 - r) % 4)) rfl rfl ?_
    rw [HM.out]
    exact hK _ O
  · go_simp
    exact hK _ O
  · go_simp
    exact hK _ O
  · exact wp_row_own O 0 rfl rfl Try.underlying23 (s23 _) (hK _ O)
  · go_simp
    go_at_call 16
    refine (unit_any _).mono ?_
    rintro e w2 ⟨rfl, hb⟩
    exact hK _ (O.call hb)
  · refine wp_eq_mat Try.underlying23 Try.eqGuardType23 (M.unit) (M.unit) rfl rfl ?_
    rw [M.eqB_refl]
    exact hK _ O
  · go_simp
    exact hK _ O
  refine wpAny_one (i := 41) (by kernel_rfl) rfl (fun K hK => ?_)
  go_simp
  refine hK _ _ ?_
  clear hK K
  try simp only [Act.put, List.setIfInBounds_toArray, List.set_cons_zero, List.set_cons_succ]
  refine wpAny_done (by kernel_rfl) ?_ _
  go_wp2_with fail
  go_ret
  exact ⟨rfl, O.below⟩

theorem readable : ∀ t ∈ Try.f6.params.toList, Try.prog.readableRec t = true ∧ t < Try.prog.types.size := by
  intro t ht
  rw [Try.params6] at ht
  simp only [List.mem_cons, List.not_mem_nil, or_false] at ht
  repeat (first | (rcases ht with rfl | ht; exact ⟨by kernel_rfl, of_decide_eq_true (by kernel_rfl)⟩) | (subst ht; exact ⟨by kernel_rfl, of_decide_eq_true (by kernel_rfl)⟩))
set_option maxRecDepth 100000 in
theorem lifted (os : Os) (started : os.Started) (H : Type) (enc : TypeId × Value → H) :
    ReturnsInHanded {} Try.checked os 6 .any (Rows.matTurnsSpec.pre6 enc Try.prog Try.f6 Rows.matTurnsRow.domain false) (Rows.matTurnsSpec.post enc Try.prog Try.f6 false true false false) := by
  refine returnsInHanded_of_change (C := Try.checked) own started (by kernel_rfl) Try.func6
    (ChangeSpec.witness6 (enc := enc) (C := Try.checked) false ⟨#[], #[.int .u8 0, .int .i64 0, .int .i64 0], []⟩ 8 (by kernel_rfl) (by kernel_rfl) (by kernel_rfl) (by kernel_rfl)) ?_
  intro W base args ds gs before hval0 hW hcnd _
  have hval : ∀ (j : Nat) t v, Try.f6.params[j]? = some t → args[j]? = some v → Value.okWide Try.prog W .any base t v := hval0
  have hW' := hW
  obtain ⟨p, q, hA0, hV, rfl, hfz, hnd⟩ := hW
  have hA : DataW.TrodAll enc Try.prog W 0 (fun _ => true) true Try.f6.params.toList args.toList ds p := hA0
  rw [Try.params6] at hA hval
  have hlt : ∀ x ∈ p ++ q, x.block < W.heap.size := fun x hx => hW'.lt x hx
  obtain ⟨v0, vs0, d0, ds0, p0, q0, hargs, rfl, rfl, h0, rr0⟩ := trodAll_cons hA
  obtain ⟨v1, vs1, d1, ds1, p1, q1, rfl, rfl, rfl, h1, rr1⟩ := trodAll_cons rr0
  obtain ⟨v2, vs2, d2, ds2, p2, q2, rfl, rfl, rfl, h2, rr2⟩ := trodAll_cons rr1
  obtain ⟨rfl, rfl, rfl⟩ := trodAll_nil rr2
  obtain rfl : args = #[v0, v1, v2] := by cases args; simp_all
  obtain ⟨rfl, rfl⟩ := trodVars_none hV
  obtain ⟨a0, rfl, rfl, rfl, r0⟩ := open_int Try.underlying5 (hval 0 5 v0 rfl rfl) h0
  obtain ⟨a1, rfl, rfl, rfl, r1⟩ := open_int Try.underlying3 (hval 1 3 v1 rfl rfl) h1
  obtain ⟨a2, rfl, rfl, rfl, r2⟩ := open_int Try.underlying3 (hval 2 3 v2 rfl rfl) h2
  clear hA0 hval0
  refine (walk a0 a1 a2 (bounds_u8 r0) (wf_rng r1) (wf_rng r2) W).mono fun e W' ⟨he, hg⟩ => ?_
  subst he
  exact ⟨_, rfl, post_true (tb := 4) laid readable (by kernel_rfl) Try.underlying4 rfl (fun l hl => by
    match l, hl with
    | [_, _, _], _ => exact ⟨rfl, rfl, rfl⟩) hW' hg⟩

theorem over : Rows.matTurnsRow.holds Try.pinned (OpenSpec.ofChange Rows.matTurnsSpec) :=
  OpenClaim.holds_of_wide 6 Try.f6 rfl rfl rfl rfl rfl rfl rfl ⟨rfl, rfl, rfl, rfl, rfl⟩ rfl rfl rfl rfl rfl (by kernel_rfl) Try.func6 (by kernel_rfl)
    (of_decide_eq_true (by kernel_rfl)) (by unfold Func.isWrapper; first | (rw [if_pos (by decide +kernel)]; kernel_rfl) | (rw [if_neg (by decide +kernel)]; exact ⟨rfl, rfl⟩))
    (fun os started H enc _ => lifted os started H enc)

theorem proved : Rows.MatTurnsSaid :=
  over
#print axioms proved
end Go.Proofs.Ytidaffgfhmbomaa.matTurns
