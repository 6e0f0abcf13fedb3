/-
  For every two moves and four numbers the law MatMoves returns true: a move adds to x, y and z, w times, and two moves are one by both together. No condition.
-/
import Derived.Test.YtidaffgfhmbomaaRow
import Derived.Test.YtidaffgfhmbomaaCells5
import Derived.Test.YtidaffgfhmbomaaMath5
import Derived.Test.YtidaffgfhmbomaaOpen4
import Derived.Deep.DeepCutAuto
namespace Go.Proofs.Ytidaffgfhmbomaa.matMoves
open Go.ChangeShapes Go.WideShapes Go.ChangeAt Go.RowKit
set_option linter.unusedVariables false
set_option linter.unusedSimpArgs false

theorem own : ownKnob Try.prog.godebug = none := by kernel_rfl
def inR (a b : Nat → Int) (k : Nat) : Prop := ∀ i, i < k → (-2000 ≤ a i ∧ a i ≤ 2000) ∧ -2000 ≤ b i ∧ b i ≤ 2000
def inV (v : Nat → Int) (k : Nat) : Prop := ∀ i, i < k → -1048576 ≤ v i ∧ v i ≤ 1048576
theorem move_to (x y z x' y' z' : Int) (e1 : x' = x) (e2 : y' = y) (e3 : z' = z) (hx : -4096 ≤ x ∧ x ≤ 4096) (hy : -4096 ≤ y ∧ y ≤ 4096) (hz : -4096 ≤ z ∧ z ≤ 4096) (w : World) :
    Calls Try.prog 20 #[.int .i64 x', .int .i64 y', .int .i64 z'] w fun e w' => e = .returned (.tuple #[arr 16 (M.mv x y z), .int .i64 0]) ∧ Below w.heap.size w w' := by
  subst e1 e2 e3
  have c := move_any x' y' z' w
  rw [M.move_is hx hy hz] at c
  exact c

set_option maxRecDepth 100000 in
set_option maxHeartbeats 8000000 in
theorem walk (a b v : Nat → Int) (w : World) :
    Calls Try.prog 7 #[arr 3 a, arr 3 b, arr 4 v] w fun e w' => e = .returned (.bool true) ∧ Below w.heap.size w w' := by
  have O := Own.start w
  have hu2 := Try.underlying23
  have hu3 := Try.underlying32
  have hu4 := Try.underlying40
  go_enter Try.func7, Try.ntmps7
  go_wp2_with (first | ((with_reducible refine at_box 3 ?_); refine wpList_box_own O (M.mat 3 a) rfl ?_; clear O; intro g3 w1 O) | ((with_reducible refine at_box 4 ?_); refine wpList_box_own O (M.mat 3 b) rfl ?_; clear O; intro g4 w1 O) | ((with_reducible refine at_box 5 ?_); refine wpList_box_own O (M.mat 4 v) rfl ?_; clear O; intro g5 w1 O))
  obtain ⟨wo, rfl⟩ : ∃ wo : World, wo = w1 := ⟨_, rfl⟩
  go_loopw [7] (fun u wr => ∃ k : Nat, k ≤ 3 ∧ u = .int .i64 k ∧ inR a b k ∧ wo = wr) (fun u _ => 3 - (intOf u).toNat)
  case atStart => exact ⟨0, by omega, rfl, fun i hi => absurd hi (by omega), rfl⟩
  case round =>
    obtain ⟨k, hk, rfl, hR, rfl⟩ := hrel
    have HR := Lib.hid hR
    clear hR
    have q0 : (0 : Int) ≤ k := by omega
    by_cases hlt : k < 3
    · have q1 : (k : Int) < 3 := by omega
      have ca := O.cell 2 rfl (M.mat_get (a := a) (i := k) hlt)
      have cb := O.cell 1 rfl (M.mat_get (a := b) (i := k) hlt)
      by_cases h1 : a k < -2000
      · go_wp2_with (go_at_call 11; refine (awake_any _).mono ?_; rintro e w1 ⟨rfl, hb⟩; replace O := O.call hb; clear hb ca cb)
        go_ret
        exact ⟨rfl, O.below⟩
      · by_cases h2 : 2000 < a k
        · go_wp2_with (go_at_call 11; refine (awake_any _).mono ?_; rintro e w1 ⟨rfl, hb⟩; replace O := O.call hb; clear hb ca cb)
          go_ret
          exact ⟨rfl, O.below⟩
        · by_cases h3 : b k < -2000
          · go_wp2_with (go_at_call 11; refine (awake_any _).mono ?_; rintro e w1 ⟨rfl, hb⟩; replace O := O.call hb; clear hb ca cb)
            go_ret
            exact ⟨rfl, O.below⟩
          · by_cases h4 : 2000 < b k
            · go_wp2_with (go_at_call 11; refine (awake_any _).mono ?_; rintro e w1 ⟨rfl, hb⟩; replace O := O.call hb; clear hb ca cb)
              go_ret
              exact ⟨rfl, O.below⟩
            · go_wp2_with fail
              go_roundw
              case rel => exact ⟨k + 1, by omega, by go_num, fun i hi => by
                by_cases e : i = k
                · subst e; exact ⟨⟨by omega, by omega⟩, by omega, by omega⟩
                · exact HR.out i (by omega), trivial⟩
              case measure => simp [intOf]; omega
    · have q1 : ¬ (k : Int) < 3 := by omega
      obtain rfl : k = 3 := by omega
      go_wp2_with fail
      obtain ⟨wo2, rfl⟩ : ∃ wo2 : World, wo2 = wo := ⟨_, rfl⟩
      go_loopw [8] (fun u wr => ∃ k : Nat, k ≤ 4 ∧ u = .int .i64 k ∧ inV v k ∧ wo2 = wr) (fun u _ => 4 - (intOf u).toNat)
      case atStart => exact ⟨0, by omega, rfl, fun i hi => absurd hi (by omega), rfl⟩
      case round =>
        clear hlt q0 q1 hk
        obtain ⟨k, hk, rfl, hV, rfl⟩ := hrel
        have HV := Lib.hid hV
        clear hV
        have q0 : (0 : Int) ≤ k := by omega
        by_cases hlt : k < 4
        · have q1 : (k : Int) < 4 := by omega
          have cv := O.cell 0 rfl (M.mat_get (a := v) (i := k) hlt)
          by_cases h1 : v k < -1048576
          · go_wp2_with (go_at_call 11; refine (awake_any _).mono ?_; rintro e w1 ⟨rfl, hb⟩; replace O := O.call hb; clear hb cv)
            go_ret
            exact ⟨rfl, O.below⟩
          · by_cases h2 : 1048576 < v k
            · go_wp2_with (go_at_call 11; refine (awake_any _).mono ?_; rintro e w1 ⟨rfl, hb⟩; replace O := O.call hb; clear hb cv)
              go_ret
              exact ⟨rfl, O.below⟩
            · go_wp2_with fail
              go_roundw
              case rel => exact ⟨k + 1, by omega, by go_num, fun i hi => by
                by_cases e : i = k
                · subst e; exact ⟨by omega, by omega⟩
                · exact HV.out i (by omega), trivial⟩
              case measure => simp [intOf]; omega
        · have q1 : ¬ (k : Int) < 4 := by omega
          obtain rfl : k = 4 := by omega
          clear hlt q0 q1 hk
          obtain ⟨⟨a01, a02⟩, b01, b02⟩ := HR.out 0 (by decide)
          obtain ⟨⟨a11, a12⟩, b11, b12⟩ := HR.out 1 (by decide)
          obtain ⟨⟨a21, a22⟩, b21, b22⟩ := HR.out 2 (by decide)
          obtain ⟨v01, v02⟩ := HV.out 0 (by decide)
          obtain ⟨v11, v12⟩ := HV.out 1 (by decide)
          obtain ⟨v21, v22⟩ := HV.out 2 (by decide)
          obtain ⟨v31, v32⟩ := HV.out 3 (by decide)
          obtain ⟨p01, p02⟩ := M.prod_le ⟨a01, a02⟩ ⟨v31, v32⟩
          obtain ⟨p11, p12⟩ := M.prod_le ⟨a11, a12⟩ ⟨v31, v32⟩
          obtain ⟨p21, p22⟩ := M.prod_le ⟨a21, a22⟩ ⟨v31, v32⟩
          have T1 := fun w => move_to (a 0) (a 1) (a 2) _ _ _ rfl rfl rfl (by omega) (by omega) (by omega) w
          have T2 := fun w => move_to (b 0) (b 1) (b 2) _ _ _ rfl rfl rfl (by omega) (by omega) (by omega) w
          have T3 := fun w => move_to (a 0 + b 0) (a 1 + b 1) (a 2 + b 2) _ _ _ rfl rfl rfl (by omega) (by omega) (by omega) w
          have m1 := M.mul_mv (x := a 0) (y := a 1) (z := a 2) (x' := b 0) (y' := b 1) (z' := b 2) ⟨a01, a02⟩ ⟨a11, a12⟩ ⟨a21, a22⟩ ⟨b01, b02⟩ ⟨b11, b12⟩ ⟨b21, b22⟩
          have m2 := M.apply_mv (x := a 0) (y := a 1) (z := a 2) (v := v) ⟨a01, a02⟩ ⟨a11, a12⟩ ⟨a21, a22⟩ HV.out
          have T4 := fun w => two_is (mul_any (M.mv (a 0) (a 1) (a 2)) (M.mv (b 0) (b 1) (b 2)) w) _ _ m1.1 m1.2
          have T5 := fun w => two_is (apply_any (M.mv (a 0) (a 1) (a 2)) v 68719476736 w) _ _ m2.1 m2.2
          clear m1 m2
          go_wp2_with (first | ((with_reducible refine at_load 63 ?_); refine wpList_cell_own (by rfl) O 2 rfl (M.mat_get (a := a) (i := 0) (by decide)) rfl agg3 rfl ?_) | ((with_reducible refine at_load 65 ?_); refine wpList_cell_own (by rfl) O 2 rfl (M.mat_get (a := a) (i := 1) (by decide)) rfl agg3 rfl ?_) | ((with_reducible refine at_load 67 ?_); refine wpList_cell_own (by rfl) O 2 rfl (M.mat_get (a := a) (i := 2) (by decide)) rfl agg3 rfl ?_) | (go_at_call 20; (first | (with_reducible refine (T1 _).mono ?_) | (with_reducible refine (T2 _).mono ?_) | (with_reducible refine (T3 _).mono ?_)); rintro e w1 ⟨rfl, hb⟩; replace O := O.call hb; clear hb) | ((with_reducible refine at_alloc 9 ?_); refine wpList_alloc_own O (M.mat 16 M.zero) zero23 ?_; clear O; intro g9 w1 O) | ((with_reducible refine at_store 9 ?_); refine wpList_put_own O 0 (M.mat 16 (M.mv (a 0) (a 1) (a 2))) rfl rfl rfl (s23 _) (M.mat_len2 _ _ _) (M.mat_one _ _) ?_; clear O; intro w1 O) | ((with_reducible refine at_load 73 ?_); refine wpList_cell_own (by rfl) O 2 rfl (M.mat_get (a := b) (i := 0) (by decide)) rfl agg3 rfl ?_) | ((with_reducible refine at_load 75 ?_); refine wpList_cell_own (by rfl) O 2 rfl (M.mat_get (a := b) (i := 1) (by decide)) rfl agg3 rfl ?_) | ((with_reducible refine at_load 77 ?_); refine wpList_cell_own (by rfl) O 2 rfl (M.mat_get (a := b) (i := 2) (by decide)) rfl agg3 rfl ?_) | ((with_reducible refine at_alloc 11 ?_); refine wpList_alloc_own O (M.mat 16 M.zero) zero23 ?_; clear O; intro g11 w1 O) | ((with_reducible refine at_store 11 ?_); refine wpList_put_own O 0 (M.mat 16 (M.mv (b 0) (b 1) (b 2))) rfl rfl rfl (s23 _) (M.mat_len2 _ _ _) (M.mat_one _ _) ?_; clear O; intro w1 O) | ((with_reducible refine at_load 83 ?_); refine wpList_cell_own (by rfl) O 4 rfl (M.mat_get (a := a) (i := 0) (by decide)) rfl agg3 rfl ?_) | ((with_reducible refine at_load 85 ?_); refine wpList_cell_own (by rfl) O 3 rfl (M.mat_get (a := b) (i := 0) (by decide)) rfl agg3 rfl ?_) | ((with_reducible refine at_load 88 ?_); refine wpList_cell_own (by rfl) O 4 rfl (M.mat_get (a := a) (i := 1) (by decide)) rfl agg3 rfl ?_) | ((with_reducible refine at_load 90 ?_); refine wpList_cell_own (by rfl) O 3 rfl (M.mat_get (a := b) (i := 1) (by decide)) rfl agg3 rfl ?_) | ((with_reducible refine at_load 93 ?_); refine wpList_cell_own (by rfl) O 4 rfl (M.mat_get (a := a) (i := 2) (by decide)) rfl agg3 rfl ?_) | ((with_reducible refine at_load 95 ?_); refine wpList_cell_own (by rfl) O 3 rfl (M.mat_get (a := b) (i := 2) (by decide)) rfl agg3 rfl ?_) | ((with_reducible refine at_alloc 13 ?_); refine wpList_alloc_own O (M.mat 16 M.zero) zero23 ?_; clear O; intro g13 w1 O) | ((with_reducible refine at_store 13 ?_); refine wpList_put_own O 0 (M.mat 16 (M.mv (a 0 + b 0) (a 1 + b 1) (a 2 + b 2))) rfl rfl rfl (s23 _) (M.mat_len2 _ _ _) (M.mat_one _ _) ?_; clear O; intro w1 O) | ((with_reducible refine at_load 101 ?_); refine wpList_row_own O 2 rfl rfl Try.underlying23 (s23 _) ?_) | ((with_reducible refine at_load 102 ?_); refine wpList_row_own O 1 rfl rfl Try.underlying23 (s23 _) ?_) | (go_at_call 9; refine (T4 _).mono ?_; rintro e w1 ⟨rfl, hb⟩; replace O := O.call hb; clear hb) | ((with_reducible refine at_alloc 15 ?_); refine wpList_alloc_own O (M.mat 16 M.zero) zero23 ?_; clear O; intro g15 w1 O) | ((with_reducible refine at_store 15 ?_); refine wpList_put_own O 0 (M.mat 16 (M.mv (a 0 + b 0) (a 1 + b 1) (a 2 + b 2))) rfl rfl rfl (s23 _) (M.mat_len2 _ _ _) (M.mat_one _ _) ?_; clear O; intro w1 O) | ((with_reducible refine at_load 107 ?_); refine wpList_row_own O 3 rfl rfl Try.underlying23 (s23 _) ?_) | ((with_reducible refine at_load 108 ?_); refine wpList_row_own O 4 rfl rfl Try.underlying32 (s32 _) ?_) | (go_at_call 18; refine (T5 _).mono ?_; rintro e w1 ⟨rfl, hb⟩; replace O := O.call hb; clear hb) | ((with_reducible refine at_alloc 17 ?_); refine wpList_alloc_own O (M.mat 4 M.zero) zero32 ?_; clear O; intro g17 w1 O) | ((with_reducible refine at_store 17 ?_); refine wpList_put_own O 0 (M.mat 4 (M.four (v 0 + a 0 * v 3) (v 1 + a 1 * v 3) (v 2 + a 2 * v 3) (v 3))) rfl rfl rfl (s32 _) (M.mat_len2 _ _ _) (M.mat_one _ _) ?_; clear O; intro w1 O) | (go_at_call 11; refine (awake_any _).mono ?_; rintro e w1 ⟨rfl, hb⟩; replace O := O.call hb; clear hb) | ((with_reducible refine at_load 134 ?_); refine wpList_rowg_own rfl O 2 rfl rfl Try.underlying23 (s23 _) ?_) | ((with_reducible refine at_load 135 ?_); refine wpList_rowg_own rfl O 1 rfl rfl Try.underlying23 (s23 _) ?_) | ((with_reducible refine at_binOp 136 ?_); refine wpList_eq_mat (by rfl) Try.underlying23 Try.eqGuardType23 (M.mv (a 0 + b 0) (a 1 + b 1) (a 2 + b 2)) (M.mv (a 0 + b 0) (a 1 + b 1) (a 2 + b 2)) rfl rfl ?_; rw [M.eqB_refl]) | ((with_reducible refine at_load 139 ?_); refine wpList_rowg_own rfl O 0 rfl rfl Try.underlying32 (s32 _) ?_) | ((with_reducible refine at_load 141 ?_); refine wpList_cell_own (by rfl) O 5 rfl (M.mat_get (a := v) (i := 0) (by decide)) rfl agg3 rfl ?_) | ((with_reducible refine at_load 143 ?_); refine wpList_cell_own (by rfl) O 7 rfl (M.mat_get (a := a) (i := 0) (by decide)) rfl agg3 rfl ?_) | ((with_reducible refine at_load 145 ?_); refine wpList_cell_own (by rfl) O 5 rfl (M.mat_get (a := v) (i := 3) (by decide)) rfl agg3 rfl ?_) | ((with_reducible refine at_load 149 ?_); refine wpList_cell_own (by rfl) O 5 rfl (M.mat_get (a := v) (i := 1) (by decide)) rfl agg3 rfl ?_) | ((with_reducible refine at_load 151 ?_); refine wpList_cell_own (by rfl) O 7 rfl (M.mat_get (a := a) (i := 1) (by decide)) rfl agg3 rfl ?_) | ((with_reducible refine at_load 153 ?_); refine wpList_cell_own (by rfl) O 5 rfl (M.mat_get (a := v) (i := 3) (by decide)) rfl agg3 rfl ?_) | ((with_reducible refine at_load 157 ?_); refine wpList_cell_own (by rfl) O 5 rfl (M.mat_get (a := v) (i := 2) (by decide)) rfl agg3 rfl ?_) | ((with_reducible refine at_load 159 ?_); refine wpList_cell_own (by rfl) O 7 rfl (M.mat_get (a := a) (i := 2) (by decide)) rfl agg3 rfl ?_) | ((with_reducible refine at_load 161 ?_); refine wpList_cell_own (by rfl) O 5 rfl (M.mat_get (a := v) (i := 3) (by decide)) rfl agg3 rfl ?_) | ((with_reducible refine at_load 165 ?_); refine wpList_cell_own (by rfl) O 5 rfl (M.mat_get (a := v) (i := 3) (by decide)) rfl agg3 rfl ?_) | ((with_reducible refine at_buildg 166 ?_); refine wpList_buildg_own (by rfl) [(0, .int .i64 (v 0 + a 0 * v 3)), (1, .int .i64 (v 1 + a 1 * v 3)), (2, .int .i64 (v 2 + a 2 * v 3)), (3, .int .i64 (v 3))] (M.mat 4 (M.four (v 0 + a 0 * v 3) (v 1 + a 1 * v 3) (v 2 + a 2 * v 3) (v 3))).toArray ?_ (built32 _ _ _ _) ?_; (focus (simp [Act.eval]; try (refine ⟨?_, ?_, ?_, ?_⟩ <;> rfl)))) | ((with_reducible refine at_binOp 167 ?_); refine wpList_eq_mat (by rfl) Try.underlying32 Try.eqGuardType32 (M.four (v 0 + a 0 * v 3) (v 1 + a 1 * v 3) (v 2 + a 2 * v 3) (v 3)) (M.four (v 0 + a 0 * v 3) (v 1 + a 1 * v 3) (v 2 + a 2 * v 3) (v 3)) rfl rfl ?_; rw [M.eqB_refl]))
          go_ret
          exact ⟨rfl, O.below⟩

theorem readable : ∀ t ∈ Try.f7.params.toList, Try.prog.readableRec t = true ∧ t < Try.prog.types.size := by
  intro t ht
  rw [Try.params7] at ht
  simp only [List.mem_cons, List.not_mem_nil, or_false] at ht
  repeat (first | (rcases ht with rfl | ht; exact ⟨by kernel_rfl, of_decide_eq_true (by kernel_rfl)⟩) | (subst ht; exact ⟨by kernel_rfl, of_decide_eq_true (by kernel_rfl)⟩))
set_option maxRecDepth 100000 in
theorem lifted (os : Os) (started : os.Started) (H : Type) (enc : TypeId × Value → H) :
    ReturnsInHanded {} Try.checked os 7 .any (Rows.matMovesSpec.pre6 enc Try.prog Try.f7 Rows.matMovesRow.domain false) (Rows.matMovesSpec.post enc Try.prog Try.f7 false true false false) := by
  refine returnsInHanded_of_change (C := Try.checked) own started (by kernel_rfl) Try.func7
    (ChangeSpec.witness6 (enc := enc) (C := Try.checked) false ⟨#[], #[.agg #[.int .i64 0, .int .i64 0, .int .i64 0], .agg #[.int .i64 0, .int .i64 0, .int .i64 0], .agg #[.int .i64 0, .int .i64 0, .int .i64 0, .int .i64 0]], []⟩ 8 (by kernel_rfl) (by kernel_rfl) (by kernel_rfl) (by kernel_rfl)) ?_
  intro W base args ds gs before hval0 hW hcnd _
  have hval : ∀ (j : Nat) t v, Try.f7.params[j]? = some t → args[j]? = some v → Value.okWide Try.prog W .any base t v := hval0
  have hW' := hW
  obtain ⟨p, q, hA0, hV, rfl, hfz, hnd⟩ := hW
  have hA : DataW.TrodAll enc Try.prog W 0 (fun _ => true) true Try.f7.params.toList args.toList ds p := hA0
  rw [Try.params7] at hA hval
  have hlt : ∀ x ∈ p ++ q, x.block < W.heap.size := fun x hx => hW'.lt x hx
  obtain ⟨v0, vs0, d0, ds0, p0, q0, hargs, rfl, rfl, h0, rr0⟩ := trodAll_cons hA
  obtain ⟨v1, vs1, d1, ds1, p1, q1, rfl, rfl, rfl, h1, rr1⟩ := trodAll_cons rr0
  obtain ⟨v2, vs2, d2, ds2, p2, q2, rfl, rfl, rfl, h2, rr2⟩ := trodAll_cons rr1
  obtain ⟨rfl, rfl, rfl⟩ := trodAll_nil rr2
  obtain rfl : args = #[v0, v1, v2] := by cases args; simp_all
  obtain ⟨rfl, rfl⟩ := trodVars_none hV
  obtain ⟨a0, rfl, r0⟩ := open40 (hval 0 40 v0 rfl rfl) h0
  obtain ⟨a1, rfl, r1⟩ := open40 (hval 1 40 v1 rfl rfl) h1
  obtain ⟨a2, rfl, r2⟩ := open32 (hval 2 32 v2 rfl rfl) h2
  clear hA0 hval0
  refine (walk a0 a1 a2 W).mono fun e W' ⟨he, hg⟩ => ?_
  subst he
  exact ⟨_, rfl, post_true (tb := 4) laid readable (by kernel_rfl) Try.underlying4 rfl (fun l hl => by
    match l, hl with
    | [_, _, _], _ => exact ⟨rfl, rfl, rfl⟩) hW' hg⟩

theorem over : Rows.matMovesRow.holds Try.pinned (OpenSpec.ofChange Rows.matMovesSpec) :=
  OpenClaim.holds_of_wide 7 Try.f7 rfl rfl rfl rfl rfl rfl rfl ⟨rfl, rfl, rfl, rfl, rfl⟩ rfl rfl rfl rfl rfl (by kernel_rfl) Try.func7 (by kernel_rfl)
    (of_decide_eq_true (by kernel_rfl)) (by unfold Func.isWrapper; first | (rw [if_pos (by decide +kernel)]; kernel_rfl) | (rw [if_neg (by decide +kernel)]; exact ⟨rfl, rfl⟩))
    (fun os started H enc _ => lifted os started H enc)

theorem proved : Rows.MatMovesSaid :=
  over
#print axioms proved
end Go.Proofs.Ytidaffgfhmbomaa.matMoves
