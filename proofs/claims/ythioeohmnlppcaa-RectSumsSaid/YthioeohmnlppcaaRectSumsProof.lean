/-
  RectSums: for every two rectangles and any corner, areas of parts, and of what two have together and alone, add up; what two have together both have, whichever comes first.
-/
import Derived.Test.YthioeohmnlppcaaWg
import Derived.Test.YthioeohmnlppcaaWh
import Derived.Test.YthioeohmnlppcaaWi
import Derived.Test.YthioeohmnlppcaaLy
import Derived.Deep.DeepCutAuto
namespace Go.Proofs.Ythioeohmnlppcaa.rectSums
open Go.ChangeShapes Go.WideShapes Go.ChangeAt Go.RowKit
set_option linter.unusedVariables false
set_option linter.unusedSimpArgs false

theorem own : ownKnob Try.prog.godebug = none := by kernel_rfl

set_option maxRecDepth 100000 in
set_option maxHeartbeats 16000000 in
theorem walk (w : World) (a b p : Nat → Int) :
    Calls Try.prog 6 #[arr 4 a, arr 4 b, arr 2 p] w fun e w' => e = .returned (.bool true) ∧ Below w.heap.size w w' := by
  have O := Own.start w
  have CA := fun w => and_any a b w
  have CB := fun w => and_any b a w
  have CC := fun w => and_any (RC.both a b) a w
  have CP := fun w => parts_any a (p 0) (p 1) w
  have CM := fun w => minus_any a b w
  have CS := fun w => area_any a w
  have CT := fun w => area_any (RC.both a b) w
  have l1 := RC.parts_len a (p 0) (p 1)
  have l2 := RC.minus_len a b
  have s1 := RC.sum_parts a (p 0) (p 1)
  have s2 := RC.sum_minus a b
  have s3 := RC.area_le a
  have s4 := RC.area_le (RC.both a b)
  have hz := RC.both_area a b
  rw [RC.both_comm b a] at CB
  rw [RC.both_stays] at CC
  generalize RC.both a b = c at *
  generalize RC.parts a (p 0) (p 1) = m at *
  generalize RC.minus a b = l at *
  obtain ⟨z, ez⟩ : ∃ z, RC.area a = z := ⟨_, rfl⟩
  obtain ⟨y, ey⟩ : ∃ z, RC.area c = z := ⟨_, rfl⟩
  rw [ez] at CS s1 s2 s3
  rw [ey] at CT s2 s4 hz
  clear ez ey
  obtain ⟨bz, hbz⟩ : ∃ z, M.eqB 4 c M.zero = z := ⟨_, rfl⟩
  have HB := Lib.hid hbz
  rw [hbz] at hz
  have HZ := Lib.hid hz
  clear hbz hz
  have S1 : Hid (0 + RC.sum m = z ∧ z ≤ 70368744177664) := Lib.hid ⟨by omega, s3.2⟩
  have S2 : Hid (y + RC.sum l = z ∧ z ≤ 70368744177664) := Lib.hid ⟨s2, s3.2⟩
  have S4 := Lib.hid s4.1
  have L1 := Lib.hid l1
  have L2 := Lib.hid l2
  clear s1 s2 s3 s4 l1 l2
  obtain ⟨p0, ep0⟩ : ∃ z, p 0 = z := ⟨_, rfl⟩
  have Cp0 := cell_is (n := 2) ep0 (by decide)
  obtain ⟨p1, ep1⟩ : ∃ z, p 1 = z := ⟨_, rfl⟩
  have Cp1 := cell_is (n := 2) ep1 (by decide)
  rw [ep0, ep1] at CP
  clear ep0 ep1
  go_enter Try.func6, Try.ntmps6
  go_wp2_with (first | ((with_reducible refine at_box 3 ?_); refine wpList_box_own O (M.mat 4 (a)) rfl ?_; clear O; intro g3 w1 O) | ((with_reducible refine at_box 4 ?_); refine wpList_box_own O (M.mat 4 (b)) rfl ?_; clear O; intro g4 w2 O) | ((with_reducible refine at_box 5 ?_); refine wpList_box_own O (M.mat 2 (p)) rfl ?_; clear O; intro g5 w3 O) | ((with_reducible refine at_load 13 ?_); refine wpList_whole rfl O 2 rfl rfl Try.underlying23 rfl (sR _) ?_) | ((with_reducible refine at_load 14 ?_); refine wpList_whole rfl O 1 rfl rfl Try.underlying23 rfl (sR _) ?_) | (go_at_call 16; refine (CA _).mono ?_; rintro e w4 ⟨rfl, hb⟩; replace O := O.call hb; clear hb) | (go_at_call 12; refine (CT _).mono ?_; rintro e w5 ⟨rfl, hb⟩; replace O := O.call hb; clear hb; have f0 := O.cell 0 rfl Cp0.out; have f1 := O.cell 0 rfl Cp1.out) | ((with_reducible refine at_load 17 ?_); refine wpList_whole rfl O 2 rfl rfl Try.underlying23 rfl (sR _) ?_) | ((with_reducible refine at_load 19 ?_); refine wpList_cell_h (v := .int .i64 (p0)) rfl O.held 0 rfl Cp0.out rfl agg3 rfl ?_) | ((with_reducible refine at_load 21 ?_); refine wpList_cell_h (v := .int .i64 (p1)) rfl O.held 0 rfl Cp1.out rfl agg3 rfl ?_) | (go_at_call 21; refine (CP _).mono ?_; rintro e w6 ⟨VA, vc, rfl, hL, hb⟩; have O2 := Held.gain0 (O.held) hb hL; clear O hb hL; have O := O2; clear O2))
  try clear f0 f1
  go_loopw [7, 10] (fun u t wr => ∃ (k : Nat) (s : Int), k ≤ m.length ∧ t = .int .i64 k ∧ u = .int .i64 s ∧ 0 + RC.sum (m.take k) = s ∧ Held w wr [(g5, 24, M.mat 2 p), (g4, 23, M.mat 4 b), (g3, 23, M.mat 4 a)] nilRow [rE 0 VA vc m]) (fun _ t _ => m.length - (intOf t).toNat)
  case atStart => exact ⟨0, _, Nat.zero_le _, rfl, rfl, by rw [List.take_zero, RC.sum]; omega, O⟩
  case round =>
    clear O
    obtain ⟨k, s, hk, rfl, rfl, hT, O⟩ := hrel
    have q0 : (0 : Int) ≤ k := by omega
    have HT := Lib.hid hT
    clear hT
    by_cases hlt : k < m.length
    · have q1 : (k : Int) < m.length := by omega
      have q2 : (k : Int) < 9 := by have := L1.out; omega
      obtain ⟨x, hx⟩ : ∃ x, m[k]? = some x := ⟨_, List.getElem?_eq_getElem hlt⟩
      have HX := Lib.hid hx
      clear hx
      have C := fun w => area_any x w
      obtain ⟨n, en⟩ : ∃ n, RC.area x = n := ⟨_, rfl⟩
      have HS : Hid (0 + RC.sum (m.take (k + 1)) = s + n) := Lib.hid (by rw [RC.sum_step HX.out, en, ← HT.out]; omega)
      rw [en] at C
      clear en
      have b1 : -9223372036854775808 ≤ s + n ∧ s + n < 9223372036854775808 := by
        have h1 := HS.out
        have h2 := RC.sum_take m (k + 1)
        have h3 := S1.out
      
        omega
      obtain ⟨b1, b2⟩ := b1
      have W1 : wrap64 (s + n) = s + n := IntWalk.wrap64_in _ (by omega)
      clear b1 b2
      go_wp2_with (first | ((with_reducible refine at_index_ 36 ?_); refine wpList_at_h rfl Try.underlying34 sizeOfR _ (O.mem List.mem_cons_self) rfl (k) rfl (rfl) (by omega) rfl ?_) | ((with_reducible refine at_load 37 ?_); refine wpList_elem_h rfl _ (O.mem List.mem_cons_self) (k * 4) (M.mat 4 (x)) (rC_at HX.out) (by rw [M.mat_len]; decide) rfl Try.underlying23 rfl (sR _) ?_) | (go_at_call 12; refine (C _).mono ?_; rintro e v1 ⟨rfl, hb⟩; replace O := O.call hb; clear hb))
      go_roundw
      case rel => exact ⟨k + 1, s + n, by omega, by go_num, by first | rfl | exact congrArg (Value.int IntKind.i64) W1, HS.out, O⟩
      case measure => simp [intOf]; omega
    · have q1 : ¬ (k : Int) < m.length := by omega
      obtain rfl : k = m.length := by omega
      have hT := HT.out
      rw [List.take_length] at hT
      obtain rfl : s = z := by have := S1.out; omega
      clear HT hlt hT hk q0
      go_wp2_with (first | ((with_reducible refine at_load 40 ?_); refine wpList_rowg_h rfl O 2 rfl rfl Try.underlying23 rfl (sR _) ?_) | ((with_reducible refine at_load 41 ?_); refine wpList_rowg_h rfl O 1 rfl rfl Try.underlying23 rfl (sR _) ?_) | (go_at_call 19; refine (CM _).mono ?_; rintro e w7 ⟨WA, wc, rfl, hL, hb⟩; have O2 := Held.gain0 (O.pick (es' := []) (by simp)) hb hL; clear O hb hL; have O := O2; clear O2))
      go_loopw [8, 11] (fun u t wr => ∃ (k : Nat) (r : Int), k ≤ l.length ∧ t = .int .i64 k ∧ u = .int .i64 r ∧ y + RC.sum (l.take k) = r ∧ Held w wr [(g5, 24, M.mat 2 p), (g4, 23, M.mat 4 b), (g3, 23, M.mat 4 a)] nilRow [rE 0 WA wc l]) (fun _ t _ => l.length - (intOf t).toNat)
      case atStart => exact ⟨0, _, Nat.zero_le _, rfl, rfl, by rw [List.take_zero, RC.sum]; omega, O⟩
      case round =>
        clear O
        obtain ⟨k, r, hk, rfl, rfl, hT, O⟩ := hrel
        have q0 : (0 : Int) ≤ k := by omega
        have HT := Lib.hid hT
        clear hT
        by_cases hlt : k < l.length
        · have q1 : (k : Int) < l.length := by omega
          have q2 : (k : Int) < 9 := by have := L2.out; omega
          obtain ⟨x, hx⟩ : ∃ x, l[k]? = some x := ⟨_, List.getElem?_eq_getElem hlt⟩
          have HX := Lib.hid hx
          clear hx
          have C := fun w => area_any x w
          obtain ⟨n, en⟩ : ∃ n, RC.area x = n := ⟨_, rfl⟩
          have HS : Hid (y + RC.sum (l.take (k + 1)) = r + n) := Lib.hid (by rw [RC.sum_step HX.out, en, ← HT.out]; omega)
          rw [en] at C
          clear en
          have b1 : -9223372036854775808 ≤ r + n ∧ r + n < 9223372036854775808 := by
            have h1 := HS.out
            have h2 := RC.sum_take l (k + 1)
            have h3 := S2.out
            have h4 := S4.out
            omega
          obtain ⟨b1, b2⟩ := b1
          have W1 : wrap64 (r + n) = r + n := IntWalk.wrap64_in _ (by omega)
          clear b1 b2
          go_wp2_with (first | ((with_reducible refine at_index_ 56 ?_); refine wpList_at_h rfl Try.underlying34 sizeOfR _ (O.mem List.mem_cons_self) rfl (k) rfl (rfl) (by omega) rfl ?_) | ((with_reducible refine at_load 57 ?_); refine wpList_elem_h rfl _ (O.mem List.mem_cons_self) (k * 4) (M.mat 4 (x)) (rC_at HX.out) (by rw [M.mat_len]; decide) rfl Try.underlying23 rfl (sR _) ?_) | (go_at_call 12; refine (C _).mono ?_; rintro e v1 ⟨rfl, hb⟩; replace O := O.call hb; clear hb))
          go_roundw
          case rel => exact ⟨k + 1, r + n, by omega, by go_num, by first | rfl | exact congrArg (Value.int IntKind.i64) W1, HS.out, O⟩
          case measure => simp [intOf]; omega
        · have q1 : ¬ (k : Int) < l.length := by omega
          obtain rfl : k = l.length := by omega
          have hT := HT.out
          rw [List.take_length] at hT
          obtain rfl : r = s := by have := S2.out; omega
          clear HT hlt hT hk q0
          go_wp2_with (first | ((with_reducible refine at_load 60 ?_); refine wpList_rowg_h rfl O 2 rfl rfl Try.underlying23 rfl (sR _) ?_) | ((with_reducible refine at_load 61 ?_); refine wpList_rowg_h rfl O 1 rfl rfl Try.underlying23 rfl (sR _) ?_) | (go_at_call 16; refine (CA _).mono ?_; rintro e w8 ⟨rfl, hb⟩; replace O := O.call hb; clear hb) | ((with_reducible refine at_alloc 12 ?_); refine wpList_alloc_h O (M.mat 4 M.zero) zeroR ?_; clear O; intro g12 w9 O) | ((with_reducible refine at_store 12 ?_); refine wpList_put_h O 0 (M.mat 4 (c)) rfl rfl rfl (sR _) (M.mat_len2 _ _ _) (M.mat_one _ _) ?_; clear O; intro w10 O))
          try clear q1
          refine region_T ((fun w2 => Held w w2 [(g12, 23, M.mat 4 c), (g5, 24, M.mat 2 p), (g4, 23, M.mat 4 b), (g3, 23, M.mat 4 a)] nilRow [rE 0 WA wc l])) [0, 1, 2, 3, 4, 5, 6, 7, 8, 9, 10, 11, 12, 13, 14, 15, 16, 17, 18, 19, 20, 21, 22, 23, 24, 25, 26, 27, 28, 29, 30, 31, 32, 33, 34] 12 [some 63, some 64, some 65, some 66, some 67, some 68, some 69, some 70, some 71, some 72, some 73, some 74, some 75, some 76, some 77, some 78, some 79, some 80, some 81, some 82, some 83, some 84, some 85, some 86, some 87, some 88, some 89, some 90, some 91, some 92, some 93, some 94, some 95, some 96, some 97] [.bool true, .bool true, .int .i64 r, arr 4 a, .int .i64 r, .bool true, .bool true, .bool true, .int .i64 r, .int .i64 r, .bool true, .bool true, .bool true, arr 4 c, arr 4 b, arr 4 a, arr 4 c, .bool true, .bool true, .bool true, arr 4 c, .int .i64 y, .bool bz, arr 4 c, arr 4 M.zero, .bool bz, .bool true, .bool true, .bool true, arr 4 c, arr 4 a, arr 4 c, arr 4 c, .bool true, .bool true] 1 (by kernel_rfl) (by rfl) (by kernel_rfl) (by rfl) (by rfl) (O.drew) (fun F hF => ?_)
          simp only [fillD, Act.put, List.setIfInBounds_toArray, List.set_cons_zero, List.set_cons_succ] at hF
          subst hF
          refine ⟨⟨does_want rfl (by rfl) (fun w' O K hK => ?_), does_want rfl (by rfl) (fun w' O K hK => ?_), does_want rfl (by rfl) (fun w' O K hK => ?_), does_want rfl (by rfl) (fun w' O K hK => ?_), does_want rfl (by rfl) (fun w' O K hK => ?_), does_want rfl (by rfl) (fun w' O K hK => ?_), does_want rfl (by rfl) (fun w' O K hK => ?_), does_want rfl (by rfl) (fun w' O K hK => ?_), does_want rfl (by rfl) (fun w' O K hK => ?_), does_want rfl (by rfl) (fun w' O K hK => ?_), does_want rfl (by rfl) (fun w' O K hK => ?_), does_want rfl (by rfl) (fun w' O K hK => ?_), does_want rfl (by rfl) (fun w' O K hK => ?_), does_want rfl (by rfl) (fun w' O K hK => ?_), does_want rfl (by rfl) (fun w' O K hK => ?_), does_want rfl (by rfl) (fun w' O K hK => ?_), does_want rfl (by rfl) (fun w' O K hK => ?_), does_want rfl (by rfl) (fun w' O K hK => ?_), does_want rfl (by rfl) (fun w' O K hK => ?_), does_want rfl (by rfl) (fun w' O K hK => ?_), does_want rfl (by rfl) (fun w' O K hK => ?_), does_want rfl (by rfl) (fun w' O K hK => ?_), does_want rfl (by rfl) (fun w' O K hK => ?_), does_want rfl (by rfl) (fun w' O K hK => ?_), does_want rfl (by rfl) (fun w' O K hK => ?_), does_want rfl (by rfl) (fun w' O K hK => ?_), does_want rfl (by rfl) (fun w' O K hK => ?_), does_want rfl (by rfl) (fun w' O K hK => ?_), does_want rfl (by rfl) (fun w' O K hK => ?_), does_want rfl (by rfl) (fun w' O K hK => ?_), does_want rfl (by rfl) (fun w' O K hK => ?_), does_want rfl (by rfl) (fun w' O K hK => ?_), does_want rfl (by rfl) (fun w' O K hK => ?_), does_want rfl (by rfl) (fun w' O K hK => ?_), does_want rfl (by rfl) (fun w' O K hK => ?_), trivial⟩, fun w' O => ?_⟩
          · go_simp
            go_at_call 9
            refine (awake_any _).mono ?_
            rintro e w2 ⟨rfl, hb⟩
            exact hK _ (O.call hb)
          · go_simp
            exact hK _ O
          · go_simp
            exact hK _ O
          · exact wp_row_h O 3 rfl rfl Try.underlying23 rfl (sR _) (hK _ O)
          · go_simp
            go_at_call 12
            refine (CS _).mono ?_
            rintro e w2 ⟨rfl, hb⟩
            exact hK _ (O.call hb)
          · go_simp
            exact hK _ O
          · go_simp
            exact hK _ O
          · go_simp
            exact hK _ O
          · go_simp
            exact hK _ O
          · go_simp
            exact hK _ O
          · go_simp
            exact hK _ O
          · go_simp
            exact hK _ O
          · go_simp
            exact hK _ O
          · exact wp_row_h O 0 rfl rfl Try.underlying23 rfl (sR _) (hK _ O)
          · exact wp_row_h O 2 rfl rfl Try.underlying23 rfl (sR _) (hK _ O)
          · exact wp_row_h O 3 rfl rfl Try.underlying23 rfl (sR _) (hK _ O)
          · go_simp
            go_at_call 16
            refine (CB _).mono ?_
            rintro e w2 ⟨rfl, hb⟩
            exact hK _ (O.call hb)
          · refine wp_eqR c c rfl rfl ?_
            rw [M.eqB_refl]
            exact hK _ O
          · go_simp
            exact hK _ O
          · go_simp
            exact hK _ O
          · exact wp_row_h O 0 rfl rfl Try.underlying23 rfl (sR _) (hK _ O)
          · go_simp
            go_at_call 12
            refine (CT _).mono ?_
            rintro e w2 ⟨rfl, hb⟩
            exact hK _ (O.call hb)
          · have e := HZ.out
            go_simp
            first | exact hK _ O | (rw [e]; exact hK _ O)
          · exact wp_row_h O 0 rfl rfl Try.underlying23 rfl (sR _) (hK _ O)
          · refine wp_build_own ([]) ((M.mat 4 M.zero).toArray) ?_ builtRz (hK _ O)
            simp only [List.map_toArray, List.map_cons, List.map_nil]
            try rfl
          · refine wp_eqR c M.zero rfl rfl ?_
            rw [HB.out]
            exact hK _ O
          · go_simp
            exact hK _ O
          · go_simp
            exact hK _ O
          · go_simp
            exact hK _ O
          · exact wp_row_h O 0 rfl rfl Try.underlying23 rfl (sR _) (hK _ O)
          · exact wp_row_h O 3 rfl rfl Try.underlying23 rfl (sR _) (hK _ O)
          · go_simp
            go_at_call 16
            refine (CC _).mono ?_
            rintro e w2 ⟨rfl, hb⟩
            exact hK _ (O.call hb)
          · exact wp_row_h O 0 rfl rfl Try.underlying23 rfl (sR _) (hK _ O)
          · refine wp_eqR c c rfl rfl ?_
            rw [M.eqB_refl]
            exact hK _ O
          · go_simp
            exact hK _ O
          refine wpAny_one (i := 35) (by kernel_rfl) rfl (fun K hK => ?_)
          go_simp
          refine hK _ _ ?_
          clear hK K
          try simp only [Act.put, List.setIfInBounds_toArray, List.set_cons_zero, List.set_cons_succ]
          refine wpAny_done (by kernel_rfl) ?_ _
          go_wp2_with fail
          go_ret
          exact ⟨rfl, O.below⟩

theorem readable : ∀ t ∈ Try.f6.params.toList, Try.prog.readableRec t = true ∧ t < Try.prog.types.size := by
  intro t ht
  rw [Try.params6] at ht
  simp only [List.mem_cons, List.not_mem_nil, or_false] at ht
  repeat (first | (rcases ht with rfl | ht; exact ⟨by kernel_rfl, of_decide_eq_true (by kernel_rfl)⟩) | (subst ht; exact ⟨by kernel_rfl, of_decide_eq_true (by kernel_rfl)⟩))
set_option maxRecDepth 100000 in
theorem lifted (os : Os) (started : os.Started) (H : Type) (enc : TypeId × Value → H) :
    ReturnsInHanded {} Try.checked os 6 .any (Rows.rectSumsSpec.pre6 enc Try.prog Try.f6 Rows.rectSumsRow.domain false) (Rows.rectSumsSpec.post enc Try.prog Try.f6 false true false false) := by
  refine returnsInHanded_of_change (C := Try.checked) own started (by kernel_rfl) Try.func6
    (ChangeSpec.witness6 (enc := enc) (C := Try.checked) false ⟨#[], #[.agg #[.int .i64 0, .int .i64 0, .int .i64 0, .int .i64 0], .agg #[.int .i64 0, .int .i64 0, .int .i64 0, .int .i64 0], .agg #[.int .i64 0, .int .i64 0]], []⟩ 8 (by kernel_rfl) (by kernel_rfl) (by kernel_rfl) (by kernel_rfl)) ?_
  intro W base args ds gs before hval0 hW hcnd _
  have hval : ∀ (j : Nat) t v, Try.f6.params[j]? = some t → args[j]? = some v → Value.okWide Try.prog W .any base t v := hval0
  have hW' := hW
  obtain ⟨p, q, hA0, hV, rfl, hfz, hnd⟩ := hW
  have hA : DataW.TrodAll enc Try.prog W 0 (fun _ => true) true Try.f6.params.toList args.toList ds p := hA0
  rw [Try.params6] at hA hval
  have hlt : ∀ x ∈ p ++ q, x.block < W.heap.size := fun x hx => hW'.lt x hx
  obtain ⟨v0, vs0, d0, ds0, p0, q0, hargs, rfl, rfl, h0, rr0⟩ := trodAll_cons hA
  obtain ⟨v1, vs1, d1, ds1, p1, q1, rfl, rfl, rfl, h1, rr1⟩ := trodAll_cons rr0
  obtain ⟨v2, vs2, d2, ds2, p2, q2, rfl, rfl, rfl, h2, rr2⟩ := trodAll_cons rr1
  obtain ⟨rfl, rfl, rfl⟩ := trodAll_nil rr2
  obtain rfl : args = #[v0, v1, v2] := by cases args; simp_all
  obtain ⟨rfl, rfl⟩ := trodVars_none hV
  obtain ⟨a0, rfl⟩ := openRect (hval 0 23 v0 rfl rfl) h0
  obtain ⟨a1, rfl⟩ := openRect (hval 1 23 v1 rfl rfl) h1
  obtain ⟨a2, rfl, x2⟩ := openPair (hval 2 24 v2 rfl rfl) h2
  clear hA0 hval0
  refine (walk W a0 a1 a2).mono fun e W' ⟨he, hg⟩ => ?_
  subst he
  exact ⟨_, rfl, post_true (tb := 4) laid readable (by kernel_rfl) Try.underlying4 rfl (fun l hl => by
    match l, hl with
    | [_, _, _], _ => exact ⟨rfl, rfl, rfl⟩) hW' hg⟩

theorem over : Rows.rectSumsRow.holds Try.pinned (OpenSpec.ofChange Rows.rectSumsSpec) :=
  OpenClaim.holds_of_wide 6 Try.f6 rfl rfl rfl rfl rfl rfl rfl ⟨rfl, rfl, rfl, rfl, rfl⟩ rfl rfl rfl rfl rfl (by kernel_rfl) Try.func6 (by kernel_rfl)
    (of_decide_eq_true (by kernel_rfl)) (by unfold Func.isWrapper; first | (rw [if_pos (by decide +kernel)]; kernel_rfl) | (rw [if_neg (by decide +kernel)]; exact ⟨rfl, rfl⟩))
    (fun os started H enc _ => lifted os started H enc)

theorem proved : Rows.RectSumsSaid :=
  over
#print axioms proved
end Go.Proofs.Ythioeohmnlppcaa.rectSums
