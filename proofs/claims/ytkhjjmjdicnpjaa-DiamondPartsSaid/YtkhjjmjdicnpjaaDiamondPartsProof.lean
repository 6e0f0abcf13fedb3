/-
  DiamondParts: for every line in parts and every pixel, the line meets the diamond just if one of its parts does, and exits from it just if it meets it and does not end in it.
-/
import Derived.Test.YtkhjjmjdicnpjaaWe
import Derived.Test.YtkhjjmjdicnpjaaWj
import Derived.Deep.DeepCutAuto
namespace Go.Proofs.Ytkhjjmjdicnpjaa.diamondParts
open Go.ChangeShapes Go.WideShapes Go.ChangeAt Go.RowKit
set_option linter.unusedVariables false
set_option linter.unusedSimpArgs false

theorem own : ownKnob Try.prog.godebug = none := by kernel_rfl
theorem _root_.Go.Proofs.Ytkhjjmjdicnpjaa.DM.inside_inr {X Y x y : Int} : DM.inside (DM.rel X x) (DM.rel Y y) = ((DM.inr X Y).2.2 && ((DM.inr X Y).1 == x && (DM.inr X Y).2.1 == y)) := by
  rw [Bool.eq_iff_iff, DM.pix_iff]
  unfold DM.inr
  cases DM.pix X Y with
  | none => simp
  | some z =>
    obtain ⟨i, j⟩ := z
    simp

set_option maxRecDepth 100000 in
set_option maxHeartbeats 16000000 in
theorem walk (w : World) (a : Nat → Int) (d0 d1 n0 n1 t0 t1 : Int) (hr : ((-32768 ≤ d0 ∧ d0 ≤ 32767) ∧ (-32768 ≤ d1 ∧ d1 ≤ 32767)) ∧ ((0 ≤ n0 ∧ n0 ≤ 255) ∧ (0 ≤ n1 ∧ n1 ≤ 255)) ∧ ((-32768 ≤ t0 ∧ t0 ≤ 32767) ∧ (-32768 ≤ t1 ∧ t1 ≤ 32767))) :
    Calls Try.prog 6 #[.agg (cut a d0 d1 n0 n1 t0 t1).toArray] w fun e w' => e = .returned (.bool true) ∧ Below w.heap.size w w' := by
  have O := Own.start w
  have LO : Hid (((-32768 ≤ d0 ∧ d0 ≤ 32767) ∧ (-32768 ≤ d1 ∧ d1 ≤ 32767)) ∧ ((0 ≤ n0 ∧ n0 ≤ 255) ∧ (0 ≤ n1 ∧ n1 ≤ 255)) ∧ ((-32768 ≤ t0 ∧ t0 ≤ 32767) ∧ (-32768 ≤ t1 ∧ t1 ≤ 32767))) := Lib.hid hr
  clear hr
  have tok0 : True := trivial
  obtain ⟨a0, ea0⟩ : ∃ z, a 0 = z := ⟨_, rfl⟩
  have Ca0 := cell_is (n := 2) ea0 (by decide)
  obtain ⟨a1, ea1⟩ : ∃ z, a 1 = z := ⟨_, rfl⟩
  have Ca1 := cell_is (n := 2) ea1 (by decide)
  have EA := Lib.hid (And.intro ea0 ea1)
  clear ea0 ea1
  have HD : apart [⟨8, 12, 23, M.mat 2 M.zero, M.mat 2 a⟩, ⟨9, 13, 33, two .i16 0 0, two .i16 d0 d1⟩, ⟨10, 14, 34, two .u8 0 0, two .u8 n0 n1⟩, ⟨11, 99, 33, two .i16 0 0, two .i16 0 0⟩] := (by decide : [8, 12, 9, 13, 10, 14, 11, 99].Nodup)
  go_enter Try.func6, Try.ntmps6
  go_wp2_with ((with_reducible refine at_box 1 ?_); refine wpList_box_own O (cut a d0 d1 n0 n1 t0 t1) rfl ?_; clear O; intro g1 w1 O)
  refine region_S (fun st w2 => NB w [(g1, 36, cut a d0 d1 n0 n1 t0 t1)] [⟨8, 12, 23, M.mat 2 M.zero, M.mat 2 a⟩, ⟨9, 13, 33, two .i16 0 0, two .i16 d0 d1⟩, ⟨10, 14, 34, two .u8 0 0, two .u8 n0 n1⟩, ⟨11, 99, 33, two .i16 0 0, two .i16 0 0⟩] st w2) [8, 9, 10, 11, 12, 13, 14] 12 15 [some 17, some 18, some 19, some 20, some 21, some 22, some 23, some 24, some 3, some 4, some 5, some 6, none, none, none] (fun g => [.pointer (some ⟨g1, 0, none⟩), arr 2 a, .pointer (some ⟨g1, 2, none⟩), .agg (two .i16 d0 d1).toArray, .pointer (some ⟨g1, 4, none⟩), .agg (two .u8 n0 n1).toArray, .pointer (some ⟨g1, 6, none⟩), .agg (two .i16 t0 t1).toArray, g 8, g 9, g 10, g 11, g 12, g 13, g 14]) 1 (by kernel_rfl) (by kernel_rfl) (by rfl) (by rfl) (fun _ => rfl) (by decide) ?_ (NB.start O.drew) (fun F hF => ?_)
  · intro i hi
    simp only [List.mem_cons, List.not_mem_nil, or_false] at hi
    rcases hi with rfl | rfl | rfl | rfl | rfl | rfl | rfl
    · exact ⟨fun _ => rfl, [0, 1, 2, 3, 4, 5, 6, 7, 9, 10, 11, 12, 13, 14], by kernel_rfl, fun g v => ⟨rfl, rfl, rfl, rfl, rfl, rfl, rfl, rfl, rfl, rfl, rfl, rfl, rfl, rfl, trivial⟩⟩
    · exact ⟨fun _ => rfl, [0, 1, 2, 3, 4, 5, 6, 7, 8, 10, 11, 12, 13, 14], by kernel_rfl, fun g v => ⟨rfl, rfl, rfl, rfl, rfl, rfl, rfl, rfl, rfl, rfl, rfl, rfl, rfl, rfl, trivial⟩⟩
    · exact ⟨fun _ => rfl, [0, 1, 2, 3, 4, 5, 6, 7, 8, 9, 11, 12, 13, 14], by kernel_rfl, fun g v => ⟨rfl, rfl, rfl, rfl, rfl, rfl, rfl, rfl, rfl, rfl, rfl, rfl, rfl, rfl, trivial⟩⟩
    · exact ⟨fun _ => rfl, [0, 1, 2, 3, 4, 5, 6, 7, 8, 9, 10, 12, 13, 14], by kernel_rfl, fun g v => ⟨rfl, rfl, rfl, rfl, rfl, rfl, rfl, rfl, rfl, rfl, rfl, rfl, rfl, rfl, trivial⟩⟩
    · exact ⟨fun _ => rfl, [0, 1, 2, 3, 4, 5, 6, 7, 8, 9, 10, 11, 13, 14], by kernel_rfl, fun g v => ⟨rfl, rfl, rfl, rfl, rfl, rfl, rfl, rfl, rfl, rfl, rfl, rfl, rfl, rfl, trivial⟩⟩
    · exact ⟨fun _ => rfl, [0, 1, 2, 3, 4, 5, 6, 7, 8, 9, 10, 11, 12, 14], by kernel_rfl, fun g v => ⟨rfl, rfl, rfl, rfl, rfl, rfl, rfl, rfl, rfl, rfl, rfl, rfl, rfl, rfl, trivial⟩⟩
    · exact ⟨fun _ => rfl, [0, 1, 2, 3, 4, 5, 6, 7, 8, 9, 10, 11, 12, 13], by kernel_rfl, fun g v => ⟨rfl, rfl, rfl, rfl, rfl, rfl, rfl, rfl, rfl, rfl, rfl, rfl, rfl, rfl, trivial⟩⟩
  simp only [fillD, Act.put, List.setIfInBounds_toArray, List.set_cons_zero, List.set_cons_succ] at hF
  have hF2 := funext hF
  clear hF
  subst hF2
  refine ⟨⟨doesN_want (by decide) rfl (fun g => rfl) (fun st w' hS hp K hK => ?_), doesN_want (by decide) rfl (fun g => rfl) (fun st w' hS hp K hK => ?_), doesN_want (by decide) rfl (fun g => rfl) (fun st w' hS hp K hK => ?_), doesN_want (by decide) rfl (fun g => rfl) (fun st w' hS hp K hK => ?_), doesN_want (by decide) rfl (fun g => rfl) (fun st w' hS hp K hK => ?_), doesN_want (by decide) rfl (fun g => rfl) (fun st w' hS hp K hK => ?_), doesN_want (by decide) rfl (fun g => rfl) (fun st w' hS hp K hK => ?_), doesN_want (by decide) rfl (fun g => rfl) (fun st w' hS hp K hK => ?_), doesC_want (by decide) rfl (fun g => rfl) (fun st w' hS hn hp K hK => ?_), doesC_want (by decide) rfl (fun g => rfl) (fun st w' hS hn hp K hK => ?_), doesC_want (by decide) rfl (fun g => rfl) (fun st w' hS hn hp K hK => ?_), doesC_want (by decide) rfl (fun g => rfl) (fun st w' hS hn hp K hK => ?_), doesC_want (by decide) rfl (fun g => rfl) (fun st w' hS hn hp K hK => ?_), doesC_want (by decide) rfl (fun g => rfl) (fun st w' hS hn hp K hK => ?_), doesC_want (by decide) rfl (fun g => rfl) (fun st w' hS hn hp K hK => ?_), trivial⟩, fun st w' hS hall => ?_⟩
  · try dsimp only
    go_simp
    exact hK _ hS
  · try dsimp only
    exact wp_mid_h hS.own.held 0 rfl (M.mat 2 a) (cut_a a d0 d1 n0 n1 t0 t1) rfl Try.underlying23 rfl (sP _) (hK _ hS)
  · try dsimp only
    go_simp
    exact hK _ hS
  · try dsimp only
    exact wp_mid_h hS.own.held 0 rfl (two .i16 d0 d1) (cut_d a d0 d1 n0 n1 t0 t1) rfl Try.underlying33 rfl (s33 _ _) (hK _ hS)
  · try dsimp only
    go_simp
    exact hK _ hS
  · try dsimp only
    exact wp_mid_h hS.own.held 0 rfl (two .u8 n0 n1) (cut_n a d0 d1 n0 n1 t0 t1) rfl Try.underlying34 rfl (s34 _ _) (hK _ hS)
  · try dsimp only
    go_simp
    exact hK _ hS
  · try dsimp only
    exact wp_mid_h hS.own.held 0 rfl (two .i16 t0 t1) (cut_t a d0 d1 n0 n1 t0 t1) rfl Try.underlying33 rfl (s33 _ _) (hK _ hS)
  · try dsimp only
    exact hS.alloc HD 0 rfl hn zeroP hK
  · try dsimp only
    exact hS.alloc HD 1 rfl hn zero33 hK
  · try dsimp only
    exact hS.alloc HD 2 rfl hn zero34 hK
  · try dsimp only
    exact hS.alloc HD 3 rfl hn zero33 hK
  · try dsimp only
    exact hS.put HD 0 rfl (hp 8 (by decide) (by kernel_rfl)) hn rfl rfl (sP _) (M.mat_len2 _ _ _) (M.mat_one _ _) hK
  · try dsimp only
    exact hS.put HD 1 rfl (hp 9 (by decide) (by kernel_rfl)) hn rfl rfl (s33 _ _) (rfl) (two_one _ _ _) hK
  · try dsimp only
    exact hS.put HD 2 rfl (hp 10 (by decide) (by kernel_rfl)) hn rfl rfl (s34 _ _) (rfl) (two_one _ _ _) hK
  try dsimp only
  obtain ⟨g3, e3⟩ := hS.ptr 0 rfl (hall 8 (by decide))
  obtain ⟨g4, e4⟩ := hS.ptr 1 rfl (hall 9 (by decide))
  obtain ⟨g5, e5⟩ := hS.ptr 2 rfl (hall 10 (by decide))
  obtain ⟨g6, e6⟩ := hS.ptr 3 rfl (hall 11 (by decide))
  have O3 : Own w w' [(g3, 23, M.mat 2 a), (g4, 33, two .i16 d0 d1), (g5, 34, two .u8 n0 n1), (g6, 33, two .i16 0 0), (g1, 36, cut a d0 d1 n0 n1 t0 t1)] := by
    have h3 := hS.2.2
    rw [nows_cons, nows_cons, nows_cons, nows_cons, NbS.now_is e3 true (hall 12 (by decide)), NbS.now_is e4 true (hall 13 (by decide)), NbS.now_is e5 true (hall 14 (by decide)), NbS.now_same e6 rfl] at h3
    exact h3
  clear hS O
  have O := O3
  clear O3
  simp only [seen, e3, e4, e5, e6, Option.getD_some]
  try generalize (st 12).getD undef = x12'
  try generalize (st 13).getD undef = x13'
  try generalize (st 14).getD undef = x14'
  clear hall e3 e4 e5 e6
  refine wpAny_want (i := 15) (by kernel_rfl) rfl (by rfl) (fun K hK => ?_)
  refine wp_put_own O 3 (two .i16 t0 t1) rfl rfl rfl (s33 _ _) rfl (two_one _ _ _) fun w9 O9 => hK _ _ ?_
  clear O
  have O := O9
  clear O9
  clear hK K
  try simp only [Act.put, List.setIfInBounds_toArray, List.set_cons_zero, List.set_cons_succ]
  refine wpAny_done (by kernel_rfl) ?_ _
  have O9 := Own.as O (l' := [(g3, 23, M.mat 2 a), (g4, 33, two .i16 d0 d1), (g5, 34, two .u8 n0 n1), (g6, 33, two .i16 t0 t1), (g1, 36, cut a d0 d1 n0 n1 t0 t1)]) rfl
  clear O HD
  have O := O9
  clear O9
  cases h0 : decide (a0 < -1048576)
  · cases h1 : decide (1048576 < a0)
    · cases h2 : decide (a1 < -1048576)
      · cases h3 : decide (1048576 < a1)
        · go_wp2_with (first | ((with_reducible refine at_load 26 ?_); refine wpList_cell_h (v := .int .i64 (a0)) rfl O.held 0 rfl Ca0.out rfl agg3 rfl ?_) | ((with_reducible refine at_load 30 ?_); refine wpList_cell_h (v := .int .i64 (a0)) rfl O.held 0 rfl Ca0.out rfl agg3 rfl ?_) | ((with_reducible refine at_load 35 ?_); refine wpList_cell_h (v := .int .i64 (a1)) rfl O.held 0 rfl Ca1.out rfl agg3 rfl ?_) | ((with_reducible refine at_load 40 ?_); refine wpList_cell_h (v := .int .i64 (a1)) rfl O.held 0 rfl Ca1.out rfl agg3 rfl ?_))
          obtain ⟨⟨⟨l1, l2⟩, l3, l4⟩, ⟨⟨l5, l6⟩, l7, l8⟩, ⟨l9, l10⟩, l11, l12⟩ := LO.out
          have la : (-1048576 ≤ a0 ∧ a0 ≤ 1048576) ∧ (-1048576 ≤ a1 ∧ a1 ≤ 1048576) := by
            have := of_decide_eq_false h0
            have := of_decide_eq_false h1
            have := of_decide_eq_false h2
            have := of_decide_eq_false h3
            omega
          obtain ⟨m, hm⟩ : ∃ z, n0.tmod 16 = z := ⟨_, rfl⟩
          obtain ⟨k, hk⟩ : ∃ z, n1.tmod 16 = z := ⟨_, rfl⟩
          have rm : 0 ≤ m ∧ m < 16 := by rw [← hm]; exact ⟨Int.tmod_nonneg _ l5, Int.tmod_lt_of_pos _ (by decide)⟩
          have rk : 0 ≤ k ∧ k < 16 := by rw [← hk]; exact ⟨Int.tmod_nonneg _ l7, Int.tmod_lt_of_pos _ (by decide)⟩
          have Hm : Hid (n0.tmod 16 = m ∧ IntKind.u8.wrap m = m ∧ IntKind.i64.wrap m = m) := Lib.hid ⟨hm, by rw [IntKind.wrap_u8]; omega, IntWalk.i64_in _ (by omega)⟩
          have Hk : Hid (n1.tmod 16 = k ∧ IntKind.u8.wrap k = k ∧ IntKind.i64.wrap k = k) := Lib.hid ⟨hk, by rw [IntKind.wrap_u8]; omega, IntWalk.i64_in _ (by omega)⟩
          have Ht : Hid (IntKind.i64.wrap t0 = t0 ∧ IntKind.i64.wrap t1 = t1) := Lib.hid ⟨IntWalk.i64_in _ (by omega), IntWalk.i64_in _ (by omega)⟩
          have bp0 := M.mul_hi (a := m) (b := d0) (A := 15) (B := 32768) (by omega) (by omega) (by omega) (by omega)
          obtain ⟨p0, hp0⟩ : ∃ z, m * d0 = z := ⟨_, rfl⟩
          rw [hp0] at bp0
          have bp1 := M.mul_hi (a := m) (b := d1) (A := 15) (B := 32768) (by omega) (by omega) (by omega) (by omega)
          obtain ⟨p1, hp1⟩ : ∃ z, m * d1 = z := ⟨_, rfl⟩
          rw [hp1] at bp1
          have bq0 := M.mul_hi (a := k) (b := d0) (A := 15) (B := 32768) (by omega) (by omega) (by omega) (by omega)
          obtain ⟨q0, hq0⟩ : ∃ z, k * d0 = z := ⟨_, rfl⟩
          rw [hq0] at bq0
          have bq1 := M.mul_hi (a := k) (b := d1) (A := 15) (B := 32768) (by omega) (by omega) (by omega) (by omega)
          obtain ⟨q1, hq1⟩ : ∃ z, k * d1 = z := ⟨_, rfl⟩
          rw [hq1] at bq1
          obtain ⟨c0, hc0⟩ : ∃ z, a0 + p0 = z := ⟨_, rfl⟩
          obtain ⟨c1, hc1⟩ : ∃ z, a1 + p1 = z := ⟨_, rfl⟩
          obtain ⟨f0, hf0⟩ : ∃ z, c0 + q0 = z := ⟨_, rfl⟩
          obtain ⟨f1, hf1⟩ : ∃ z, c1 + q1 = z := ⟨_, rfl⟩
          have VS : Hid ((wrap64 d0 = d0 ∧ wrap64 d1 = d1) ∧ (m * d0 = p0 ∧ m * d1 = p1 ∧ k * d0 = q0 ∧ k * d1 = q1) ∧ (wrap64 p0 = p0 ∧ wrap64 p1 = p1 ∧ wrap64 q0 = q0 ∧ wrap64 q1 = q1) ∧ (a0 + p0 = c0 ∧ a1 + p1 = c1 ∧ c0 + q0 = f0 ∧ c1 + q1 = f1) ∧ (wrap64 c0 = c0 ∧ wrap64 c1 = c1 ∧ wrap64 f0 = f0 ∧ wrap64 f1 = f1)) :=
            Lib.hid ⟨⟨IntWalk.wrap64_in _ (by omega), IntWalk.wrap64_in _ (by omega)⟩, ⟨hp0, hp1, hq0, hq1⟩, ⟨IntWalk.wrap64_in _ (by omega), IntWalk.wrap64_in _ (by omega), IntWalk.wrap64_in _ (by omega), IntWalk.wrap64_in _ (by omega)⟩, ⟨hc0, hc1, hf0, hf1⟩, ⟨IntWalk.wrap64_in _ (by omega), IntWalk.wrap64_in _ (by omega), IntWalk.wrap64_in _ (by omega), IntWalk.wrap64_in _ (by omega)⟩⟩
          have ga : DM.Rg a := by unfold DM.Rg; rw [EA.out.1, EA.out.2]; omega
          have gc : DM.Rg (DM.t2 c0 c1) := by show (_ ≤ c0 ∧ c0 ≤ _) ∧ (_ ≤ c1 ∧ c1 ≤ _); omega
          have gf : DM.Rg (DM.t2 f0 f1) := by show (_ ≤ f0 ∧ f0 ≤ _) ∧ (_ ≤ f1 ∧ f1 ≤ _); omega
          have gx : DM.Rx t0 t1 := by unfold DM.Rx; omega
          have CW := fun w => meets_any a (DM.t2 f0 f1) t0 t1 ga gf gx w
          have C1 := fun w => meets_any a (DM.t2 c0 c1) t0 t1 ga gc gx w
          have C2 := fun w => meets_any (DM.t2 c0 c1) (DM.t2 f0 f1) t0 t1 gc gf gx w
          have CE := fun w => exits_any a (DM.t2 f0 f1) t0 t1 ga gf gx w
          have CI := fun w => in_any (DM.t2 f0 f1) gf w
          unfold RetIn at CI
          have hP : DM.meets (DM.rel (a 0) t0) (DM.rel (a 1) t1) (DM.rel f0 t0) (DM.rel f1 t1) = (DM.meets (DM.rel (a 0) t0) (DM.rel (a 1) t1) (DM.rel c0 t0) (DM.rel c1 t1) || DM.meets (DM.rel c0 t0) (DM.rel c1 t1) (DM.rel f0 t0) (DM.rel f1 t1)) := by
            have := @DM.parts (DM.rel (a 0) t0) (DM.rel (a 1) t1) d0 d1 m k rm.1 rk.1
            rw [hp0, hp1, hq0, hq1] at this
            rw [show DM.rel f0 t0 = DM.rel (a 0) t0 + (p0 + q0) by rw [EA.out.1]; unfold DM.rel; omega, show DM.rel f1 t1 = DM.rel (a 1) t1 + (p1 + q1) by rw [EA.out.2]; unfold DM.rel; omega, show DM.rel c0 t0 = DM.rel (a 0) t0 + p0 by rw [EA.out.1]; unfold DM.rel; omega, show DM.rel c1 t1 = DM.rel (a 1) t1 + p1 by rw [EA.out.2]; unfold DM.rel; omega]
            exact this
          have hX : DM.exits (DM.rel (a 0) t0) (DM.rel (a 1) t1) (DM.rel f0 t0) (DM.rel f1 t1) = (DM.meets (DM.rel (a 0) t0) (DM.rel (a 1) t1) (DM.rel f0 t0) (DM.rel f1 t1) && !((DM.inr f0 f1).2.2 && ((DM.inr f0 f1).1 == t0 && (DM.inr f0 f1).2.1 == t1))) := by
            rw [DM.exits, DM.inside_inr]
          change ∀ w, Calls Try.prog 13 #[arr 2 a, arr 2 (DM.t2 f0 f1), .int .i64 t0, .int .i64 t1] w fun e w' => e = .returned (.bool (DM.meets (DM.rel (a 0) t0) (DM.rel (a 1) t1) (DM.rel f0 t0) (DM.rel f1 t1))) ∧ Below w.heap.size w w' at CW
          change ∀ w, Calls Try.prog 13 #[arr 2 a, arr 2 (DM.t2 c0 c1), .int .i64 t0, .int .i64 t1] w fun e w' => e = .returned (.bool (DM.meets (DM.rel (a 0) t0) (DM.rel (a 1) t1) (DM.rel c0 t0) (DM.rel c1 t1))) ∧ Below w.heap.size w w' at C1
          change ∀ w, Calls Try.prog 13 #[arr 2 (DM.t2 c0 c1), arr 2 (DM.t2 f0 f1), .int .i64 t0, .int .i64 t1] w fun e w' => e = .returned (.bool (DM.meets (DM.rel c0 t0) (DM.rel c1 t1) (DM.rel f0 t0) (DM.rel f1 t1))) ∧ Below w.heap.size w w' at C2
          change ∀ w, Calls Try.prog 15 #[arr 2 a, arr 2 (DM.t2 f0 f1), .int .i64 t0, .int .i64 t1] w fun e w' => e = .returned (.bool (DM.exits (DM.rel (a 0) t0) (DM.rel (a 1) t1) (DM.rel f0 t0) (DM.rel f1 t1))) ∧ Below w.heap.size w w' at CE
          change ∀ w, Calls Try.prog 10 #[arr 2 (DM.t2 f0 f1)] w fun e w' => e = .returned (.tuple #[.int .i64 (DM.inr f0 f1).1, .int .i64 (DM.inr f0 f1).2.1, .bool (DM.inr f0 f1).2.2]) ∧ Below w.heap.size w w' at CI
          generalize DM.exits (DM.rel (a 0) t0) (DM.rel (a 1) t1) (DM.rel f0 t0) (DM.rel f1 t1) = xz at CE hX
          generalize DM.meets (DM.rel (a 0) t0) (DM.rel (a 1) t1) (DM.rel f0 t0) (DM.rel f1 t1) = mw at CW hP hX
          generalize DM.meets (DM.rel (a 0) t0) (DM.rel (a 1) t1) (DM.rel c0 t0) (DM.rel c1 t1) = m1 at C1 hP
          generalize DM.meets (DM.rel c0 t0) (DM.rel c1 t1) (DM.rel f0 t0) (DM.rel f1 t1) = m2 at C2 hP
          generalize DM.inr f0 f1 = r at CI hX
          obtain ⟨i, j, ok⟩ := r
          simp only at CI hX
          clear ga gc gf gx rm rk la l1 l2 l3 l4 l5 l6 l7 l8 l9 l10 l11 l12 hm hk bp0 bp1 bq0 bq1 hp0 hp1 hq0 hq1 hc0 hc1 hf0 hf1 EA LO
          clear h0 h1 h2 h3
          have OO := O
          clear O
          have O := OO
          clear OO
          refine region_T ((fun w2 => Own w w2 [(g3, 23, M.mat 2 a), (g4, 33, two .i16 d0 d1), (g5, 34, two .u8 n0 n1), (g6, 33, two .i16 t0 t1), (g1, 36, cut a d0 d1 n0 n1 t0 t1)])) [0, 1, 2, 3, 4, 5, 6, 7, 8] 12 [some 44, some 45, some 46, some 47, some 48, some 49, some 50, some 51, some 7] [.pointer (some ⟨g5, 0, none⟩), .int .u8 n0, .int .u8 m, .int .i64 m, .pointer (some ⟨g5, 1, none⟩), .int .u8 n1, .int .u8 k, .int .i64 k, .int .i64 m] 1 (by kernel_rfl) (by rfl) (by kernel_rfl) (by rfl) (by rfl) (O.drew) (fun F hF => ?_)
          simp only [fillD, Act.put, List.setIfInBounds_toArray, List.set_cons_zero, List.set_cons_succ] at hF
          subst hF
          refine ⟨⟨does_want rfl (by rfl) (fun w' O K hK => ?_), does_want rfl (by rfl) (fun w' O K hK => ?_), does_want rfl (by rfl) (fun w' O K hK => ?_), does_want rfl (by rfl) (fun w' O K hK => ?_), does_want rfl (by rfl) (fun w' O K hK => ?_), does_want rfl (by rfl) (fun w' O K hK => ?_), does_want rfl (by rfl) (fun w' O K hK => ?_), does_want rfl (by rfl) (fun w' O K hK => ?_), does_want rfl (by rfl) (fun w' O K hK => ?_), trivial⟩, fun w' O => ?_⟩
          · first | (go_simp; exact hK _ O) | exact wp_ino Try.underlying34 sizeOf5 (by decide) 0 rfl rfl (by omega) (by omega) (hK _ O)
          · exact wp_cell_h (v := .int .u8 n0) O.held 2 rfl rfl rfl agg5 rfl (hK _ O)
          · obtain ⟨e1, e2, e3⟩ := Hm.out
            go_simp
            first | exact hK _ O | (simp only [e1, e2, e3]; exact hK _ O) | (rw [e1]; exact hK _ O) | (rw [e2]; exact hK _ O) | (rw [e3]; exact hK _ O)
          · obtain ⟨e1, e2, e3⟩ := Hm.out
            go_simp
            first | exact hK _ O | (simp only [e1, e2, e3]; exact hK _ O) | (rw [e1]; exact hK _ O) | (rw [e2]; exact hK _ O) | (rw [e3]; exact hK _ O)
          · first | (go_simp; exact hK _ O) | exact wp_ino Try.underlying34 sizeOf5 (by decide) 1 rfl rfl (by omega) (by omega) (hK _ O)
          · exact wp_cell_h (v := .int .u8 n1) O.held 2 rfl rfl rfl agg5 rfl (hK _ O)
          · obtain ⟨e1, e2, e3⟩ := Hk.out
            go_simp
            first | exact hK _ O | (simp only [e1, e2, e3]; exact hK _ O) | (rw [e1]; exact hK _ O) | (rw [e2]; exact hK _ O) | (rw [e3]; exact hK _ O)
          · obtain ⟨e1, e2, e3⟩ := Hk.out
            go_simp
            first | exact hK _ O | (simp only [e1, e2, e3]; exact hK _ O) | (rw [e1]; exact hK _ O) | (rw [e2]; exact hK _ O) | (rw [e3]; exact hK _ O)
          · go_simp
            exact hK _ O
          refine wpAny_one (i := 9) (by kernel_rfl) rfl (fun K hK => ?_)
          go_simp
          refine hK _ _ ?_
          clear hK K
          try simp only [Act.put, List.setIfInBounds_toArray, List.set_cons_zero, List.set_cons_succ]
          refine wpAny_done (by kernel_rfl) ?_ _
          clear Hm Hk
          have x0 := O.cell 1 rfl (rfl : (two .i16 d0 d1)[0]? = _)
          have x1 := O.cell 1 rfl (rfl : (two .i16 d0 d1)[1]? = _)
          have CC0 := cell_is (n := 2) (a := DM.t2 c0 c1) (i := 0) (z := c0) rfl (by decide)
          have CC1 := cell_is (n := 2) (a := DM.t2 c0 c1) (i := 1) (z := c1) rfl (by decide)
          obtain ⟨⟨v1, v2⟩, ⟨v3, v4, v5, v6⟩, ⟨v7, v8, v9, v10⟩, ⟨v11, v12, v13, v14⟩, v15, v16, v17, v18⟩ := VS.out
          go_wp2_with (first | ((with_reducible refine at_load 53 ?_); refine wpList_cell_h (v := .int .i64 (a0)) rfl O.held 0 rfl Ca0.out rfl agg3 rfl ?_) | ((with_reducible refine at_index_ 55 ?_); refine wpList_ino rfl Try.underlying33 sizeOf32 (by decide) 0 rfl rfl rfl (by decide) ?_) | ((with_reducible refine at_load 56 ?_); refine wpList_cell_h (v := .int .i16 d0) rfl O.held 1 rfl rfl rfl agg32 rfl ?_) | ((with_reducible refine at_load 61 ?_); refine wpList_cell_h (v := .int .i64 (a1)) rfl O.held 0 rfl Ca1.out rfl agg3 rfl ?_) | ((with_reducible refine at_index_ 63 ?_); refine wpList_ino rfl Try.underlying33 sizeOf32 (by decide) 1 rfl rfl rfl (by decide) ?_) | ((with_reducible refine at_load 64 ?_); refine wpList_cell_h (v := .int .i16 d1) rfl O.held 1 rfl rfl rfl agg32 rfl ?_) | ((with_reducible refine at_build 68 ?_); refine wpList_build_g rfl ([(0, .int .i64 c0), (1, .int .i64 c1)]) ((M.mat 2 (DM.t2 c0 c1)).toArray) ?_ (builtP _ _) ?_; (focus (simp only [List.map_toArray, List.map_cons, List.map_nil]; rfl))) | ((with_reducible refine at_alloc 9 ?_); refine wpList_alloc_own O (M.mat 2 M.zero) zeroP ?_; clear O; intro g9 w5 O) | ((with_reducible refine at_store 9 ?_); refine wpList_put_own O 0 (M.mat 2 (DM.t2 c0 c1)) rfl rfl rfl (sP _) (M.mat_len2 _ _ _) (M.mat_one _ _) ?_; clear O; intro w6 O; have y0 := O.cell 2 rfl (rfl : (two .i16 d0 d1)[0]? = _); have y1 := O.cell 2 rfl (rfl : (two .i16 d0 d1)[1]? = _)) | ((with_reducible refine at_load 70 ?_); refine wpList_cell_h (v := .int .i64 (c0)) rfl O.held 0 rfl CC0.out rfl agg3 rfl ?_) | ((with_reducible refine at_index_ 72 ?_); refine wpList_ino rfl Try.underlying33 sizeOf32 (by decide) 0 rfl rfl rfl (by decide) ?_) | ((with_reducible refine at_load 73 ?_); refine wpList_cell_h (v := .int .i16 d0) rfl O.held 2 rfl rfl rfl agg32 rfl ?_) | ((with_reducible refine at_load 78 ?_); refine wpList_cell_h (v := .int .i64 (c1)) rfl O.held 0 rfl CC1.out rfl agg3 rfl ?_) | ((with_reducible refine at_index_ 80 ?_); refine wpList_ino rfl Try.underlying33 sizeOf32 (by decide) 1 rfl rfl rfl (by decide) ?_) | ((with_reducible refine at_load 81 ?_); refine wpList_cell_h (v := .int .i16 d1) rfl O.held 2 rfl rfl rfl agg32 rfl ?_) | ((with_reducible refine at_build 85 ?_); refine wpList_build_g rfl ([(0, .int .i64 f0), (1, .int .i64 f1)]) ((M.mat 2 (DM.t2 f0 f1)).toArray) ?_ (builtP _ _) ?_; (focus (simp only [List.map_toArray, List.map_cons, List.map_nil]; rfl))) | ((with_reducible refine at_alloc 10 ?_); refine wpList_alloc_own O (M.mat 2 M.zero) zeroP ?_; clear O; intro g10 w7 O) | ((with_reducible refine at_store 10 ?_); refine wpList_put_own O 0 (M.mat 2 (DM.t2 f0 f1)) rfl rfl rfl (sP _) (M.mat_len2 _ _ _) (M.mat_one _ _) ?_; clear O; intro w8 O))
          try clear x0 x1
          try clear y0 y1
          clear v1 v2 v3 v4 v5 v6 v7 v8 v9 v10 v11 v12 v13 v14 v15 v16 v17 v18 CC0 CC1
          have O9 := Own.as O (l' := [(g10, 23, M.mat 2 (DM.t2 f0 f1)), (g9, 23, M.mat 2 (DM.t2 c0 c1)), (g3, 23, M.mat 2 a), (g4, 33, two .i16 d0 d1), (g5, 34, two .u8 n0 n1), (g6, 33, two .i16 t0 t1), (g1, 36, cut a d0 d1 n0 n1 t0 t1)]) rfl
          clear O
          have O := O9
          clear O9
          refine region_T ((fun w2 => Own w w2 [(g10, 23, M.mat 2 (DM.t2 f0 f1)), (g9, 23, M.mat 2 (DM.t2 c0 c1)), (g3, 23, M.mat 2 a), (g4, 33, two .i16 d0 d1), (g5, 34, two .u8 n0 n1), (g6, 33, two .i16 t0 t1), (g1, 36, cut a d0 d1 n0 n1 t0 t1)])) [0, 1, 2, 3, 4, 5, 6] 12 [some 86, some 87, some 88, some 89, some 90, some 91, some 11] [.pointer (some ⟨g6, 0, none⟩), .int .i16 t0, .int .i64 t0, .pointer (some ⟨g6, 1, none⟩), .int .i16 t1, .int .i64 t1, .int .i64 t0] 1 (by kernel_rfl) (by rfl) (by kernel_rfl) (by rfl) (by rfl) (O.drew) (fun F hF => ?_)
          simp only [fillD, Act.put, List.setIfInBounds_toArray, List.set_cons_zero, List.set_cons_succ] at hF
          subst hF
          refine ⟨⟨does_want rfl (by rfl) (fun w' O K hK => ?_), does_want rfl (by rfl) (fun w' O K hK => ?_), does_want rfl (by rfl) (fun w' O K hK => ?_), does_want rfl (by rfl) (fun w' O K hK => ?_), does_want rfl (by rfl) (fun w' O K hK => ?_), does_want rfl (by rfl) (fun w' O K hK => ?_), does_want rfl (by rfl) (fun w' O K hK => ?_), trivial⟩, fun w' O => ?_⟩
          · first | (go_simp; exact hK _ O) | exact wp_ino Try.underlying33 sizeOf32 (by decide) 0 rfl rfl (by omega) (by omega) (hK _ O)
          · exact wp_cell_h (v := .int .i16 t0) O.held 5 rfl rfl rfl agg32 rfl (hK _ O)
          · obtain ⟨e1, e2⟩ := Ht.out
            go_simp
            first | exact hK _ O | (rw [e1]; exact hK _ O) | (rw [e2]; exact hK _ O)
          · first | (go_simp; exact hK _ O) | exact wp_ino Try.underlying33 sizeOf32 (by decide) 1 rfl rfl (by omega) (by omega) (hK _ O)
          · exact wp_cell_h (v := .int .i16 t1) O.held 5 rfl rfl rfl agg32 rfl (hK _ O)
          · obtain ⟨e1, e2⟩ := Ht.out
            go_simp
            first | exact hK _ O | (rw [e1]; exact hK _ O) | (rw [e2]; exact hK _ O)
          · go_simp
            exact hK _ O
          refine wpAny_one (i := 7) (by kernel_rfl) rfl (fun K hK => ?_)
          go_simp
          refine hK _ _ ?_
          clear hK K
          try simp only [Act.put, List.setIfInBounds_toArray, List.set_cons_zero, List.set_cons_succ]
          refine wpAny_done (by kernel_rfl) ?_ _
          clear Ht
          have HX := Lib.hid hX
          have HP := Lib.hid hP
          clear hX hP VS
          cases m1
          · cases m2
            · obtain rfl : mw = false := HP.out
              obtain rfl : xz = false := HX.out
              clear HX HP
              go_wp2_with (first | ((with_reducible refine at_load 92 ?_); refine wpList_whole rfl O 2 rfl rfl Try.underlying23 rfl (sP _) ?_) | ((with_reducible refine at_load 93 ?_); refine wpList_whole rfl O 0 rfl rfl Try.underlying23 rfl (sP _) ?_) | (go_at_call 13; clear tok0; have tok1 : True := trivial; refine (CW _).mono ?_; rintro e w10 ⟨rfl, hb⟩; replace O := O.call hb; clear hb) | ((with_reducible refine at_load 98 ?_); refine wpList_whole rfl O 0 rfl rfl Try.underlying23 rfl (sP _) ?_) | (go_at_call 10; refine (CI _).mono ?_; rintro e w11 ⟨rfl, hb⟩; replace O := O.call hb; clear hb) | (go_at_call 9; refine (awake_any _).mono ?_; rintro e w20 ⟨rfl, hb⟩; replace O := O.call hb; clear hb) | ((with_reducible refine at_load 106 ?_); refine wpList_whole rfl O 2 rfl rfl Try.underlying23 rfl (sP _) ?_) | ((with_reducible refine at_load 107 ?_); refine wpList_whole rfl O 1 rfl rfl Try.underlying23 rfl (sP _) ?_) | (go_at_call 13; clear tok1; have tok2 : True := trivial; refine (C1 _).mono ?_; rintro e w12 ⟨rfl, hb⟩; replace O := O.call hb; clear hb) | ((with_reducible refine at_load 112 ?_); refine wpList_whole rfl O 1 rfl rfl Try.underlying23 rfl (sP _) ?_) | ((with_reducible refine at_load 113 ?_); refine wpList_whole rfl O 0 rfl rfl Try.underlying23 rfl (sP _) ?_) | (go_at_call 13; clear tok2; have tok3 : True := trivial; refine (C2 _).mono ?_; rintro e w13 ⟨rfl, hb⟩; replace O := O.call hb; clear hb) | ((with_reducible refine at_load 121 ?_); refine wpList_whole rfl O 2 rfl rfl Try.underlying23 rfl (sP _) ?_) | ((with_reducible refine at_load 122 ?_); refine wpList_whole rfl O 0 rfl rfl Try.underlying23 rfl (sP _) ?_) | (go_at_call 15; refine (CE _).mono ?_; rintro e w14 ⟨rfl, hb⟩; replace O := O.call hb; clear hb))
              go_ret
              exact ⟨rfl, O.below⟩
            · obtain rfl : mw = true := HP.out
              cases ok
              · obtain rfl : xz = true := HX.out
                clear HX HP
                go_wp2_with (first | ((with_reducible refine at_load 92 ?_); refine wpList_whole rfl O 2 rfl rfl Try.underlying23 rfl (sP _) ?_) | ((with_reducible refine at_load 93 ?_); refine wpList_whole rfl O 0 rfl rfl Try.underlying23 rfl (sP _) ?_) | (go_at_call 13; clear tok0; have tok1 : True := trivial; refine (CW _).mono ?_; rintro e w10 ⟨rfl, hb⟩; replace O := O.call hb; clear hb) | ((with_reducible refine at_load 98 ?_); refine wpList_whole rfl O 0 rfl rfl Try.underlying23 rfl (sP _) ?_) | (go_at_call 10; refine (CI _).mono ?_; rintro e w11 ⟨rfl, hb⟩; replace O := O.call hb; clear hb) | (go_at_call 9; refine (awake_any _).mono ?_; rintro e w20 ⟨rfl, hb⟩; replace O := O.call hb; clear hb) | ((with_reducible refine at_load 106 ?_); refine wpList_whole rfl O 2 rfl rfl Try.underlying23 rfl (sP _) ?_) | ((with_reducible refine at_load 107 ?_); refine wpList_whole rfl O 1 rfl rfl Try.underlying23 rfl (sP _) ?_) | (go_at_call 13; clear tok1; have tok2 : True := trivial; refine (C1 _).mono ?_; rintro e w12 ⟨rfl, hb⟩; replace O := O.call hb; clear hb) | ((with_reducible refine at_load 112 ?_); refine wpList_whole rfl O 1 rfl rfl Try.underlying23 rfl (sP _) ?_) | ((with_reducible refine at_load 113 ?_); refine wpList_whole rfl O 0 rfl rfl Try.underlying23 rfl (sP _) ?_) | (go_at_call 13; clear tok2; have tok3 : True := trivial; refine (C2 _).mono ?_; rintro e w13 ⟨rfl, hb⟩; replace O := O.call hb; clear hb) | ((with_reducible refine at_load 121 ?_); refine wpList_whole rfl O 2 rfl rfl Try.underlying23 rfl (sP _) ?_) | ((with_reducible refine at_load 122 ?_); refine wpList_whole rfl O 0 rfl rfl Try.underlying23 rfl (sP _) ?_) | (go_at_call 15; refine (CE _).mono ?_; rintro e w14 ⟨rfl, hb⟩; replace O := O.call hb; clear hb))
                go_ret
                exact ⟨rfl, O.below⟩
              · by_cases q1 : i = t0
                · have q2 := q1.symm
                  subst q2
                  clear q1
                  by_cases q3 : j = t1
                  · have q4 := q3.symm
                    subst q4
                    clear q3
                    obtain rfl : xz = false := by have := HX.out; simpa using this
                    clear HX HP
                    go_wp2_with (first | ((with_reducible refine at_load 92 ?_); refine wpList_whole rfl O 2 rfl rfl Try.underlying23 rfl (sP _) ?_) | ((with_reducible refine at_load 93 ?_); refine wpList_whole rfl O 0 rfl rfl Try.underlying23 rfl (sP _) ?_) | (go_at_call 13; clear tok0; have tok1 : True := trivial; refine (CW _).mono ?_; rintro e w10 ⟨rfl, hb⟩; replace O := O.call hb; clear hb) | ((with_reducible refine at_load 98 ?_); refine wpList_whole rfl O 0 rfl rfl Try.underlying23 rfl (sP _) ?_) | (go_at_call 10; refine (CI _).mono ?_; rintro e w11 ⟨rfl, hb⟩; replace O := O.call hb; clear hb) | (go_at_call 9; refine (awake_any _).mono ?_; rintro e w20 ⟨rfl, hb⟩; replace O := O.call hb; clear hb) | ((with_reducible refine at_load 106 ?_); refine wpList_whole rfl O 2 rfl rfl Try.underlying23 rfl (sP _) ?_) | ((with_reducible refine at_load 107 ?_); refine wpList_whole rfl O 1 rfl rfl Try.underlying23 rfl (sP _) ?_) | (go_at_call 13; clear tok1; have tok2 : True := trivial; refine (C1 _).mono ?_; rintro e w12 ⟨rfl, hb⟩; replace O := O.call hb; clear hb) | ((with_reducible refine at_load 112 ?_); refine wpList_whole rfl O 1 rfl rfl Try.underlying23 rfl (sP _) ?_) | ((with_reducible refine at_load 113 ?_); refine wpList_whole rfl O 0 rfl rfl Try.underlying23 rfl (sP _) ?_) | (go_at_call 13; clear tok2; have tok3 : True := trivial; refine (C2 _).mono ?_; rintro e w13 ⟨rfl, hb⟩; replace O := O.call hb; clear hb) | ((with_reducible refine at_load 121 ?_); refine wpList_whole rfl O 2 rfl rfl Try.underlying23 rfl (sP _) ?_) | ((with_reducible refine at_load 122 ?_); refine wpList_whole rfl O 0 rfl rfl Try.underlying23 rfl (sP _) ?_) | (go_at_call 15; refine (CE _).mono ?_; rintro e w14 ⟨rfl, hb⟩; replace O := O.call hb; clear hb))
                    go_ret
                    exact ⟨rfl, O.below⟩
                  · have z2 : (j == t1) = false := beq_eq_false_iff_ne.2 q3
                    clear q3
                    obtain rfl : xz = true := by have := HX.out; simpa [z2] using this
                    clear HX HP
                    go_wp2_with (first | ((with_reducible refine at_load 92 ?_); refine wpList_whole rfl O 2 rfl rfl Try.underlying23 rfl (sP _) ?_) | ((with_reducible refine at_load 93 ?_); refine wpList_whole rfl O 0 rfl rfl Try.underlying23 rfl (sP _) ?_) | (go_at_call 13; clear tok0; have tok1 : True := trivial; refine (CW _).mono ?_; rintro e w10 ⟨rfl, hb⟩; replace O := O.call hb; clear hb) | ((with_reducible refine at_load 98 ?_); refine wpList_whole rfl O 0 rfl rfl Try.underlying23 rfl (sP _) ?_) | (go_at_call 10; refine (CI _).mono ?_; rintro e w11 ⟨rfl, hb⟩; replace O := O.call hb; clear hb) | (go_at_call 9; refine (awake_any _).mono ?_; rintro e w20 ⟨rfl, hb⟩; replace O := O.call hb; clear hb) | ((with_reducible refine at_load 106 ?_); refine wpList_whole rfl O 2 rfl rfl Try.underlying23 rfl (sP _) ?_) | ((with_reducible refine at_load 107 ?_); refine wpList_whole rfl O 1 rfl rfl Try.underlying23 rfl (sP _) ?_) | (go_at_call 13; clear tok1; have tok2 : True := trivial; refine (C1 _).mono ?_; rintro e w12 ⟨rfl, hb⟩; replace O := O.call hb; clear hb) | ((with_reducible refine at_load 112 ?_); refine wpList_whole rfl O 1 rfl rfl Try.underlying23 rfl (sP _) ?_) | ((with_reducible refine at_load 113 ?_); refine wpList_whole rfl O 0 rfl rfl Try.underlying23 rfl (sP _) ?_) | (go_at_call 13; clear tok2; have tok3 : True := trivial; refine (C2 _).mono ?_; rintro e w13 ⟨rfl, hb⟩; replace O := O.call hb; clear hb) | ((with_reducible refine at_load 121 ?_); refine wpList_whole rfl O 2 rfl rfl Try.underlying23 rfl (sP _) ?_) | ((with_reducible refine at_load 122 ?_); refine wpList_whole rfl O 0 rfl rfl Try.underlying23 rfl (sP _) ?_) | (go_at_call 15; refine (CE _).mono ?_; rintro e w14 ⟨rfl, hb⟩; replace O := O.call hb; clear hb))
                    go_ret
                    exact ⟨rfl, O.below⟩
                · have z1 : (i == t0) = false := beq_eq_false_iff_ne.2 q1
                  clear q1
                  obtain rfl : xz = true := by have := HX.out; simpa [z1] using this
                  clear HX HP
                  go_wp2_with (first | ((with_reducible refine at_load 92 ?_); refine wpList_whole rfl O 2 rfl rfl Try.underlying23 rfl (sP _) ?_) | ((with_reducible refine at_load 93 ?_); refine wpList_whole rfl O 0 rfl rfl Try.underlying23 rfl (sP _) ?_) | (go_at_call 13; clear tok0; have tok1 : True := trivial; refine (CW _).mono ?_; rintro e w10 ⟨rfl, hb⟩; replace O := O.call hb; clear hb) | ((with_reducible refine at_load 98 ?_); refine wpList_whole rfl O 0 rfl rfl Try.underlying23 rfl (sP _) ?_) | (go_at_call 10; refine (CI _).mono ?_; rintro e w11 ⟨rfl, hb⟩; replace O := O.call hb; clear hb) | (go_at_call 9; refine (awake_any _).mono ?_; rintro e w20 ⟨rfl, hb⟩; replace O := O.call hb; clear hb) | ((with_reducible refine at_load 106 ?_); refine wpList_whole rfl O 2 rfl rfl Try.underlying23 rfl (sP _) ?_) | ((with_reducible refine at_load 107 ?_); refine wpList_whole rfl O 1 rfl rfl Try.underlying23 rfl (sP _) ?_) | (go_at_call 13; clear tok1; have tok2 : True := trivial; refine (C1 _).mono ?_; rintro e w12 ⟨rfl, hb⟩; replace O := O.call hb; clear hb) | ((with_reducible refine at_load 112 ?_); refine wpList_whole rfl O 1 rfl rfl Try.underlying23 rfl (sP _) ?_) | ((with_reducible refine at_load 113 ?_); refine wpList_whole rfl O 0 rfl rfl Try.underlying23 rfl (sP _) ?_) | (go_at_call 13; clear tok2; have tok3 : True := trivial; refine (C2 _).mono ?_; rintro e w13 ⟨rfl, hb⟩; replace O := O.call hb; clear hb) | ((with_reducible refine at_load 121 ?_); refine wpList_whole rfl O 2 rfl rfl Try.underlying23 rfl (sP _) ?_) | ((with_reducible refine at_load 122 ?_); refine wpList_whole rfl O 0 rfl rfl Try.underlying23 rfl (sP _) ?_) | (go_at_call 15; refine (CE _).mono ?_; rintro e w14 ⟨rfl, hb⟩; replace O := O.call hb; clear hb))
                  go_ret
                  exact ⟨rfl, O.below⟩
          · obtain rfl : mw = true := by have := HP.out; rw [Bool.true_or] at this; exact this
            clear C2
            cases ok
            · obtain rfl : xz = true := HX.out
              clear HX HP
              go_wp2_with (first | ((with_reducible refine at_load 92 ?_); refine wpList_whole rfl O 2 rfl rfl Try.underlying23 rfl (sP _) ?_) | ((with_reducible refine at_load 93 ?_); refine wpList_whole rfl O 0 rfl rfl Try.underlying23 rfl (sP _) ?_) | (go_at_call 13; clear tok0; have tok1 : True := trivial; refine (CW _).mono ?_; rintro e w10 ⟨rfl, hb⟩; replace O := O.call hb; clear hb) | ((with_reducible refine at_load 98 ?_); refine wpList_whole rfl O 0 rfl rfl Try.underlying23 rfl (sP _) ?_) | (go_at_call 10; refine (CI _).mono ?_; rintro e w11 ⟨rfl, hb⟩; replace O := O.call hb; clear hb) | (go_at_call 9; refine (awake_any _).mono ?_; rintro e w20 ⟨rfl, hb⟩; replace O := O.call hb; clear hb) | ((with_reducible refine at_load 106 ?_); refine wpList_whole rfl O 2 rfl rfl Try.underlying23 rfl (sP _) ?_) | ((with_reducible refine at_load 107 ?_); refine wpList_whole rfl O 1 rfl rfl Try.underlying23 rfl (sP _) ?_) | (go_at_call 13; clear tok1; have tok2 : True := trivial; refine (C1 _).mono ?_; rintro e w12 ⟨rfl, hb⟩; replace O := O.call hb; clear hb) | ((with_reducible refine at_load 121 ?_); refine wpList_whole rfl O 2 rfl rfl Try.underlying23 rfl (sP _) ?_) | ((with_reducible refine at_load 122 ?_); refine wpList_whole rfl O 0 rfl rfl Try.underlying23 rfl (sP _) ?_) | (go_at_call 15; refine (CE _).mono ?_; rintro e w14 ⟨rfl, hb⟩; replace O := O.call hb; clear hb))
              go_ret
              exact ⟨rfl, O.below⟩
            · by_cases q1 : i = t0
              · have q2 := q1.symm
                subst q2
                clear q1
                by_cases q3 : j = t1
                · have q4 := q3.symm
                  subst q4
                  clear q3
                  obtain rfl : xz = false := by have := HX.out; simpa using this
                  clear HX HP
                  go_wp2_with (first | ((with_reducible refine at_load 92 ?_); refine wpList_whole rfl O 2 rfl rfl Try.underlying23 rfl (sP _) ?_) | ((with_reducible refine at_load 93 ?_); refine wpList_whole rfl O 0 rfl rfl Try.underlying23 rfl (sP _) ?_) | (go_at_call 13; clear tok0; have tok1 : True := trivial; refine (CW _).mono ?_; rintro e w10 ⟨rfl, hb⟩; replace O := O.call hb; clear hb) | ((with_reducible refine at_load 98 ?_); refine wpList_whole rfl O 0 rfl rfl Try.underlying23 rfl (sP _) ?_) | (go_at_call 10; refine (CI _).mono ?_; rintro e w11 ⟨rfl, hb⟩; replace O := O.call hb; clear hb) | (go_at_call 9; refine (awake_any _).mono ?_; rintro e w20 ⟨rfl, hb⟩; replace O := O.call hb; clear hb) | ((with_reducible refine at_load 106 ?_); refine wpList_whole rfl O 2 rfl rfl Try.underlying23 rfl (sP _) ?_) | ((with_reducible refine at_load 107 ?_); refine wpList_whole rfl O 1 rfl rfl Try.underlying23 rfl (sP _) ?_) | (go_at_call 13; clear tok1; have tok2 : True := trivial; refine (C1 _).mono ?_; rintro e w12 ⟨rfl, hb⟩; replace O := O.call hb; clear hb) | ((with_reducible refine at_load 121 ?_); refine wpList_whole rfl O 2 rfl rfl Try.underlying23 rfl (sP _) ?_) | ((with_reducible refine at_load 122 ?_); refine wpList_whole rfl O 0 rfl rfl Try.underlying23 rfl (sP _) ?_) | (go_at_call 15; refine (CE _).mono ?_; rintro e w14 ⟨rfl, hb⟩; replace O := O.call hb; clear hb))
                  go_ret
                  exact ⟨rfl, O.below⟩
                · have z2 : (j == t1) = false := beq_eq_false_iff_ne.2 q3
                  clear q3
                  obtain rfl : xz = true := by have := HX.out; simpa [z2] using this
                  clear HX HP
                  go_wp2_with (first | ((with_reducible refine at_load 92 ?_); refine wpList_whole rfl O 2 rfl rfl Try.underlying23 rfl (sP _) ?_) | ((with_reducible refine at_load 93 ?_); refine wpList_whole rfl O 0 rfl rfl Try.underlying23 rfl (sP _) ?_) | (go_at_call 13; clear tok0; have tok1 : True := trivial; refine (CW _).mono ?_; rintro e w10 ⟨rfl, hb⟩; replace O := O.call hb; clear hb) | ((with_reducible refine at_load 98 ?_); refine wpList_whole rfl O 0 rfl rfl Try.underlying23 rfl (sP _) ?_) | (go_at_call 10; refine (CI _).mono ?_; rintro e w11 ⟨rfl, hb⟩; replace O := O.call hb; clear hb) | (go_at_call 9; refine (awake_any _).mono ?_; rintro e w20 ⟨rfl, hb⟩; replace O := O.call hb; clear hb) | ((with_reducible refine at_load 106 ?_); refine wpList_whole rfl O 2 rfl rfl Try.underlying23 rfl (sP _) ?_) | ((with_reducible refine at_load 107 ?_); refine wpList_whole rfl O 1 rfl rfl Try.underlying23 rfl (sP _) ?_) | (go_at_call 13; clear tok1; have tok2 : True := trivial; refine (C1 _).mono ?_; rintro e w12 ⟨rfl, hb⟩; replace O := O.call hb; clear hb) | ((with_reducible refine at_load 121 ?_); refine wpList_whole rfl O 2 rfl rfl Try.underlying23 rfl (sP _) ?_) | ((with_reducible refine at_load 122 ?_); refine wpList_whole rfl O 0 rfl rfl Try.underlying23 rfl (sP _) ?_) | (go_at_call 15; refine (CE _).mono ?_; rintro e w14 ⟨rfl, hb⟩; replace O := O.call hb; clear hb))
                  go_ret
                  exact ⟨rfl, O.below⟩
              · have z1 : (i == t0) = false := beq_eq_false_iff_ne.2 q1
                clear q1
                obtain rfl : xz = true := by have := HX.out; simpa [z1] using this
                clear HX HP
                go_wp2_with (first | ((with_reducible refine at_load 92 ?_); refine wpList_whole rfl O 2 rfl rfl Try.underlying23 rfl (sP _) ?_) | ((with_reducible refine at_load 93 ?_); refine wpList_whole rfl O 0 rfl rfl Try.underlying23 rfl (sP _) ?_) | (go_at_call 13; clear tok0; have tok1 : True := trivial; refine (CW _).mono ?_; rintro e w10 ⟨rfl, hb⟩; replace O := O.call hb; clear hb) | ((with_reducible refine at_load 98 ?_); refine wpList_whole rfl O 0 rfl rfl Try.underlying23 rfl (sP _) ?_) | (go_at_call 10; refine (CI _).mono ?_; rintro e w11 ⟨rfl, hb⟩; replace O := O.call hb; clear hb) | (go_at_call 9; refine (awake_any _).mono ?_; rintro e w20 ⟨rfl, hb⟩; replace O := O.call hb; clear hb) | ((with_reducible refine at_load 106 ?_); refine wpList_whole rfl O 2 rfl rfl Try.underlying23 rfl (sP _) ?_) | ((with_reducible refine at_load 107 ?_); refine wpList_whole rfl O 1 rfl rfl Try.underlying23 rfl (sP _) ?_) | (go_at_call 13; clear tok1; have tok2 : True := trivial; refine (C1 _).mono ?_; rintro e w12 ⟨rfl, hb⟩; replace O := O.call hb; clear hb) | ((with_reducible refine at_load 121 ?_); refine wpList_whole rfl O 2 rfl rfl Try.underlying23 rfl (sP _) ?_) | ((with_reducible refine at_load 122 ?_); refine wpList_whole rfl O 0 rfl rfl Try.underlying23 rfl (sP _) ?_) | (go_at_call 15; refine (CE _).mono ?_; rintro e w14 ⟨rfl, hb⟩; replace O := O.call hb; clear hb))
                go_ret
                exact ⟨rfl, O.below⟩
        · clear EA LO
          go_wp2_with (first | ((with_reducible refine at_load 26 ?_); refine wpList_cell_h (v := .int .i64 (a0)) rfl O.held 0 rfl Ca0.out rfl agg3 rfl ?_) | ((with_reducible refine at_load 30 ?_); refine wpList_cell_h (v := .int .i64 (a0)) rfl O.held 0 rfl Ca0.out rfl agg3 rfl ?_) | ((with_reducible refine at_load 35 ?_); refine wpList_cell_h (v := .int .i64 (a1)) rfl O.held 0 rfl Ca1.out rfl agg3 rfl ?_) | ((with_reducible refine at_load 40 ?_); refine wpList_cell_h (v := .int .i64 (a1)) rfl O.held 0 rfl Ca1.out rfl agg3 rfl ?_) | (go_at_call 9; refine (awake_any _).mono ?_; rintro e w20 ⟨rfl, hb⟩; replace O := O.call hb; clear hb))
          go_ret
          exact ⟨rfl, O.below⟩
      · clear EA LO
        go_wp2_with (first | ((with_reducible refine at_load 26 ?_); refine wpList_cell_h (v := .int .i64 (a0)) rfl O.held 0 rfl Ca0.out rfl agg3 rfl ?_) | ((with_reducible refine at_load 30 ?_); refine wpList_cell_h (v := .int .i64 (a0)) rfl O.held 0 rfl Ca0.out rfl agg3 rfl ?_) | ((with_reducible refine at_load 35 ?_); refine wpList_cell_h (v := .int .i64 (a1)) rfl O.held 0 rfl Ca1.out rfl agg3 rfl ?_) | ((with_reducible refine at_load 40 ?_); refine wpList_cell_h (v := .int .i64 (a1)) rfl O.held 0 rfl Ca1.out rfl agg3 rfl ?_) | (go_at_call 9; refine (awake_any _).mono ?_; rintro e w20 ⟨rfl, hb⟩; replace O := O.call hb; clear hb))
        go_ret
        exact ⟨rfl, O.below⟩
    · clear EA LO
      go_wp2_with (first | ((with_reducible refine at_load 26 ?_); refine wpList_cell_h (v := .int .i64 (a0)) rfl O.held 0 rfl Ca0.out rfl agg3 rfl ?_) | ((with_reducible refine at_load 30 ?_); refine wpList_cell_h (v := .int .i64 (a0)) rfl O.held 0 rfl Ca0.out rfl agg3 rfl ?_) | ((with_reducible refine at_load 35 ?_); refine wpList_cell_h (v := .int .i64 (a1)) rfl O.held 0 rfl Ca1.out rfl agg3 rfl ?_) | ((with_reducible refine at_load 40 ?_); refine wpList_cell_h (v := .int .i64 (a1)) rfl O.held 0 rfl Ca1.out rfl agg3 rfl ?_) | (go_at_call 9; refine (awake_any _).mono ?_; rintro e w20 ⟨rfl, hb⟩; replace O := O.call hb; clear hb))
      go_ret
      exact ⟨rfl, O.below⟩
  · clear EA LO
    go_wp2_with (first | ((with_reducible refine at_load 26 ?_); refine wpList_cell_h (v := .int .i64 (a0)) rfl O.held 0 rfl Ca0.out rfl agg3 rfl ?_) | ((with_reducible refine at_load 30 ?_); refine wpList_cell_h (v := .int .i64 (a0)) rfl O.held 0 rfl Ca0.out rfl agg3 rfl ?_) | ((with_reducible refine at_load 35 ?_); refine wpList_cell_h (v := .int .i64 (a1)) rfl O.held 0 rfl Ca1.out rfl agg3 rfl ?_) | ((with_reducible refine at_load 40 ?_); refine wpList_cell_h (v := .int .i64 (a1)) rfl O.held 0 rfl Ca1.out rfl agg3 rfl ?_) | (go_at_call 9; refine (awake_any _).mono ?_; rintro e w20 ⟨rfl, hb⟩; replace O := O.call hb; clear hb))
    go_ret
    exact ⟨rfl, O.below⟩

theorem readable : ∀ t ∈ Try.f6.params.toList, Try.prog.readableRec t = true ∧ t < Try.prog.types.size := by
  intro t ht
  rw [Try.params6] at ht
  simp only [List.mem_cons, List.not_mem_nil, or_false] at ht
  repeat (first | (rcases ht with rfl | ht; exact ⟨by kernel_rfl, of_decide_eq_true (by kernel_rfl)⟩) | (subst ht; exact ⟨by kernel_rfl, of_decide_eq_true (by kernel_rfl)⟩))
set_option maxRecDepth 100000 in
theorem lifted (os : Os) (started : os.Started) (H : Type) (enc : TypeId × Value → H) :
    ReturnsInHanded {} Try.checked os 6 .any (Rows.diamondPartsSpec.pre6 enc Try.prog Try.f6 Rows.diamondPartsRow.domain false) (Rows.diamondPartsSpec.post enc Try.prog Try.f6 false true false false) := by
  refine returnsInHanded_of_change (C := Try.checked) own started (by kernel_rfl) Try.func6
    (ChangeSpec.witness6 (enc := enc) (C := Try.checked) false ⟨#[], #[.agg #[.int .i64 0, .int .i64 0, .int .i16 0, .int .i16 0, .int .u8 0, .int .u8 0, .int .i16 0, .int .i16 0]], []⟩ 8 (by kernel_rfl) (by kernel_rfl) (by kernel_rfl) (by kernel_rfl)) ?_
  intro W base args ds gs before hval0 hW hcnd _
  have hval : ∀ (j : Nat) t v, Try.f6.params[j]? = some t → args[j]? = some v → Value.okWide Try.prog W .any base t v := hval0
  have hW' := hW
  obtain ⟨p, q, hA0, hV, rfl, hfz, hnd⟩ := hW
  have hA : DataW.TrodAll enc Try.prog W 0 (fun _ => true) true Try.f6.params.toList args.toList ds p := hA0
  rw [Try.params6] at hA hval
  have hlt : ∀ x ∈ p ++ q, x.block < W.heap.size := fun x hx => hW'.lt x hx
  obtain ⟨v0, vs0, d0, ds0, p0, q0, hargs, rfl, rfl, h0, rr0⟩ := trodAll_cons hA
  obtain ⟨rfl, rfl, rfl⟩ := trodAll_nil rr0
  obtain rfl : args = #[v0] := by cases args; simp_all
  obtain ⟨rfl, rfl⟩ := trodVars_none hV
  obtain ⟨a0, d0, d1, n0, n1, t0, t1, rfl, x0⟩ := openCut (hval 0 36 v0 rfl rfl) h0
  clear hA0 hval0
  refine (walk W a0 d0 d1 n0 n1 t0 t1 x0).mono fun e W' ⟨he, hg⟩ => ?_
  subst he
  exact ⟨_, rfl, post_true (tb := 4) laid readable (by kernel_rfl) Try.underlying4 rfl (fun l hl => by
    match l, hl with
    | [_], _ => exact ⟨rfl, rfl, rfl⟩) hW' hg⟩

theorem over : Rows.diamondPartsRow.holds Try.pinned (OpenSpec.ofChange Rows.diamondPartsSpec) :=
  OpenClaim.holds_of_wide 6 Try.f6 rfl rfl rfl rfl rfl rfl rfl ⟨rfl, rfl, rfl, rfl, rfl⟩ rfl rfl rfl rfl rfl (by kernel_rfl) Try.func6 (by kernel_rfl)
    (of_decide_eq_true (by kernel_rfl)) (by unfold Func.isWrapper; first | (rw [if_pos (by decide +kernel)]; kernel_rfl) | (rw [if_neg (by decide +kernel)]; exact ⟨rfl, rfl⟩))
    (fun os started H enc _ => lifted os started H enc)

theorem proved : Rows.DiamondPartsSaid :=
  over
#print axioms proved
end Go.Proofs.Ytkhjjmjdicnpjaa.diamondParts
