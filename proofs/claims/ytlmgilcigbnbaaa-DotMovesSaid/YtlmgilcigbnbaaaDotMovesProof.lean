/-
  DotMoves: a point that is moved by whole pixels has the same fragments, moved; what a rectangle shows of it is what a greater one shows there.
-/
import Derived.Test.YtlmgilcigbnbaaaDs
import Derived.Deep.DeepCutAuto
namespace Go.Proofs.Ytlmgilcigbnbaaa.dotMoves
open Go.ChangeShapes Go.WideShapes Go.ChangeAt Go.RowKit
set_option linter.unusedVariables false
set_option linter.unusedSimpArgs false

theorem own : ownKnob Try.prog.godebug = none := by kernel_rfl

set_option maxRecDepth 100000 in
set_option maxHeartbeats 16000000 in
theorem walk (w : World) (v : Nat → Int) (s k : Int) (r : Nat → Int) (p q : Int) (hpq : (-128 ≤ p ∧ p ≤ 127) ∧ (-128 ≤ q ∧ q ≤ 127)) :
    Calls Try.prog 5 #[.agg (dl v s k r).toArray, .agg (two .i8 p q).toArray] w fun e w' => e = .returned (.bool true) ∧ Below w.heap.size w w' := by
  have O := Held.start w [] (by simp)
  obtain ⟨⟨p1, p2⟩, q1, q2⟩ := hpq
  rcases (by omega : k < 0 ∨ (¬ k < 0 ∧ 2 < k) ∨ (¬ k < 0 ∧ ¬ 2 < k ∧ 20 < s) ∨ (¬ k < 0 ∧ ¬ 2 < k ∧ ¬ 20 < s)) with h | h | h | h
  · have K0 : decide (k < 0) = true := decide_eq_true (by omega)
    clear h p1 p2 q1 q2
    go_enter Try.func5, Try.ntmps5
    go_wp2_with (first | ((with_reducible refine at_box 2 ?_); refine wpList_box_h O (dl v s k r) rfl ?_; clear O; intro g2 w1 O) | ((with_reducible refine at_box 3 ?_); refine wpList_box_h O (two .i8 p q) rfl ?_; clear O; intro g3 w2 O) | ((with_reducible refine at_load 16 ?_); refine wpList_cell_h (v := .int .i64 k) rfl O 1 rfl (dl_k v s k r) rfl agg3 rfl ?_) | (go_at_call 8; refine (awake_any _).mono ?_; rintro e w9 ⟨rfl, hb⟩; replace O := O.call hb; clear hb))
    go_ret
    exact ⟨rfl, O.below⟩
  · have K0 : decide (k < 0) = false := decide_eq_false (by omega)
    have K1 : decide (2 < k) = true := decide_eq_true (by omega)
    clear h p1 p2 q1 q2
    go_enter Try.func5, Try.ntmps5
    go_wp2_with (first | ((with_reducible refine at_box 2 ?_); refine wpList_box_h O (dl v s k r) rfl ?_; clear O; intro g2 w1 O) | ((with_reducible refine at_box 3 ?_); refine wpList_box_h O (two .i8 p q) rfl ?_; clear O; intro g3 w2 O) | ((with_reducible refine at_load 16 ?_); refine wpList_cell_h (v := .int .i64 k) rfl O 1 rfl (dl_k v s k r) rfl agg3 rfl ?_) | ((with_reducible refine at_load 20 ?_); refine wpList_cell_h (v := .int .i64 k) rfl O 1 rfl (dl_k v s k r) rfl agg3 rfl ?_) | (go_at_call 8; refine (awake_any _).mono ?_; rintro e w9 ⟨rfl, hb⟩; replace O := O.call hb; clear hb))
    go_ret
    exact ⟨rfl, O.below⟩
  · have K0 : decide (k < 0) = false := decide_eq_false (by omega)
    have K1 : decide (2 < k) = false := decide_eq_false (by omega)
    have K2 : decide (20 < s) = true := decide_eq_true (by omega)
    clear h p1 p2 q1 q2
    go_enter Try.func5, Try.ntmps5
    go_wp2_with (first | ((with_reducible refine at_box 2 ?_); refine wpList_box_h O (dl v s k r) rfl ?_; clear O; intro g2 w1 O) | ((with_reducible refine at_box 3 ?_); refine wpList_box_h O (two .i8 p q) rfl ?_; clear O; intro g3 w2 O) | ((with_reducible refine at_load 16 ?_); refine wpList_cell_h (v := .int .i64 k) rfl O 1 rfl (dl_k v s k r) rfl agg3 rfl ?_) | ((with_reducible refine at_load 20 ?_); refine wpList_cell_h (v := .int .i64 k) rfl O 1 rfl (dl_k v s k r) rfl agg3 rfl ?_) | ((with_reducible refine at_load 25 ?_); refine wpList_cell_h (v := .int .i64 s) rfl O 1 rfl (dl_s v s k r) rfl agg3 rfl ?_) | (go_at_call 8; refine (awake_any _).mono ?_; rintro e w9 ⟨rfl, hb⟩; replace O := O.call hb; clear hb))
    go_ret
    exact ⟨rfl, O.below⟩
  · have K0 : decide (k < 0) = false := decide_eq_false (by omega)
    have K1 : decide (2 < k) = false := decide_eq_false (by omega)
    have K2 : decide (20 < s) = false := decide_eq_false (by omega)
    obtain ⟨hk0, hk2, hs20⟩ := h
    have hkk : 0 ≤ k ∧ k ≤ 2 := by omega
    have Hp : Hid (IntKind.i64.wrap p = p) := Lib.hid (IntWalk.i64_in _ (by omega))
    have Hq : Hid (IntKind.i64.wrap q = q) := Lib.hid (IntWalk.i64_in _ (by omega))
    obtain ⟨U, hU⟩ : ∃ z, 256 * p = z := ⟨_, rfl⟩
    obtain ⟨V, hV⟩ : ∃ z, 256 * q = z := ⟨_, rfl⟩
    have HU : wrap64 (256 * p) = U := (IntWalk.wrap64_in _ (by omega)).trans hU
    have HV : wrap64 (256 * q) = V := (IntWalk.wrap64_in _ (by omega)).trans hV
    obtain ⟨v0, ev0⟩ : ∃ z, v 0 = z := ⟨_, rfl⟩
    have Cv0 := cell_is (n := 7) ev0 (by decide)
    obtain ⟨v1, ev1⟩ : ∃ z, v 1 = z := ⟨_, rfl⟩
    have Cv1 := cell_is (n := 7) ev1 (by decide)
    obtain ⟨m0, hm0⟩ : ∃ z, wrap64 (v0 + U) = z := ⟨_, rfl⟩
    obtain ⟨m1, hm1⟩ : ∃ z, wrap64 (v1 + V) = z := ⟨_, rfl⟩
    obtain ⟨wv, hwv⟩ : ∃ f : Nat → Int, (fun i => if i = 0 then m0 else if i = 1 then m1 else v i) = f := ⟨_, rfl⟩
    have HA1 : Hid (((M.mat 7 v).set 0 (.int .i64 m0)).set 1 (.int .i64 m1) = M.mat 7 wv) := Lib.hid (by rw [← hwv]; rfl)
    have C1 := fun w => rright19_any v s 0 w
    have C2 := fun w => rright19_any wv s 0 w
    have HMV : DT.right v s 0 = true → wv = DT.mvw v p q := fun h => by
      obtain ⟨hf, _, _⟩ := DT.right_iff.1 h
      obtain ⟨l0, l1, -⟩ := VM.fit_lim hf
      rw [ev0] at l0
      rw [ev1] at l1
      have c1 := (IntWalk.wrap64_in (v0 + U) (by omega)).symm.trans hm0
      have c2 := (IntWalk.wrap64_in (v1 + V) (by omega)).symm.trans hm1
      refine DT.mvw_fit hf ?_ ?_ fun i hi => ?_
      · rw [← hwv, ev0, hU]
        exact c1.symm
      · rw [← hwv, ev1, hV]
        exact c2.symm
      · rw [← hwv]
        show (if i = 0 then m0 else if i = 1 then m1 else v i) = v i
        rw [if_neg (by omega), if_neg (by omega)]
    replace HMV := Lib.hid HMV
    have HPQ := Lib.hid (show (-128 ≤ p ∧ p ≤ 127) ∧ (-128 ≤ q ∧ q ≤ 127) from ⟨⟨p1, p2⟩, q1, q2⟩)
    have HKK := Lib.hid hkk
    have T0 : True := trivial
    obtain ⟨z1, hz1⟩ : ∃ z, DT.right v s 0 = z := ⟨_, rfl⟩
    obtain ⟨z2, hz2⟩ : ∃ z, DT.right wv s 0 = z := ⟨_, rfl⟩
    rw [hz1] at C1
    rw [hz2] at C2
    have HZ1 := Lib.hid hz1
    have HZ2 := Lib.hid hz2
    clear hz1 hz2 hk0 hk2 hs20 hkk p1 p2 q1 q2 hU hV hwv ev0 ev1
    go_enter Try.func5, Try.ntmps5
    go_wp2_with (first | ((with_reducible refine at_box 2 ?_); refine wpList_box_h O (dl v s k r) rfl ?_; clear O; intro g2 w1 O) | ((with_reducible refine at_box 3 ?_); refine wpList_box_h O (two .i8 p q) rfl ?_; clear O; intro g3 w2 O) | ((with_reducible refine at_load 16 ?_); refine wpList_cell_h (v := .int .i64 k) rfl O 1 rfl (dl_k v s k r) rfl agg3 rfl ?_) | ((with_reducible refine at_load 20 ?_); refine wpList_cell_h (v := .int .i64 k) rfl O 1 rfl (dl_k v s k r) rfl agg3 rfl ?_) | ((with_reducible refine at_load 25 ?_); refine wpList_cell_h (v := .int .i64 s) rfl O 1 rfl (dl_s v s k r) rfl agg3 rfl ?_))
    clear K0 K1 K2
    have OO := O
    clear O
    have O := OO
    clear OO
    refine region_T ((fun w2 => Held w w2 [(g3, 43, two .i8 p q), (g2, 29, dl v s k r)] nilRow [])) [0, 1, 2, 3, 4, 5, 6] 12 [some 29, some 30, some 31, some 32, some 33, some 34, some 5] [.pointer (some ⟨g3, 0, none⟩), .int .i8 p, .int .i64 (p), .pointer (some ⟨g3, 1, none⟩), .int .i8 q, .int .i64 (q), .int .i64 (p)] 1 (by kernel_rfl) (by rfl) (by kernel_rfl) (by rfl) (by rfl) (O.drew) (fun F hF => ?_)
    simp only [fillD, Act.put, List.setIfInBounds_toArray, List.set_cons_zero, List.set_cons_succ] at hF
    subst hF
    refine ⟨⟨does_want rfl (by rfl) (fun w' O K hK => ?_), does_want rfl (by rfl) (fun w' O K hK => ?_), does_want rfl (by rfl) (fun w' O K hK => ?_), does_want rfl (by rfl) (fun w' O K hK => ?_), does_want rfl (by rfl) (fun w' O K hK => ?_), does_want rfl (by rfl) (fun w' O K hK => ?_), does_want rfl (by rfl) (fun w' O K hK => ?_), trivial⟩, fun w' O => ?_⟩
    · exact wp_ino Try.underlying43 sizeOfi8 (by decide) (0) rfl rfl (by rfl) (by omega) (hK _ O)
    · exact wp_cell_h (v := .int .i8 p) O 0 (i := 0) rfl rfl rfl aggi8 rfl (hK _ O)
    · go_simp
      first | exact hK _ O | (simp only [Hp.out]; exact hK _ O)
    · exact wp_ino Try.underlying43 sizeOfi8 (by decide) (1) rfl rfl (by rfl) (by omega) (hK _ O)
    · exact wp_cell_h (v := .int .i8 q) O 0 (i := 1) rfl rfl rfl aggi8 rfl (hK _ O)
    · go_simp
      first | exact hK _ O | (simp only [Hq.out]; exact hK _ O)
    · go_simp
      exact hK _ O
    refine wpAny_one (i := 7) (by kernel_rfl) rfl (fun K hK => ?_)
    go_simp
    refine hK _ _ ?_
    clear hK K
    try simp only [Act.put, List.setIfInBounds_toArray, List.set_cons_zero, List.set_cons_succ]
    refine wpAny_done (by kernel_rfl) ?_ _
    clear Hp Hq
    cases z1
    · clear C2
      go_wp2_with (first | ((with_reducible refine at_load 36 ?_); refine wpList_mid_h rfl O 1 rfl (M.mat 7 v) (dl_v v s k r) rfl Try.underlying25 rfl (sW _) ?_) | ((with_reducible refine at_alloc 7 ?_); refine wpList_alloc_h O (M.mat 7 M.zero) zeroW ?_; clear O; intro g7 w3 O) | ((with_reducible refine at_store 7 ?_); refine wpList_put_h O 0 (M.mat 7 (v)) rfl rfl rfl (sW _) (M.mat_len2 _ _ _) (M.mat_one _ _) ?_; clear O; intro w4 O) | ((with_reducible refine at_load 38 ?_); refine wpList_cell_h (v := .int .i64 (v0)) rfl O 0 rfl Cv0.out rfl agg3 rfl ?_) | ((with_reducible refine at_load 43 ?_); refine wpList_cell_h (v := .int .i64 (v1)) rfl O 0 rfl Cv1.out rfl agg3 rfl ?_) | ((with_reducible refine at_store 47 ?_); refine wpList_set_h O 0 (i := 0) (.int .i64 m0) rfl (by first | (rw [M.mat_len]; omega) | (rw [List.length_set, M.mat_len]; omega)) rfl (by first | rfl | exact congrArg (Value.int IntKind.i64) hm0 | exact congrArg (Value.int IntKind.i64) hm1 | (simp only [HU, HV]; first | exact congrArg (Value.int IntKind.i64) hm0 | exact congrArg (Value.int IntKind.i64) hm1)) size3 rfl rfl ?_; clear O; intro w5 O) | ((with_reducible refine at_store 48 ?_); refine wpList_set_h O 0 (i := 1) (.int .i64 m1) rfl (by first | (rw [M.mat_len]; omega) | (rw [List.length_set, M.mat_len]; omega)) rfl (by first | rfl | exact congrArg (Value.int IntKind.i64) hm0 | exact congrArg (Value.int IntKind.i64) hm1 | (simp only [HU, HV]; first | exact congrArg (Value.int IntKind.i64) hm0 | exact congrArg (Value.int IntKind.i64) hm1)) size3 rfl rfl ?_; clear O; intro w6 O; have O9 : Held w w6 [(g7, 25, M.mat 7 wv), (g3, 43, two .i8 p q), (g2, 29, dl v s k r)] nilRow [] := (by have e1 := HA1.out; have O8 := O; simp only [List.set_cons_zero, List.set_cons_succ] at O8; rw [e1] at O8; exact O8); clear O; have O := O9; clear O9) | ((with_reducible refine at_load 50 ?_); refine wpList_mid_h rfl O 2 rfl (M.mat 7 v) (dl_v v s k r) rfl Try.underlying25 rfl (sW _) ?_) | ((with_reducible refine at_load 52 ?_); refine wpList_cell_h (v := .int .i64 s) rfl O 2 rfl (dl_s v s k r) rfl agg3 rfl ?_) | (go_at_call 10; clear T0; have T1 : True := trivial; refine (C1 _).mono ?_; rintro e w7 ⟨rfl, hb⟩; replace O := O.call hb; clear hb) | (go_at_call 8; refine (awake_any _).mono ?_; rintro e w9 ⟨rfl, hb⟩; replace O := O.call hb; clear hb))
      go_ret
      exact ⟨rfl, O.below⟩
    cases z2
    · go_wp2_with (first | ((with_reducible refine at_load 36 ?_); refine wpList_mid_h rfl O 1 rfl (M.mat 7 v) (dl_v v s k r) rfl Try.underlying25 rfl (sW _) ?_) | ((with_reducible refine at_alloc 7 ?_); refine wpList_alloc_h O (M.mat 7 M.zero) zeroW ?_; clear O; intro g7 w3 O) | ((with_reducible refine at_store 7 ?_); refine wpList_put_h O 0 (M.mat 7 (v)) rfl rfl rfl (sW _) (M.mat_len2 _ _ _) (M.mat_one _ _) ?_; clear O; intro w4 O) | ((with_reducible refine at_load 38 ?_); refine wpList_cell_h (v := .int .i64 (v0)) rfl O 0 rfl Cv0.out rfl agg3 rfl ?_) | ((with_reducible refine at_load 43 ?_); refine wpList_cell_h (v := .int .i64 (v1)) rfl O 0 rfl Cv1.out rfl agg3 rfl ?_) | ((with_reducible refine at_store 47 ?_); refine wpList_set_h O 0 (i := 0) (.int .i64 m0) rfl (by first | (rw [M.mat_len]; omega) | (rw [List.length_set, M.mat_len]; omega)) rfl (by first | rfl | exact congrArg (Value.int IntKind.i64) hm0 | exact congrArg (Value.int IntKind.i64) hm1 | (simp only [HU, HV]; first | exact congrArg (Value.int IntKind.i64) hm0 | exact congrArg (Value.int IntKind.i64) hm1)) size3 rfl rfl ?_; clear O; intro w5 O) | ((with_reducible refine at_store 48 ?_); refine wpList_set_h O 0 (i := 1) (.int .i64 m1) rfl (by first | (rw [M.mat_len]; omega) | (rw [List.length_set, M.mat_len]; omega)) rfl (by first | rfl | exact congrArg (Value.int IntKind.i64) hm0 | exact congrArg (Value.int IntKind.i64) hm1 | (simp only [HU, HV]; first | exact congrArg (Value.int IntKind.i64) hm0 | exact congrArg (Value.int IntKind.i64) hm1)) size3 rfl rfl ?_; clear O; intro w6 O; have O9 : Held w w6 [(g7, 25, M.mat 7 wv), (g3, 43, two .i8 p q), (g2, 29, dl v s k r)] nilRow [] := (by have e1 := HA1.out; have O8 := O; simp only [List.set_cons_zero, List.set_cons_succ] at O8; rw [e1] at O8; exact O8); clear O; have O := O9; clear O9) | ((with_reducible refine at_load 50 ?_); refine wpList_mid_h rfl O 2 rfl (M.mat 7 v) (dl_v v s k r) rfl Try.underlying25 rfl (sW _) ?_) | ((with_reducible refine at_load 52 ?_); refine wpList_cell_h (v := .int .i64 s) rfl O 2 rfl (dl_s v s k r) rfl agg3 rfl ?_) | (go_at_call 10; clear T0; have T1 : True := trivial; refine (C1 _).mono ?_; rintro e w7 ⟨rfl, hb⟩; replace O := O.call hb; clear hb) | ((with_reducible refine at_load 56 ?_); refine wpList_rowg_h rfl O 0 rfl rfl Try.underlying25 rfl (sW _) ?_) | ((with_reducible refine at_load 58 ?_); refine wpList_cell_h (v := .int .i64 s) rfl O 2 rfl (dl_s v s k r) rfl agg3 rfl ?_) | (go_at_call 10; clear T1; have T2 : True := trivial; refine (C2 _).mono ?_; rintro e w8 ⟨rfl, hb⟩; replace O := O.call hb; clear hb) | (go_at_call 8; refine (awake_any _).mono ?_; rintro e w9 ⟨rfl, hb⟩; replace O := O.call hb; clear hb))
      go_ret
      exact ⟨rfl, O.below⟩
    have hz1 := HZ1.out
    have hz2 := HZ2.out
    have hmv := HMV.out hz1
    have hkk := HKK.out
    have hr1 := DT.right_kind hz1 hkk
    have hr2 := DT.right_kind hz2 hkk
    obtain ⟨hp_, hq_⟩ := HPQ.out
    obtain ⟨wr1, wr2, wb⟩ := DT.whole_lim hr1 hp_ hq_
    obtain ⟨hf, hsz, _⟩ := DT.right_iff.1 hr1
    have hwo := DT.whole_ok hr1
    have CW := fun w => whole_any v s hf (by omega) w
    have CL := fun w => ppoint19_any v s k (DT.whole v s) (by omega) w
    have CM := fun w => ppoint19_any wv s k (DT.mvr (DT.whole v s) p q) (by omega) w
    have CA := fun w => rand_any (DT.whole v s) r w
    have CN := fun w => ppoint19_any v s k (RC.both (DT.whole v s) r) (by have := DT.both_area (q := r) hwo.1; omega) w
    have CH := Lib.hid (fun x y w => rhas_any r x y w)
    have hLM : DT.pt wv s k (DT.mvr (DT.whole v s) p q) = (DT.pt v s k (DT.whole v s)).map fun f => DT.mvf f p q := by
      rw [hmv]
      exact DT.pt_moved hr1 (by rw [← hmv]; exact hr2) hwo.1 wr1
    have hLC := DT.pt_both (v := v) (r := r) (s := s) (k := k)
    have hlen : (DT.pt v s k (DT.whole v s)).length ≤ 1000000 := Nat.le_trans (DT.pt_len (n := 17689) hwo.2) (by decide)
    have hlim := fun f => @DT.pt_lim v (DT.whole v s) s k f
    have hmr : DT.mvr (DT.whole v s) p q = RC.mk (DT.whole v s 0 + p) (DT.whole v s 1 + q) (DT.whole v s 2 + p) (DT.whole v s 3 + q) := rfl
    rw [hmr] at CM hLM
    obtain ⟨LA, hLA⟩ : ∃ l, DT.pt v s k (DT.whole v s) = l := ⟨_, rfl⟩
    obtain ⟨LC, hLC2⟩ : ∃ l, DT.pt v s k (RC.both (DT.whole v s) r) = l := ⟨_, rfl⟩
    rw [hLA] at CL hLM hLC hlen hlim
    rw [hLC2] at CN hLC
    obtain ⟨y0, ey0⟩ : ∃ z, DT.whole v s 0 = z := ⟨_, rfl⟩
    have Cy0 := cell_is (n := 4) ey0 (by decide)
    obtain ⟨y1, ey1⟩ : ∃ z, DT.whole v s 1 = z := ⟨_, rfl⟩
    have Cy1 := cell_is (n := 4) ey1 (by decide)
    obtain ⟨y2, ey2⟩ : ∃ z, DT.whole v s 2 = z := ⟨_, rfl⟩
    have Cy2 := cell_is (n := 4) ey2 (by decide)
    obtain ⟨y3, ey3⟩ : ∃ z, DT.whole v s 3 = z := ⟨_, rfl⟩
    have Cy3 := cell_is (n := 4) ey3 (by decide)
    rw [ey0, ey1, ey2, ey3] at CM hLM wb
    obtain ⟨x0, hx0⟩ : ∃ z, y0 + p = z := ⟨_, rfl⟩
    have X0 : Hid (IntKind.i64.wrap (y0 + p) = x0) := Lib.hid ((IntWalk.i64_in _ (by omega)).trans hx0)
    obtain ⟨x1, hx1⟩ : ∃ z, y1 + q = z := ⟨_, rfl⟩
    have X1 : Hid (IntKind.i64.wrap (y1 + q) = x1) := Lib.hid ((IntWalk.i64_in _ (by omega)).trans hx1)
    obtain ⟨x2, hx2⟩ : ∃ z, y2 + p = z := ⟨_, rfl⟩
    have X2 : Hid (IntKind.i64.wrap (y2 + p) = x2) := Lib.hid ((IntWalk.i64_in _ (by omega)).trans hx2)
    obtain ⟨x3, hx3⟩ : ∃ z, y3 + q = z := ⟨_, rfl⟩
    have X3 : Hid (IntKind.i64.wrap (y3 + q) = x3) := Lib.hid ((IntWalk.i64_in _ (by omega)).trans hx3)
    rw [hx0, hx1, hx2, hx3] at CM hLM
    obtain ⟨LB, hLB⟩ : ∃ l, DT.pt wv s k (RC.mk x0 x1 x2 x3) = l := ⟨_, rfl⟩
    rw [hLB] at CM hLM
    obtain ⟨bo, hbo⟩ : ∃ b, RC.both (DT.whole v s) r = b := ⟨_, rfl⟩
    rw [hbo] at CA CN
    generalize DT.whole v s = wh at *
    have HLIM := Lib.hid hlim
    have HLEN := Lib.hid hlen
    have HM := Lib.hid hLM
    have HC := Lib.hid hLC
    clear hz1 hz2 hmv hkk hr1 hr2 hp_ hq_ wr1 wr2 wb hf hsz hwo hmr hLA hLC2 hLB hbo hlen hlim hLM hLC hx0 hx1 hx2 hx3 ey0 ey1 ey2 ey3 HMV HZ1 HZ2 HKK
    go_wp2_with (first | ((with_reducible refine at_load 36 ?_); refine wpList_mid_h rfl O 1 rfl (M.mat 7 v) (dl_v v s k r) rfl Try.underlying25 rfl (sW _) ?_) | ((with_reducible refine at_alloc 7 ?_); refine wpList_alloc_h O (M.mat 7 M.zero) zeroW ?_; clear O; intro g7 w3 O) | ((with_reducible refine at_store 7 ?_); refine wpList_put_h O 0 (M.mat 7 (v)) rfl rfl rfl (sW _) (M.mat_len2 _ _ _) (M.mat_one _ _) ?_; clear O; intro w4 O) | ((with_reducible refine at_load 38 ?_); refine wpList_cell_h (v := .int .i64 (v0)) rfl O 0 rfl Cv0.out rfl agg3 rfl ?_) | ((with_reducible refine at_load 43 ?_); refine wpList_cell_h (v := .int .i64 (v1)) rfl O 0 rfl Cv1.out rfl agg3 rfl ?_) | ((with_reducible refine at_store 47 ?_); refine wpList_set_h O 0 (i := 0) (.int .i64 m0) rfl (by first | (rw [M.mat_len]; omega) | (rw [List.length_set, M.mat_len]; omega)) rfl (by first | rfl | exact congrArg (Value.int IntKind.i64) hm0 | exact congrArg (Value.int IntKind.i64) hm1 | (simp only [HU, HV]; first | exact congrArg (Value.int IntKind.i64) hm0 | exact congrArg (Value.int IntKind.i64) hm1)) size3 rfl rfl ?_; clear O; intro w5 O) | ((with_reducible refine at_store 48 ?_); refine wpList_set_h O 0 (i := 1) (.int .i64 m1) rfl (by first | (rw [M.mat_len]; omega) | (rw [List.length_set, M.mat_len]; omega)) rfl (by first | rfl | exact congrArg (Value.int IntKind.i64) hm0 | exact congrArg (Value.int IntKind.i64) hm1 | (simp only [HU, HV]; first | exact congrArg (Value.int IntKind.i64) hm0 | exact congrArg (Value.int IntKind.i64) hm1)) size3 rfl rfl ?_; clear O; intro w6 O; have O9 : Held w w6 [(g7, 25, M.mat 7 wv), (g3, 43, two .i8 p q), (g2, 29, dl v s k r)] nilRow [] := (by have e1 := HA1.out; have O8 := O; simp only [List.set_cons_zero, List.set_cons_succ] at O8; rw [e1] at O8; exact O8); clear O; have O := O9; clear O9) | ((with_reducible refine at_load 50 ?_); refine wpList_mid_h rfl O 2 rfl (M.mat 7 v) (dl_v v s k r) rfl Try.underlying25 rfl (sW _) ?_) | ((with_reducible refine at_load 52 ?_); refine wpList_cell_h (v := .int .i64 s) rfl O 2 rfl (dl_s v s k r) rfl agg3 rfl ?_) | (go_at_call 10; clear T0; have T1 : True := trivial; refine (C1 _).mono ?_; rintro e w7 ⟨rfl, hb⟩; replace O := O.call hb; clear hb) | ((with_reducible refine at_load 56 ?_); refine wpList_rowg_h rfl O 0 rfl rfl Try.underlying25 rfl (sW _) ?_) | ((with_reducible refine at_load 58 ?_); refine wpList_cell_h (v := .int .i64 s) rfl O 2 rfl (dl_s v s k r) rfl agg3 rfl ?_) | (go_at_call 10; clear T1; have T2 : True := trivial; refine (C2 _).mono ?_; rintro e w8 ⟨rfl, hb⟩; replace O := O.call hb; clear hb) | ((with_reducible refine at_load 64 ?_); refine wpList_mid_h rfl O 2 rfl (M.mat 7 v) (dl_v v s k r) rfl Try.underlying25 rfl (sW _) ?_) | ((with_reducible refine at_load 66 ?_); refine wpList_cell_h (v := .int .i64 s) rfl O 2 rfl (dl_s v s k r) rfl agg3 rfl ?_) | (go_at_call 16; refine (CW _).mono ?_; rintro e x1w ⟨rfl, hb⟩; replace O := O.call hb; clear hb) | ((with_reducible refine at_alloc 8 ?_); refine wpList_alloc_h O (M.mat 4 M.zero) zeroR ?_; clear O; intro g8 x2w O) | ((with_reducible refine at_store 8 ?_); refine wpList_put_h O 0 (M.mat 4 (wh)) rfl rfl rfl (sR _) (M.mat_len2 _ _ _) (M.mat_one _ _) ?_; clear O; intro x3w O))
    have OX := O.1
    clear O C1 C2 T2 CW HU HV hm0 hm1 HA1 Cv0 Cv1
    have O : Own w x3w [(g8, 27, M.mat 4 wh), (g7, 25, M.mat 7 wv), (g3, 43, two .i8 p q), (g2, 29, dl v s k r)] := OX
    clear OX
    refine region_S (fun st w2 => HS2 w [(g8, 27, M.mat 4 wh), (g7, 25, M.mat 7 wv), (g3, 43, two .i8 p q), (g2, 29, dl v s k r)] 7 30 LA LB st w2) [7, 30] 12 32 [some 68, some 69, some 70, some 71, some 72, some 73, some 74, some 75, some 76, some 77, some 78, some 79, some 80, some 81, some 82, some 83, some 84, some 85, some 86, some 87, some 88, some 89, some 90, some 91, some 92, some 93, some 94, some 95, some 96, some 97, some 98, some 9] (fun g => [.pointer (some ⟨g2, 0, none⟩), arr 7 v, .pointer (some ⟨g2, 7, none⟩), .int .i64 (s), .pointer (some ⟨g2, 8, none⟩), .int .i64 (k), arr 4 wh, g 7, arr 7 wv, .pointer (some ⟨g2, 7, none⟩), .int .i64 (s), .pointer (some ⟨g2, 8, none⟩), .int .i64 (k), .pointer (some ⟨g8, 0, none⟩), .int .i64 (y0), .int .i64 (p), .int .i64 (x0), .pointer (some ⟨g8, 1, none⟩), .int .i64 (y1), .int .i64 (q), .int .i64 (x1), .pointer (some ⟨g8, 2, none⟩), .int .i64 (y2), .int .i64 (p), .int .i64 (x2), .pointer (some ⟨g8, 3, none⟩), .int .i64 (y3), .int .i64 (q), .int .i64 (x3), arr 4 (RC.mk x0 x1 x2 x3), g 30, g 7]) 1 (by kernel_rfl) (by kernel_rfl) (by rfl) (by rfl) (fun _ => rfl) (by decide) ?_ (HS2.start O.drew) (fun F hF => ?_)
    · intro i hi
      simp only [List.mem_cons, List.not_mem_nil, or_false] at hi
      rcases hi with rfl | rfl
      · exact ⟨fun _ => rfl, [0, 1, 2, 3, 4, 5, 6, 8, 9, 10, 11, 12, 13, 14, 15, 16, 17, 18, 19, 20, 21, 22, 23, 24, 25, 26, 27, 28, 29, 30], by kernel_rfl, fun g v => ⟨rfl, rfl, rfl, rfl, rfl, rfl, rfl, rfl, rfl, rfl, rfl, rfl, rfl, rfl, rfl, rfl, rfl, rfl, rfl, rfl, rfl, rfl, rfl, rfl, rfl, rfl, rfl, rfl, rfl, rfl, trivial⟩⟩
      · exact ⟨fun _ => rfl, [0, 1, 2, 3, 4, 5, 6, 7, 8, 9, 10, 11, 12, 13, 14, 15, 16, 17, 18, 19, 20, 21, 22, 23, 24, 25, 26, 27, 28, 29, 31], by kernel_rfl, fun g v => ⟨rfl, rfl, rfl, rfl, rfl, rfl, rfl, rfl, rfl, rfl, rfl, rfl, rfl, rfl, rfl, rfl, rfl, rfl, rfl, rfl, rfl, rfl, rfl, rfl, rfl, rfl, rfl, rfl, rfl, rfl, rfl, trivial⟩⟩
    simp only [fillD, Act.put, List.setIfInBounds_toArray, List.set_cons_zero, List.set_cons_succ] at hF
    have hF2 := funext hF
    clear hF
    subst hF2
    refine ⟨⟨doesN_want (by decide) rfl (fun g => rfl) (fun st w' hS hp K hK => ?_), doesN_want (by decide) rfl (fun g => rfl) (fun st w' hS hp K hK => ?_), doesN_want (by decide) rfl (fun g => rfl) (fun st w' hS hp K hK => ?_), doesN_want (by decide) rfl (fun g => rfl) (fun st w' hS hp K hK => ?_), doesN_want (by decide) rfl (fun g => rfl) (fun st w' hS hp K hK => ?_), doesN_want (by decide) rfl (fun g => rfl) (fun st w' hS hp K hK => ?_), doesN_want (by decide) rfl (fun g => rfl) (fun st w' hS hp K hK => ?_), doesC_want (by decide) rfl (fun g => rfl) (fun st w' hS hn hp K hK => ?_), doesN_want (by decide) rfl (fun g => rfl) (fun st w' hS hp K hK => ?_), doesN_want (by decide) rfl (fun g => rfl) (fun st w' hS hp K hK => ?_), doesN_want (by decide) rfl (fun g => rfl) (fun st w' hS hp K hK => ?_), doesN_want (by decide) rfl (fun g => rfl) (fun st w' hS hp K hK => ?_), doesN_want (by decide) rfl (fun g => rfl) (fun st w' hS hp K hK => ?_), doesN_want (by decide) rfl (fun g => rfl) (fun st w' hS hp K hK => ?_), doesN_want (by decide) rfl (fun g => rfl) (fun st w' hS hp K hK => ?_), doesN_want (by decide) rfl (fun g => rfl) (fun st w' hS hp K hK => ?_), doesN_want (by decide) rfl (fun g => rfl) (fun st w' hS hp K hK => ?_), doesN_want (by decide) rfl (fun g => rfl) (fun st w' hS hp K hK => ?_), doesN_want (by decide) rfl (fun g => rfl) (fun st w' hS hp K hK => ?_), doesN_want (by decide) rfl (fun g => rfl) (fun st w' hS hp K hK => ?_), doesN_want (by decide) rfl (fun g => rfl) (fun st w' hS hp K hK => ?_), doesN_want (by decide) rfl (fun g => rfl) (fun st w' hS hp K hK => ?_), doesN_want (by decide) rfl (fun g => rfl) (fun st w' hS hp K hK => ?_), doesN_want (by decide) rfl (fun g => rfl) (fun st w' hS hp K hK => ?_), doesN_want (by decide) rfl (fun g => rfl) (fun st w' hS hp K hK => ?_), doesN_want (by decide) rfl (fun g => rfl) (fun st w' hS hp K hK => ?_), doesN_want (by decide) rfl (fun g => rfl) (fun st w' hS hp K hK => ?_), doesN_want (by decide) rfl (fun g => rfl) (fun st w' hS hp K hK => ?_), doesN_want (by decide) rfl (fun g => rfl) (fun st w' hS hp K hK => ?_), doesN_want (by decide) rfl (fun g => rfl) (fun st w' hS hp K hK => ?_), doesC_want (by decide) rfl (fun g => rfl) (fun st w' hS hn hp K hK => ?_), doesN_want (by decide) rfl (fun g => rfl) (fun st w' hS hp K hK => ?_), trivial⟩, fun st w' hS hall => ?_⟩
    · try dsimp only
      go_simp
      exact hK _ hS
    · try dsimp only
      exact wp_mid_h hS.1.held 3 rfl (M.mat 7 v) (dl_v v s k r) rfl Try.underlying25 rfl (sW _) (hK _ hS)
    · try dsimp only
      go_simp
      exact hK _ hS
    · try dsimp only
      exact wp_cell_h (v := .int .i64 s) hS.1.held 3 rfl (dl_s v s k r) rfl agg3 rfl (hK _ hS)
    · try dsimp only
      go_simp
      exact hK _ hS
    · try dsimp only
      exact wp_cell_h (v := .int .i64 k) hS.1.held 3 rfl (dl_k v s k r) rfl agg3 rfl (hK _ hS)
    · try dsimp only
      exact wp_row_h hS.1.held 0 rfl rfl Try.underlying27 rfl (sR _) (hK _ hS)
    · try dsimp only
      go_simp
      go_at_call 14
      refine (CL _).mono ?_
      rintro e w2 ⟨VA, vc, rfl, hL, hb⟩
      exact hK _ _ (hS.gain1 (by decide) hL hb)
    · try dsimp only
      exact wp_row_h hS.1.held 1 rfl rfl Try.underlying25 rfl (sW _) (hK _ hS)
    · try dsimp only
      go_simp
      exact hK _ hS
    · try dsimp only
      exact wp_cell_h (v := .int .i64 s) hS.1.held 3 rfl (dl_s v s k r) rfl agg3 rfl (hK _ hS)
    · try dsimp only
      go_simp
      exact hK _ hS
    · try dsimp only
      exact wp_cell_h (v := .int .i64 k) hS.1.held 3 rfl (dl_k v s k r) rfl agg3 rfl (hK _ hS)
    · try dsimp only
      go_simp
      exact hK _ hS
    · try dsimp only
      exact wp_cell_h (v := .int .i64 y0) hS.1.held 0 rfl Cy0.out rfl agg3 rfl (hK _ hS)
    · try dsimp only
      go_simp
      exact hK _ hS
    · try dsimp only
      go_simp
      simp only [X0.out]
      exact hK _ hS
    · try dsimp only
      go_simp
      exact hK _ hS
    · try dsimp only
      exact wp_cell_h (v := .int .i64 y1) hS.1.held 0 rfl Cy1.out rfl agg3 rfl (hK _ hS)
    · try dsimp only
      go_simp
      exact hK _ hS
    · try dsimp only
      go_simp
      simp only [X1.out]
      exact hK _ hS
    · try dsimp only
      go_simp
      exact hK _ hS
    · try dsimp only
      exact wp_cell_h (v := .int .i64 y2) hS.1.held 0 rfl Cy2.out rfl agg3 rfl (hK _ hS)
    · try dsimp only
      go_simp
      exact hK _ hS
    · try dsimp only
      go_simp
      simp only [X2.out]
      exact hK _ hS
    · try dsimp only
      go_simp
      exact hK _ hS
    · try dsimp only
      exact wp_cell_h (v := .int .i64 y3) hS.1.held 0 rfl Cy3.out rfl agg3 rfl (hK _ hS)
    · try dsimp only
      go_simp
      exact hK _ hS
    · try dsimp only
      go_simp
      simp only [X3.out]
      exact hK _ hS
    · try dsimp only
      refine wp_build_own ([(0, .int .i64 x0), (1, .int .i64 x1), (2, .int .i64 x2), (3, .int .i64 x3)]) ((M.mat 4 (RC.mk x0 x1 x2 x3)).toArray) ?_ (builtR17 _ _ _ _) (hK _ hS)
      simp only [List.map_toArray, List.map_cons, List.map_nil]
      rfl
    · try dsimp only
      go_simp
      go_at_call 14
      refine (CM _).mono ?_
      rintro e w2 ⟨VA, vc, rfl, hL, hb⟩
      exact hK _ _ (hS.gain2 (by decide) hL hb)
    · try dsimp only
      go_simp
      exact hK _ hS
    try dsimp only
    clear O
    obtain ⟨XA, xc, e1, h1⟩ := hS.get1 (hall 7 (by decide))
    obtain ⟨YA, yc, e2, h2⟩ := hS.get2 (hall 30 (by decide))
    have O : Held w w' [(g8, 27, M.mat 4 wh), (g7, 25, M.mat 7 wv), (g3, 43, two .i8 p q), (g2, 29, dl v s k r)] nilRow [gE w.heap.size XA xc LA, gE w.heap.size YA yc LB] := Held.two h1 h2
    clear h1 h2 hS
    simp only [seen, e1, e2, Option.getD_some]
    clear hall e1 e2
    refine wpAny_one (i := 32) (by kernel_rfl) rfl (fun K hK => ?_)
    go_simp
    refine hK _ _ ?_
    clear hK K
    try simp only [Act.put, List.setIfInBounds_toArray, List.set_cons_zero, List.set_cons_succ]
    refine wpAny_done (by kernel_rfl) ?_ _
    clear CL CM X0 X1 X2 X3 Cy0 Cy1 Cy2 Cy3
    go_wp2_with fail
    have OX : Held w _ [(g8, 27, M.mat 4 wh), (g7, 25, M.mat 7 wv), (g3, 43, two .i8 p q), (g2, 29, dl v s k r)] nilRow [gE w.heap.size XA xc LA, gE w.heap.size YA yc LB] := O
    clear O
    have O := OX
    clear OX
    refine region_S (fun st w2 => HS1 w [(g8, 27, M.mat 4 wh), (g7, 25, M.mat 7 wv), (g3, 43, two .i8 p q), (g2, 29, dl v s k r)] [gE w.heap.size XA xc LA, gE w.heap.size YA yc LB] 10 LC st w2) [10] 12 11 [some 99, some 100, some 101, some 102, some 103, some 104, some 105, some 106, some 107, some 108, some 109] (fun g => [.pointer (some ⟨g2, 0, none⟩), arr 7 v, .pointer (some ⟨g2, 7, none⟩), .int .i64 (s), .pointer (some ⟨g2, 8, none⟩), .int .i64 (k), arr 4 wh, .pointer (some ⟨g2, 9, none⟩), arr 4 r, arr 4 bo, g 10]) 1 (by kernel_rfl) (by kernel_rfl) (by rfl) (by rfl) (fun _ => rfl) (by decide) ?_ (HS1.start O.drew) (fun F hF => ?_)
    · intro i hi
      simp only [List.mem_cons, List.not_mem_nil, or_false] at hi
      rcases hi with rfl
      · exact ⟨fun _ => rfl, [0, 1, 2, 3, 4, 5, 6, 7, 8, 9], by kernel_rfl, fun g v => ⟨rfl, rfl, rfl, rfl, rfl, rfl, rfl, rfl, rfl, rfl, trivial⟩⟩
    simp only [fillD, Act.put, List.setIfInBounds_toArray, List.set_cons_zero, List.set_cons_succ] at hF
    have hF2 := funext hF
    clear hF
    subst hF2
    refine ⟨⟨doesN_want (by decide) rfl (fun g => rfl) (fun st w' hS hp K hK => ?_), doesN_want (by decide) rfl (fun g => rfl) (fun st w' hS hp K hK => ?_), doesN_want (by decide) rfl (fun g => rfl) (fun st w' hS hp K hK => ?_), doesN_want (by decide) rfl (fun g => rfl) (fun st w' hS hp K hK => ?_), doesN_want (by decide) rfl (fun g => rfl) (fun st w' hS hp K hK => ?_), doesN_want (by decide) rfl (fun g => rfl) (fun st w' hS hp K hK => ?_), doesN_want (by decide) rfl (fun g => rfl) (fun st w' hS hp K hK => ?_), doesN_want (by decide) rfl (fun g => rfl) (fun st w' hS hp K hK => ?_), doesN_want (by decide) rfl (fun g => rfl) (fun st w' hS hp K hK => ?_), doesN_want (by decide) rfl (fun g => rfl) (fun st w' hS hp K hK => ?_), doesC_want (by decide) rfl (fun g => rfl) (fun st w' hS hn hp K hK => ?_), trivial⟩, fun st w' hS hall => ?_⟩
    · try dsimp only
      go_simp
      exact hK _ hS
    · try dsimp only
      exact wp_mid_h hS.1 3 rfl (M.mat 7 v) (dl_v v s k r) rfl Try.underlying25 rfl (sW _) (hK _ hS)
    · try dsimp only
      go_simp
      exact hK _ hS
    · try dsimp only
      exact wp_cell_h (v := .int .i64 s) hS.1 3 rfl (dl_s v s k r) rfl agg3 rfl (hK _ hS)
    · try dsimp only
      go_simp
      exact hK _ hS
    · try dsimp only
      exact wp_cell_h (v := .int .i64 k) hS.1 3 rfl (dl_k v s k r) rfl agg3 rfl (hK _ hS)
    · try dsimp only
      exact wp_row_h hS.1 0 rfl rfl Try.underlying27 rfl (sR _) (hK _ hS)
    · try dsimp only
      go_simp
      exact hK _ hS
    · try dsimp only
      exact wp_mid_h hS.1 3 rfl (M.mat 4 r) (dl_r v s k r) rfl Try.underlying27 rfl (sR _) (hK _ hS)
    · try dsimp only
      go_simp
      go_at_call 18
      refine (CA _).mono ?_
      rintro e w2 ⟨rfl, hb⟩
      exact hK _ (hS.call hb)
    · try dsimp only
      go_simp
      go_at_call 14
      refine (CN _).mono ?_
      rintro e w2 ⟨VA, vc, rfl, hL, hb⟩
      exact hK _ _ (hS.gain hL hb)
    try dsimp only
    clear O
    obtain ⟨ZA, zc, e1, h1⟩ := hS.get (hall 10 (by decide))
    have O : Held w w' [(g8, 27, M.mat 4 wh), (g7, 25, M.mat 7 wv), (g3, 43, two .i8 p q), (g2, 29, dl v s k r)] nilRow [gE w.heap.size ZA zc LC, gE w.heap.size XA xc LA, gE w.heap.size YA yc LB] := h1
    clear h1 hS
    simp only [seen, e1, Option.getD_some]
    clear hall e1
    refine wpAny_one (i := 11) (by kernel_rfl) rfl (fun K hK => ?_)
    go_simp
    refine hK _ _ ?_
    clear hK K
    try simp only [Act.put, List.setIfInBounds_toArray, List.set_cons_zero, List.set_cons_succ]
    refine wpAny_done (by kernel_rfl) ?_ _
    have hlab : LB.length = LA.length := by rw [HM.out, List.length_map]
    have K1 : ((LA.length : Int) != (LB.length : Int)) = false := by rw [hlab]; simp
    have HAB := Lib.hid hlab
    clear hlab CA CN
    go_wp2_with fail
    have OX : Held w _ [(g8, 27, M.mat 4 wh), (g7, 25, M.mat 7 wv), (g3, 43, two .i8 p q), (g2, 29, dl v s k r)] nilRow [gE w.heap.size ZA zc LC, gE w.heap.size XA xc LA, gE w.heap.size YA yc LB] := O
    clear O K1
    have O := OX
    clear OX
    go_loopw [12, 13] (fun t12 t13 wr => ∃ (i : Nat) (N : Int), i ≤ LA.length ∧ ((cntp (fun f => RC.has r (f 0) (f 1)) LA i : Nat) : Int) = N ∧ t12 = .int .i64 N ∧ t13 = .int .i64 (i : Int) ∧ Held w wr [(g8, 27, M.mat 4 wh), (g7, 25, M.mat 7 wv), (g3, 43, two .i8 p q), (g2, 29, dl v s k r)] nilRow [gE w.heap.size ZA zc LC, gE w.heap.size XA xc LA, gE w.heap.size YA yc LB]) (fun _ t13 _ => LA.length - (intOf t13).toNat)
    case atStart => exact ⟨0, 0, Nat.zero_le _, by rw [cntp_zero]; rfl, rfl, rfl, O⟩
    case round =>
      clear O
      obtain ⟨i, N, hi, hN, rfl, rfl, O⟩ := hrel
      have q0 : (0 : Int) ≤ i := by omega
      obtain ⟨n, hn⟩ : ∃ n, cntp (fun f => RC.has r (f 0) (f 1)) LA i = n := ⟨_, rfl⟩
      rw [hn] at hN
      by_cases hlt : i < LA.length
      · have q1 : (i : Int) < LA.length := by omega
        obtain ⟨f, hf⟩ : ∃ f, LA[i]? = some f := ⟨_, List.getElem?_eq_getElem hlt⟩
        have hg : LB[i]? = some (DT.mvf f p q) := by rw [HM.out, List.getElem?_map, hf]; rfl
        have hltB : i < LB.length := by rw [HAB.out]; exact hlt
        have Wi : wrap64 ((i : Int) + 1) = (i : Int) + 1 := IntWalk.wrap64_in _ (by have := HLEN.out; omega)
        have hmem := List.mem_of_getElem? hf
        obtain ⟨bx, by_⟩ := HLIM.out f hmem
        have HNO : Hid (RC.has r (f 0) (f 1) = false → cntp (fun f => RC.has r (f 0) (f 1)) LA (i + 1) = n) := Lib.hid (fun h => by rw [cntp_no hf h]; exact hn)
        have HYES : Hid (RC.has r (f 0) (f 1) = true → cntp (fun f => RC.has r (f 0) (f 1)) LA (i + 1) = n + 1 ∧ LC[n]? = some f) := Lib.hid (fun h => by
          obtain ⟨e1, e2⟩ := cntp_yes (p := fun f => RC.has r (f 0) (f 1)) hf h
          rw [hn] at e1 e2
          exact ⟨e1, by rw [HC.out]; exact e2⟩)
        have CHx := CH.out (f 0) (f 1)
        obtain ⟨X, hX⟩ : ∃ X, f 0 = X := ⟨_, rfl⟩
        obtain ⟨Y, hY⟩ : ∃ Y, f 1 = Y := ⟨_, rfl⟩
        rw [hX] at bx
        rw [hY] at by_
        rw [hX, hY] at CHx HNO HYES
        have huv := HPQ.out
        obtain ⟨X', hX'⟩ : ∃ z, X + p = z := ⟨_, rfl⟩
        obtain ⟨Y', hY'⟩ : ∃ z, Y + q = z := ⟨_, rfl⟩
        have V1 : wrap64 (X' - p) = X := by rw [← hX', show X + p - p = X by omega]; exact IntWalk.wrap64_in _ (by omega)
        have V2 : wrap64 (Y' - q) = Y := by rw [← hY', show Y + q - q = Y by omega]; exact IntWalk.wrap64_in _ (by omega)
        have GX : Hid ((M.mat 8 (DT.mvf f p q))[0]? = some (.int .i64 X')) := Lib.hid (by rw [← hX', ← hX]; rfl)
        have GY : Hid (((M.mat 8 (DT.mvf f p q)))[1]? = some (.int .i64 Y')) := Lib.hid (by rw [← hY', ← hY]; rfl)
        have HBK : Hid (((M.mat 8 (DT.mvf f p q)).set 0 (.int .i64 X)).set 1 (.int .i64 Y) = M.mat 8 f) := Lib.hid (mat8_back hX hY fun j hj => by unfold DT.mvf; rw [if_neg (by omega), if_neg (by omega)])
        have FX : Hid ((M.mat 8 f)[0]? = some (.int .i64 X)) := Lib.hid (by rw [← hX]; rfl)
        have FY : Hid ((M.mat 8 f)[1]? = some (.int .i64 Y)) := Lib.hid (by rw [← hY]; rfl)
        have hnl : n ≤ i := by
          rw [← hn]
          unfold cntp
          exact Nat.le_trans (List.length_filter_le _ _) (by rw [List.length_take]; omega)
        have Wn : wrap64 (N + 1) = N + 1 := IntWalk.wrap64_in _ (by have := HLEN.out; omega)
        have q2 : (0 : Int) ≤ N := by omega
        have HNn : Hid (N = (n : Int)) := Lib.hid hN.symm
        have HF := Lib.hid hf
        have HG := Lib.hid hg
        clear hf hg hmem bx by_ hX hY huv hX' hY' hn hnl hN
        generalize DT.mvf f p q = g at *
        generalize RC.has r X Y = h at CHx HNO HYES
        go_wp2_with (first | ((with_reducible refine at_index_ 123 ?_); refine wpList_at_h rfl Try.underlying35 sizeOfG ((gE w.heap.size YA yc LB)) (O.mem (List.mem_cons_of_mem _ (List.mem_cons_of_mem _ List.mem_cons_self))) rfl i rfl (by first | rfl | omega) (by first | exact hlt | exact hltB) (by first | rfl | exact HAB.out.symm) ?_) | ((with_reducible refine at_load 124 ?_); refine wpList_elem_h rfl _ (O.mem (List.mem_cons_of_mem _ (List.mem_cons_of_mem _ List.mem_cons_self))) (i * 8) (M.mat 8 g) (gC_at HG.out) (by rw [M.mat_len]; decide) rfl Try.underlying40 rfl (sG _) ?_) | ((with_reducible refine at_alloc 14 ?_); refine wpList_alloc_h O (M.mat 8 M.zero) zeroG ?_; clear O; intro g14 y1w O) | ((with_reducible refine at_store 14 ?_); refine wpList_put_h O 0 (M.mat 8 (g)) rfl rfl rfl (sG _) (M.mat_len2 _ _ _) (M.mat_one _ _) ?_; clear O; intro y2w O) | ((with_reducible refine at_load 126 ?_); refine wpList_cell_h (v := .int .i64 X') rfl O 0 rfl GX.out rfl agg3 rfl ?_) | ((with_reducible refine at_load 130 ?_); refine wpList_cell_h (v := .int .i64 Y') rfl O 0 rfl GY.out rfl agg3 rfl ?_) | ((with_reducible refine at_store 133 ?_); refine wpList_set_h O 0 (i := 0) (.int .i64 X) rfl (by first | (rw [M.mat_len]; omega) | (rw [List.length_set, M.mat_len]; omega)) rfl (by first | rfl | exact congrArg (Value.int IntKind.i64) V1 | exact congrArg (Value.int IntKind.i64) V2) size3 rfl rfl ?_; clear O; intro y3w O) | ((with_reducible refine at_store 134 ?_); refine wpList_set_h O 0 (i := 1) (.int .i64 Y) rfl (by first | (rw [M.mat_len]; omega) | (rw [List.length_set, M.mat_len]; omega)) rfl (by first | rfl | exact congrArg (Value.int IntKind.i64) V1 | exact congrArg (Value.int IntKind.i64) V2) size3 rfl rfl ?_; clear O; intro y4w O))
        have OX : Held w y4w ((g14, 40, M.mat 8 f) :: [(g8, 27, M.mat 4 wh), (g7, 25, M.mat 7 wv), (g3, 43, two .i8 p q), (g2, 29, dl v s k r)]) nilRow [gE w.heap.size ZA zc LC, gE w.heap.size XA xc LA, gE w.heap.size YA yc LB] := by
          have e1 := HBK.out
          have O8 := O
          simp only [List.set_cons_zero, List.set_cons_succ] at O8
          rw [e1] at O8
          exact O8
        clear O V1 V2 GX GY HBK HG hltB
        have O := OX
        clear OX
        refine region_T ((fun w2 => Held w w2 ((g14, 40, M.mat 8 f) :: [(g8, 27, M.mat 4 wh), (g7, 25, M.mat 7 wv), (g3, 43, two .i8 p q), (g2, 29, dl v s k r)]) nilRow [gE w.heap.size ZA zc LC, gE w.heap.size XA xc LA, gE w.heap.size YA yc LB])) [0, 1, 2, 3, 4] 12 [some 135, some 136, some 137, some 138, some 139] [arr 8 f, .slice XA LA.length xc, .int .i64 (i : Int), .pointer (some ((adr XA).add (i * 8))), arr 8 f] 1 (by kernel_rfl) (by rfl) (by kernel_rfl) (by rfl) (by rfl) (O.drew) (fun F hF => ?_)
        simp only [fillD, Act.put, List.setIfInBounds_toArray, List.set_cons_zero, List.set_cons_succ] at hF
        subst hF
        refine ⟨⟨does_want rfl (by rfl) (fun w' O K hK => ?_), does_want rfl (by rfl) (fun w' O K hK => ?_), does_want rfl (by rfl) (fun w' O K hK => ?_), does_want rfl (by rfl) (fun w' O K hK => ?_), does_want rfl (by rfl) (fun w' O K hK => ?_), trivial⟩, fun w' O => ?_⟩
        · exact wp_row_h O 0 rfl rfl Try.underlying40 rfl (sG _) (hK _ O)
        · go_simp
          exact hK _ O
        · go_simp
          exact hK _ O
        · exact wp_at_h Try.underlying35 sizeOfG (gE w.heap.size XA xc LA) (O.mem (List.mem_cons_of_mem _ List.mem_cons_self)) rfl i rfl rfl (by omega) rfl (hK _ O)
        · exact wp_elem_h (gE w.heap.size XA xc LA) (O.mem (List.mem_cons_of_mem _ List.mem_cons_self)) (i * 8) (M.mat 8 f) (gC_at HF.out) (by rw [M.mat_len]; decide) rfl Try.underlying40 rfl (sG _) (hK _ O)
        refine wpAny_want (i := 5) (by kernel_rfl) rfl (by rfl) (fun K hK => ?_)
        refine wp_neqG f f rfl rfl ?_
        rw [M.eqB_refl]
        refine hK _ _ ?_
        clear hK K
        try simp only [Act.put, List.setIfInBounds_toArray, List.set_cons_zero, List.set_cons_succ]
        refine wpAny_done (by kernel_rfl) ?_ _
        cases h
        · have HR := Lib.hid (HNO.out rfl)
          clear HNO HYES
          go_wp2_with (first | ((with_reducible refine at_load 142 ?_); refine wpList_mid_h rfl O 4 rfl (M.mat 4 r) (dl_r v s k r) rfl Try.underlying27 rfl (sR _) ?_) | ((with_reducible refine at_load 144 ?_); refine wpList_cell_h (v := .int .i64 (X)) rfl O 0 rfl FX.out rfl agg3 rfl ?_) | ((with_reducible refine at_load 146 ?_); refine wpList_cell_h (v := .int .i64 (Y)) rfl O 0 rfl FY.out rfl agg3 rfl ?_) | (go_at_call 17; refine (CHx _).mono ?_; rintro e y5w ⟨rfl, hb⟩; replace O := O.call hb; clear hb))
          go_roundw
          case rel => exact ⟨i + 1, N, by omega, by rw [HR.out]; exact HNn.out.symm, rfl, by go_num, O.tail⟩
          case measure => first | exact meas_lt Wi hlt | exact meas_lt2 hlt
        · obtain ⟨hy1, hy2⟩ := HYES.out rfl
          have hnc : n < LC.length := (List.getElem?_eq_some_iff.1 hy2).1
          have q3 : N < LC.length := by have := HNn.out; omega
          have HCN := Lib.hid hy2
          have HR := Lib.hid hy1
          have K3 : decide (N ≥ (LC.length : Int)) = false := decide_eq_false (by omega)
          have K3b : decide ((LC.length : Int) ≤ N) = false := decide_eq_false (by omega)
          clear HNO HYES hy1 hy2
          go_wp2_with (first | ((with_reducible refine at_load 142 ?_); refine wpList_mid_h rfl O 4 rfl (M.mat 4 r) (dl_r v s k r) rfl Try.underlying27 rfl (sR _) ?_) | ((with_reducible refine at_load 144 ?_); refine wpList_cell_h (v := .int .i64 (X)) rfl O 0 rfl FX.out rfl agg3 rfl ?_) | ((with_reducible refine at_load 146 ?_); refine wpList_cell_h (v := .int .i64 (Y)) rfl O 0 rfl FY.out rfl agg3 rfl ?_) | (go_at_call 17; refine (CHx _).mono ?_; rintro e y5w ⟨rfl, hb⟩; replace O := O.call hb; clear hb))
          have OO := O
          clear O
          have O := OO
          clear OO
          refine region_T ((fun w2 => Held w w2 ((g14, 40, M.mat 8 f) :: [(g8, 27, M.mat 4 wh), (g7, 25, M.mat 7 wv), (g3, 43, two .i8 p q), (g2, 29, dl v s k r)]) nilRow [gE w.heap.size ZA zc LC, gE w.heap.size XA xc LA, gE w.heap.size YA yc LB])) [0, 1, 2, 3, 4, 5, 6, 7, 8, 9, 10] 12 [some 148, some 149, some 150, some 151, some 152, some 153, some 154, some 155, some 156, some 157, some 158] [.int .i64 (N), .slice ZA LC.length zc, .int .i64 ((LC.length : Int)), .bool false, .bool false, .slice ZA LC.length zc, .int .i64 (N), .pointer (some ((adr ZA).add (n * 8))), arr 8 f, arr 8 f, .bool false] 1 (by kernel_rfl) (by rfl) (by kernel_rfl) (by rfl) (by rfl) (O.drew) (fun F hF => ?_)
          simp only [fillD, Act.put, List.setIfInBounds_toArray, List.set_cons_zero, List.set_cons_succ] at hF
          subst hF
          refine ⟨⟨does_want rfl (by rfl) (fun w' O K hK => ?_), does_want rfl (by rfl) (fun w' O K hK => ?_), does_want rfl (by rfl) (fun w' O K hK => ?_), does_want rfl (by rfl) (fun w' O K hK => ?_), does_want rfl (by rfl) (fun w' O K hK => ?_), does_want rfl (by rfl) (fun w' O K hK => ?_), does_want rfl (by rfl) (fun w' O K hK => ?_), does_want rfl (by rfl) (fun w' O K hK => ?_), does_want rfl (by rfl) (fun w' O K hK => ?_), does_want rfl (by rfl) (fun w' O K hK => ?_), does_want rfl (by rfl) (fun w' O K hK => ?_), trivial⟩, fun w' O => ?_⟩
          · go_simp
            exact hK _ O
          · go_simp
            exact hK _ O
          · go_simp
            exact hK _ O
          · go_simp
            first | exact hK _ O | (simp only [K3]; exact hK _ O) | (simp only [K3b]; exact hK _ O)
          · go_simp
            exact hK _ O
          · go_simp
            exact hK _ O
          · go_simp
            exact hK _ O
          · exact wp_at_h Try.underlying35 sizeOfG (gE w.heap.size ZA zc LC) (O.mem List.mem_cons_self) rfl n rfl HNn.out (by omega) rfl (hK _ O)
          · exact wp_elem_h (gE w.heap.size ZA zc LC) (O.mem List.mem_cons_self) (n * 8) (M.mat 8 f) (gC_at HCN.out) (by rw [M.mat_len]; decide) rfl Try.underlying40 rfl (sG _) (hK _ O)
          · exact wp_row_h O 0 rfl rfl Try.underlying40 rfl (sG _) (hK _ O)
          · refine wp_neqG f f rfl rfl ?_
            rw [M.eqB_refl]
            exact hK _ O
          refine wpAny_one (i := 11) (by kernel_rfl) rfl (fun K hK => ?_)
          go_simp
          refine hK _ _ ?_
          clear hK K
          try simp only [Act.put, List.setIfInBounds_toArray, List.set_cons_zero, List.set_cons_succ]
          refine wpAny_done (by kernel_rfl) ?_ _
          clear K3 K3b
          go_wp2_with fail
          go_roundw
          case rel => exact ⟨i + 1, N + 1, by omega, by rw [HR.out]; have := HNn.out; omega, by first | rfl | exact congrArg (Value.int IntKind.i64) Wn, by go_num, O.tail⟩
          case measure => first | exact meas_lt Wi hlt | exact meas_lt2 hlt
      · have q1 : ¬ (i : Int) < LA.length := by omega
        have hie : i = LA.length := by omega
        have hnc : N = LC.length := by
          rw [← hN, ← hn, hie, HC.out]
          unfold cntp
          rw [List.take_length]
        have K4 : (N == (LC.length : Int)) = true := by rw [hnc]; simp
        have K5 : ((LC.length : Int) == (LC.length : Int)) = true := by simp
        clear hie hn hN hi hlt hnc
        go_wp2_with (go_at_call 8; refine (awake_any _).mono ?_; rintro e x20w ⟨rfl, hb⟩; replace O := O.call hb; clear hb)
        go_ret
        exact ⟨rfl, O.below⟩

theorem readable : ∀ t ∈ Try.f5.params.toList, Try.prog.readableRec t = true ∧ t < Try.prog.types.size := by
  intro t ht
  rw [Try.params5] at ht
  simp only [List.mem_cons, List.not_mem_nil, or_false] at ht
  repeat (first | (rcases ht with rfl | ht; exact ⟨by kernel_rfl, of_decide_eq_true (by kernel_rfl)⟩) | (subst ht; exact ⟨by kernel_rfl, of_decide_eq_true (by kernel_rfl)⟩))
set_option maxRecDepth 100000 in
theorem lifted (os : Os) (started : os.Started) (H : Type) (enc : TypeId × Value → H) :
    ReturnsInHanded {} Try.checked os 5 .any (Rows.dotMovesSpec.pre6 enc Try.prog Try.f5 Rows.dotMovesRow.domain false) (Rows.dotMovesSpec.post enc Try.prog Try.f5 false true false false) := by
  refine returnsInHanded_of_change (C := Try.checked) own started (by kernel_rfl) Try.func5
    (ChangeSpec.witness6 (enc := enc) (C := Try.checked) false ⟨#[], #[.agg #[.int .i64 0, .int .i64 0, .int .i64 0, .int .i64 0, .int .i64 0, .int .i64 0, .int .i64 0, .int .i64 0, .int .i64 0, .int .i64 0, .int .i64 0, .int .i64 0, .int .i64 0], .agg #[.int .i8 0, .int .i8 0]], []⟩ 8 (by kernel_rfl) (by kernel_rfl) (by kernel_rfl) (by kernel_rfl)) ?_
  intro W base args ds gs before hval0 hW hcnd _
  have hval : ∀ (j : Nat) t v, Try.f5.params[j]? = some t → args[j]? = some v → Value.okWide Try.prog W .any base t v := hval0
  have hW' := hW
  obtain ⟨p, q, hA0, hV, rfl, hfz, hnd⟩ := hW
  have hA : DataW.TrodAll enc Try.prog W 0 (fun _ => true) true Try.f5.params.toList args.toList ds p := hA0
  rw [Try.params5] at hA hval
  have hlt : ∀ x ∈ p ++ q, x.block < W.heap.size := fun x hx => hW'.lt x hx
  obtain ⟨v0, vs0, d0, ds0, p0, q0, hargs, rfl, rfl, h0, rr0⟩ := trodAll_cons hA
  obtain ⟨v1, vs1, d1, ds1, p1, q1, rfl, rfl, rfl, h1, rr1⟩ := trodAll_cons rr0
  obtain ⟨rfl, rfl, rfl⟩ := trodAll_nil rr1
  obtain rfl : args = #[v0, v1] := by cases args; simp_all
  obtain ⟨rfl, rfl⟩ := trodVars_none hV
  obtain ⟨a0, s0, k0, r0, rfl⟩ := openSDot (hval 0 29 v0 rfl rfl) h0
  obtain ⟨x1, y1, rfl, z1⟩ := openTwo8 (hval 1 43 v1 rfl rfl) h1
  clear hA0 hval0
  refine (walk W a0 s0 k0 r0 x1 y1 z1).mono fun e W' ⟨he, hg⟩ => ?_
  subst he
  exact ⟨_, rfl, post_true (tb := 4) laid readable (by kernel_rfl) Try.underlying4 rfl (fun l hl => by
    match l, hl with
    | [_, _], _ => exact ⟨rfl, rfl, rfl⟩) hW' hg⟩

theorem over : Rows.dotMovesRow.holds Try.pinned (OpenSpec.ofChange Rows.dotMovesSpec) :=
  OpenClaim.holds_of_wide 5 Try.f5 rfl rfl rfl rfl rfl rfl rfl ⟨rfl, rfl, rfl, rfl, rfl⟩ rfl rfl rfl rfl rfl (by kernel_rfl) Try.func5 (by kernel_rfl)
    (of_decide_eq_true (by kernel_rfl)) (by unfold Func.isWrapper; first | (rw [if_pos (by decide +kernel)]; kernel_rfl) | (rw [if_neg (by decide +kernel)]; exact ⟨rfl, rfl⟩))
    (fun os started H enc _ => lifted os started H enc)

theorem proved : Rows.DotMovesSaid :=
  over
#print axioms proved
end Go.Proofs.Ytlmgilcigbnbaaa.dotMoves
