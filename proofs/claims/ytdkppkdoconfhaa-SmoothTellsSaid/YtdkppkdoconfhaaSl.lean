/- Contract: measure. -/
import Derived.Test.YtdkppkdoconfhaaSk
import Derived.Test.YtdkppkdoconfhaaL5
import Derived.Test.YtdkppkdoconfhaaPa
namespace Go.Proofs.Ytdkppkdoconfhaa
open Go.ChangeShapes Go.WideShapes Go.ChangeAt Go.RowKit
set_option linter.unusedVariables false
set_option linter.unusedSimpArgs false

namespace SP
theorem st5_set2 (a b c d e z : Int) : (M.mat 5 (st5 a b c d e)).set 2 (.int .i64 z) = M.mat 5 (st5 a b z d e) :=
  M.mat_set_to (by decide) rfl fun j hj5 hj => by
    rcases (by omega : j = 0 ∨ j = 1 ∨ j = 3 ∨ j = 4) with rfl | rfl | rfl | rfl <;> rfl
theorem st5_set3 (a b c d e z : Int) : (M.mat 5 (st5 a b c d e)).set 3 (.int .i64 z) = M.mat 5 (st5 a b c z e) :=
  M.mat_set_to (by decide) rfl fun j hj5 hj => by
    rcases (by omega : j = 0 ∨ j = 1 ∨ j = 2 ∨ j = 4) with rfl | rfl | rfl | rfl <;> rfl
theorem st5_set4 (a b c d e z : Int) : (M.mat 5 (st5 a b c d e)).set 4 (.int .i64 z) = M.mat 5 (st5 a b c d z) :=
  M.mat_set_to (by decide) rfl fun j hj5 hj => by
    rcases (by omega : j = 0 ∨ j = 1 ∨ j = 2 ∨ j = 3) with rfl | rfl | rfl | rfl <;> rfl
theorem ok_lim {v : Int} (h : 0 ≤ v ∧ v ≤ 38685626227668133590597632) : M.ok v = true := M.ok_iff.2 (by omega)
theorem oh_lim {v : Int} (h : 0 ≤ v ∧ v ≤ 38685626227668133590597632) : 0 ≤ M.oh v ∧ M.oh v < 4611686018427387904 := by
  unfold M.oh
  rw [if_pos (ok_lim h)]
  omega
end SP
set_option maxRecDepth 100000 in
set_option maxHeartbeats 16000000 in
theorem pmea18 (a b : Nat → Int) (n R : Int) (hR : M.IsRoot (SP.lim a b n) R) (hn : 1 ≤ n ∧ n ≤ 64) (ha : (-268435456 ≤ a 0 ∧ a 0 ≤ 268435456) ∧ (-268435456 ≤ a 1 ∧ a 1 ≤ 268435456)) (hb : (-268435456 ≤ b 0 ∧ b 0 ≤ 268435456) ∧ (-268435456 ≤ b 1 ∧ b 1 ≤ 268435456)) (w : World) : Calls Try.prog 26 #[arr 7 a, arr 7 b, .int .i64 n] w fun e w' => e = .returned (arr 5 (SP.meas a b n R)) ∧ Below w.heap.size w w' := by
  have O := Own.start w
  obtain ⟨_, bsq, blim, bR⟩ := SP.meas_ok hR hn ha hb
  have bW := SP.mul_lim (x := b 0 - a 0) (y := b 0 - a 0) (A := 536870912) (B := 536870912) (by omega) (by omega)
  have bH := SP.mul_lim (x := b 1 - a 1) (y := b 1 - a 1) (A := 536870912) (B := 536870912) (by omega) (by omega)
  have bk := SP.mul_lim (x := 128 * n) (y := 128 * n) (A := 8192) (B := 8192) (by omega) (by omega)
  have bRR := SP.mul_lim (x := R) (y := R) (A := 17592186044415) (B := 17592186044415) (by omega) (by omega)
  have hRR0 : 0 ≤ R * R := SM.sq_nonneg' R
  have okv := SP.ok_lim blim
  have oh := SP.oh_lim blim
  have okr : M.ok (R * R) = true := M.ok_iff.2 (by omega)
  have CR := fun w => root_yes (M.oh (SP.lim a b n)) (M.ol (SP.lim a b n)) R (M.b_of _) oh.1 oh.2 (by rw [M.val_of okv]; exact hR) w
  have CM := fun w => mul_any (128 * n * (128 * n)) (SM.sq a b) (by omega) (by omega) (by omega) (by omega) w
  have CQ := fun w => mul_any R R (by omega) (by omega) (by omega) (by omega) w
  have CC := fun w => cmp_any (M.oh (R * R)) (M.ol (R * R)) (M.oh (SP.lim a b n)) (M.ol (SP.lim a b n)) (M.b_of _) (M.b_of _) w
  rw [M.val_of okr, M.val_of okv] at CC
  change ∀ w, Calls _ _ _ w fun e w' => e = .returned (.agg #[.int .i64 (M.oh (SP.lim a b n)), .int .u64 (M.ol (SP.lim a b n))]) ∧ _ at CM
  have HE : SP.meas a b n R = SP.st5 (b 0 - a 0) (b 1 - a 1) (SM.sq a b) (if R * R = SP.lim a b n then -R + 1 else -R) R := rfl
  rw [HE]
  clear HE
  have hsg : (M.sgn (R * R) (SP.lim a b n) = 0 ↔ R * R = SP.lim a b n) := by
    unfold M.sgn
    split
    · constructor
      · intro h; omega
      · intro h; omega
    · split
      · constructor
        · intro h; omega
        · intro h; omega
      · constructor
        · intro _; omega
        · intro _; rfl
  generalize M.sgn (R * R) (SP.lim a b n) = sg at CC hsg
  generalize M.oh (SP.lim a b n) = vh at CR CM CC
  generalize M.ol (SP.lim a b n) = vl at CR CM CC
  generalize M.oh (R * R) = qh at CQ CC
  generalize M.ol (R * R) = ql at CQ CC
  generalize SP.lim a b n = V at *
  have eL : (b 0 - a 0) * (b 0 - a 0) + (b 1 - a 1) * (b 1 - a 1) = SM.sq a b := rfl
  obtain ⟨L, hL⟩ : ∃ L, SM.sq a b = L := ⟨_, rfl⟩
  rw [hL] at CM eL bsq ⊢
  obtain ⟨ha0, ha1⟩ := ha
  obtain ⟨hb0, hb1⟩ := hb
  obtain ⟨ax, eax⟩ : ∃ z, a 0 = z := ⟨_, rfl⟩
  have Cax := cell_is (n := 7) eax (by decide)
  obtain ⟨ay, eay⟩ : ∃ z, a 1 = z := ⟨_, rfl⟩
  have Cay := cell_is (n := 7) eay (by decide)
  obtain ⟨bx, ebx⟩ : ∃ z, b 0 = z := ⟨_, rfl⟩
  have Cbx := cell_is (n := 7) ebx (by decide)
  obtain ⟨bz, ebz⟩ : ∃ z, b 1 = z := ⟨_, rfl⟩
  have Cbz := cell_is (n := 7) ebz (by decide)
  rw [eax] at ha0
  rw [eay] at ha1
  rw [ebx] at hb0
  rw [ebz] at hb1
  rw [eax, ebx] at bW
  rw [eay, ebz] at bH
  rw [eax, eay, ebx, ebz] at eL ⊢
  obtain ⟨W, hW⟩ : ∃ z, bx - ax = z := ⟨_, rfl⟩
  obtain ⟨H, hH⟩ : ∃ z, bz - ay = z := ⟨_, rfl⟩
  rw [hW, hH] at eL ⊢
  rw [hW] at bW
  rw [hH] at bH
  obtain ⟨WW, hWW⟩ : ∃ z, W * W = z := ⟨_, rfl⟩
  obtain ⟨HH, hHH⟩ : ∃ z, H * H = z := ⟨_, rfl⟩
  rw [hWW] at eL bW
  rw [hHH] at eL bH
  obtain ⟨hf, hhf⟩ : ∃ z, 128 * n = z := ⟨_, rfl⟩
  rw [hhf] at CM bk
  obtain ⟨h2, hh2⟩ : ∃ z, hf * hf = z := ⟨_, rfl⟩
  rw [hh2] at CM bk
  obtain ⟨r3, hr3⟩ : ∃ z, -R = z := ⟨_, rfl⟩
  obtain ⟨r4, hr4⟩ : ∃ z, r3 + 1 = z := ⟨_, rfl⟩
  have U1 : wrap64 (bx - ax) = W := (IntWalk.wrap64_in _ (by omega)).trans hW
  have U2 : wrap64 (bz - ay) = H := (IntWalk.wrap64_in _ (by omega)).trans hH
  have U3 : wrap64 (W * W) = WW := (IntWalk.wrap64_in _ (by omega)).trans hWW
  have U4 : wrap64 (H * H) = HH := (IntWalk.wrap64_in _ (by omega)).trans hHH
  have U5 : wrap64 (WW + HH) = L := (IntWalk.wrap64_in _ (by omega)).trans eL
  have U6 : wrap64 (128 * n) = hf := (IntWalk.wrap64_in _ (by omega)).trans hhf
  have U7 : wrap64 (hf * hf) = h2 := (IntWalk.wrap64_in _ (by omega)).trans hh2
  have U8 : wrap64 (-R) = r3 := (IntWalk.wrap64_in _ (by omega)).trans hr3
  have U9 : wrap64 (r3 + 1) = r4 := (IntWalk.wrap64_in _ (by omega)).trans hr4
  rw [hr3]
  have HI : Hid ((if R * R = V then r3 + 1 else r3) = if R * R = V then r4 else r3) := Lib.hid (by rw [hr4])
  rw [HI.out]
  clear HI
  have CcW : Hid ((M.mat 5 (SP.st5 W H 0 0 0))[0]? = some (.int .i64 W)) := cell_is rfl (by decide)
  have CcH : Hid ((M.mat 5 (SP.st5 W H 0 0 0))[1]? = some (.int .i64 H)) := cell_is rfl (by decide)
  have CcL : Hid ((M.mat 5 (SP.st5 W H L 0 0))[2]? = some (.int .i64 L)) := cell_is rfl (by decide)
  have Cc3 : Hid ((M.mat 5 (SP.st5 W H L r3 R))[3]? = some (.int .i64 r3)) := cell_is rfl (by decide)
  clear hR hn ha0 ha1 hb0 hb1 bsq blim bR bW bH bk bRR hRR0 okv oh okr hL eL hW hH hWW hHH hhf hh2 hr3 hr4 eax eay ebx ebz
  by_cases hq : R * R = V
  · have hz : sg = 0 := hsg.2 hq
    have hz1 : (sg == 0) = true := by simpa using hz
    have hz2 : decide (sg = 0) = true := by simpa using hz
    rw [if_pos hq]
    clear hsg hq hz
    go_enter Try.func26, Try.ntmps26
    go_wp2_with (first | ((with_reducible refine at_box 3 ?_); refine wpList_box_own O (M.mat 7 (a)) rfl ?_; clear O; intro g3 w1 O) | ((with_reducible refine at_box 4 ?_); refine wpList_box_own O (M.mat 7 (b)) rfl ?_; clear O; intro g4 w2 O) | ((with_reducible refine at_alloc 6 ?_); refine wpList_alloc_own O (M.mat 5 M.zero) zeroY18 ?_; clear O; intro g6 w3 O) | ((with_reducible refine at_load 13 ?_); refine wpList_cell_h (v := .int .i64 (bx)) rfl O.held 1 rfl Cbx.out rfl agg3 rfl ?_) | ((with_reducible refine at_load 15 ?_); refine wpList_cell_h (v := .int .i64 (ax)) rfl O.held 2 rfl Cax.out rfl agg3 rfl ?_) | ((with_reducible refine at_load 18 ?_); refine wpList_cell_h (v := .int .i64 (bz)) rfl O.held 1 rfl Cbz.out rfl agg3 rfl ?_) | ((with_reducible refine at_load 20 ?_); refine wpList_cell_h (v := .int .i64 (ay)) rfl O.held 2 rfl Cay.out rfl agg3 rfl ?_) | ((with_reducible refine at_build 22 ?_); refine wpList_build_g rfl ([(0, .int .i64 (W)), (1, .int .i64 (H))]) ((M.mat 5 (SP.st5 W H 0 0 0)).toArray) ?_ (builtY2 _ _) ?_; (focus (simp only [List.map_toArray, List.map_cons, List.map_nil]; rfl))) | ((with_reducible refine at_alloc 7 ?_); refine wpList_alloc_own O (M.mat 5 M.zero) zeroY18 ?_; clear O; intro g7 w4 O) | ((with_reducible refine at_store 7 ?_); refine wpList_put_own O 0 (M.mat 5 (SP.st5 W H 0 0 0)) rfl rfl rfl (sY18 _) (M.mat_len2 _ _ _) (M.mat_one _ _) ?_; clear O; intro w5 O) | ((with_reducible refine at_load 24 ?_); refine wpList_cell_h (v := .int .i64 (W)) rfl O.held 0 rfl CcW.out rfl agg3 rfl ?_) | ((with_reducible refine at_load 26 ?_); refine wpList_cell_h (v := .int .i64 (W)) rfl O.held 0 rfl CcW.out rfl agg3 rfl ?_) | ((with_reducible refine at_load 29 ?_); refine wpList_cell_h (v := .int .i64 (H)) rfl O.held 0 rfl CcH.out rfl agg3 rfl ?_) | ((with_reducible refine at_load 31 ?_); refine wpList_cell_h (v := .int .i64 (H)) rfl O.held 0 rfl CcH.out rfl agg3 rfl ?_) | ((with_reducible refine at_store 34 ?_); refine wpList_set_own O 0 (i := 2) (.int .i64 (L)) rfl (by rw [M.mat_len]; omega) rfl (by first | rfl | exact congrArg (Value.int IntKind.i64) U5 | exact congrArg (Value.int IntKind.i64) U8 | exact congrArg (Value.int IntKind.i64) U9) size3 rfl rfl ?_; clear O; intro w6 O; have O9 := Own.as O (l' := [(g7, 59, M.mat 5 (SP.st5 W H L 0 0)), (g6, 59, M.mat 5 M.zero), (g4, 25, M.mat 7 b), (g3, 25, M.mat 7 a)]) (by simp only [List.set_cons_zero, List.set_cons_succ, SP.st5_set2]); clear O; have O := O9; clear O9) | ((with_reducible refine at_load 41 ?_); refine wpList_cell_h (v := .int .i64 (L)) rfl O.held 0 rfl CcL.out rfl agg3 rfl ?_) | (go_at_call 42; refine (CM _).mono ?_; rintro e w7 ⟨rfl, hb⟩; replace O := O.call hb; clear hb) | ((with_reducible refine at_alloc 9 ?_); refine wpList_alloc_own O [.int .i64 0, .int .u64 0] zero54 ?_; clear O; intro g9 w9 O) | ((with_reducible refine at_store 9 ?_); refine wpList_put_own O 0 [.int .i64 vh, .int .u64 vl] rfl rfl rfl size54 rfl (two_one rfl rfl) ?_; clear O; intro w10 O) | ((with_reducible refine at_load 44 ?_); refine wpList_whole rfl O 0 rfl rfl Try.underlying80 rfl size54 ?_) | (go_at_call 43; refine (CR _).mono ?_; rintro e w11 ⟨rfl, hb⟩; replace O := O.call hb; clear hb) | ((with_reducible refine at_store 51 ?_); refine wpList_set_own O 1 (i := 3) (.int .i64 (r3)) rfl (by rw [M.mat_len]; omega) rfl (by first | rfl | exact congrArg (Value.int IntKind.i64) U5 | exact congrArg (Value.int IntKind.i64) U8 | exact congrArg (Value.int IntKind.i64) U9) size3 rfl rfl ?_; clear O; intro w12 O; have O9 := Own.as O (l' := [(g9, 80, [.int .i64 vh, .int .u64 vl]), (g7, 59, M.mat 5 (SP.st5 W H L r3 0)), (g6, 59, M.mat 5 M.zero), (g4, 25, M.mat 7 b), (g3, 25, M.mat 7 a)]) (by simp only [List.set_cons_zero, List.set_cons_succ, SP.st5_set3]); clear O; have O := O9; clear O9) | ((with_reducible refine at_store 52 ?_); refine wpList_set_own O 1 (i := 4) (.int .i64 (R)) rfl (by rw [M.mat_len]; omega) rfl (by first | rfl | exact congrArg (Value.int IntKind.i64) U5 | exact congrArg (Value.int IntKind.i64) U8 | exact congrArg (Value.int IntKind.i64) U9) size3 rfl rfl ?_; clear O; intro w13 O; have O9 := Own.as O (l' := [(g9, 80, [.int .i64 vh, .int .u64 vl]), (g7, 59, M.mat 5 (SP.st5 W H L r3 R)), (g6, 59, M.mat 5 M.zero), (g4, 25, M.mat 7 b), (g3, 25, M.mat 7 a)]) (by simp only [List.set_cons_zero, List.set_cons_succ, SP.st5_set4]); clear O; have O := O9; clear O9))
    clear CM CR
    refine region_T (fun w2 => Own w w2 [(g9, 80, [.int .i64 vh, .int .u64 vl]), (g7, 59, M.mat 5 (SP.st5 W H L r3 R)), (g6, 59, M.mat 5 M.zero), (g4, 25, M.mat 7 b), (g3, 25, M.mat 7 a)]) [0, 1, 2, 3, 4] 12 [some 53, some 54, some 55, some 56, some 57] [.int .i64 (R), .int .i64 (R), .agg #[.int .i64 qh, .int .u64 ql], .agg #[.int .i64 vh, .int .u64 vl], .int .i64 (sg)] 1 (by kernel_rfl) (by rfl) (by kernel_rfl) (by rfl) (by rfl) (O.drew) (fun F hF => ?_)
    simp only [fillD, Act.put, List.setIfInBounds_toArray, List.set_cons_zero, List.set_cons_succ] at hF
    subst hF
    refine ⟨⟨does_want rfl (by rfl) (fun w' O K hK => ?_), does_want rfl (by rfl) (fun w' O K hK => ?_), does_want rfl (by rfl) (fun w' O K hK => ?_), does_want rfl (by rfl) (fun w' O K hK => ?_), does_want rfl (by rfl) (fun w' O K hK => ?_), trivial⟩, fun w' O => ?_⟩
    · go_simp
      exact hK _ O
    · go_simp
      exact hK _ O
    · go_simp
      go_at_call 42
      refine (CQ _).mono ?_
      rintro e w2 ⟨rfl, hb⟩
      exact hK _ (O.call hb)
    · exact wp_whole O 0 rfl rfl Try.underlying80 rfl size54 (hK _ O)
    · go_simp
      go_at_call 44
      refine (CC _).mono ?_
      rintro e w2 ⟨rfl, hb⟩
      exact hK _ (O.call hb)
    refine wpAny_one (i := 5) (by kernel_rfl) rfl (fun K hK => ?_)
    go_simp
    refine hK _ _ ?_
    clear hK K
    try simp only [Act.put, List.setIfInBounds_toArray, List.set_cons_zero, List.set_cons_succ]
    refine wpAny_done (by kernel_rfl) ?_ _
    clear CQ CC
    go_wp2_with (first | ((with_reducible refine at_load 60 ?_); refine wpList_cell_h (v := .int .i64 (r3)) rfl O.held 1 rfl Cc3.out rfl agg3 rfl ?_) | ((with_reducible refine at_store 62 ?_); refine wpList_set_own O 1 (i := 3) (.int .i64 (r4)) rfl (by rw [M.mat_len]; omega) rfl (by first | rfl | exact congrArg (Value.int IntKind.i64) U5 | exact congrArg (Value.int IntKind.i64) U8 | exact congrArg (Value.int IntKind.i64) U9) size3 rfl rfl ?_; clear O; intro w14 O; have O9 := Own.as O (l' := [(g9, 80, [.int .i64 vh, .int .u64 vl]), (g7, 59, M.mat 5 (SP.st5 W H L r4 R)), (g6, 59, M.mat 5 M.zero), (g4, 25, M.mat 7 b), (g3, 25, M.mat 7 a)]) (by simp only [List.set_cons_zero, List.set_cons_succ, SP.st5_set3]); clear O; have O := O9; clear O9) | ((with_reducible refine at_load 63 ?_); refine wpList_whole rfl O 1 rfl rfl Try.underlying59 rfl (sY18 _) ?_) | ((with_reducible refine at_store 6 ?_); refine wpList_put_own O 2 (M.mat 5 (SP.st5 W H L r4 R)) rfl rfl rfl (sY18 _) (M.mat_len2 _ _ _) (M.mat_one _ _) ?_; clear O; intro w15 O))
    exact bodyPost_ret (v := arr 5 (SP.st5 W H L r4 R)) (res_h rfl O.held 2 rfl rfl Try.underlying59 rfl (sY18 _)) rfl ⟨rfl, O.below⟩
  · have hz : ¬ sg = 0 := fun h => hq (hsg.1 h)
    have hz1 : (sg == 0) = false := by simpa using hz
    have hz2 : decide (sg = 0) = false := by simpa using hz
    rw [if_neg hq]
    clear hsg hq hz
    go_enter Try.func26, Try.ntmps26
    go_wp2_with (first | ((with_reducible refine at_box 3 ?_); refine wpList_box_own O (M.mat 7 (a)) rfl ?_; clear O; intro g3 w1 O) | ((with_reducible refine at_box 4 ?_); refine wpList_box_own O (M.mat 7 (b)) rfl ?_; clear O; intro g4 w2 O) | ((with_reducible refine at_alloc 6 ?_); refine wpList_alloc_own O (M.mat 5 M.zero) zeroY18 ?_; clear O; intro g6 w3 O) | ((with_reducible refine at_load 13 ?_); refine wpList_cell_h (v := .int .i64 (bx)) rfl O.held 1 rfl Cbx.out rfl agg3 rfl ?_) | ((with_reducible refine at_load 15 ?_); refine wpList_cell_h (v := .int .i64 (ax)) rfl O.held 2 rfl Cax.out rfl agg3 rfl ?_) | ((with_reducible refine at_load 18 ?_); refine wpList_cell_h (v := .int .i64 (bz)) rfl O.held 1 rfl Cbz.out rfl agg3 rfl ?_) | ((with_reducible refine at_load 20 ?_); refine wpList_cell_h (v := .int .i64 (ay)) rfl O.held 2 rfl Cay.out rfl agg3 rfl ?_) | ((with_reducible refine at_build 22 ?_); refine wpList_build_g rfl ([(0, .int .i64 (W)), (1, .int .i64 (H))]) ((M.mat 5 (SP.st5 W H 0 0 0)).toArray) ?_ (builtY2 _ _) ?_; (focus (simp only [List.map_toArray, List.map_cons, List.map_nil]; rfl))) | ((with_reducible refine at_alloc 7 ?_); refine wpList_alloc_own O (M.mat 5 M.zero) zeroY18 ?_; clear O; intro g7 w4 O) | ((with_reducible refine at_store 7 ?_); refine wpList_put_own O 0 (M.mat 5 (SP.st5 W H 0 0 0)) rfl rfl rfl (sY18 _) (M.mat_len2 _ _ _) (M.mat_one _ _) ?_; clear O; intro w5 O) | ((with_reducible refine at_load 24 ?_); refine wpList_cell_h (v := .int .i64 (W)) rfl O.held 0 rfl CcW.out rfl agg3 rfl ?_) | ((with_reducible refine at_load 26 ?_); refine wpList_cell_h (v := .int .i64 (W)) rfl O.held 0 rfl CcW.out rfl agg3 rfl ?_) | ((with_reducible refine at_load 29 ?_); refine wpList_cell_h (v := .int .i64 (H)) rfl O.held 0 rfl CcH.out rfl agg3 rfl ?_) | ((with_reducible refine at_load 31 ?_); refine wpList_cell_h (v := .int .i64 (H)) rfl O.held 0 rfl CcH.out rfl agg3 rfl ?_) | ((with_reducible refine at_store 34 ?_); refine wpList_set_own O 0 (i := 2) (.int .i64 (L)) rfl (by rw [M.mat_len]; omega) rfl (by first | rfl | exact congrArg (Value.int IntKind.i64) U5 | exact congrArg (Value.int IntKind.i64) U8 | exact congrArg (Value.int IntKind.i64) U9) size3 rfl rfl ?_; clear O; intro w6 O; have O9 := Own.as O (l' := [(g7, 59, M.mat 5 (SP.st5 W H L 0 0)), (g6, 59, M.mat 5 M.zero), (g4, 25, M.mat 7 b), (g3, 25, M.mat 7 a)]) (by simp only [List.set_cons_zero, List.set_cons_succ, SP.st5_set2]); clear O; have O := O9; clear O9) | ((with_reducible refine at_load 41 ?_); refine wpList_cell_h (v := .int .i64 (L)) rfl O.held 0 rfl CcL.out rfl agg3 rfl ?_) | (go_at_call 42; refine (CM _).mono ?_; rintro e w7 ⟨rfl, hb⟩; replace O := O.call hb; clear hb) | ((with_reducible refine at_alloc 9 ?_); refine wpList_alloc_own O [.int .i64 0, .int .u64 0] zero54 ?_; clear O; intro g9 w9 O) | ((with_reducible refine at_store 9 ?_); refine wpList_put_own O 0 [.int .i64 vh, .int .u64 vl] rfl rfl rfl size54 rfl (two_one rfl rfl) ?_; clear O; intro w10 O) | ((with_reducible refine at_load 44 ?_); refine wpList_whole rfl O 0 rfl rfl Try.underlying80 rfl size54 ?_) | (go_at_call 43; refine (CR _).mono ?_; rintro e w11 ⟨rfl, hb⟩; replace O := O.call hb; clear hb) | ((with_reducible refine at_store 51 ?_); refine wpList_set_own O 1 (i := 3) (.int .i64 (r3)) rfl (by rw [M.mat_len]; omega) rfl (by first | rfl | exact congrArg (Value.int IntKind.i64) U5 | exact congrArg (Value.int IntKind.i64) U8 | exact congrArg (Value.int IntKind.i64) U9) size3 rfl rfl ?_; clear O; intro w12 O; have O9 := Own.as O (l' := [(g9, 80, [.int .i64 vh, .int .u64 vl]), (g7, 59, M.mat 5 (SP.st5 W H L r3 0)), (g6, 59, M.mat 5 M.zero), (g4, 25, M.mat 7 b), (g3, 25, M.mat 7 a)]) (by simp only [List.set_cons_zero, List.set_cons_succ, SP.st5_set3]); clear O; have O := O9; clear O9) | ((with_reducible refine at_store 52 ?_); refine wpList_set_own O 1 (i := 4) (.int .i64 (R)) rfl (by rw [M.mat_len]; omega) rfl (by first | rfl | exact congrArg (Value.int IntKind.i64) U5 | exact congrArg (Value.int IntKind.i64) U8 | exact congrArg (Value.int IntKind.i64) U9) size3 rfl rfl ?_; clear O; intro w13 O; have O9 := Own.as O (l' := [(g9, 80, [.int .i64 vh, .int .u64 vl]), (g7, 59, M.mat 5 (SP.st5 W H L r3 R)), (g6, 59, M.mat 5 M.zero), (g4, 25, M.mat 7 b), (g3, 25, M.mat 7 a)]) (by simp only [List.set_cons_zero, List.set_cons_succ, SP.st5_set4]); clear O; have O := O9; clear O9))
    clear CM CR
    refine region_T (fun w2 => Own w w2 [(g9, 80, [.int .i64 vh, .int .u64 vl]), (g7, 59, M.mat 5 (SP.st5 W H L r3 R)), (g6, 59, M.mat 5 M.zero), (g4, 25, M.mat 7 b), (g3, 25, M.mat 7 a)]) [0, 1, 2, 3, 4] 12 [some 53, some 54, some 55, some 56, some 57] [.int .i64 (R), .int .i64 (R), .agg #[.int .i64 qh, .int .u64 ql], .agg #[.int .i64 vh, .int .u64 vl], .int .i64 (sg)] 1 (by kernel_rfl) (by rfl) (by kernel_rfl) (by rfl) (by rfl) (O.drew) (fun F hF => ?_)
    simp only [fillD, Act.put, List.setIfInBounds_toArray, List.set_cons_zero, List.set_cons_succ] at hF
    subst hF
    refine ⟨⟨does_want rfl (by rfl) (fun w' O K hK => ?_), does_want rfl (by rfl) (fun w' O K hK => ?_), does_want rfl (by rfl) (fun w' O K hK => ?_), does_want rfl (by rfl) (fun w' O K hK => ?_), does_want rfl (by rfl) (fun w' O K hK => ?_), trivial⟩, fun w' O => ?_⟩
    · go_simp
      exact hK _ O
    · go_simp
      exact hK _ O
    · go_simp
      go_at_call 42
      refine (CQ _).mono ?_
      rintro e w2 ⟨rfl, hb⟩
      exact hK _ (O.call hb)
    · exact wp_whole O 0 rfl rfl Try.underlying80 rfl size54 (hK _ O)
    · go_simp
      go_at_call 44
      refine (CC _).mono ?_
      rintro e w2 ⟨rfl, hb⟩
      exact hK _ (O.call hb)
    refine wpAny_one (i := 5) (by kernel_rfl) rfl (fun K hK => ?_)
    go_simp
    refine hK _ _ ?_
    clear hK K
    try simp only [Act.put, List.setIfInBounds_toArray, List.set_cons_zero, List.set_cons_succ]
    refine wpAny_done (by kernel_rfl) ?_ _
    clear CQ CC
    go_wp2_with (first | ((with_reducible refine at_load 63 ?_); refine wpList_whole rfl O 1 rfl rfl Try.underlying59 rfl (sY18 _) ?_) | ((with_reducible refine at_store 6 ?_); refine wpList_put_own O 2 (M.mat 5 (SP.st5 W H L r3 R)) rfl rfl rfl (sY18 _) (M.mat_len2 _ _ _) (M.mat_one _ _) ?_; clear O; intro w15 O))
    exact bodyPost_ret (v := arr 5 (SP.st5 W H L r3 R)) (res_h rfl O.held 2 rfl rfl Try.underlying59 rfl (sY18 _)) rfl ⟨rfl, O.below⟩
end Go.Proofs.Ytdkppkdoconfhaa
