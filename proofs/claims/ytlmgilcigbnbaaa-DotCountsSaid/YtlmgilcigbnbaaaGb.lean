/- Contracts of the program: down, Pixel, first, shade, around, Right, Box. -/
import Derived.Test.YtlmgilcigbnbaaaGa
import Derived.Test.YtlmgilcigbnbaaaWp
import Derived.Test.YtlmgilcigbnbaaaDb
namespace Go.Proofs.Ytlmgilcigbnbaaa
open Go.ChangeShapes Go.WideShapes Go.ChangeAt Go.RowKit
set_option linter.unusedVariables false
set_option linter.unusedSimpArgs false

namespace DT
/-- Rounded to nought or down: cut at nought it is the same. -/
theorem cut_down {b s t q : Int} (hs : 0 < s) (ht : b.tdiv s = t) (hq : b / s = q) : max 0 (min t 255) = max 0 (min q 255) := by
  rcases Int.lt_or_le b 0 with h | h
  · have h1 : q < 0 := by rw [← hq]; exact Int.ediv_neg_of_neg_of_pos h hs
    have h2 : t ≤ 0 := by
      rw [← ht, ← Int.neg_neg b, Int.neg_tdiv]
      have := Int.tdiv_nonneg (show 0 ≤ -b by omega) (Int.le_of_lt hs)
      omega
    omega
  · have : t = q := by rw [← ht, ← hq]; exact Int.tdiv_eq_ediv_of_nonneg h
    omega
theorem tdiv_lim {b s t : Int} (hs : 0 < s) (hb : -4611686018427387904 ≤ b ∧ b ≤ 4611686018427387904) (ht : b.tdiv s = t) : -4611686018427387904 ≤ t ∧ t ≤ 4611686018427387904 := by
  have l := div_lim hs (by decide : (0 : Int) ≤ 4611686018427387904) (x := b) hb
  have l2 := div_lim hs (by decide : (0 : Int) ≤ 4611686018427387904) (x := -b) (by omega)
  rcases Int.le_total 0 b with h | h
  · rw [Int.tdiv_eq_ediv_of_nonneg h] at ht
    omega
  · have e : b.tdiv s = -((-b) / s) := by
      rw [← Int.tdiv_eq_ediv_of_nonneg (show 0 ≤ -b by omega), Int.neg_tdiv, Int.neg_neg]
    omega
theorem right_wide (v : Nat → Int) (s k : Int) : right v s k = (WD.right v v s (HM.t3 0 1 0) && (decide (0 ≤ k) && decide (k ≤ 2))) := by
  have e : HM.right (HM.t3 0 1 0) = true := by decide
  unfold right WD.right
  rw [e, Bool.and_true]
  cases VM.fit v
  · rfl
  · simp only [Bool.true_and, Bool.and_assoc]
end DT
theorem builtH19 : Try.prog.built 49 [(1, .int .i64 1)] = some (M.mat 3 (HM.t3 0 1 0)).toArray := by kernel_rfl
set_option maxHeartbeats 2000000 in
theorem pdown19 (n d : Int) (hd : 0 < d) (h : -4611686018427387904 ≤ n ∧ n ≤ 4611686018427387904) (w : World) : Calls Try.prog 42 #[.int .i64 n, .int .i64 d] w fun e w' => e = .returned (.int .i64 (n / d)) ∧ w' = w := by
  have lq := DT.div_lim hd (by decide) h
  obtain ⟨q, hq⟩ : ∃ z, n.tdiv d = z := ⟨_, rfl⟩
  obtain ⟨r, hr⟩ : ∃ z, n.tmod d = z := ⟨_, rfl⟩
  obtain ⟨k1, k2⟩ := DT.down_is hd hq hr
  have lr : -4611686018427387904 ≤ q ∧ q ≤ 4611686018427387905 := by
    by_cases g : r < 0
    · have := k1 g
      omega
    · have := k2 g
      omega
  obtain ⟨lr1, lr2⟩ := lr
  have W1 : wrap64 q = q := IntWalk.wrap64_in _ (by omega)
  have W2 : wrap64 (q - 1) = q - 1 := IntWalk.wrap64_in _ (by omega)
  have hdn : ¬ d = 0 := by omega
  by_cases hlt : r < 0
  · have HE := Lib.hid (k1 hlt)
    clear k1 k2 h lq lr1 lr2 hd
    go_enter Try.func42, Try.ntmps42
    go_wp2_with fail
    go_ret
    exact ⟨by rw [HE.out]; exact congrArg (fun z => Ending.returned (Value.int IntKind.i64 z)) W2, rfl⟩
  · have HE := Lib.hid (k2 hlt)
    clear k1 k2 h lq lr1 lr2 hd
    go_enter Try.func42, Try.ntmps42
    go_wp2_with fail
    go_ret
    exact ⟨by rw [HE.out]; rfl, rfl⟩
theorem ppixel19 (u : Int) (h : -4611686018427387904 ≤ u ∧ u ≤ 4611686018427387904) (w : World) : Calls Try.prog 32 #[.int .i64 u] w fun e w' => e = .returned (.int .i64 (u / 256)) ∧ w' = w := by
  have C := fun w => pdown19 u 256 (by decide) h w
  generalize u / 256 = q at *
  clear h
  go_enter Try.func32, Try.ntmps32
  go_wp2_with (go_at_call 42; refine (C _).mono ?_; rintro e w' ⟨rfl, rfl⟩)
  go_ret
  exact ⟨rfl, rfl⟩
theorem pfirst19 (u s : Int) (hu : -268435456 ≤ u ∧ u ≤ 268435456) (hs : 1 ≤ s ∧ s ≤ 64) (w : World) : Calls Try.prog 23 #[.int .i64 u, .int .i64 s] w fun e w' => e = .returned (.int .i64 (DT.first u s)) ∧ w' = w := by
  obtain ⟨s1, hs1⟩ : ∃ z, s - 1 = z := ⟨_, rfl⟩
  obtain ⟨m, hm⟩ : ∃ z, 128 * s1 = z := ⟨_, rfl⟩
  obtain ⟨a, ha⟩ : ∃ z, u - m = z := ⟨_, rfl⟩
  have HE := DT.first_one (u := u) (s := s)
  rw [hs1, hm, ha] at HE
  have C := fun w => ppixel19 a (by omega) w
  rw [HE] at C
  clear HE
  generalize DT.first u s = z at *
  have W1 : wrap64 (s - 1) = s1 := (IntWalk.wrap64_in _ (by omega)).trans hs1
  have W2 : wrap64 (128 * s1) = m := (IntWalk.wrap64_in _ (by omega)).trans hm
  have W3 : wrap64 (u - m) = a := (IntWalk.wrap64_in _ (by omega)).trans ha
  clear hs1 hm ha hu hs
  go_enter Try.func23, Try.ntmps23
  go_wp2_with (go_at_call 32; refine (C _).mono ?_; rintro e w' ⟨rfl, rfl⟩)
  go_ret
  exact ⟨rfl, rfl⟩
set_option maxHeartbeats 4000000 in
theorem pshade19 (u s x : Int) (hx : -4194304 ≤ x ∧ x ≤ 4194304) (hu : -268435456 ≤ u ∧ u ≤ 268435456) (hs : 1 ≤ s ∧ s ≤ 64) (w : World) : Calls Try.prog 39 #[.int .i64 u, .int .i64 s, .int .i64 x] w fun e w' => e = .returned (.int .i64 (DT.part (256 * x + 128) u s)) ∧ w' = w := by
  obtain ⟨x1, hx1⟩ : ∃ z, 256 * x = z := ⟨_, rfl⟩
  obtain ⟨x2, hx2⟩ : ∃ z, x1 + 128 = z := ⟨_, rfl⟩
  obtain ⟨s1, hs1⟩ : ∃ z, 128 * s = z := ⟨_, rfl⟩
  obtain ⟨a, ha⟩ : ∃ z, u - s1 = z := ⟨_, rfl⟩
  obtain ⟨b, hb⟩ : ∃ z, x2 - a = z := ⟨_, rfl⟩
  have lq := DT.div_lim (x := b) (c := s) (B := 4611686018427387904) (by omega) (by decide) (by omega)
  obtain ⟨q, hq⟩ : ∃ z, b / s = z := ⟨_, rfl⟩
  obtain ⟨t, ht⟩ : ∃ z, b.tdiv s = z := ⟨_, rfl⟩
  have HM : max 0 (min t 255) = max 0 (min q 255) := DT.cut_down (by omega) ht hq
  obtain ⟨m, hm⟩ : ∃ z, min t 255 = z := ⟨_, rfl⟩
  obtain ⟨r, hr⟩ : ∃ z, max 0 m = z := ⟨_, rfl⟩
  have HE : Hid (DT.part (256 * x + 128) u s = r) := Lib.hid (by unfold DT.part; rw [hx1, hx2, hs1, ha, hb, hq, ← HM, hm, hr])
  have lt : -4611686018427387904 ≤ t ∧ t ≤ 4611686018427387904 := DT.tdiv_lim (by omega) (by omega) ht
  have hsn : ¬ s = 0 := by omega
  have W0 : wrap64 t = t := IntWalk.wrap64_in _ (by omega)
  have W1 : wrap64 (256 * x) = x1 := (IntWalk.wrap64_in _ (by omega)).trans hx1
  have W2 : wrap64 (x1 + 128) = x2 := (IntWalk.wrap64_in _ (by omega)).trans hx2
  have W3 : wrap64 (128 * s) = s1 := (IntWalk.wrap64_in _ (by omega)).trans hs1
  have W4 : wrap64 (u - s1) = a := (IntWalk.wrap64_in _ (by omega)).trans ha
  have W5 : wrap64 (x2 - a) = b := (IntWalk.wrap64_in _ (by omega)).trans hb
  have G0 := (min_if t 255).trans hm
  have G1 := (max_if 0 m).trans hr
  clear hx1 hx2 hs1 ha hb hq hm hr hx hu hs lq lt HM
  go_enter Try.func39, Try.ntmps39
  go_wp2_with fail
  go_ret
  exact ⟨by rw [HE.out]; rfl, rfl⟩
set_option maxRecDepth 100000 in
set_option maxHeartbeats 8000000 in
theorem paround19 (v : Nat → Int) (s : Int) (h0 : -268435456 ≤ v 0 ∧ v 0 ≤ 268435456) (h1 : -268435456 ≤ v 1 ∧ v 1 ≤ 268435456) (hs : 1 ≤ s ∧ s ≤ 64) (w : World) : Calls Try.prog 35 #[arr 7 v, .int .i64 s] w fun e w' => e = .returned (arr 4 (DT.arnd v s)) ∧ Below w.heap.size w w' := by
  have O := Own.start w
  have HE : DT.arnd v s = RC.mk ((v 0 - 128 * s) / 256) ((v 1 - 128 * s) / 256) ((v 0 + 128 * s) / 256 + 1) ((v 1 + 128 * s) / 256 + 1) := rfl
  obtain ⟨v0, ev0⟩ : ∃ z, v 0 = z := ⟨_, rfl⟩
  have Cv0 := cell_is (n := 7) ev0 (by decide)
  obtain ⟨v1, ev1⟩ : ∃ z, v 1 = z := ⟨_, rfl⟩
  have Cv1 := cell_is (n := 7) ev1 (by decide)
  rw [ev0] at h0 HE
  rw [ev1] at h1 HE
  obtain ⟨c, hc⟩ : ∃ z, 128 * s = z := ⟨_, rfl⟩
  obtain ⟨a, ha⟩ : ∃ z, v0 - c = z := ⟨_, rfl⟩
  obtain ⟨b, hb⟩ : ∃ z, v1 - c = z := ⟨_, rfl⟩
  obtain ⟨d, hd⟩ : ∃ z, v0 + c = z := ⟨_, rfl⟩
  obtain ⟨e_, he_⟩ : ∃ z, v1 + c = z := ⟨_, rfl⟩
  rw [hc, ha, hb, hd, he_] at HE
  have Ca := fun w => ppixel19 a (by omega) w
  have Cb := fun w => ppixel19 b (by omega) w
  have Cd := fun w => ppixel19 d (by omega) w
  have Ce := fun w => ppixel19 e_ (by omega) w
  obtain ⟨qa, hqa⟩ : ∃ z, a / 256 = z := ⟨_, rfl⟩
  obtain ⟨qb, hqb⟩ : ∃ z, b / 256 = z := ⟨_, rfl⟩
  obtain ⟨qd, hqd⟩ : ∃ z, d / 256 = z := ⟨_, rfl⟩
  obtain ⟨qe, hqe⟩ : ∃ z, e_ / 256 = z := ⟨_, rfl⟩
  obtain ⟨rd, hrd⟩ : ∃ z, qd + 1 = z := ⟨_, rfl⟩
  obtain ⟨re, hre⟩ : ∃ z, qe + 1 = z := ⟨_, rfl⟩
  rw [hqa, hqb, hqd, hqe, hrd, hre] at HE
  rw [hqa] at Ca
  rw [hqb] at Cb
  rw [hqd] at Cd
  rw [hqe] at Ce
  have W1 : wrap64 (128 * s) = c := (IntWalk.wrap64_in _ (by omega)).trans hc
  have Wa : Hid (IntKind.i64.wrap (v0 - c) = a) := Lib.hid ((IntWalk.i64_in _ (by omega)).trans ha)
  have Wb : Hid (IntKind.i64.wrap (v1 - c) = b) := Lib.hid ((IntWalk.i64_in _ (by omega)).trans hb)
  have Wd : Hid (IntKind.i64.wrap (v0 + c) = d) := Lib.hid ((IntWalk.i64_in _ (by omega)).trans hd)
  have We : Hid (IntKind.i64.wrap (v1 + c) = e_) := Lib.hid ((IntWalk.i64_in _ (by omega)).trans he_)
  have Vd : Hid (IntKind.i64.wrap (qd + 1) = rd) := Lib.hid ((IntWalk.i64_in _ (by omega)).trans hrd)
  have Ve : Hid (IntKind.i64.wrap (qe + 1) = re) := Lib.hid ((IntWalk.i64_in _ (by omega)).trans hre)
  replace HE := Lib.hid HE
  clear hs h0 h1 hc ha hb hd he_ hqa hqb hqd hqe hrd hre ev0 ev1
  go_enter Try.func35, Try.ntmps35
  go_wp2_with (first | ((with_reducible refine at_box 2 ?_); refine wpList_box_own O (M.mat 7 (v)) rfl ?_; clear O; intro g2 w1 O) | ((with_reducible refine at_alloc 4 ?_); refine wpList_alloc_own O (M.mat 4 M.zero) zeroR ?_; clear O; intro g4 w2 O))
  simp only [W1]
  refine region_T (fun w2 => Own w w2 [(g4, 27, M.mat 4 M.zero), (g2, 25, M.mat 7 v)]) [0, 1, 2, 3, 4, 5, 6, 7, 8, 9, 10, 11, 12, 13, 14, 15, 16, 17, 18, 19, 20, 21, 22] 12 [some 8, some 9, some 10, some 11, some 12, some 13, some 14, some 15, some 16, some 17, some 18, some 19, some 20, some 21, some 22, some 23, some 24, some 25, some 26, some 27, some 28, some 29, some 30] [.pointer (some ⟨g2, 0, none⟩), .int .i64 (v0), .int .i64 (c), .int .i64 (a), .int .i64 (qa), .pointer (some ⟨g2, 1, none⟩), .int .i64 (v1), .int .i64 (c), .int .i64 (b), .int .i64 (qb), .pointer (some ⟨g2, 0, none⟩), .int .i64 (v0), .int .i64 (c), .int .i64 (d), .int .i64 (qd), .int .i64 (rd), .pointer (some ⟨g2, 1, none⟩), .int .i64 (v1), .int .i64 (c), .int .i64 (e_), .int .i64 (qe), .int .i64 (re), arr 4 (RC.mk qa qb rd re)] 1 (by kernel_rfl) (by rfl) (by kernel_rfl) (by rfl) (by rfl) (O.drew) (fun F hF => ?_)
  simp only [fillD, Act.put, List.setIfInBounds_toArray, List.set_cons_zero, List.set_cons_succ] at hF
  subst hF
  refine ⟨⟨does_want rfl (by rfl) (fun w' O K hK => ?_), does_want rfl (by rfl) (fun w' O K hK => ?_), does_want rfl (by rfl) (fun w' O K hK => ?_), does_want rfl (by rfl) (fun w' O K hK => ?_), does_want rfl (by rfl) (fun w' O K hK => ?_), does_want rfl (by rfl) (fun w' O K hK => ?_), does_want rfl (by rfl) (fun w' O K hK => ?_), does_want rfl (by rfl) (fun w' O K hK => ?_), does_want rfl (by rfl) (fun w' O K hK => ?_), does_want rfl (by rfl) (fun w' O K hK => ?_), does_want rfl (by rfl) (fun w' O K hK => ?_), does_want rfl (by rfl) (fun w' O K hK => ?_), does_want rfl (by rfl) (fun w' O K hK => ?_), does_want rfl (by rfl) (fun w' O K hK => ?_), does_want rfl (by rfl) (fun w' O K hK => ?_), does_want rfl (by rfl) (fun w' O K hK => ?_), does_want rfl (by rfl) (fun w' O K hK => ?_), does_want rfl (by rfl) (fun w' O K hK => ?_), does_want rfl (by rfl) (fun w' O K hK => ?_), does_want rfl (by rfl) (fun w' O K hK => ?_), does_want rfl (by rfl) (fun w' O K hK => ?_), does_want rfl (by rfl) (fun w' O K hK => ?_), does_want rfl (by rfl) (fun w' O K hK => ?_), trivial⟩, fun w' O => ?_⟩
  · go_simp
    exact hK _ O
  · exact wp_cell_h (v := .int .i64 (v0)) O.held 1 rfl Cv0.out rfl agg3 rfl (hK _ O)
  · go_simp
    exact hK _ O
  · go_simp
    simp only [Wa.out]
    exact hK _ O
  · go_simp
    go_at_call 32
    refine (Ca _).mono ?_
    rintro e w2 ⟨rfl, rfl⟩
    exact hK _ O
  · go_simp
    exact hK _ O
  · exact wp_cell_h (v := .int .i64 (v1)) O.held 1 rfl Cv1.out rfl agg3 rfl (hK _ O)
  · go_simp
    exact hK _ O
  · go_simp
    simp only [Wb.out]
    exact hK _ O
  · go_simp
    go_at_call 32
    refine (Cb _).mono ?_
    rintro e w2 ⟨rfl, rfl⟩
    exact hK _ O
  · go_simp
    exact hK _ O
  · exact wp_cell_h (v := .int .i64 (v0)) O.held 1 rfl Cv0.out rfl agg3 rfl (hK _ O)
  · go_simp
    exact hK _ O
  · go_simp
    simp only [Wd.out]
    exact hK _ O
  · go_simp
    go_at_call 32
    refine (Cd _).mono ?_
    rintro e w2 ⟨rfl, rfl⟩
    exact hK _ O
  · go_simp
    simp only [Vd.out]
    exact hK _ O
  · go_simp
    exact hK _ O
  · exact wp_cell_h (v := .int .i64 (v1)) O.held 1 rfl Cv1.out rfl agg3 rfl (hK _ O)
  · go_simp
    exact hK _ O
  · go_simp
    simp only [We.out]
    exact hK _ O
  · go_simp
    go_at_call 32
    refine (Ce _).mono ?_
    rintro e w2 ⟨rfl, rfl⟩
    exact hK _ O
  · go_simp
    simp only [Ve.out]
    exact hK _ O
  · exact wp_build_own [(0, .int .i64 qa), (1, .int .i64 qb), (2, .int .i64 rd), (3, .int .i64 re)] (M.mat 4 (RC.mk qa qb rd re)).toArray (by simp only [List.map_toArray, List.map_cons, List.map_nil]; rfl) (builtR17 _ _ _ _) (hK _ O)
  refine wpAny_want (i := 23) (by kernel_rfl) rfl (by rfl) (fun K hK => ?_)
  refine wp_put_own O 0 (M.mat 4 (RC.mk qa qb rd re)) rfl rfl rfl (sR _) (M.mat_len2 _ _ _) (M.mat_one _ _) fun w9 O9 => hK _ _ ?_
  clear O
  have O := O9
  clear O9
  clear hK K
  try simp only [Act.put, List.setIfInBounds_toArray, List.set_cons_zero, List.set_cons_succ]
  refine wpAny_done (by kernel_rfl) ?_ _
  go_wp2_with fail
  exact bodyPost_ret (v := arr 4 (DT.arnd v s)) (by rw [HE.out]; exact res_h rfl O.held 0 rfl rfl Try.underlying27 rfl (sR _)) rfl ⟨rfl, O.below⟩
set_option maxHeartbeats 8000000 in
theorem pright19_any (v : Nat → Int) (s k : Int) (w : World) : Calls Try.prog 9 #[arr 7 v, .int .i64 s, .int .i64 k] w fun e w' => e = .returned (.bool (DT.right v s k)) ∧ Below w.heap.size w w' := by
  have O := Own.start w
  have CR := fun w => wright_any v v s (HM.t3 0 1 0) w
  have HZ : DT.right v s k = (WD.right v v s (HM.t3 0 1 0) && (decide (0 ≤ k) && decide (k ≤ 2))) := DT.right_wide v s k
  rw [HZ]
  clear HZ
  generalize WD.right v v s (HM.t3 0 1 0) = z at *
  cases z
  · go_enter Try.func9, Try.ntmps9
    go_wp2_with (first | ((with_reducible refine at_box 3 ?_); refine wpList_box_own O (M.mat 7 (v)) rfl ?_; clear O; intro g3 w1 O) | ((with_reducible refine at_load 7 ?_); refine wpList_whole rfl O 0 rfl rfl Try.underlying25 rfl (sW _) ?_) | ((with_reducible refine at_load 8 ?_); refine wpList_whole rfl O 0 rfl rfl Try.underlying25 rfl (sW _) ?_) | ((with_reducible refine at_build 10 ?_); refine wpList_build_g rfl ([(1, .int .i64 1)]) ((M.mat 3 (HM.t3 0 1 0)).toArray) ?_ (builtH19) ?_; (focus (simp only [List.map_toArray, List.map_cons, List.map_nil]; rfl))) | (go_at_call 21; refine (CR _).mono ?_; rintro e w3 ⟨rfl, hb⟩; replace O := O.call hb; clear hb))
    go_ret
    exact ⟨rfl, O.below⟩
  cases h2 : decide (0 ≤ k)
  · go_enter Try.func9, Try.ntmps9
    go_wp2_with (first | ((with_reducible refine at_box 3 ?_); refine wpList_box_own O (M.mat 7 (v)) rfl ?_; clear O; intro g3 w1 O) | ((with_reducible refine at_load 7 ?_); refine wpList_whole rfl O 0 rfl rfl Try.underlying25 rfl (sW _) ?_) | ((with_reducible refine at_load 8 ?_); refine wpList_whole rfl O 0 rfl rfl Try.underlying25 rfl (sW _) ?_) | ((with_reducible refine at_build 10 ?_); refine wpList_build_g rfl ([(1, .int .i64 1)]) ((M.mat 3 (HM.t3 0 1 0)).toArray) ?_ (builtH19) ?_; (focus (simp only [List.map_toArray, List.map_cons, List.map_nil]; rfl))) | (go_at_call 21; refine (CR _).mono ?_; rintro e w3 ⟨rfl, hb⟩; replace O := O.call hb; clear hb))
    go_ret
    exact ⟨rfl, O.below⟩
  cases h3 : decide (k ≤ 2)
  all_goals
    go_enter Try.func9, Try.ntmps9
    go_wp2_with (first | ((with_reducible refine at_box 3 ?_); refine wpList_box_own O (M.mat 7 (v)) rfl ?_; clear O; intro g3 w1 O) | ((with_reducible refine at_load 7 ?_); refine wpList_whole rfl O 0 rfl rfl Try.underlying25 rfl (sW _) ?_) | ((with_reducible refine at_load 8 ?_); refine wpList_whole rfl O 0 rfl rfl Try.underlying25 rfl (sW _) ?_) | ((with_reducible refine at_build 10 ?_); refine wpList_build_g rfl ([(1, .int .i64 1)]) ((M.mat 3 (HM.t3 0 1 0)).toArray) ?_ (builtH19) ?_; (focus (simp only [List.map_toArray, List.map_cons, List.map_nil]; rfl))) | (go_at_call 21; refine (CR _).mono ?_; rintro e w3 ⟨rfl, hb⟩; replace O := O.call hb; clear hb))
    go_ret
    exact ⟨rfl, O.below⟩
set_option maxRecDepth 100000 in
set_option maxHeartbeats 4000000 in
theorem pbox19_any (v : Nat → Int) (s : Int) (w : World) : Calls Try.prog 11 #[arr 7 v, .int .i64 s] w fun e w' => e = .returned (arr 4 (DT.box v s)) ∧ Below w.heap.size w w' := by
  have O := Own.start w
  have CR := fun w => pright19_any v s 0 w
  cases hr : DT.right v s 0
  · have HE := Lib.hid (DT.box_bad hr)
    rw [hr] at CR
    clear hr
    go_enter Try.func11, Try.ntmps11
    go_wp2_with (first | ((with_reducible refine at_box 2 ?_); refine wpList_box_own O (M.mat 7 (v)) rfl ?_; clear O; intro g2 w1 O) | ((with_reducible refine at_alloc 4 ?_); refine wpList_alloc_own O (M.mat 4 M.zero) zeroR ?_; clear O; intro g4 w2 O) | ((with_reducible refine at_load 7 ?_); refine wpList_whole rfl O 1 rfl rfl Try.underlying25 rfl (sW _) ?_) | (go_at_call 9; refine (CR _).mono ?_; rintro e w3 ⟨rfl, hb⟩; replace O := O.call hb; clear hb) | ((with_reducible refine at_build 11 ?_); refine wpList_build_g rfl ([]) ((M.mat 4 M.zero).toArray) ?_ (builtRz) ?_; (focus (simp only [List.map_toArray, List.map_cons, List.map_nil]; rfl))) | ((with_reducible refine at_store 4 ?_); refine wpList_put_own O 0 (M.mat 4 (M.zero)) rfl rfl rfl (sR _) (M.mat_len2 _ _ _) (M.mat_one _ _) ?_; clear O; intro w4 O))
    exact bodyPost_ret (v := arr 4 (DT.box v s)) (by rw [HE.out]; exact res_h rfl O.held 0 rfl rfl Try.underlying27 rfl (sR _)) rfl ⟨rfl, O.below⟩
  · obtain ⟨hf, hs, _⟩ := DT.right_iff.1 hr
    obtain ⟨l0, l1, -⟩ := VM.fit_lim hf
    have f0 := DT.first_lim l0 hs
    have f1 := DT.first_lim l1 hs
    have C0 := fun w => pfirst19 (v 0) s l0 hs w
    have C1 := fun w => pfirst19 (v 1) s l1 hs w
    have HE := DT.box_ok hr
    rw [hr] at CR
    clear hr hf l0 l1
    obtain ⟨v0, ev0⟩ : ∃ z, v 0 = z := ⟨_, rfl⟩
    have Cv0 := cell_is (n := 7) ev0 (by decide)
    obtain ⟨v1, ev1⟩ : ∃ z, v 1 = z := ⟨_, rfl⟩
    have Cv1 := cell_is (n := 7) ev1 (by decide)
    rw [ev0] at C0 HE f0
    rw [ev1] at C1 HE f1
    obtain ⟨q0, hq0⟩ : ∃ z, DT.first v0 s = z := ⟨_, rfl⟩
    obtain ⟨q1, hq1⟩ : ∃ z, DT.first v1 s = z := ⟨_, rfl⟩
    obtain ⟨p0, hp0⟩ : ∃ z, q0 + s = z := ⟨_, rfl⟩
    obtain ⟨p1, hp1⟩ : ∃ z, q1 + s = z := ⟨_, rfl⟩
    rw [hq0] at C0 HE f0
    rw [hq1] at C1 HE f1
    rw [hp0, hp1] at HE
    have W0 : wrap64 (q0 + s) = p0 := (IntWalk.wrap64_in _ (by omega)).trans hp0
    have W1 : wrap64 (q1 + s) = p1 := (IntWalk.wrap64_in _ (by omega)).trans hp1
    replace HE := Lib.hid HE
    clear ev0 ev1 f0 f1 hq0 hq1 hp0 hp1 hs
    go_enter Try.func11, Try.ntmps11
    go_wp2_with (first | ((with_reducible refine at_box 2 ?_); refine wpList_box_own O (M.mat 7 (v)) rfl ?_; clear O; intro g2 w1 O) | ((with_reducible refine at_alloc 4 ?_); refine wpList_alloc_own O (M.mat 4 M.zero) zeroR ?_; clear O; intro g4 w2 O) | ((with_reducible refine at_load 7 ?_); refine wpList_whole rfl O 1 rfl rfl Try.underlying25 rfl (sW _) ?_) | (go_at_call 9; refine (CR _).mono ?_; rintro e w3 ⟨rfl, hb⟩; replace O := O.call hb; clear hb))
    clear CR
    refine region_T (fun w2 => Own w w2 [(g4, 27, M.mat 4 M.zero), (g2, 25, M.mat 7 v)]) [0, 1, 2, 3, 4, 5, 6, 7, 8] 12 [some 12, some 13, some 14, some 15, some 16, some 17, some 18, some 19, some 5] [.pointer (some ⟨g2, 0, none⟩), .int .i64 (v0), .int .i64 (s), .int .i64 (q0), .pointer (some ⟨g2, 1, none⟩), .int .i64 (v1), .int .i64 (s), .int .i64 (q1), .int .i64 (q0)] 1 (by kernel_rfl) (by rfl) (by kernel_rfl) (by rfl) (by rfl) (O.drew) (fun F hF => ?_)
    simp only [fillD, Act.put, List.setIfInBounds_toArray, List.set_cons_zero, List.set_cons_succ] at hF
    subst hF
    refine ⟨⟨does_want rfl (by rfl) (fun w' O K hK => ?_), does_want rfl (by rfl) (fun w' O K hK => ?_), does_want rfl (by rfl) (fun w' O K hK => ?_), does_want rfl (by rfl) (fun w' O K hK => ?_), does_want rfl (by rfl) (fun w' O K hK => ?_), does_want rfl (by rfl) (fun w' O K hK => ?_), does_want rfl (by rfl) (fun w' O K hK => ?_), does_want rfl (by rfl) (fun w' O K hK => ?_), does_want rfl (by rfl) (fun w' O K hK => ?_), trivial⟩, fun w' O => ?_⟩
    · go_simp
      exact hK _ O
    · exact wp_cell_h (v := .int .i64 (v0)) O.held 1 rfl Cv0.out rfl agg3 rfl (hK _ O)
    · go_simp
      exact hK _ O
    · go_simp
      go_at_call 23
      refine (C0 _).mono ?_
      rintro e w2 ⟨rfl, rfl⟩
      exact hK _ O
    · go_simp
      exact hK _ O
    · exact wp_cell_h (v := .int .i64 (v1)) O.held 1 rfl Cv1.out rfl agg3 rfl (hK _ O)
    · go_simp
      exact hK _ O
    · go_simp
      go_at_call 23
      refine (C1 _).mono ?_
      rintro e w2 ⟨rfl, rfl⟩
      exact hK _ O
    · go_simp
      exact hK _ O
    refine wpAny_one (i := 9) (by kernel_rfl) rfl (fun K hK => ?_)
    go_simp
    refine hK _ _ ?_
    clear hK K
    try simp only [Act.put, List.setIfInBounds_toArray, List.set_cons_zero, List.set_cons_succ]
    refine wpAny_done (by kernel_rfl) ?_ _
    go_wp2_with (first | ((with_reducible refine at_build 28 ?_); refine wpList_build_g rfl ([(0, .int .i64 q0), (1, .int .i64 q1), (2, .int .i64 p0), (3, .int .i64 p1)]) ((M.mat 4 (RC.mk q0 q1 p0 p1)).toArray) ?_ (builtR17 _ _ _ _) ?_; (focus (simp only [List.map_toArray, List.map_cons, List.map_nil]; rfl))) | ((with_reducible refine at_store 4 ?_); refine wpList_put_own O 0 (M.mat 4 (RC.mk q0 q1 p0 p1)) rfl rfl rfl (sR _) (M.mat_len2 _ _ _) (M.mat_one _ _) ?_; clear O; intro w9 O))
    exact bodyPost_ret (v := arr 4 (DT.box v s)) (by rw [HE.out]; exact res_h rfl O.held 0 rfl rfl Try.underlying27 rfl (sR _)) rfl ⟨rfl, O.below⟩
end Go.Proofs.Ytlmgilcigbnbaaa
