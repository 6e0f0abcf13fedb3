/- Contracts: the program's Along and Across. -/
import Derived.Test.YtdkppkdoconfhaaPb
import Derived.Test.YtdkppkdoconfhaaVf
namespace Go.Proofs.Ytdkppkdoconfhaa
open Go.ChangeShapes Go.WideShapes Go.ChangeAt Go.RowKit
set_option linter.unusedVariables false
set_option linter.unusedSimpArgs false

theorem lmiddle_any (x : Int) (hx : -4194304 ≤ x ∧ x ≤ 4194304) (w : World) : Calls Try.prog 49 #[.int .i64 x] w fun e w' => e = .returned (.int .i64 (256 * x + 128)) ∧ Below w.heap.size w w' := by
  obtain ⟨y, hy⟩ : ∃ z, 256 * x = z := ⟨_, rfl⟩
  have F1 : wrap64 (256 * x) = y := (IntWalk.wrap64_in _ (by omega)).trans hy
  obtain ⟨z, hz⟩ : ∃ z, y + 128 = z := ⟨_, rfl⟩
  have F2 : wrap64 (y + 128) = z := (IntWalk.wrap64_in _ (by omega)).trans hz
  have HE := Lib.hid (show 256 * x + 128 = z by omega)
  clear hx hy hz
  go_enter Try.func49, Try.ntmps49
  go_wp2_with fail
  go_ret
  exact ⟨by rw [HE.out, ← F2, ← F1]; rfl, Below.refl _ _⟩
set_option maxRecDepth 100000 in
set_option maxHeartbeats 8000000 in
theorem pacross_any (a b : Nat → Int) (X Y : Int) (ha : VM.fit a = true) (hb : VM.fit b = true) (hX : -4194304 ≤ X ∧ X ≤ 4194304) (hY : -4194304 ≤ Y ∧ Y ≤ 4194304) (w : World) :
    Calls Try.prog 32 #[arr 7 a, arr 7 b, .int .i64 X, .int .i64 Y] w (RetZ w (VM.mid (a 2) (b 2) (VM.nC (a 0) (a 1) (b 0) (b 1) X Y) (VM.dC (a 0) (a 1) (b 0) (b 1))) (VM.col a b (VM.nC (a 0) (a 1) (b 0) (b 1) X Y) (VM.dC (a 0) (a 1) (b 0) (b 1)))) := by
  have O := Own.start w
  obtain ⟨la0, la1, -, -⟩ := VM.fit_lim ha
  obtain ⟨lb0, lb1, -, -⟩ := VM.fit_lim hb
  have CB := fun n d (hd : d < 9223372036854775808) v w (hT : Tell n d v w) => told_any a b v (VM.lim_of ha) (VM.lim_of hb) hd w hT
  have MX := fun w => lmiddle_any X hX w
  have MY := fun w => lmiddle_any Y hY w
  clear ha hb
  obtain ⟨p0, ep0⟩ : ∃ z, a 0 = z := ⟨_, rfl⟩
  have Cp0 := cell_is (n := 7) ep0 (by decide)
  obtain ⟨p1, ep1⟩ : ∃ z, a 1 = z := ⟨_, rfl⟩
  have Cp1 := cell_is (n := 7) ep1 (by decide)
  obtain ⟨q0, eq0⟩ : ∃ z, b 0 = z := ⟨_, rfl⟩
  have Cq0 := cell_is (n := 7) eq0 (by decide)
  obtain ⟨q1, eq1⟩ : ∃ z, b 1 = z := ⟨_, rfl⟩
  have Cq1 := cell_is (n := 7) eq1 (by decide)
  rw [ep0] at la0 ⊢
  rw [ep1] at la1 ⊢
  rw [eq0] at lb0 ⊢
  rw [eq1] at lb1 ⊢
  clear ep0 ep1 eq0 eq1
  obtain ⟨W, hW⟩ : ∃ z, q0 - p0 = z := ⟨_, rfl⟩
  obtain ⟨H, hH⟩ : ∃ z, q1 - p1 = z := ⟨_, rfl⟩
  have DW : Hid (IntKind.i64.wrap (q0 - p0) = W) := Lib.hid ((IntWalk.i64_in _ (by omega)).trans hW)
  have DH : Hid (IntKind.i64.wrap (q1 - p1) = H) := Lib.hid ((IntWalk.i64_in _ (by omega)).trans hH)
  have EH : wrap64 (q1 - p1) = H := (IntWalk.wrap64_in _ (by omega)).trans hH
  obtain ⟨X2, hX2⟩ : ∃ z, 256 * X + 128 = z := ⟨_, rfl⟩
  obtain ⟨Y2, hY2⟩ : ∃ z, 256 * Y + 128 = z := ⟨_, rfl⟩
  rw [hX2] at MX
  rw [hY2] at MY
  obtain ⟨nx, hnx⟩ : ∃ z, X2 - p0 = z := ⟨_, rfl⟩
  obtain ⟨ny, hny⟩ : ∃ z, Y2 - p1 = z := ⟨_, rfl⟩
  have DX : Hid (IntKind.i64.wrap (X2 - p0) = nx) := Lib.hid ((IntWalk.i64_in _ (by omega)).trans hnx)
  have DY : Hid (IntKind.i64.wrap (Y2 - p1) = ny) := Lib.hid ((IntWalk.i64_in _ (by omega)).trans hny)
  have HX := Lib.hid MX
  have HY := Lib.hid MY
  clear MX MY
  have l1 := VM.mul_lim (x := nx) (y := W) (A := 2147483648) (B := 536870912) (by omega) (by omega)
  have l2 := VM.mul_lim (x := W) (y := W) (A := 536870912) (B := 536870912) (by omega) (by omega)
  have l3 := VM.mul_lim (x := ny) (y := H) (A := 2147483648) (B := 536870912) (by omega) (by omega)
  have l4 := VM.mul_lim (x := H) (y := H) (A := 536870912) (B := 536870912) (by omega) (by omega)
  obtain ⟨s1, hs1⟩ : ∃ z, nx * W = z := ⟨_, rfl⟩
  have P1 : Hid (IntKind.i64.wrap (nx * W) = s1) := Lib.hid ((IntWalk.i64_in _ (by omega)).trans hs1)
  obtain ⟨s2, hs2⟩ : ∃ z, ny * H = z := ⟨_, rfl⟩
  have P2 : Hid (IntKind.i64.wrap (ny * H) = s2) := Lib.hid ((IntWalk.i64_in _ (by omega)).trans hs2)
  obtain ⟨n, hn⟩ : ∃ z, s1 + s2 = z := ⟨_, rfl⟩
  have P3 : Hid (IntKind.i64.wrap (s1 + s2) = n) := Lib.hid ((IntWalk.i64_in _ (by omega)).trans hn)
  obtain ⟨t1, ht1⟩ : ∃ z, W * W = z := ⟨_, rfl⟩
  have P4 : Hid (IntKind.i64.wrap (W * W) = t1) := Lib.hid ((IntWalk.i64_in _ (by omega)).trans ht1)
  obtain ⟨t2, ht2⟩ : ∃ z, H * H = z := ⟨_, rfl⟩
  have P5 : Hid (IntKind.i64.wrap (H * H) = t2) := Lib.hid ((IntWalk.i64_in _ (by omega)).trans ht2)
  obtain ⟨d, hd⟩ : ∃ z, t1 + t2 = z := ⟨_, rfl⟩
  have P6 : Hid (IntKind.i64.wrap (t1 + t2) = d) := Lib.hid ((IntWalk.i64_in _ (by omega)).trans hd)
  have en : VM.nC p0 p1 q0 q1 X Y = n := by unfold VM.nC; rw [hW, hH, hX2, hnx, hY2, hny, hs1, hs2, hn]
  have ed : VM.dC p0 p1 q0 q1 = d := by unfold VM.dC; rw [hW, hH, ht1, ht2, hd]
  rw [en, ed]
  have CC := CB n d (by omega)
  generalize VM.mid (a 2) (b 2) n d = z at CC ⊢
  generalize VM.col a b n d = c at CC ⊢
  have CD := Lib.hid CC
  have CA := Lib.hid (fun w => at_any n d w)
  clear CB CC en ed la0 la1 lb0 lb1 hX hY hW hH hX2 hnx hY2 hny l1 l2 l3 l4 hs1 hs2 hn ht1 ht2 hd EH
  go_enter Try.func32, Try.ntmps32
  go_wp2_with (first | ((with_reducible refine at_box 4 ?_); refine wpList_box_own O (M.mat 7 (a)) rfl ?_; clear O; intro g4 w1 O) | ((with_reducible refine at_box 5 ?_); refine wpList_box_own O (M.mat 7 (b)) rfl ?_; clear O; intro g5 w2 O) | ((with_reducible refine at_alloc 9 ?_); refine wpList_alloc_own O (M.mat 4 M.zero) zeroC ?_; clear O; intro g9 w3 O))
  refine region_T ((fun w2 => Own w w2 [(g9, 23, M.mat 4 M.zero), (g5, 25, M.mat 7 b), (g4, 25, M.mat 7 a)])) [0, 1, 2, 3, 4, 5, 6, 7, 8, 9, 10] 12 [some 13, some 14, some 15, some 16, some 17, some 18, some 19, some 20, some 21, some 22, some 10] [.pointer (some ⟨g5, 0, none⟩), .int .i64 q0, .pointer (some ⟨g4, 0, none⟩), .int .i64 p0, .int .i64 W, .pointer (some ⟨g5, 1, none⟩), .int .i64 q1, .pointer (some ⟨g4, 1, none⟩), .int .i64 p1, .int .i64 H, .int .i64 W] 1 (by kernel_rfl) (by rfl) (by kernel_rfl) (by rfl) (by rfl) (O.drew) (fun F hF => ?_)
  simp only [fillD, Act.put, List.setIfInBounds_toArray, List.set_cons_zero, List.set_cons_succ] at hF
  subst hF
  refine ⟨⟨does_want rfl (by rfl) (fun w' O K hK => ?_), does_want rfl (by rfl) (fun w' O K hK => ?_), does_want rfl (by rfl) (fun w' O K hK => ?_), does_want rfl (by rfl) (fun w' O K hK => ?_), does_want rfl (by rfl) (fun w' O K hK => ?_), does_want rfl (by rfl) (fun w' O K hK => ?_), does_want rfl (by rfl) (fun w' O K hK => ?_), does_want rfl (by rfl) (fun w' O K hK => ?_), does_want rfl (by rfl) (fun w' O K hK => ?_), does_want rfl (by rfl) (fun w' O K hK => ?_), does_want rfl (by rfl) (fun w' O K hK => ?_), trivial⟩, fun w' O => ?_⟩
  · go_simp
    exact hK _ O
  · exact wp_cell_h (v := .int .i64 (q0)) O.held 1 rfl Cq0.out rfl agg3 rfl (hK _ O)
  · go_simp
    exact hK _ O
  · exact wp_cell_h (v := .int .i64 (p0)) O.held 2 rfl Cp0.out rfl agg3 rfl (hK _ O)
  · go_simp
    simp only [DW.out]
    exact hK _ O
  · go_simp
    exact hK _ O
  · exact wp_cell_h (v := .int .i64 (q1)) O.held 1 rfl Cq1.out rfl agg3 rfl (hK _ O)
  · go_simp
    exact hK _ O
  · exact wp_cell_h (v := .int .i64 (p1)) O.held 2 rfl Cp1.out rfl agg3 rfl (hK _ O)
  · go_simp
    simp only [DH.out]
    exact hK _ O
  · go_simp
    exact hK _ O
  refine wpAny_one (i := 11) (by kernel_rfl) rfl (fun K hK => ?_)
  go_simp
  refine hK _ _ ?_
  clear hK K
  try simp only [Act.put, List.setIfInBounds_toArray, List.set_cons_zero, List.set_cons_succ]
  refine wpAny_done (by kernel_rfl) ?_ _
  go_wp2_with fail
  refine region_T ((fun w2 => Own w w2 [(g9, 23, M.mat 4 M.zero), (g5, 25, M.mat 7 b), (g4, 25, M.mat 7 a)])) [0, 1, 2, 3, 4, 5, 6, 7, 8, 9, 10, 11, 12, 13, 14] 12 [some 23, some 24, some 25, some 26, some 27, some 28, some 29, some 30, some 31, some 32, some 33, some 34, some 35, some 36, some 37] [.int .i64 X, .int .i64 X2, .pointer (some ⟨g4, 0, none⟩), .int .i64 p0, .int .i64 nx, .int .i64 W, .int .i64 s1, .int .i64 Y, .int .i64 Y2, .pointer (some ⟨g4, 1, none⟩), .int .i64 p1, .int .i64 ny, .int .i64 H, .int .i64 s2, .int .i64 n] 1 (by kernel_rfl) (by rfl) (by kernel_rfl) (by rfl) (by rfl) (O.drew) (fun F hF => ?_)
  simp only [fillD, Act.put, List.setIfInBounds_toArray, List.set_cons_zero, List.set_cons_succ] at hF
  subst hF
  refine ⟨⟨does_want rfl (by rfl) (fun w' O K hK => ?_), does_want rfl (by rfl) (fun w' O K hK => ?_), does_want rfl (by rfl) (fun w' O K hK => ?_), does_want rfl (by rfl) (fun w' O K hK => ?_), does_want rfl (by rfl) (fun w' O K hK => ?_), does_want rfl (by rfl) (fun w' O K hK => ?_), does_want rfl (by rfl) (fun w' O K hK => ?_), does_want rfl (by rfl) (fun w' O K hK => ?_), does_want rfl (by rfl) (fun w' O K hK => ?_), does_want rfl (by rfl) (fun w' O K hK => ?_), does_want rfl (by rfl) (fun w' O K hK => ?_), does_want rfl (by rfl) (fun w' O K hK => ?_), does_want rfl (by rfl) (fun w' O K hK => ?_), does_want rfl (by rfl) (fun w' O K hK => ?_), does_want rfl (by rfl) (fun w' O K hK => ?_), trivial⟩, fun w' O => ?_⟩
  · go_simp
    exact hK _ O
  · go_simp
    go_at_call 49
    refine (HX.out _).mono ?_
    rintro e w2 ⟨rfl, hb⟩
    exact hK _ (O.call hb)
  · go_simp
    exact hK _ O
  · exact wp_cell_h (v := .int .i64 (p0)) O.held 2 rfl Cp0.out rfl agg3 rfl (hK _ O)
  · go_simp
    simp only [DX.out]
    exact hK _ O
  · go_simp
    exact hK _ O
  · go_simp
    simp only [P1.out]
    exact hK _ O
  · go_simp
    exact hK _ O
  · go_simp
    go_at_call 49
    refine (HY.out _).mono ?_
    rintro e w2 ⟨rfl, hb⟩
    exact hK _ (O.call hb)
  · go_simp
    exact hK _ O
  · exact wp_cell_h (v := .int .i64 (p1)) O.held 2 rfl Cp1.out rfl agg3 rfl (hK _ O)
  · go_simp
    simp only [DY.out]
    exact hK _ O
  · go_simp
    exact hK _ O
  · go_simp
    simp only [P2.out]
    exact hK _ O
  · go_simp
    simp only [P3.out]
    exact hK _ O
  refine wpAny_one (i := 15) (by kernel_rfl) rfl (fun K hK => ?_)
  go_simp
  refine hK _ _ ?_
  clear hK K
  try simp only [Act.put, List.setIfInBounds_toArray, List.set_cons_zero, List.set_cons_succ]
  refine wpAny_done (by kernel_rfl) ?_ _
  go_wp2_with fail
  refine region_S (fun st w2 => Own w w2 [(g9, 23, M.mat 4 M.zero), (g5, 25, M.mat 7 b), (g4, 25, M.mat 7 a)] ∧ ∀ v, st 10 = some v → Tell n d v w2) [10] 12 15 [some 38, some 39, some 40, some 41, some 42, some 43, some 44, some 45, some 46, some 47, some 48, some 49, some 50, some 51, some 8] (fun g => [arr 7 a, arr 7 b, .int .i64 n, .int .i64 W, .int .i64 W, .int .i64 t1, .int .i64 H, .int .i64 H, .int .i64 t2, .int .i64 d, g 10, .tuple #[.int .i64 z, arr 4 c], .int .i64 z, arr 4 c, .int .i64 z]) 1 (by kernel_rfl) (by kernel_rfl) (by rfl) (by rfl) (fun _ => rfl) (by decide) ?_ (⟨O.drew, fun v hv => by cases hv⟩) (fun F hF => ?_)
  · intro i hi
    simp only [List.mem_cons, List.not_mem_nil, or_false] at hi
    rcases hi with rfl
    · exact ⟨fun _ => rfl, [0, 1, 2, 3, 4, 5, 6, 7, 8, 9, 11, 12, 13, 14], by kernel_rfl, fun g v => ⟨rfl, rfl, rfl, rfl, rfl, rfl, rfl, rfl, rfl, rfl, rfl, rfl, rfl, rfl, trivial⟩⟩
  simp only [fillD, Act.put, List.setIfInBounds_toArray, List.set_cons_zero, List.set_cons_succ] at hF
  have hF2 := funext hF
  clear hF
  subst hF2
  refine ⟨⟨doesN_want (by decide) rfl (fun g => rfl) (fun st w' hS hp K hK => ?_), doesN_want (by decide) rfl (fun g => rfl) (fun st w' hS hp K hK => ?_), doesN_want (by decide) rfl (fun g => rfl) (fun st w' hS hp K hK => ?_), doesN_want (by decide) rfl (fun g => rfl) (fun st w' hS hp K hK => ?_), doesN_want (by decide) rfl (fun g => rfl) (fun st w' hS hp K hK => ?_), doesN_want (by decide) rfl (fun g => rfl) (fun st w' hS hp K hK => ?_), doesN_want (by decide) rfl (fun g => rfl) (fun st w' hS hp K hK => ?_), doesN_want (by decide) rfl (fun g => rfl) (fun st w' hS hp K hK => ?_), doesN_want (by decide) rfl (fun g => rfl) (fun st w' hS hp K hK => ?_), doesN_want (by decide) rfl (fun g => rfl) (fun st w' hS hp K hK => ?_), doesC_want (by decide) rfl (fun g => rfl) (fun st w' hS hn hp K hK => ?_), doesN_want (by decide) rfl (fun g => rfl) (fun st w' hS hp K hK => ?_), doesN_want (by decide) rfl (fun g => rfl) (fun st w' hS hp K hK => ?_), doesN_want (by decide) rfl (fun g => rfl) (fun st w' hS hp K hK => ?_), doesN_want (by decide) rfl (fun g => rfl) (fun st w' hS hp K hK => ?_), trivial⟩, fun st w' hS hall => ?_⟩
  · try dsimp only
    exact wp_whole hS.1 2 rfl rfl Try.underlying25 rfl (sW _) (hK _ hS)
  · try dsimp only
    exact wp_whole hS.1 1 rfl rfl Try.underlying25 rfl (sW _) (hK _ hS)
  · try dsimp only
    go_simp
    exact hK _ hS
  · try dsimp only
    go_simp
    exact hK _ hS
  · try dsimp only
    go_simp
    exact hK _ hS
  · try dsimp only
    go_simp
    simp only [P4.out]
    exact hK _ hS
  · try dsimp only
    go_simp
    exact hK _ hS
  · try dsimp only
    go_simp
    exact hK _ hS
  · try dsimp only
    go_simp
    simp only [P5.out]
    exact hK _ hS
  · try dsimp only
    go_simp
    simp only [P6.out]
    exact hK _ hS
  · try dsimp only
    obtain ⟨O, hT⟩ := hS
    go_simp
    go_at_call 51
    refine (CA.out _).mono ?_
    rintro e w2 ⟨v, rfl, hv, hb⟩
    exact hK v _ ⟨O.call hb, fun u hu => by rw [upd, if_pos rfl, Option.some.injEq] at hu; exact hu ▸ hv⟩
  · try dsimp only
    obtain ⟨v, hv⟩ := Option.isSome_iff_exists.1 (hp 10 (by decide) (by kernel_rfl))
    have hT := hS.2 v hv
    have e4 : seen st 10 = v := by rw [seen, hv, Option.getD_some]
    rw [e4]
    rw [e4] at hK
    go_simp
    go_at_call 50
    refine (CD.out v _ hT).mono ?_
    rintro e w2 ⟨rfl, hb⟩
    exact hK _ ⟨hS.1.call hb, fun u hu => (hS.2 u hu).kept hb⟩
  · try dsimp only
    go_simp
    exact hK _ hS
  · try dsimp only
    go_simp
    exact hK _ hS
  · try dsimp only
    go_simp
    exact hK _ hS
  try dsimp only
  have O := hS.1
  clear hS hall
  refine wpAny_want (i := 15) (by kernel_rfl) rfl (by rfl) (fun K hK => ?_)
  refine wp_put_own O 0 (M.mat 4 (c)) rfl rfl rfl (sC _) (M.mat_len2 _ _ _) (M.mat_one _ _) fun w9 O9 => hK _ _ ?_
  clear O
  have O := O9
  clear O9
  clear hK K
  try simp only [Act.put, List.setIfInBounds_toArray, List.set_cons_zero, List.set_cons_succ]
  refine wpAny_done (by kernel_rfl) ?_ _
  go_wp2_with fail
  exact bodyPost_ret (v := .tuple #[.int .i64 z, arr 4 c]) (res_t2 rfl O 0 rfl rfl Try.underlying23 rfl (sC _) rfl) rfl ⟨rfl, O.below⟩
end Go.Proofs.Ytdkppkdoconfhaa
