/-
  WideCounts: every line (whose ends are less than 4000 units apart) that isn't dashed has as many fragments as its core has pixels, times its width; dashed, as many as are lit; from a point to itself it has none; and the dash behind it is that many pixels later.
-/
import Derived.Test.YtpfhaocmcfnhnaaWu
import Derived.Test.YtpfhaocmcfnhnaaXe
import Derived.Deep.DeepCutAuto
namespace Go.Proofs.Ytpfhaocmcfnhnaa.wideCounts
open Go.ChangeShapes Go.WideShapes Go.ChangeAt Go.RowKit
set_option linter.unusedVariables false
set_option linter.unusedSimpArgs false

theorem own : ownKnob Try.prog.godebug = none := by kernel_rfl

set_option maxRecDepth 100000 in
set_option maxHeartbeats 16000000 in
theorem walk (w : World) (a b : Nat → Int) (n : Int) (s : Bool) (d r : Nat → Int) :
    Calls Try.prog 6 #[.agg (lw a b n s d r).toArray] w fun e w' => e = .returned (.bool true) ∧ Below w.heap.size w w' := by
  have O := Held.start w [] (by simp)
  have CR := fun w => rlright_any a b n d w
  cases hr : WD.right a b n d
  · rw [hr] at CR
    clear hr
    go_enter Try.func6, Try.ntmps6
    go_wp2_with (first | ((with_reducible refine at_box 1 ?_); refine wpList_box_h O (lw a b n s d r) rfl ?_; clear O; intro g1 w1 O) | ((with_reducible refine at_load 19 ?_); refine wpList_mid_h rfl O 0 rfl (M.mat 7 a) (lw_a a b n s d r) rfl Try.underlying25 rfl (sW _) ?_) | ((with_reducible refine at_load 21 ?_); refine wpList_mid_h rfl O 0 rfl (M.mat 7 b) (lw_b a b n s d r) rfl Try.underlying25 rfl (sW _) ?_) | ((with_reducible refine at_load 23 ?_); refine wpList_cell_h (v := .int .i64 n) rfl O 0 rfl (lw_n a b n s d r) rfl agg3 rfl ?_) | ((with_reducible refine at_load 25 ?_); refine wpList_mid_h rfl O 0 rfl (M.mat 3 d) (lw_d a b n s d r) rfl Try.underlying27 rfl (sH _) ?_) | (go_at_call 14; refine (CR _).mono ?_; rintro e w2 ⟨rfl, hb⟩; replace O := O.call hb; clear hb) | (go_at_call 9; refine (awake_any _).mono ?_; rintro e w9 ⟨rfl, hb⟩; replace O := O.call hb; clear hb))
    go_ret
    exact ⟨rfl, O.below⟩
  rw [hr] at CR
  obtain ⟨⟨hfa, hfb⟩, hn, hd⟩ := WD.right_iff.1 hr
  obtain ⟨la0, la1, -, -⟩ := VM.fit_lim hfa
  obtain ⟨lb0, lb1, -, -⟩ := VM.fit_lim hfb
  obtain ⟨ax, eax⟩ : ∃ z, a 0 = z := ⟨_, rfl⟩
  obtain ⟨ay, eay⟩ : ∃ z, a 1 = z := ⟨_, rfl⟩
  obtain ⟨bx, ebx⟩ : ∃ z, b 0 = z := ⟨_, rfl⟩
  obtain ⟨bz, ebz⟩ : ∃ z, b 1 = z := ⟨_, rfl⟩
  have D0 : Hid ((lw a b n s d r)[0]? = some (.int .i64 ax)) := Lib.hid (by rw [← eax]; rfl)
  have D1 : Hid ((lw a b n s d r)[1]? = some (.int .i64 ay)) := Lib.hid (by rw [← eay]; rfl)
  have D2 : Hid ((lw a b n s d r)[7]? = some (.int .i64 bx)) := Lib.hid (by rw [← ebx]; rfl)
  have D3 : Hid ((lw a b n s d r)[8]? = some (.int .i64 bz)) := Lib.hid (by rw [← ebz]; rfl)
  rw [eax] at la0
  rw [eay] at la1
  rw [ebx] at lb0
  rw [ebz] at lb1
  obtain ⟨dx, hdx⟩ : ∃ z, bx - ax = z := ⟨_, rfl⟩
  obtain ⟨dy, hdy⟩ : ∃ z, bz - ay = z := ⟨_, rfl⟩
  have hrx : -3999 ≤ dx.tmod 4000 ∧ dx.tmod 4000 ≤ 3999 := tmod_lim dx
  have hry : -3999 ≤ dy.tmod 4000 ∧ dy.tmod 4000 ≤ 3999 := tmod_lim dy
  obtain ⟨rx, erx⟩ : ∃ z, dx.tmod 4000 = z := ⟨_, rfl⟩
  obtain ⟨ry, ery⟩ : ∃ z, dy.tmod 4000 = z := ⟨_, rfl⟩
  obtain ⟨nx, hnx⟩ : ∃ z, ax + rx = z := ⟨_, rfl⟩
  obtain ⟨ny, hny⟩ : ∃ z, ay + ry = z := ⟨_, rfl⟩
  rw [erx] at hrx
  rw [ery] at hry
  have X1 : Hid (IntKind.i64.wrap (bx - ax) = dx) := Lib.hid ((IntWalk.i64_in _ (by omega)).trans hdx)
  have X2 : Hid (IntKind.i64.wrap (bz - ay) = dy) := Lib.hid ((IntWalk.i64_in _ (by omega)).trans hdy)
  have X3 : Hid (dx.tmod 4000 = rx ∧ IntKind.i64.wrap rx = rx) := Lib.hid ⟨erx, IntWalk.i64_in _ (by omega)⟩
  have X4 : Hid (dy.tmod 4000 = ry ∧ IntKind.i64.wrap ry = ry) := Lib.hid ⟨ery, IntWalk.i64_in _ (by omega)⟩
  have X5 : Hid (IntKind.i64.wrap (ax + rx) = nx) := Lib.hid ((IntWalk.i64_in _ (by omega)).trans hnx)
  have X6 : Hid (IntKind.i64.wrap (ay + ry) = ny) := Lib.hid ((IntWalk.i64_in _ (by omega)).trans hny)
  have hnear : (-3999 ≤ nx - ax ∧ nx - ax ≤ 3999) ∧ (-3999 ≤ ny - ay ∧ ny - ay ≤ 3999) := by omega
  have CQ := fun w => rlright_any a (WD.mv b nx ny) n d w
  clear hdx hdy erx ery hnx hny hrx hry lb0 lb1 ebx ebz hfb
  cases hq : WD.right a (WD.mv b nx ny) n d
  · rw [hq] at CQ
    clear hq hnear la0 la1 hfa hn hd hr eax eay
    go_enter Try.func6, Try.ntmps6
    go_wp2_with (first | ((with_reducible refine at_box 1 ?_); refine wpList_box_h O (lw a b n s d r) rfl ?_; clear O; intro g1 w1 O) | ((with_reducible refine at_load 19 ?_); refine wpList_mid_h rfl O 0 rfl (M.mat 7 a) (lw_a a b n s d r) rfl Try.underlying25 rfl (sW _) ?_) | ((with_reducible refine at_load 21 ?_); refine wpList_mid_h rfl O 0 rfl (M.mat 7 b) (lw_b a b n s d r) rfl Try.underlying25 rfl (sW _) ?_) | ((with_reducible refine at_load 23 ?_); refine wpList_cell_h (v := .int .i64 n) rfl O 0 rfl (lw_n a b n s d r) rfl agg3 rfl ?_) | ((with_reducible refine at_load 25 ?_); refine wpList_mid_h rfl O 0 rfl (M.mat 3 d) (lw_d a b n s d r) rfl Try.underlying27 rfl (sH _) ?_) | (go_at_call 14; refine (CR _).mono ?_; rintro e w2 ⟨rfl, hb⟩; replace O := O.call hb; clear hb) | ((with_reducible refine at_load 30 ?_); refine wpList_mid_h rfl O 0 rfl (M.mat 7 b) (lw_b a b n s d r) rfl Try.underlying25 rfl (sW _) ?_) | ((with_reducible refine at_alloc 3 ?_); refine wpList_alloc_h O (M.mat 7 M.zero) zeroW17 ?_; clear O; intro g3 w3 O) | ((with_reducible refine at_store 3 ?_); refine wpList_put_h O 0 (M.mat 7 (b)) rfl rfl rfl (sW _) (M.mat_len2 _ _ _) (M.mat_one _ _) ?_; clear O; intro w4 O))
    have O9 : Own w w4 [(g3, 25, M.mat 7 b), (g1, 31, lw a b n s d r)] := O.1
    clear O CR
    have O := O9
    clear O9
    refine region_S (fun st w2 => RS w [(g3, 25, M.mat 7 b), (g1, 31, lw a b n s d r)] [(g3, 25, M.mat 7 (WD.mv b nx (b 1))), (g1, 31, lw a b n s d r)] 2 25 (.int .i64 (ax)) st w2) [2, 25] 12 27 [some 31, some 32, some 33, some 34, some 35, some 36, some 37, some 38, some 39, some 40, some 41, some 42, some 43, some 44, some 45, some 46, some 47, some 48, some 49, some 50, some 51, some 52, some 53, some 54, some 55, none, some 56] (fun g => [.pointer (some ⟨g1, 0, none⟩), .pointer (some ⟨g1, 0, none⟩), g 2, .pointer (some ⟨g1, 7, none⟩), .pointer (some ⟨g1, 7, none⟩), .int .i64 (bx), .pointer (some ⟨g1, 0, none⟩), .pointer (some ⟨g1, 0, none⟩), .int .i64 (ax), .int .i64 (dx), .int .i64 (rx), .int .i64 (nx), .pointer (some ⟨g1, 0, none⟩), .pointer (some ⟨g1, 1, none⟩), .int .i64 (ay), .pointer (some ⟨g1, 7, none⟩), .pointer (some ⟨g1, 8, none⟩), .int .i64 (bz), .pointer (some ⟨g1, 0, none⟩), .pointer (some ⟨g1, 1, none⟩), .int .i64 (ay), .int .i64 (dy), .int .i64 (ry), .int .i64 (ny), .pointer (some ⟨g3, 0, none⟩), g 25, .pointer (some ⟨g3, 1, none⟩)]) 1 (by kernel_rfl) (by kernel_rfl) (by rfl) (by rfl) (fun _ => rfl) (by decide) ?_ (RS.start O.drew) (fun F hF => ?_)
    · intro i hi
      simp only [List.mem_cons, List.not_mem_nil, or_false] at hi
      rcases hi with rfl | rfl
      · exact ⟨fun _ => rfl, [0, 1, 3, 4, 5, 6, 7, 8, 9, 10, 11, 12, 13, 14, 15, 16, 17, 18, 19, 20, 21, 22, 23, 24, 25, 26], by kernel_rfl, fun g v => ⟨rfl, rfl, rfl, rfl, rfl, rfl, rfl, rfl, rfl, rfl, rfl, rfl, rfl, rfl, rfl, rfl, rfl, rfl, rfl, rfl, rfl, rfl, rfl, rfl, rfl, rfl, trivial⟩⟩
      · exact ⟨fun _ => rfl, [0, 1, 2, 3, 4, 5, 6, 7, 8, 9, 10, 11, 12, 13, 14, 15, 16, 17, 18, 19, 20, 21, 22, 23, 24, 26], by kernel_rfl, fun g v => ⟨rfl, rfl, rfl, rfl, rfl, rfl, rfl, rfl, rfl, rfl, rfl, rfl, rfl, rfl, rfl, rfl, rfl, rfl, rfl, rfl, rfl, rfl, rfl, rfl, rfl, rfl, trivial⟩⟩
    simp only [fillD, Act.put, List.setIfInBounds_toArray, List.set_cons_zero, List.set_cons_succ] at hF
    have hF2 := funext hF
    clear hF
    subst hF2
    refine ⟨⟨doesN_want (by decide) rfl (fun g => rfl) (fun st w' hS hp K hK => ?_), doesN_want (by decide) rfl (fun g => rfl) (fun st w' hS hp K hK => ?_), doesC_want (by decide) rfl (fun g => rfl) (fun st w' hS hn hp K hK => ?_), doesN_want (by decide) rfl (fun g => rfl) (fun st w' hS hp K hK => ?_), doesN_want (by decide) rfl (fun g => rfl) (fun st w' hS hp K hK => ?_), doesN_want (by decide) rfl (fun g => rfl) (fun st w' hS hp K hK => ?_), doesN_want (by decide) rfl (fun g => rfl) (fun st w' hS hp K hK => ?_), doesN_want (by decide) rfl (fun g => rfl) (fun st w' hS hp K hK => ?_), doesN_want (by decide) rfl (fun g => rfl) (fun st w' hS hp K hK => ?_), doesN_want (by decide) rfl (fun g => rfl) (fun st w' hS hp K hK => ?_), doesN_want (by decide) rfl (fun g => rfl) (fun st w' hS hp K hK => ?_), doesN_want (by decide) rfl (fun g => rfl) (fun st w' hS hp K hK => ?_), doesN_want (by decide) rfl (fun g => rfl) (fun st w' hS hp K hK => ?_), doesN_want (by decide) rfl (fun g => rfl) (fun st w' hS hp K hK => ?_), doesN_want (by decide) rfl (fun g => rfl) (fun st w' hS hp K hK => ?_), doesN_want (by decide) rfl (fun g => rfl) (fun st w' hS hp K hK => ?_), doesN_want (by decide) rfl (fun g => rfl) (fun st w' hS hp K hK => ?_), doesN_want (by decide) rfl (fun g => rfl) (fun st w' hS hp K hK => ?_), doesN_want (by decide) rfl (fun g => rfl) (fun st w' hS hp K hK => ?_), doesN_want (by decide) rfl (fun g => rfl) (fun st w' hS hp K hK => ?_), doesN_want (by decide) rfl (fun g => rfl) (fun st w' hS hp K hK => ?_), doesN_want (by decide) rfl (fun g => rfl) (fun st w' hS hp K hK => ?_), doesN_want (by decide) rfl (fun g => rfl) (fun st w' hS hp K hK => ?_), doesN_want (by decide) rfl (fun g => rfl) (fun st w' hS hp K hK => ?_), doesN_want (by decide) rfl (fun g => rfl) (fun st w' hS hp K hK => ?_), doesC_want (by decide) rfl (fun g => rfl) (fun st w' hS hn hp K hK => ?_), doesN_want (by decide) rfl (fun g => rfl) (fun st w' hS hp K hK => ?_), trivial⟩, fun st w' hS hall => ?_⟩
    · try dsimp only
      go_simp
      exact hK _ hS
    · try dsimp only
      go_simp
      exact hK _ hS
    · try dsimp only
      exact wp_cell_h (v := .int .i64 ax) (hS.fst' hn).held 1 rfl D0.out rfl agg3 rfl (hK _ _ (hS.read (by decide) hn))
    · try dsimp only
      go_simp
      exact hK _ hS
    · try dsimp only
      go_simp
      exact hK _ hS
    · try dsimp only
      rcases hS.any with O | O <;> exact wp_cell_h (v := .int .i64 bx) O.held 1 rfl D2.out rfl agg3 rfl (hK _ hS)
    · try dsimp only
      go_simp
      exact hK _ hS
    · try dsimp only
      go_simp
      exact hK _ hS
    · try dsimp only
      rcases hS.any with O | O <;> exact wp_cell_h (v := .int .i64 ax) O.held 1 rfl D0.out rfl agg3 rfl (hK _ hS)
    · try dsimp only
      go_simp
      simp only [X1.out]
      exact hK _ hS
    · try dsimp only
      obtain ⟨e1, e2⟩ := X3.out
      go_simp
      first | exact hK _ hS | (simp only [e1]; exact hK _ hS) | (simp only [e1, e2]; exact hK _ hS)
    · try dsimp only
      have e1 := hS.val (hp 2 (by decide) (by kernel_rfl))
      simp only [seen, e1, Option.getD_some] at hK ⊢
      go_simp
      simp only [X5.out]
      exact hK _ hS
    · try dsimp only
      go_simp
      exact hK _ hS
    · try dsimp only
      go_simp
      exact hK _ hS
    · try dsimp only
      rcases hS.any with O | O <;> exact wp_cell_h (v := .int .i64 ay) O.held 1 rfl D1.out rfl agg3 rfl (hK _ hS)
    · try dsimp only
      go_simp
      exact hK _ hS
    · try dsimp only
      go_simp
      exact hK _ hS
    · try dsimp only
      rcases hS.any with O | O <;> exact wp_cell_h (v := .int .i64 bz) O.held 1 rfl D3.out rfl agg3 rfl (hK _ hS)
    · try dsimp only
      go_simp
      exact hK _ hS
    · try dsimp only
      go_simp
      exact hK _ hS
    · try dsimp only
      rcases hS.any with O | O <;> exact wp_cell_h (v := .int .i64 ay) O.held 1 rfl D1.out rfl agg3 rfl (hK _ hS)
    · try dsimp only
      go_simp
      simp only [X2.out]
      exact hK _ hS
    · try dsimp only
      obtain ⟨e1, e2⟩ := X4.out
      go_simp
      first | exact hK _ hS | (simp only [e1]; exact hK _ hS) | (simp only [e1, e2]; exact hK _ hS)
    · try dsimp only
      go_simp
      simp only [X6.out]
      exact hK _ hS
    · try dsimp only
      go_simp
      exact hK _ hS
    · try dsimp only
      refine wp_set_own (hS.fst hn) 0 (i := 0) (.int .i64 nx) rfl (by rw [M.mat_len]; omega) rfl rfl size3 rfl rfl fun w9 O9 => hK _ _ (hS.put (by decide) (hp 2 (by decide) (by kernel_rfl)) _ (Own.as O9 (l' := [(g3, 25, M.mat 7 (WD.mv b nx (b 1))), (g1, 31, lw a b n s d r)]) rfl))
    · try dsimp only
      go_simp
      exact hK _ hS
    try dsimp only
    have e1 := hS.val (hall 2 (by decide))
    have O3 := hS.done (hall 25 (by decide))
    clear hS O
    have O := O3
    clear O3
    simp only [seen, e1, Option.getD_some]
    clear hall e1
    refine wpAny_want (i := 27) (by kernel_rfl) rfl (by rfl) (fun K hK => ?_)
    refine wp_set_own O 0 (i := 1) (.int .i64 ny) rfl (by rw [M.mat_len]; omega) rfl rfl size3 rfl rfl fun w9 O9 => hK _ _ ?_
    clear O
    have O := Own.as O9 (l' := [(g3, 25, M.mat 7 (WD.mv b nx ny)), (g1, 31, lw a b n s d r)]) rfl
    clear O9
    clear hK K
    try simp only [Act.put, List.setIfInBounds_toArray, List.set_cons_zero, List.set_cons_succ]
    refine wpAny_done (by kernel_rfl) ?_ _
    clear X1 X2 X3 X4 X5 X6 D2 D3
    have O9 := O.held
    clear O
    have O := O9
    clear O9
    go_wp2_with (first | ((with_reducible refine at_load 58 ?_); refine wpList_mid_h rfl O 1 rfl (M.mat 7 a) (lw_a a b n s d r) rfl Try.underlying25 rfl (sW _) ?_) | ((with_reducible refine at_load 59 ?_); refine wpList_rowg_h rfl O 0 rfl rfl Try.underlying25 rfl (sW _) ?_) | ((with_reducible refine at_load 61 ?_); refine wpList_cell_h (v := .int .i64 n) rfl O 1 rfl (lw_n a b n s d r) rfl agg3 rfl ?_) | ((with_reducible refine at_load 63 ?_); refine wpList_mid_h rfl O 1 rfl (M.mat 3 d) (lw_d a b n s d r) rfl Try.underlying27 rfl (sH _) ?_) | (go_at_call 14; refine (CQ _).mono ?_; rintro e w5 ⟨rfl, hb⟩; replace O := O.call hb; clear hb) | (go_at_call 9; refine (awake_any _).mono ?_; rintro e w9 ⟨rfl, hb⟩; replace O := O.call hb; clear hb))
    go_ret
    exact ⟨rfl, O.below⟩
  rw [hq] at CQ
  obtain ⟨⟨-, hfq⟩, -⟩ := WD.right_iff.1 hq
  obtain ⟨N, hN⟩ : ∃ N : Nat, n = N := ⟨n.toNat, by omega⟩
  subst hN
  have hN2 : 1 ≤ N ∧ N ≤ 64 := by omega
  have hmx : (WD.mv b nx ny) 0 = nx ∧ (WD.mv b nx ny) 1 = ny := ⟨rfl, rfl⟩
  obtain ⟨b', hb'⟩ : ∃ b', WD.mv b nx ny = b' := ⟨_, rfl⟩
  rw [hb'] at CQ hq hfq hmx
  have CC := fun w => rlcore_any a b' N hfa hfq (by omega) w
  have hca := WD.core_rg (t := WD.tl a b') hfa hN2
  have hcb := WD.core_rg (t := WD.tl a b') hfq hN2
  have CN := fun w => count_any (WD.core N (WD.tl a b') a) (WD.core N (WD.tl a b') b') hca hcb w
  change ∀ w, Calls _ _ _ w (fun e w' => e = .returned (.int .i64 (WD.cnt N (WD.tl a b') a b')) ∧ Below w.heap.size w w') at CN
  have hcnt := cnt_few (n := N) (t := WD.tl a b') (a := a) (b := b') (by rw [hmx.1, hmx.2, eax, eay]; exact hnear)
  obtain ⟨qx, hqx⟩ : ∃ q, ax.tdiv 256 = q := ⟨_, rfl⟩
  obtain ⟨qy, hqy⟩ : ∃ q, ay.tdiv 256 = q := ⟨_, rfl⟩
  have tx := tdiv_lim17 ax
  have ty := tdiv_lim17 ay
  rw [hqx] at tx
  rw [hqy] at ty
  have Q1 : Hid (ax.tdiv 256 = qx ∧ IntKind.i64.wrap qx = qx) := Lib.hid ⟨hqx, IntWalk.i64_in _ (by omega)⟩
  have Q2 : Hid (ay.tdiv 256 = qy ∧ IntKind.i64.wrap qy = qy) := Lib.hid ⟨hqy, IntWalk.i64_in _ (by omega)⟩
  clear hqx hqy
  obtain ⟨r0, hr0⟩ : ∃ z, qx - 150 = z := ⟨_, rfl⟩
  have W0 : wrap64 (qx - 150) = r0 := (IntWalk.wrap64_in _ (by omega)).trans hr0
  obtain ⟨r1, hr1⟩ : ∃ z, qy - 150 = z := ⟨_, rfl⟩
  have W1 : wrap64 (qy - 150) = r1 := (IntWalk.wrap64_in _ (by omega)).trans hr1
  obtain ⟨r2, hr2⟩ : ∃ z, qx + 150 = z := ⟨_, rfl⟩
  have W2 : wrap64 (qx + 150) = r2 := (IntWalk.wrap64_in _ (by omega)).trans hr2
  obtain ⟨r3, hr3⟩ : ∃ z, qy + 150 = z := ⟨_, rfl⟩
  have W3 : wrap64 (qy + 150) = r3 := (IntWalk.wrap64_in _ (by omega)).trans hr3
  have hin := all_in (a := a) (b := b') (n := N) (t := WD.tl a b') (x := RC.mk r0 r1 r2 r3) hN2 (by rw [hmx.1, hmx.2, eax, eay]; exact hnear) (by rw [eax]; omega) (by rw [eay]; omega) (by rw [eax]; show (r0 = _ - _ ∧ _) ; exact ⟨hr0.symm, hr2.symm, tx⟩) (by rw [eay]; exact ⟨hr1.symm, hr3.symm, ty⟩)
  have e1 := fun c hc => @lin_all a b' N false d (RC.mk r0 r1 r2 r3) hq hin c hc
  have e2 := fun c hc => @lin_all a b' N true d (RC.mk r0 r1 r2 r3) hq hin c hc
  have e3 := lin_none a N d (RC.mk r0 r1 r2 r3)
  have CL1 := fun w => wline_any a b' N false d (RC.mk r0 r1 r2 r3) w
  have CL2 := fun w => wline_any a b' N true d (RC.mk r0 r1 r2 r3) w
  have CL3 := fun w => wline_any a a N false d (RC.mk r0 r1 r2 r3) w
  have en : WD.nxt a b' N true d = HM.nextF d (WD.cnt N (WD.tl a b') a b') := by
    unfold WD.nxt
    rw [hq]
    simp
  have CX := fun w => rnext_any d (WD.cnt N (WD.tl a b') a b') hd (by omega) w
  have CT := fun (k : Nat) (hk : k ≤ 100) w => rlit_any d k hd (by omega) w
  rw [en] at CL2
  rw [e3] at CL3
  clear e3 en hin hr hq hfa hfq hca hcb eax eay hmx tx ty hr0 hr1 hr2 hr3 la0 la1 hnear
  obtain ⟨ca, hca⟩ : ∃ c, WD.core N (WD.tl a b') a = c := ⟨_, rfl⟩
  obtain ⟨cb, hcb⟩ : ∃ c, WD.core N (WD.tl a b') b' = c := ⟨_, rfl⟩
  rw [hca, hcb] at CC CN
  obtain ⟨cn, hcn⟩ : ∃ c : Nat, WD.cnt N (WD.tl a b') a b' = c := ⟨(WD.cnt N (WD.tl a b') a b').toNat, by omega⟩
  replace e1 := e1 cn hcn
  replace e2 := e2 cn hcn
  rw [if_neg (by decide)] at e1
  rw [if_pos rfl] at e2
  rw [hcn] at CN CX CL2 hcnt
  obtain ⟨LA, hLA⟩ : ∃ l, WD.lin a b' N false d (RC.mk r0 r1 r2 r3) = l := ⟨_, rfl⟩
  obtain ⟨LB, hLB⟩ : ∃ l, WD.lin a b' N true d (RC.mk r0 r1 r2 r3) = l := ⟨_, rfl⟩
  obtain ⟨dd, hdd⟩ : ∃ l, HM.nextF d (cn : Int) = l := ⟨_, rfl⟩
  obtain ⟨d1, hd1⟩ : ∃ l, WD.nxt a b' N false d = l := ⟨_, rfl⟩
  obtain ⟨d3, hd3⟩ : ∃ l, WD.nxt a a N false d = l := ⟨_, rfl⟩
  rw [hLA, hd1] at CL1
  rw [hLB, hdd] at CL2
  rw [hd3] at CL3
  rw [hdd] at CX
  rw [hLA] at e1
  rw [hLB] at e2
  have HE1 := Lib.hid e1
  have HE2 := Lib.hid e2
  have HCT := Lib.hid CT
  have HCN := Lib.hid hcnt
  have HNN := Lib.hid hN2
  have HBB := Lib.hid hb'
  rw [← hb'] at CQ
  clear hca hcb hcn hLA hLB hdd hd1 hd3 e1 e2 CT hd hcnt hn hN2 hb'
  have tk0 : True := trivial
  go_enter Try.func6, Try.ntmps6
  go_wp2_with (first | ((with_reducible refine at_box 1 ?_); refine wpList_box_h O (lw a b (N : Int) s d r) rfl ?_; clear O; intro g1 w1 O) | ((with_reducible refine at_load 19 ?_); refine wpList_mid_h rfl O 0 rfl (M.mat 7 a) (lw_a a b (N : Int) s d r) rfl Try.underlying25 rfl (sW _) ?_) | ((with_reducible refine at_load 21 ?_); refine wpList_mid_h rfl O 0 rfl (M.mat 7 b) (lw_b a b (N : Int) s d r) rfl Try.underlying25 rfl (sW _) ?_) | ((with_reducible refine at_load 23 ?_); refine wpList_cell_h (v := .int .i64 (N : Int)) rfl O 0 rfl (lw_n a b (N : Int) s d r) rfl agg3 rfl ?_) | ((with_reducible refine at_load 25 ?_); refine wpList_mid_h rfl O 0 rfl (M.mat 3 d) (lw_d a b (N : Int) s d r) rfl Try.underlying27 rfl (sH _) ?_) | (go_at_call 14; refine (CR _).mono ?_; rintro e w2 ⟨rfl, hb⟩; replace O := O.call hb; clear hb) | ((with_reducible refine at_load 30 ?_); refine wpList_mid_h rfl O 0 rfl (M.mat 7 b) (lw_b a b (N : Int) s d r) rfl Try.underlying25 rfl (sW _) ?_) | ((with_reducible refine at_alloc 3 ?_); refine wpList_alloc_h O (M.mat 7 M.zero) zeroW17 ?_; clear O; intro g3 w3 O) | ((with_reducible refine at_store 3 ?_); refine wpList_put_h O 0 (M.mat 7 (b)) rfl rfl rfl (sW _) (M.mat_len2 _ _ _) (M.mat_one _ _) ?_; clear O; intro w4 O))
  have O9 : Own w w4 [(g3, 25, M.mat 7 b), (g1, 31, lw a b (N : Int) s d r)] := O.1
  clear O CR
  have O := O9
  clear O9
  refine region_S (fun st w2 => RS w [(g3, 25, M.mat 7 b), (g1, 31, lw a b (N : Int) s d r)] [(g3, 25, M.mat 7 (WD.mv b nx (b 1))), (g1, 31, lw a b (N : Int) s d r)] 2 25 (.int .i64 (ax)) st w2) [2, 25] 12 27 [some 31, some 32, some 33, some 34, some 35, some 36, some 37, some 38, some 39, some 40, some 41, some 42, some 43, some 44, some 45, some 46, some 47, some 48, some 49, some 50, some 51, some 52, some 53, some 54, some 55, none, some 56] (fun g => [.pointer (some ⟨g1, 0, none⟩), .pointer (some ⟨g1, 0, none⟩), g 2, .pointer (some ⟨g1, 7, none⟩), .pointer (some ⟨g1, 7, none⟩), .int .i64 (bx), .pointer (some ⟨g1, 0, none⟩), .pointer (some ⟨g1, 0, none⟩), .int .i64 (ax), .int .i64 (dx), .int .i64 (rx), .int .i64 (nx), .pointer (some ⟨g1, 0, none⟩), .pointer (some ⟨g1, 1, none⟩), .int .i64 (ay), .pointer (some ⟨g1, 7, none⟩), .pointer (some ⟨g1, 8, none⟩), .int .i64 (bz), .pointer (some ⟨g1, 0, none⟩), .pointer (some ⟨g1, 1, none⟩), .int .i64 (ay), .int .i64 (dy), .int .i64 (ry), .int .i64 (ny), .pointer (some ⟨g3, 0, none⟩), g 25, .pointer (some ⟨g3, 1, none⟩)]) 1 (by kernel_rfl) (by kernel_rfl) (by rfl) (by rfl) (fun _ => rfl) (by decide) ?_ (RS.start O.drew) (fun F hF => ?_)
  · intro i hi
    simp only [List.mem_cons, List.not_mem_nil, or_false] at hi
    rcases hi with rfl | rfl
    · exact ⟨fun _ => rfl, [0, 1, 3, 4, 5, 6, 7, 8, 9, 10, 11, 12, 13, 14, 15, 16, 17, 18, 19, 20, 21, 22, 23, 24, 25, 26], by kernel_rfl, fun g v => ⟨rfl, rfl, rfl, rfl, rfl, rfl, rfl, rfl, rfl, rfl, rfl, rfl, rfl, rfl, rfl, rfl, rfl, rfl, rfl, rfl, rfl, rfl, rfl, rfl, rfl, rfl, trivial⟩⟩
    · exact ⟨fun _ => rfl, [0, 1, 2, 3, 4, 5, 6, 7, 8, 9, 10, 11, 12, 13, 14, 15, 16, 17, 18, 19, 20, 21, 22, 23, 24, 26], by kernel_rfl, fun g v => ⟨rfl, rfl, rfl, rfl, rfl, rfl, rfl, rfl, rfl, rfl, rfl, rfl, rfl, rfl, rfl, rfl, rfl, rfl, rfl, rfl, rfl, rfl, rfl, rfl, rfl, rfl, trivial⟩⟩
  simp only [fillD, Act.put, List.setIfInBounds_toArray, List.set_cons_zero, List.set_cons_succ] at hF
  have hF2 := funext hF
  clear hF
  subst hF2
  refine ⟨⟨doesN_want (by decide) rfl (fun g => rfl) (fun st w' hS hp K hK => ?_), doesN_want (by decide) rfl (fun g => rfl) (fun st w' hS hp K hK => ?_), doesC_want (by decide) rfl (fun g => rfl) (fun st w' hS hn hp K hK => ?_), doesN_want (by decide) rfl (fun g => rfl) (fun st w' hS hp K hK => ?_), doesN_want (by decide) rfl (fun g => rfl) (fun st w' hS hp K hK => ?_), doesN_want (by decide) rfl (fun g => rfl) (fun st w' hS hp K hK => ?_), doesN_want (by decide) rfl (fun g => rfl) (fun st w' hS hp K hK => ?_), doesN_want (by decide) rfl (fun g => rfl) (fun st w' hS hp K hK => ?_), doesN_want (by decide) rfl (fun g => rfl) (fun st w' hS hp K hK => ?_), doesN_want (by decide) rfl (fun g => rfl) (fun st w' hS hp K hK => ?_), doesN_want (by decide) rfl (fun g => rfl) (fun st w' hS hp K hK => ?_), doesN_want (by decide) rfl (fun g => rfl) (fun st w' hS hp K hK => ?_), doesN_want (by decide) rfl (fun g => rfl) (fun st w' hS hp K hK => ?_), doesN_want (by decide) rfl (fun g => rfl) (fun st w' hS hp K hK => ?_), doesN_want (by decide) rfl (fun g => rfl) (fun st w' hS hp K hK => ?_), doesN_want (by decide) rfl (fun g => rfl) (fun st w' hS hp K hK => ?_), doesN_want (by decide) rfl (fun g => rfl) (fun st w' hS hp K hK => ?_), doesN_want (by decide) rfl (fun g => rfl) (fun st w' hS hp K hK => ?_), doesN_want (by decide) rfl (fun g => rfl) (fun st w' hS hp K hK => ?_), doesN_want (by decide) rfl (fun g => rfl) (fun st w' hS hp K hK => ?_), doesN_want (by decide) rfl (fun g => rfl) (fun st w' hS hp K hK => ?_), doesN_want (by decide) rfl (fun g => rfl) (fun st w' hS hp K hK => ?_), doesN_want (by decide) rfl (fun g => rfl) (fun st w' hS hp K hK => ?_), doesN_want (by decide) rfl (fun g => rfl) (fun st w' hS hp K hK => ?_), doesN_want (by decide) rfl (fun g => rfl) (fun st w' hS hp K hK => ?_), doesC_want (by decide) rfl (fun g => rfl) (fun st w' hS hn hp K hK => ?_), doesN_want (by decide) rfl (fun g => rfl) (fun st w' hS hp K hK => ?_), trivial⟩, fun st w' hS hall => ?_⟩
  · try dsimp only
    go_simp
    exact hK _ hS
  · try dsimp only
    go_simp
    exact hK _ hS
  · try dsimp only
    exact wp_cell_h (v := .int .i64 ax) (hS.fst' hn).held 1 rfl D0.out rfl agg3 rfl (hK _ _ (hS.read (by decide) hn))
  · try dsimp only
    go_simp
    exact hK _ hS
  · try dsimp only
    go_simp
    exact hK _ hS
  · try dsimp only
    rcases hS.any with O | O <;> exact wp_cell_h (v := .int .i64 bx) O.held 1 rfl D2.out rfl agg3 rfl (hK _ hS)
  · try dsimp only
    go_simp
    exact hK _ hS
  · try dsimp only
    go_simp
    exact hK _ hS
  · try dsimp only
    rcases hS.any with O | O <;> exact wp_cell_h (v := .int .i64 ax) O.held 1 rfl D0.out rfl agg3 rfl (hK _ hS)
  · try dsimp only
    go_simp
    simp only [X1.out]
    exact hK _ hS
  · try dsimp only
    obtain ⟨e1, e2⟩ := X3.out
    go_simp
    first | exact hK _ hS | (simp only [e1]; exact hK _ hS) | (simp only [e1, e2]; exact hK _ hS)
  · try dsimp only
    have e1 := hS.val (hp 2 (by decide) (by kernel_rfl))
    simp only [seen, e1, Option.getD_some] at hK ⊢
    go_simp
    simp only [X5.out]
    exact hK _ hS
  · try dsimp only
    go_simp
    exact hK _ hS
  · try dsimp only
    go_simp
    exact hK _ hS
  · try dsimp only
    rcases hS.any with O | O <;> exact wp_cell_h (v := .int .i64 ay) O.held 1 rfl D1.out rfl agg3 rfl (hK _ hS)
  · try dsimp only
    go_simp
    exact hK _ hS
  · try dsimp only
    go_simp
    exact hK _ hS
  · try dsimp only
    rcases hS.any with O | O <;> exact wp_cell_h (v := .int .i64 bz) O.held 1 rfl D3.out rfl agg3 rfl (hK _ hS)
  · try dsimp only
    go_simp
    exact hK _ hS
  · try dsimp only
    go_simp
    exact hK _ hS
  · try dsimp only
    rcases hS.any with O | O <;> exact wp_cell_h (v := .int .i64 ay) O.held 1 rfl D1.out rfl agg3 rfl (hK _ hS)
  · try dsimp only
    go_simp
    simp only [X2.out]
    exact hK _ hS
  · try dsimp only
    obtain ⟨e1, e2⟩ := X4.out
    go_simp
    first | exact hK _ hS | (simp only [e1]; exact hK _ hS) | (simp only [e1, e2]; exact hK _ hS)
  · try dsimp only
    go_simp
    simp only [X6.out]
    exact hK _ hS
  · try dsimp only
    go_simp
    exact hK _ hS
  · try dsimp only
    refine wp_set_own (hS.fst hn) 0 (i := 0) (.int .i64 nx) rfl (by rw [M.mat_len]; omega) rfl rfl size3 rfl rfl fun w9 O9 => hK _ _ (hS.put (by decide) (hp 2 (by decide) (by kernel_rfl)) _ (Own.as O9 (l' := [(g3, 25, M.mat 7 (WD.mv b nx (b 1))), (g1, 31, lw a b (N : Int) s d r)]) rfl))
  · try dsimp only
    go_simp
    exact hK _ hS
  try dsimp only
  have e1 := hS.val (hall 2 (by decide))
  have O3 := hS.done (hall 25 (by decide))
  clear hS O
  have O := O3
  clear O3
  simp only [seen, e1, Option.getD_some]
  clear hall e1
  refine wpAny_want (i := 27) (by kernel_rfl) rfl (by rfl) (fun K hK => ?_)
  refine wp_set_own O 0 (i := 1) (.int .i64 ny) rfl (by rw [M.mat_len]; omega) rfl rfl size3 rfl rfl fun w9 O9 => hK _ _ ?_
  clear O
  have O := Own.as O9 (l' := [(g3, 25, M.mat 7 (WD.mv b nx ny)), (g1, 31, lw a b (N : Int) s d r)]) rfl
  clear O9
  clear hK K
  try simp only [Act.put, List.setIfInBounds_toArray, List.set_cons_zero, List.set_cons_succ]
  refine wpAny_done (by kernel_rfl) ?_ _
  clear X1 X2 X3 X4 X5 X6 D2 D3
  have O9 := O.held
  clear O
  have O := O9
  clear O9
  have O9 := Held.as17 O (l' := [(g3, 25, M.mat 7 (b')), (g1, 31, lw a b (N : Int) s d r)]) (by rw [HBB.out])
  rw [HBB.out] at CQ
  clear O
  have O := O9
  clear O9
  go_wp2_with (first | ((with_reducible refine at_load 58 ?_); refine wpList_mid_h rfl O 1 rfl (M.mat 7 a) (lw_a a b (N : Int) s d r) rfl Try.underlying25 rfl (sW _) ?_) | ((with_reducible refine at_load 59 ?_); refine wpList_rowg_h rfl O 0 rfl rfl Try.underlying25 rfl (sW _) ?_) | ((with_reducible refine at_load 61 ?_); refine wpList_cell_h (v := .int .i64 (N : Int)) rfl O 1 rfl (lw_n a b (N : Int) s d r) rfl agg3 rfl ?_) | ((with_reducible refine at_load 63 ?_); refine wpList_mid_h rfl O 1 rfl (M.mat 3 d) (lw_d a b (N : Int) s d r) rfl Try.underlying27 rfl (sH _) ?_) | (go_at_call 14; refine (CQ _).mono ?_; rintro e w5 ⟨rfl, hb⟩; replace O := O.call hb; clear hb) | ((with_reducible refine at_load 69 ?_); refine wpList_mid_h rfl O 1 rfl (M.mat 7 a) (lw_a a b (N : Int) s d r) rfl Try.underlying25 rfl (sW _) ?_) | ((with_reducible refine at_load 70 ?_); refine wpList_rowg_h rfl O 0 rfl rfl Try.underlying25 rfl (sW _) ?_) | ((with_reducible refine at_load 72 ?_); refine wpList_cell_h (v := .int .i64 (N : Int)) rfl O 1 rfl (lw_n a b (N : Int) s d r) rfl agg3 rfl ?_) | (go_at_call 15; refine (CC _).mono ?_; rintro e w6 ⟨rfl, hb⟩; replace O := O.call hb; clear hb) | ((with_reducible refine at_alloc 4 ?_); refine wpList_alloc_h O (M.mat 2 M.zero) zeroP ?_; clear O; intro g4 w7 O) | ((with_reducible refine at_alloc 5 ?_); refine wpList_alloc_h O (M.mat 2 M.zero) zeroP ?_; clear O; intro g5 w8 O) | ((with_reducible refine at_store 4 ?_); refine wpList_put_h O 1 (M.mat 2 (ca)) rfl rfl rfl (sP _) (M.mat_len2 _ _ _) (M.mat_one _ _) ?_; clear O; intro w9 O) | ((with_reducible refine at_store 5 ?_); refine wpList_put_h O 0 (M.mat 2 (cb)) rfl rfl rfl (sP _) (M.mat_len2 _ _ _) (M.mat_one _ _) ?_; clear O; intro w10 O) | ((with_reducible refine at_load 76 ?_); refine wpList_rowg_h rfl O 1 rfl rfl Try.underlying55 rfl (sP _) ?_) | ((with_reducible refine at_load 77 ?_); refine wpList_rowg_h rfl O 0 rfl rfl Try.underlying55 rfl (sP _) ?_) | (go_at_call 16; refine (CN _).mono ?_; rintro e w11 ⟨rfl, hb⟩; replace O := O.call hb; clear hb))
  have O9 := Held.as17 O (l' := [(g5, 55, M.mat 2 cb), (g4, 55, M.mat 2 ca), (g3, 25, M.mat 7 b'), (g1, 31, lw a b (N : Int) s d r)]) rfl
  clear O CQ CC CN
  have O := O9
  clear O9
  have OO := O
  clear O
  have O := OO
  clear OO
  refine region_T ((fun w2 => Held w w2 [(g5, 55, M.mat 2 cb), (g4, 55, M.mat 2 ca), (g3, 25, M.mat 7 b'), (g1, 31, lw a b (N : Int) s d r)] nilRow [])) [0, 1, 2, 3, 4, 5, 6, 7, 8] 12 [some 79, some 80, some 81, some 82, some 83, some 84, some 85, some 86, some 7] [.pointer (some ⟨g1, 0, none⟩), .pointer (some ⟨g1, 0, none⟩), .int .i64 (ax), .int .i64 (qx), .pointer (some ⟨g1, 0, none⟩), .pointer (some ⟨g1, 1, none⟩), .int .i64 (ay), .int .i64 (qy), .int .i64 (qx)] 1 (by kernel_rfl) (by rfl) (by kernel_rfl) (by rfl) (by rfl) (O.drew) (fun F hF => ?_)
  simp only [fillD, Act.put, List.setIfInBounds_toArray, List.set_cons_zero, List.set_cons_succ] at hF
  subst hF
  refine ⟨⟨does_want rfl (by rfl) (fun w' O K hK => ?_), does_want rfl (by rfl) (fun w' O K hK => ?_), does_want rfl (by rfl) (fun w' O K hK => ?_), does_want rfl (by rfl) (fun w' O K hK => ?_), does_want rfl (by rfl) (fun w' O K hK => ?_), does_want rfl (by rfl) (fun w' O K hK => ?_), does_want rfl (by rfl) (fun w' O K hK => ?_), does_want rfl (by rfl) (fun w' O K hK => ?_), does_want rfl (by rfl) (fun w' O K hK => ?_), trivial⟩, fun w' O => ?_⟩
  · go_simp
    exact hK _ O
  · go_simp
    exact hK _ O
  · exact wp_cell_h (v := .int .i64 (ax)) O 3 rfl D0.out rfl agg3 rfl (hK _ O)
  · obtain ⟨e1, e2⟩ := Q1.out
    go_simp
    first | exact hK _ O | (simp only [e1]; exact hK _ O) | (simp only [e1, e2]; exact hK _ O)
  · go_simp
    exact hK _ O
  · go_simp
    exact hK _ O
  · exact wp_cell_h (v := .int .i64 (ay)) O 3 rfl D1.out rfl agg3 rfl (hK _ O)
  · obtain ⟨e1, e2⟩ := Q2.out
    go_simp
    first | exact hK _ O | (simp only [e1]; exact hK _ O) | (simp only [e1, e2]; exact hK _ O)
  · go_simp
    exact hK _ O
  refine wpAny_one (i := 9) (by kernel_rfl) rfl (fun K hK => ?_)
  go_simp
  refine hK _ _ ?_
  clear hK K
  try simp only [Act.put, List.setIfInBounds_toArray, List.set_cons_zero, List.set_cons_succ]
  refine wpAny_done (by kernel_rfl) ?_ _
  clear Q1 Q2 D0 D1
  go_wp2_with (first | ((with_reducible refine at_build 95 ?_); refine wpList_build_g rfl ([(0, .int .i64 r0), (1, .int .i64 r1), (2, .int .i64 r2), (3, .int .i64 r3)]) ((M.mat 4 (RC.mk r0 r1 r2 r3)).toArray) ?_ (builtR17 _ _ _ _) ?_; (focus (simp only [List.map_toArray, List.map_cons, List.map_nil]; rfl))) | ((with_reducible refine at_alloc 9 ?_); refine wpList_alloc_h O (M.mat 4 M.zero) zeroR ?_; clear O; intro g9 w12 O) | ((with_reducible refine at_store 9 ?_); refine wpList_put_h O 0 (M.mat 4 (RC.mk r0 r1 r2 r3)) rfl rfl rfl (sR _) (M.mat_len2 _ _ _) (M.mat_one _ _) ?_; clear O; intro w13 O) | ((with_reducible refine at_load 98 ?_); refine wpList_mid_h rfl O 4 rfl (M.mat 7 a) (lw_a a b (N : Int) s d r) rfl Try.underlying25 rfl (sW _) ?_) | ((with_reducible refine at_load 99 ?_); refine wpList_rowg_h rfl O 3 rfl rfl Try.underlying25 rfl (sW _) ?_) | ((with_reducible refine at_load 101 ?_); refine wpList_cell_h (v := .int .i64 (N : Int)) rfl O 4 rfl (lw_n a b (N : Int) s d r) rfl agg3 rfl ?_) | ((with_reducible refine at_load 103 ?_); refine wpList_mid_h rfl O 4 rfl (M.mat 3 d) (lw_d a b (N : Int) s d r) rfl Try.underlying27 rfl (sH _) ?_) | ((with_reducible refine at_load 104 ?_); refine wpList_rowg_h rfl O 0 rfl rfl Try.underlying29 rfl (sR _) ?_) | (go_at_call 11; clear tk0; have tk1 : True := trivial; refine (CL1 _).mono ?_; rintro e w14 ⟨XA, xc, rfl, hV, hb⟩; have O2 := O.gain hb hV; clear O hb hV; have O := O2; clear O2) | ((with_reducible refine at_alloc 11 ?_); refine wpList_alloc_h O (M.mat 3 M.zero) zeroH ?_; clear O; intro g11 w15 O) | ((with_reducible refine at_store 11 ?_); refine wpList_put_h O 0 (M.mat 3 (d1)) rfl rfl rfl (sH _) (M.mat_len2 _ _ _) (M.mat_one _ _) ?_; clear O; intro w16 O))
  have OX : Held w w16 [(g11, 27, M.mat 3 d1), (g9, 29, M.mat 4 (RC.mk r0 r1 r2 r3)), (g5, 55, M.mat 2 cb), (g4, 55, M.mat 2 ca), (g3, 25, M.mat 7 b'), (g1, 31, lw a b (N : Int) s d r)] nilRow [gE w.heap.size XA xc LA] := O
  clear O W0 W1 W2 W3 CL1
  have O := OX
  clear OX
  go_loopw [12, 13] (fun t12 t13 wr => ∃ k : Nat, k ≤ cn ∧ t12 = .int .i64 (litc d k : Int) ∧ t13 = .int .i64 (k : Int) ∧ Held w wr [(g11, 27, M.mat 3 d1), (g9, 29, M.mat 4 (RC.mk r0 r1 r2 r3)), (g5, 55, M.mat 2 cb), (g4, 55, M.mat 2 ca), (g3, 25, M.mat 7 b'), (g1, 31, lw a b (N : Int) s d r)] nilRow [gE w.heap.size XA xc LA]) (fun t12 t13 _ => cn - (intOf t13).toNat)
  case atStart => exact ⟨0, Nat.zero_le _, rfl, rfl, O⟩
  case round =>
    clear O
    obtain ⟨k, hk, rfl, rfl, O⟩ := hrel
    have q0 : (0 : Int) ≤ k := by omega
    have hc100 := HCN.out
    by_cases hlt : k < cn
    · have q1 : (k : Int) < cn := by omega
      have q2 : (k : Int) < 100 := by omega
      have CT := HCT.out k (by omega)
      have hle := litc_le d k
      have hsu := litc_succ d k
      have W1 : wrap64 ((k : Int) + 1) = (k : Int) + 1 := IntWalk.wrap64_in _ (by omega)
      have W2 : wrap64 ((litc d k : Int) + 1) = (litc d k : Int) + 1 := IntWalk.wrap64_in _ (by omega)
      obtain ⟨z, hz⟩ : ∃ z, HM.litF d k = z := ⟨_, rfl⟩
      rw [hz] at CT hsu
      have HS := Lib.hid hsu
      clear hz hsu hle hc100
      obtain ⟨L, hL⟩ : ∃ L, litc d k = L := ⟨_, rfl⟩
      rw [hL] at W2 HS ⊢
      clear hL
      cases z
      all_goals
        go_wp2_with (first | ((with_reducible refine at_load 118 ?_); refine wpList_mid_h rfl O 5 rfl (M.mat 3 d) (lw_d a b (N : Int) s d r) rfl Try.underlying27 rfl (sH _) ?_) | (go_at_call 17; refine (CT _).mono ?_; rintro e w17 ⟨rfl, hb⟩; replace O := O.call hb; clear hb))
        go_roundw
        case rel => exact ⟨k + 1, by omega, by rw [HS.out]; first | rfl | (go_num; done), by go_num, O⟩
        case measure => first | exact meas_lt W1 hlt | exact meas_lt2 hlt
    · have q1 : ¬ (k : Int) < cn := by omega
      obtain rfl : k = cn := by omega
      have he1 := HE1.out
      have he2 := HE2.out
      have hle := litc_le d k
      have hN := HNN.out
      obtain ⟨L, hL⟩ : ∃ L, litc d k = L := ⟨_, rfl⟩
      rw [hL] at he2 hle ⊢
      have hma : k * N ≤ 100 * 64 := Nat.mul_le_mul (by omega) hN.2
      have hmb : L * N ≤ 100 * 64 := Nat.mul_le_mul (by omega) hN.2
      have Y1 : Hid ((k : Int) * (N : Int) = LA.length ∧ IntKind.i64.wrap (LA.length : Int) = LA.length) := Lib.hid ⟨by rw [← Int.natCast_mul, he1], IntWalk.i64_in _ (by omega)⟩
      have Y2 : Hid ((L : Int) * (N : Int) = LB.length ∧ IntKind.i64.wrap (LB.length : Int) = LB.length) := Lib.hid ⟨by rw [← Int.natCast_mul, he2], IntWalk.i64_in _ (by omega)⟩
      clear hL he1 he2 hma hmb hle hN hc100 hlt hk
      go_wp2_with (first | ((with_reducible refine at_load 125 ?_); refine wpList_mid_h rfl O 5 rfl (M.mat 7 a) (lw_a a b (N : Int) s d r) rfl Try.underlying25 rfl (sW _) ?_) | ((with_reducible refine at_load 126 ?_); refine wpList_rowg_h rfl O 4 rfl rfl Try.underlying25 rfl (sW _) ?_) | ((with_reducible refine at_load 128 ?_); refine wpList_cell_h (v := .int .i64 (N : Int)) rfl O 5 rfl (lw_n a b (N : Int) s d r) rfl agg3 rfl ?_) | ((with_reducible refine at_load 130 ?_); refine wpList_mid_h rfl O 5 rfl (M.mat 3 d) (lw_d a b (N : Int) s d r) rfl Try.underlying27 rfl (sH _) ?_) | ((with_reducible refine at_load 131 ?_); refine wpList_rowg_h rfl O 1 rfl rfl Try.underlying29 rfl (sR _) ?_) | (go_at_call 11; clear tk1; have tk2 : True := trivial; refine (CL2 _).mono ?_; rintro e w18 ⟨YA, yc, rfl, hV, hb⟩; have O2 := O.gain hb hV; clear O hb hV; have O := O2; clear O2) | ((with_reducible refine at_alloc 15 ?_); refine wpList_alloc_h O (M.mat 3 M.zero) zeroH ?_; clear O; intro g15 w19 O) | ((with_reducible refine at_store 15 ?_); refine wpList_put_h O 0 (M.mat 3 (dd)) rfl rfl rfl (sH _) (M.mat_len2 _ _ _) (M.mat_one _ _) ?_; clear O; intro w20 O) | ((with_reducible refine at_load 137 ?_); refine wpList_mid_h rfl O 6 rfl (M.mat 7 a) (lw_a a b (N : Int) s d r) rfl Try.underlying25 rfl (sW _) ?_) | ((with_reducible refine at_load 139 ?_); refine wpList_mid_h rfl O 6 rfl (M.mat 7 a) (lw_a a b (N : Int) s d r) rfl Try.underlying25 rfl (sW _) ?_) | ((with_reducible refine at_load 141 ?_); refine wpList_cell_h (v := .int .i64 (N : Int)) rfl O 6 rfl (lw_n a b (N : Int) s d r) rfl agg3 rfl ?_) | ((with_reducible refine at_load 143 ?_); refine wpList_mid_h rfl O 6 rfl (M.mat 3 d) (lw_d a b (N : Int) s d r) rfl Try.underlying27 rfl (sH _) ?_) | ((with_reducible refine at_load 144 ?_); refine wpList_rowg_h rfl O 2 rfl rfl Try.underlying29 rfl (sR _) ?_) | (go_at_call 11; clear tk2; have tk3 : True := trivial; refine (CL3 _).mono ?_; rintro e w21 ⟨ZA, zc, rfl, hV, hb⟩; have O2 := O.gain hb hV; clear O hb hV; have O := O2; clear O2) | ((with_reducible refine at_alloc 17 ?_); refine wpList_alloc_h O (M.mat 3 M.zero) zeroH ?_; clear O; intro g17 w22 O) | ((with_reducible refine at_store 17 ?_); refine wpList_put_h O 0 (M.mat 3 (d3)) rfl rfl rfl (sH _) (M.mat_len2 _ _ _) (M.mat_one _ _) ?_; clear O; intro w23 O))
      have OX : Held w w23 [(g17, 27, M.mat 3 d3), (g15, 27, M.mat 3 dd), (g11, 27, M.mat 3 d1), (g9, 29, M.mat 4 (RC.mk r0 r1 r2 r3)), (g5, 55, M.mat 2 cb), (g4, 55, M.mat 2 ca), (g3, 25, M.mat 7 b'), (g1, 31, lw a b (N : Int) s d r)] nilRow [gE w.heap.size ZA zc [], gE w.heap.size YA yc LB, gE w.heap.size XA xc LA] := O
      clear O CL2 CL3 tk3
      have O := OX
      clear OX
      have OO := O
      clear O
      have O := OO
      clear OO
      refine region_T ((fun w2 => Held w w2 [(g17, 27, M.mat 3 d3), (g15, 27, M.mat 3 dd), (g11, 27, M.mat 3 d1), (g9, 29, M.mat 4 (RC.mk r0 r1 r2 r3)), (g5, 55, M.mat 2 cb), (g4, 55, M.mat 2 ca), (g3, 25, M.mat 7 b'), (g1, 31, lw a b (N : Int) s d r)] nilRow [gE w.heap.size ZA zc [], gE w.heap.size YA yc LB, gE w.heap.size XA xc LA])) [0, 1, 2, 3, 4, 5, 6, 7, 8, 9, 10, 11, 12, 13, 14, 15, 16, 17, 18, 19, 20, 21, 22, 23, 24, 25, 26, 27, 28, 29, 30, 31] 12 [some 148, some 149, some 150, some 151, some 152, some 153, some 154, some 155, some 156, some 157, some 158, some 159, some 160, some 161, some 162, some 163, some 164, some 165, some 166, some 167, some 168, some 169, some 170, some 171, some 172, some 173, some 174, some 175, some 176, some 177, some 178, some 179] [.bool true, .bool true, .slice XA LA.length xc, .int .i64 ((LA.length : Int)), .int .i64 ((k : Int)), .pointer (some ⟨g1, 14, none⟩), .int .i64 ((N : Int)), .int .i64 ((LA.length : Int)), .bool true, .bool true, .bool true, .slice YA LB.length yc, .int .i64 ((LB.length : Int)), .int .i64 ((L : Int)), .pointer (some ⟨g1, 14, none⟩), .int .i64 ((N : Int)), .int .i64 ((LB.length : Int)), .bool true, .bool true, .bool true, arr 3 dd, .pointer (some ⟨g1, 16, none⟩), arr 3 d, .int .i64 ((k : Int)), arr 3 dd, .bool true, .bool true, .bool true, .slice ZA 0 zc, .int .i64 (0), .bool true, .bool true] 1 (by kernel_rfl) (by rfl) (by kernel_rfl) (by rfl) (by rfl) (O.drew) (fun F hF => ?_)
      simp only [fillD, Act.put, List.setIfInBounds_toArray, List.set_cons_zero, List.set_cons_succ] at hF
      subst hF
      refine ⟨⟨does_want rfl (by rfl) (fun w' O K hK => ?_), does_want rfl (by rfl) (fun w' O K hK => ?_), does_want rfl (by rfl) (fun w' O K hK => ?_), does_want rfl (by rfl) (fun w' O K hK => ?_), does_want rfl (by rfl) (fun w' O K hK => ?_), does_want rfl (by rfl) (fun w' O K hK => ?_), does_want rfl (by rfl) (fun w' O K hK => ?_), does_want rfl (by rfl) (fun w' O K hK => ?_), does_want rfl (by rfl) (fun w' O K hK => ?_), does_want rfl (by rfl) (fun w' O K hK => ?_), does_want rfl (by rfl) (fun w' O K hK => ?_), does_want rfl (by rfl) (fun w' O K hK => ?_), does_want rfl (by rfl) (fun w' O K hK => ?_), does_want rfl (by rfl) (fun w' O K hK => ?_), does_want rfl (by rfl) (fun w' O K hK => ?_), does_want rfl (by rfl) (fun w' O K hK => ?_), does_want rfl (by rfl) (fun w' O K hK => ?_), does_want rfl (by rfl) (fun w' O K hK => ?_), does_want rfl (by rfl) (fun w' O K hK => ?_), does_want rfl (by rfl) (fun w' O K hK => ?_), does_want rfl (by rfl) (fun w' O K hK => ?_), does_want rfl (by rfl) (fun w' O K hK => ?_), does_want rfl (by rfl) (fun w' O K hK => ?_), does_want rfl (by rfl) (fun w' O K hK => ?_), does_want rfl (by rfl) (fun w' O K hK => ?_), does_want rfl (by rfl) (fun w' O K hK => ?_), does_want rfl (by rfl) (fun w' O K hK => ?_), does_want rfl (by rfl) (fun w' O K hK => ?_), does_want rfl (by rfl) (fun w' O K hK => ?_), does_want rfl (by rfl) (fun w' O K hK => ?_), does_want rfl (by rfl) (fun w' O K hK => ?_), does_want rfl (by rfl) (fun w' O K hK => ?_), trivial⟩, fun w' O => ?_⟩
      · go_simp
        go_at_call 9
        refine (awake_any _).mono ?_
        rintro e w2 ⟨rfl, hb⟩
        exact hK _ (O.call hb)
      · go_simp
        exact hK _ O
      · go_simp
        exact hK _ O
      · go_simp
        exact hK _ O
      · go_simp
        exact hK _ O
      · go_simp
        exact hK _ O
      · exact wp_cell_h (v := .int .i64 (N : Int)) O 7 rfl (lw_n a b (N : Int) s d r) rfl agg3 rfl (hK _ O)
      · obtain ⟨e1, e2⟩ := Y1.out
        go_simp
        first | exact hK _ O | (simp only [e1, e2]; exact hK _ O) | (rw [e1, e2]; exact hK _ O)
      · go_simp
        exact hK _ O
      · go_simp
        exact hK _ O
      · go_simp
        exact hK _ O
      · go_simp
        exact hK _ O
      · go_simp
        exact hK _ O
      · go_simp
        exact hK _ O
      · go_simp
        exact hK _ O
      · exact wp_cell_h (v := .int .i64 (N : Int)) O 7 rfl (lw_n a b (N : Int) s d r) rfl agg3 rfl (hK _ O)
      · obtain ⟨e1, e2⟩ := Y2.out
        go_simp
        first | exact hK _ O | (simp only [e1, e2]; exact hK _ O) | (rw [e1, e2]; exact hK _ O)
      · go_simp
        exact hK _ O
      · go_simp
        exact hK _ O
      · go_simp
        exact hK _ O
      · exact wp_row_h O 1 rfl rfl Try.underlying27 rfl (sH _) (hK _ O)
      · go_simp
        exact hK _ O
      · exact wp_mid_h O 7 rfl (M.mat 3 d) (lw_d a b (N : Int) s d r) rfl Try.underlying27 rfl (sH _) (hK _ O)
      · go_simp
        exact hK _ O
      · go_simp
        go_at_call 18
        refine (CX _).mono ?_
        rintro e w2 ⟨rfl, hb⟩
        exact hK _ (O.call hb)
      · refine wp_eqH dd dd rfl rfl ?_
        rw [M.eqB_refl]
        exact hK _ O
      · go_simp
        exact hK _ O
      · go_simp
        exact hK _ O
      · go_simp
        exact hK _ O
      · go_simp
        exact hK _ O
      · go_simp
        exact hK _ O
      · go_simp
        exact hK _ O
      refine wpAny_one (i := 32) (by kernel_rfl) rfl (fun K hK => ?_)
      go_simp
      refine hK _ _ ?_
      clear hK K
      try simp only [Act.put, List.setIfInBounds_toArray, List.set_cons_zero, List.set_cons_succ]
      refine wpAny_done (by kernel_rfl) ?_ _
      go_wp2_with fail
      go_ret
      exact ⟨rfl, O.below⟩

theorem readable : ∀ t ∈ Try.f6.params.toList, Try.prog.readableRec t = true ∧ t < Try.prog.types.size := by
  intro t ht
  rw [Try.params6] at ht
  simp only [List.mem_cons, List.not_mem_nil, or_false] at ht
  repeat (first | (rcases ht with rfl | ht; exact ⟨by kernel_rfl, of_decide_eq_true (by kernel_rfl)⟩) | (subst ht; exact ⟨by kernel_rfl, of_decide_eq_true (by kernel_rfl)⟩))
set_option maxRecDepth 100000 in
theorem lifted (os : Os) (started : os.Started) (H : Type) (enc : TypeId × Value → H) :
    ReturnsInHanded {} Try.checked os 6 .any (Rows.wideCountsSpec.pre6 enc Try.prog Try.f6 Rows.wideCountsRow.domain false) (Rows.wideCountsSpec.post enc Try.prog Try.f6 false true false false) := by
  refine returnsInHanded_of_change (C := Try.checked) own started (by kernel_rfl) Try.func6
    (ChangeSpec.witness6 (enc := enc) (C := Try.checked) false ⟨#[], #[.agg #[.int .i64 0, .int .i64 0, .int .i64 0, .int .i64 0, .int .i64 0, .int .i64 0, .int .i64 0, .int .i64 0, .int .i64 0, .int .i64 0, .int .i64 0, .int .i64 0, .int .i64 0, .int .i64 0, .int .i64 0, .bool false, .int .i64 0, .int .i64 0, .int .i64 0, .int .i64 0, .int .i64 0, .int .i64 0, .int .i64 0]], []⟩ 8 (by kernel_rfl) (by kernel_rfl) (by kernel_rfl) (by kernel_rfl)) ?_
  intro W base args ds gs before hval0 hW hcnd _
  have hval : ∀ (j : Nat) t v, Try.f6.params[j]? = some t → args[j]? = some v → Value.okWide Try.prog W .any base t v := hval0
  have hW' := hW
  obtain ⟨p, q, hA0, hV, rfl, hfz, hnd⟩ := hW
  have hA : DataW.TrodAll enc Try.prog W 0 (fun _ => true) true Try.f6.params.toList args.toList ds p := hA0
  rw [Try.params6] at hA hval
  have hlt : ∀ x ∈ p ++ q, x.block < W.heap.size := fun x hx => hW'.lt x hx
  obtain ⟨v0, vs0, d0, ds0, p0, q0, hargs, rfl, rfl, h0, rr0⟩ := trodAll_cons hA
  obtain ⟨rfl, rfl, rfl⟩ := trodAll_nil rr0
  obtain rfl : args = #[v0] := by cases args; simp_all
  obtain ⟨rfl, rfl⟩ := trodVars_none hV
  obtain ⟨a0, b0, n0, s0, e0, r0, rfl⟩ := openLine (hval 0 31 v0 rfl rfl) h0
  clear hA0 hval0
  refine (walk W a0 b0 n0 s0 e0 r0).mono fun e W' ⟨he, hg⟩ => ?_
  subst he
  exact ⟨_, rfl, post_true (tb := 4) laid readable (by kernel_rfl) Try.underlying4 rfl (fun l hl => by
    match l, hl with
    | [_], _ => exact ⟨rfl, rfl, rfl⟩) hW' hg⟩

theorem over : Rows.wideCountsRow.holds Try.pinned (OpenSpec.ofChange Rows.wideCountsSpec) :=
  OpenClaim.holds_of_wide 6 Try.f6 rfl rfl rfl rfl rfl rfl rfl ⟨rfl, rfl, rfl, rfl, rfl⟩ rfl rfl rfl rfl rfl (by kernel_rfl) Try.func6 (by kernel_rfl)
    (of_decide_eq_true (by kernel_rfl)) (by unfold Func.isWrapper; first | (rw [if_pos (by decide +kernel)]; kernel_rfl) | (rw [if_neg (by decide +kernel)]; exact ⟨rfl, rfl⟩))
    (fun os started H enc _ => lifted os started H enc)

theorem proved : Rows.WideCountsSaid :=
  over
#print axioms proved
end Go.Proofs.Ytpfhaocmcfnhnaa.wideCounts
