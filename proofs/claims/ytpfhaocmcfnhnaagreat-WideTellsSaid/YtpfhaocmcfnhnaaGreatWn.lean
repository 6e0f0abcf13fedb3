/- Contract of the program: Line, dashed. -/
import Derived.Test.YtpfhaocmcfnhnaaGreatWl
namespace Go.Proofs.YtpfhaocmcfnhnaaGreat
open Go.ChangeShapes Go.WideShapes Go.ChangeAt Go.RowKit
set_option linter.unusedVariables false
set_option linter.unusedSimpArgs false

set_option maxRecDepth 100000 in
set_option maxHeartbeats 32000000 in
theorem wline_true (a b : Nat → Int) (n : Nat) (d r : Nat → Int) (hr : WD.right a b n d = true) (w : World) : Calls Tryz.prog 6 #[arr 7 a, arr 7 b, .int .i64 (n : Int), .bool true, arr 3 d, arr 4 r] w (RetL w (WD.frs a b (WD.tl a b) r n true d (WD.steps n (WD.tl a b) a b r)) (HM.nextF d (WD.cnt n (WD.tl a b) a b))) := by
 have O := Own.start w
 have CR := fun w => wright_any a b n d w
 rw [hr] at CR
 obtain ⟨⟨hfa, hfb⟩, ⟨hn1, hn2⟩, hd⟩ := WD.right_iff.1 hr
 have hn : 1 ≤ n ∧ n ≤ 64 := by omega
 have CA := fun w => wacross_any a b hfa hfb w
 obtain ⟨t, ht⟩ : ∃ t, WD.tl a b = t := ⟨_, rfl⟩
 rw [ht] at CA ⊢
 have C1 := fun w => wcore_any a b a n t hfa (by omega) w
 have C2 := fun w => wcore_any a b b n t hfb (by omega) w
 have CB := fun w => wbrush_any (WD.ln a b n (DM.t2 (WD.bx t) (WD.by_ t))) r w
 have CX := fun w => wreach_any a b r n t (by omega) w
 have hra := WD.core_rg (t := t) hfa hn
 have hrb := WD.core_rg (t := t) hfb hn
 have CW := fun w => within_any (WD.core n t a) (WD.core n t b) (WD.rch n t r) hra hrb w
 have hcl := WD.cnt_lim (ax := WD.core n t a 0) (ay := WD.core n t a 1) (bx := WD.core n t b 0) (by_ := WD.core n t b 1) hra hrb
 have CC := fun w => pcount_any (WD.core n t a) (WD.core n t b) hra hrb w
 change ∀ w, Calls _ _ _ w (RetT w (WD.steps n t a b r)) at CW
 have CN := fun w => pnext_any d (WD.cnt n t a b) hd (by unfold WD.cnt; omega) w
 change ∀ w, Calls _ _ _ w (fun e w' => e = .returned (.int .i64 (WD.cnt n t a b)) ∧ Below w.heap.size w w') at CC
 have HMM := Lib.hid (fun s hs => @WD.steps_mem n t a b r hfa hfb hn s hs)
 have HLN := Lib.hid (@WD.steps_len n t a b r hfa hfb hn)
 have HF := Lib.hid (And.intro hfa hfb)
 have HD := Lib.hid hd
 have HTK := Lib.hid (fun xs j s h => @WD.frs_take a b t r n true d xs j s h)
 have HFL := Lib.hid (fun xs => WD.frs_len a b t r n true d xs)
 obtain ⟨ca, hca⟩ : ∃ c, WD.core n t a = c := ⟨_, rfl⟩
 obtain ⟨cb, hcb⟩ : ∃ c, WD.core n t b = c := ⟨_, rfl⟩
 obtain ⟨rr, hrr⟩ : ∃ c, WD.rch n t r = c := ⟨_, rfl⟩
 obtain ⟨xs, hxs⟩ : ∃ c, WD.steps n t a b r = c := ⟨_, rfl⟩
 obtain ⟨nx, hnx⟩ : ∃ c, HM.nextF d (WD.cnt n t a b) = c := ⟨_, rfl⟩
 obtain ⟨cn, hcn⟩ : ∃ c, WD.cnt n t a b = c := ⟨_, rfl⟩
 obtain ⟨lnc, hln⟩ : ∃ c, WD.ln a b n (DM.t2 (WD.bx t) (WD.by_ t)) = c := ⟨_, rfl⟩
 have BZ := builtZ a b n (DM.t2 (WD.bx t) (WD.by_ t))
 rw [hnx] at CN ⊢
 rw [hcn] at CC CN
 rw [hxs] at CW HMM HLN ⊢
 rw [hca, hcb, hrr] at CW
 rw [hca, hcb] at CC
 rw [hln] at C1 C2 CB CX BZ
 rw [hca] at C1
 rw [hcb] at C2
 rw [hrr] at CX
 have HL := Lib.hid hln
 have HN := Lib.hid hn
 clear hr hfa hfb hn1 hn2 hd ht hra hrb hcl hca hcb hrr hxs hnx hcn hln hn
 have HD1 : apart [⟨7, 99, 47, M.mat 17 M.zero, M.mat 17 M.zero⟩] := (by decide : [7, 99].Nodup)
 have HD2 : apart [⟨6, 8, 44, M.mat 2 M.zero, M.mat 2 ca⟩, ⟨7, 99, 44, M.mat 2 M.zero, M.mat 2 M.zero⟩] := (by decide : [6, 8, 7, 99].Nodup)
 go_enter Tryz.func6, Tryz.ntmps6
 go_wp2_with (first | ((with_reducible refine at_box 6 ?_); refine wpList_box_own O (M.mat 7 (a)) rfl ?_; clear O; intro g6 w1 O) | ((with_reducible refine at_box 7 ?_); refine wpList_box_own O (M.mat 7 (b)) rfl ?_; clear O; intro g7 w2 O) | ((with_reducible refine at_box 10 ?_); refine wpList_box_own O (M.mat 3 (d)) rfl ?_; clear O; intro g10 w3 O) | ((with_reducible refine at_box 11 ?_); refine wpList_box_own O (M.mat 4 (r)) rfl ?_; clear O; intro g11 w4 O) | ((with_reducible refine at_alloc 13 ?_); refine wpList_alloc_own O (M.mat 3 M.zero) zeroH ?_; clear O; intro g13 w5 O) | ((with_reducible refine at_load 21 ?_); refine wpList_whole rfl O 4 rfl rfl Tryz.underlying25 rfl (sW _) ?_) | ((with_reducible refine at_load 22 ?_); refine wpList_whole rfl O 3 rfl rfl Tryz.underlying25 rfl (sW _) ?_) | ((with_reducible refine at_load 24 ?_); refine wpList_whole rfl O 2 rfl rfl Tryz.underlying27 rfl (sH _) ?_) | (go_at_call 9; refine (CR _).mono ?_; rintro e w6 ⟨rfl, hb⟩; replace O := O.call hb; clear hb))
 have OO := O
 clear O CR
 have O := OO
 clear OO
 refine region_S (fun st w2 => NB w [(g13, 27, M.mat 3 M.zero), (g11, 29, M.mat 4 r), (g10, 27, M.mat 3 d), (g7, 25, M.mat 7 b), (g6, 25, M.mat 7 a)] [⟨7, 99, 47, M.mat 17 M.zero, M.mat 17 M.zero⟩] st w2) [7] 12 8 [some 28, some 29, some 30, some 31, some 32, some 33, some 34, some 14] (fun g => [arr 7 a, arr 7 b, .int .i64 (n : Int), arr 7 a, arr 7 b, arr 2 (DM.t2 (WD.bx t) (WD.by_ t)), arr 17 lnc, g 7]) 1 (by kernel_rfl) (by kernel_rfl) (by rfl) (by rfl) (fun _ => rfl) (by decide) ?_ (NB.start O.drew) (fun F hF => ?_)
 ·
  intro i hi
  simp only [List.mem_cons, List.not_mem_nil, or_false] at hi
  rcases hi with rfl
  · exact ⟨fun _ => rfl, [0, 1, 2, 3, 4, 5, 6], by kernel_rfl, fun g v => ⟨rfl, rfl, rfl, rfl, rfl, rfl, rfl, trivial⟩⟩
 simp only [fillD, Act.put, List.setIfInBounds_toArray, List.set_cons_zero, List.set_cons_succ] at hF
 have hF2 := funext hF
 clear hF
 subst hF2
 refine ⟨⟨doesN_want (by decide) rfl (fun g => rfl) (fun st w' hS hp K hK => ?_), doesN_want (by decide) rfl (fun g => rfl) (fun st w' hS hp K hK => ?_), doesN_want (by decide) rfl (fun g => rfl) (fun st w' hS hp K hK => ?_), doesN_want (by decide) rfl (fun g => rfl) (fun st w' hS hp K hK => ?_), doesN_want (by decide) rfl (fun g => rfl) (fun st w' hS hp K hK => ?_), doesN_want (by decide) rfl (fun g => rfl) (fun st w' hS hp K hK => ?_), doesN_want (by decide) rfl (fun g => rfl) (fun st w' hS hp K hK => ?_), doesC_want (by decide) rfl (fun g => rfl) (fun st w' hS hn hp K hK => ?_), trivial⟩, fun st w' hS hall => ?_⟩
 ·
  try dsimp only
  exact wp_whole hS.own 4 rfl rfl Tryz.underlying25 rfl (sW _) (hK _ hS)
 ·
  try dsimp only
  exact wp_whole hS.own 3 rfl rfl Tryz.underlying25 rfl (sW _) (hK _ hS)
 ·
  try dsimp only
  go_simp
  exact hK _ hS
 ·
  try dsimp only
  exact wp_whole hS.own 4 rfl rfl Tryz.underlying25 rfl (sW _) (hK _ hS)
 ·
  try dsimp only
  exact wp_whole hS.own 3 rfl rfl Tryz.underlying25 rfl (sW _) (hK _ hS)
 ·
  try dsimp only
  go_simp
  go_at_call 13
  refine (CA _).mono ?_
  rintro e w2 ⟨rfl, hb⟩
  exact hK _ ⟨hS.1, hS.2.1, hS.2.2.call hb⟩
 ·
  try dsimp only
  refine wp_build_own [(0, arr 7 a), (1, arr 7 b), (2, .int .i64 (n : Int)), (3, arr 2 (DM.t2 (WD.bx t) (WD.by_ t)))] ((M.mat 17 lnc).toArray) ?_ BZ (hK _ hS)
  simp only [List.map_toArray, List.map_cons, List.map_nil]
  rfl
 ·
  try dsimp only
  exact hS.alloc HD1 0 rfl hn zeroZ hK
 try dsimp only
 obtain ⟨g14, e14⟩ := hS.ptr 0 rfl (hall 7 (by decide))
 have O3 : Own w w' ((g14, 47, M.mat 17 M.zero) :: [(g13, 27, M.mat 3 M.zero), (g11, 29, M.mat 4 r), (g10, 27, M.mat 3 d), (g7, 25, M.mat 7 b), (g6, 25, M.mat 7 a)]) := by
  have h3 := hS.2.2
  rw [nows_cons, NbS.now_same e14 rfl] at h3
  exact h3
 clear hS O
 have O := O3
 clear O3
 simp only [seen, e14, Option.getD_some]
 clear hall e14
 refine wpAny_want (i := 8) (by kernel_rfl) rfl (by rfl) (fun K hK => ?_)
 refine wp_put_own O 0 (M.mat 17 (lnc)) rfl rfl rfl (sZ _) (M.mat_len2 _ _ _) (M.mat_one _ _) fun w9 O9 => hK _ _ ?_
 clear O
 have O := O9
 clear O9
 clear hK K
 try simp only [Act.put, List.setIfInBounds_toArray, List.set_cons_zero, List.set_cons_succ]
 refine wpAny_done (by kernel_rfl) ?_ _
 clear CA BZ HD1
 go_wp2_with fail
 have OO := O
 clear O
 have O := OO
 clear OO
 refine region_S (fun st w2 => NB w [(g14, 47, M.mat 17 lnc), (g13, 27, M.mat 3 M.zero), (g11, 29, M.mat 4 r), (g10, 27, M.mat 3 d), (g7, 25, M.mat 7 b), (g6, 25, M.mat 7 a)] [⟨6, 8, 44, M.mat 2 M.zero, M.mat 2 ca⟩, ⟨7, 99, 44, M.mat 2 M.zero, M.mat 2 M.zero⟩] st w2) [6, 7, 8] 12 9 [some 35, some 36, some 37, some 38, some 39, some 40, some 15, some 16, none] (fun g => [arr 17 lnc, arr 7 a, arr 2 ca, arr 17 lnc, arr 7 b, arr 2 cb, g 6, g 7, g 8]) 1 (by kernel_rfl) (by kernel_rfl) (by rfl) (by rfl) (fun _ => rfl) (by decide) ?_ (NB.start O.drew) (fun F hF => ?_)
 ·
  intro i hi
  simp only [List.mem_cons, List.not_mem_nil, or_false] at hi
  rcases hi with rfl | rfl | rfl
  · exact ⟨fun _ => rfl, [0, 1, 2, 3, 4, 5, 7, 8], by kernel_rfl, fun g v => ⟨rfl, rfl, rfl, rfl, rfl, rfl, rfl, rfl, trivial⟩⟩
  · exact ⟨fun _ => rfl, [0, 1, 2, 3, 4, 5, 6, 8], by kernel_rfl, fun g v => ⟨rfl, rfl, rfl, rfl, rfl, rfl, rfl, rfl, trivial⟩⟩
  · exact ⟨fun _ => rfl, [0, 1, 2, 3, 4, 5, 6, 7], by kernel_rfl, fun g v => ⟨rfl, rfl, rfl, rfl, rfl, rfl, rfl, rfl, trivial⟩⟩
 simp only [fillD, Act.put, List.setIfInBounds_toArray, List.set_cons_zero, List.set_cons_succ] at hF
 have hF2 := funext hF
 clear hF
 subst hF2
 refine ⟨⟨doesN_want (by decide) rfl (fun g => rfl) (fun st w' hS hp K hK => ?_), doesN_want (by decide) rfl (fun g => rfl) (fun st w' hS hp K hK => ?_), doesN_want (by decide) rfl (fun g => rfl) (fun st w' hS hp K hK => ?_), doesN_want (by decide) rfl (fun g => rfl) (fun st w' hS hp K hK => ?_), doesN_want (by decide) rfl (fun g => rfl) (fun st w' hS hp K hK => ?_), doesN_want (by decide) rfl (fun g => rfl) (fun st w' hS hp K hK => ?_), doesC_want (by decide) rfl (fun g => rfl) (fun st w' hS hn hp K hK => ?_), doesC_want (by decide) rfl (fun g => rfl) (fun st w' hS hn hp K hK => ?_), doesC_want (by decide) rfl (fun g => rfl) (fun st w' hS hn hp K hK => ?_), trivial⟩, fun st w' hS hall => ?_⟩
 ·
  try dsimp only
  exact wp_whole hS.own 0 rfl rfl Tryz.underlying47 rfl (sZ _) (hK _ hS)
 ·
  try dsimp only
  exact wp_whole hS.own 5 rfl rfl Tryz.underlying25 rfl (sW _) (hK _ hS)
 ·
  try dsimp only
  go_simp
  go_at_call 14
  refine (C1 _).mono ?_
  rintro e w2 ⟨rfl, hb⟩
  exact hK _ ⟨hS.1, hS.2.1, hS.2.2.call hb⟩
 ·
  try dsimp only
  exact wp_whole hS.own 0 rfl rfl Tryz.underlying47 rfl (sZ _) (hK _ hS)
 ·
  try dsimp only
  exact wp_whole hS.own 4 rfl rfl Tryz.underlying25 rfl (sW _) (hK _ hS)
 ·
  try dsimp only
  go_simp
  go_at_call 14
  refine (C2 _).mono ?_
  rintro e w2 ⟨rfl, hb⟩
  exact hK _ ⟨hS.1, hS.2.1, hS.2.2.call hb⟩
 ·
  try dsimp only
  exact hS.alloc HD2 0 rfl hn zeroP hK
 ·
  try dsimp only
  exact hS.alloc HD2 1 rfl hn zeroP hK
 ·
  try dsimp only
  exact hS.put HD2 0 rfl (hp 6 (by decide) (by kernel_rfl)) hn rfl rfl (sP _) (M.mat_len2 _ _ _) (M.mat_one _ _) hK
 try dsimp only
 obtain ⟨g15, e15⟩ := hS.ptr 0 rfl (hall 6 (by decide))
 obtain ⟨g16, e16⟩ := hS.ptr 1 rfl (hall 7 (by decide))
 have O3 : Own w w' ((g15, 44, M.mat 2 ca) :: (g16, 44, M.mat 2 M.zero) :: [(g14, 47, M.mat 17 lnc), (g13, 27, M.mat 3 M.zero), (g11, 29, M.mat 4 r), (g10, 27, M.mat 3 d), (g7, 25, M.mat 7 b), (g6, 25, M.mat 7 a)]) := by
  have h3 := hS.2.2
  rw [nows_cons, nows_cons, NbS.now_same e16 rfl, NbS.now_is e15 true (hall 8 (by decide))] at h3
  exact h3
 clear hS O
 have O := O3
 clear O3
 simp only [seen, e15, e16, Option.getD_some]
 clear hall e15 e16
 refine wpAny_want (i := 9) (by kernel_rfl) rfl (by rfl) (fun K hK => ?_)
 refine wp_put_own O 1 (M.mat 2 (cb)) rfl rfl rfl (sP _) (M.mat_len2 _ _ _) (M.mat_one _ _) fun w9 O9 => hK _ _ ?_
 clear O
 have O := O9
 clear O9
 clear hK K
 try simp only [Act.put, List.setIfInBounds_toArray, List.set_cons_zero, List.set_cons_succ]
 refine wpAny_done (by kernel_rfl) ?_ _
 clear C1 C2 HD2
 go_wp2_with (first | ((with_reducible refine at_load 41 ?_); refine wpList_whole rfl O 2 rfl rfl Tryz.underlying47 rfl (sZ _) ?_) | ((with_reducible refine at_load 42 ?_); refine wpList_whole rfl O 4 rfl rfl Tryz.underlying29 rfl (sR _) ?_) | (go_at_call 15; refine (CB _).mono ?_; rintro e w8 ⟨gl, gr, rfl, OC⟩; have O9 := O.join OC; clear O OC; have O := O9; clear O9))
 have O9 : Own w w8 [(gr, 29, M.mat 4 r), (gl, 47, M.mat 17 lnc), (g15, 44, M.mat 2 ca), (g16, 44, M.mat 2 cb), (g14, 47, M.mat 17 lnc), (g13, 27, M.mat 3 M.zero), (g11, 29, M.mat 4 r), (g10, 27, M.mat 3 d), (g7, 25, M.mat 7 b), (g6, 25, M.mat 7 a)] := O
 clear O CB
 have O := O9
 clear O9
 have OO := O
 clear O
 have O := OO
 clear OO
 refine region_S (fun st w2 => HS w [(gr, 29, M.mat 4 r), (gl, 47, M.mat 17 lnc), (g15, 44, M.mat 2 ca), (g16, 44, M.mat 2 cb), (g14, 47, M.mat 17 lnc), (g13, 27, M.mat 3 M.zero), (g11, 29, M.mat 4 r), (g10, 27, M.mat 3 d), (g7, 25, M.mat 7 b), (g6, 25, M.mat 7 a)] 5 xs st w2) [5] 12 8 [some 44, some 45, some 46, some 47, some 48, some 49, some 50, some 51] (fun g => [arr 2 ca, arr 2 cb, arr 17 lnc, arr 4 r, arr 4 rr, g 5, .int .i64 (xs.length : Int), .int .i64 0]) 0 (by kernel_rfl) (by kernel_rfl) (by rfl) (by rfl) (fun _ => rfl) (by decide) ?_ (HS.start O.drew) (fun F hF => ?_)
 ·
  intro i hi
  simp only [List.mem_cons, List.not_mem_nil, or_false] at hi
  rcases hi with rfl
  · exact ⟨fun _ => rfl, [0, 1, 2, 3, 4, 6, 7], by kernel_rfl, fun g v => ⟨rfl, rfl, rfl, rfl, rfl, rfl, rfl, trivial⟩⟩
 simp only [fillD, Act.put, List.setIfInBounds_toArray, List.set_cons_zero, List.set_cons_succ] at hF
 have hF2 := funext hF
 clear hF
 subst hF2
 refine ⟨⟨doesN_want (by decide) rfl (fun g => rfl) (fun st w' hS hp K hK => ?_), doesN_want (by decide) rfl (fun g => rfl) (fun st w' hS hp K hK => ?_), doesN_want (by decide) rfl (fun g => rfl) (fun st w' hS hp K hK => ?_), doesN_want (by decide) rfl (fun g => rfl) (fun st w' hS hp K hK => ?_), doesN_want (by decide) rfl (fun g => rfl) (fun st w' hS hp K hK => ?_), doesC_want (by decide) rfl (fun g => rfl) (fun st w' hS hn hp K hK => ?_), doesN_want (by decide) rfl (fun g => rfl) (fun st w' hS hp K hK => ?_), doesN_want (by decide) rfl (fun g => rfl) (fun st w' hS hp K hK => ?_), trivial⟩, fun st w' hS hall => ?_⟩
 ·
  try dsimp only
  exact wp_whole hS.1 2 rfl rfl Tryz.underlying44 rfl (sP _) (hK _ hS)
 ·
  try dsimp only
  exact wp_whole hS.1 3 rfl rfl Tryz.underlying44 rfl (sP _) (hK _ hS)
 ·
  try dsimp only
  exact wp_whole hS.1 4 rfl rfl Tryz.underlying47 rfl (sZ _) (hK _ hS)
 ·
  try dsimp only
  exact wp_whole hS.1 6 rfl rfl Tryz.underlying29 rfl (sR _) (hK _ hS)
 ·
  try dsimp only
  go_simp
  go_at_call 17
  refine (CX _).mono ?_
  rintro e w2 ⟨rfl, hb⟩
  exact hK _ (hS.call hb)
 ·
  try dsimp only
  go_simp
  go_at_call 16
  refine (CW _).mono ?_
  rintro e w2 ⟨VA, vc, rfl, hL, hb⟩
  exact hK _ _ (hS.gain hL hb)
 ·
  try dsimp only
  obtain ⟨A1, k1, e1, h1⟩ := hS.get (hp 5 (by decide) (by kernel_rfl))
  simp only [seen, e1, Option.getD_some] at hK ⊢
  go_simp
  exact hK _ hS
 ·
  try dsimp only
  go_simp
  exact hK _ hS
 try dsimp only
 obtain ⟨XA, xc, e5, HH⟩ := hS.get (hall 5 (by decide))
 clear hS O
 simp only [seen, e5, Option.getD_some]
 clear hall e5
 refine wpAny_done (by kernel_rfl) ?_ _
 clear CX CW
 have O := HH.fresh 42 8
 clear HH
 have HX := Lib.hid (fun j s (h : xs[j]? = some s) => HMM.out s (List.mem_of_getElem? h))
 clear HMM
 go_wp2_with fail
 go_loopw [18, 51] (fun t18 t51 wr => ∃ (j : Nat) (A : Option Addr) (c : Nat), j ≤ xs.length ∧ t18 = .slice A (WD.frs a b t r n true d (xs.take j)).length c ∧ t51 = .int .i64 (j : Int) ∧ Held w wr [(gr, 29, M.mat 4 r), (gl, 47, M.mat 17 lnc), (g15, 44, M.mat 2 ca), (g16, 44, M.mat 2 cb), (g14, 47, M.mat 17 lnc), (g13, 27, M.mat 3 M.zero), (g11, 29, M.mat 4 r), (g10, 27, M.mat 3 d), (g7, 25, M.mat 7 b), (g6, 25, M.mat 7 a)] (gR A c (WD.frs a b t r n true d (xs.take j))) [tE w.heap.size XA xc xs]) (fun t18 t51 _ => xs.length - (intOf t51).toNat)
 case atStart => exact ⟨0, none, 0, Nat.zero_le _, rfl, rfl, O⟩
 case round =>
  clear O
  obtain ⟨j, A, c, hj, rfl, rfl, O⟩ := hrel
  obtain ⟨LL, hLL⟩ : ∃ LL, WD.frs a b t r n true d (xs.take j) = LL := ⟨_, rfl⟩
  rw [hLL] at O ⊢
  have HLL := Lib.hid hLL
  clear hLL
  have q0 : (0 : Int) ≤ j := by omega
  by_cases hlt : j < xs.length
  ·
   have q1 : (j : Int) < xs.length := by omega
   obtain ⟨s, hs⟩ : ∃ s, xs[j]? = some s := ⟨xs[j]'(by omega), List.getElem?_eq_getElem (by omega)⟩
   have HSJ := Lib.hid hs
   obtain ⟨⟨k0, k1⟩, l1, l2⟩ := HX.out j s hs
   have HTJ := HTK.out xs j s hs
   rw [HLL.out] at HTJ
   have CL := fun w => plit_any d s.1 HD.out (by omega) w
   have hLb : LL.length ≤ 500000000 := by
    have h8 := HFL.out (xs.take j)
    have h9 := HLN.out
    rw [HLL.out, List.length_take] at h8
    have h10 : min j xs.length * n ≤ 4194320 * 64 := Nat.mul_le_mul (by omega) HN.out.2
    omega
   have KB : Hid (∀ (w0 w1 : World) (bs : List (Nat × TypeId × List Value)) (es : List Ent) (A : Option Addr) (c : Nat), Held w0 w1 ((gr, 29, M.mat 4 r) :: (gl, 47, M.mat 17 lnc) :: bs) (gR A c LL) es → Calls Tryz.prog 35 #[.slice A LL.length c, arr 3 (sF s), .pointer (some ⟨gl, 0, none⟩), .pointer (some ⟨gr, 0, none⟩)] w1 fun e w' => ∃ A' c', e = .returned (.slice A' (LL ++ WD.sp a b t r s n).length c') ∧ Held w0 w' ((gr, 29, M.mat 4 r) :: (gl, 47, M.mat 17 lnc) :: bs) (gR A' c' (LL ++ WD.sp a b t r s n)) es) := Lib.hid (fun w0 w1 bs es A c O => by
    have HO := HL.out
    subst HO
    exact wbrush1_any LL a b r n t s HF.out HN.out.2 l1 l2 hLb O)
   have K0 : Hid ((M.mat 3 (sF s))[0]? = some (.int .i64 s.1)) := Lib.hid rfl
   have HSP := Lib.hid (show WD.stp a b t r n true d s = if WD.lits true d s.1 then WD.sp a b t r s n else [] from rfl)
   have HJ := Lib.hid HTJ
   have HB := Lib.hid hLb
   clear hs l1 l2 k0 k1 HTJ hLb
   have W1 : wrap64 ((j : Int) + 1) = (j : Int) + 1 := IntWalk.wrap64_in _ (by have := HLN.out; omega)
   have hcf : ∀ args w, (callFunc 35 args).run Tryz.prog w = .ok (.enter 35 args) w := enters_of Tryz.func35 (by kernel_rfl) rfl
   obtain ⟨SPL, hSPL⟩ : ∃ S, WD.sp a b t r s n = S := ⟨_, rfl⟩
   rw [hSPL] at KB HSP
   clear hSPL
   have hl : WD.lits true d s.1 = HM.litF d s.1 := rfl
   rw [hl] at HSP
   clear hl
   cases hk : HM.litF d s.1
   ·
    rw [hk] at CL HSP
    replace HSP := Lib.hid (HSP.out.trans (if_neg (by decide)))
    clear hk
    go_wp2_with (first | ((with_reducible refine at_index_ 53 ?_); refine wpList_at_h rfl Tryz.underlying52 sizeOfT (tE w.heap.size XA xc xs) (O.mem List.mem_cons_self) rfl j rfl (by first | rfl | omega) (by show j < xs.length; exact hlt) rfl ?_) | ((with_reducible refine at_load 54 ?_); refine wpList_elem_h rfl _ (O.mem List.mem_cons_self) (j * 3) (M.mat 3 (sF s)) (tC_at HSJ.out) (by rw [M.mat_len]; decide) rfl Tryz.underlying56 rfl (sT _) ?_) | ((with_reducible refine at_alloc 20 ?_); refine wpList_alloc_h O (M.mat 3 M.zero) zeroT ?_; clear O; intro g20 u1 O) | ((with_reducible refine at_store 20 ?_); refine wpList_put_h O 0 (M.mat 3 (sF s)) rfl rfl rfl (sT _) (M.mat_len2 _ _ _) (M.mat_one _ _) ?_; clear O; intro u2 O) | ((with_reducible refine at_load 58 ?_); refine wpList_rowg_h rfl O 8 rfl rfl Tryz.underlying27 rfl (sH _) ?_) | ((with_reducible refine at_load 60 ?_); refine wpList_cell_h (v := .int .i64 (s.1)) rfl O 0 rfl K0.out rfl agg3 rfl ?_) | (go_at_call 18; refine (CL _).mono ?_; rintro e u3 ⟨rfl, hb⟩; replace O := O.call hb; clear hb))
    go_roundw
    case rel => exact ⟨j + 1, A, c, by omega, by rw [HJ.out, HSP.out, List.append_nil], by go_num, by rw [HJ.out, HSP.out, List.append_nil]; exact O.tail⟩
    case measure => exact meas_lt W1 hlt
   ·
    rw [hk] at CL HSP
    replace HSP := Lib.hid (HSP.out.trans (if_pos rfl))
    clear hk
    go_wp2_with (first | ((with_reducible refine at_index_ 53 ?_); refine wpList_at_h rfl Tryz.underlying52 sizeOfT (tE w.heap.size XA xc xs) (O.mem List.mem_cons_self) rfl j rfl (by first | rfl | omega) (by show j < xs.length; exact hlt) rfl ?_) | ((with_reducible refine at_load 54 ?_); refine wpList_elem_h rfl _ (O.mem List.mem_cons_self) (j * 3) (M.mat 3 (sF s)) (tC_at HSJ.out) (by rw [M.mat_len]; decide) rfl Tryz.underlying56 rfl (sT _) ?_) | ((with_reducible refine at_alloc 20 ?_); refine wpList_alloc_h O (M.mat 3 M.zero) zeroT ?_; clear O; intro g20 u1 O) | ((with_reducible refine at_store 20 ?_); refine wpList_put_h O 0 (M.mat 3 (sF s)) rfl rfl rfl (sT _) (M.mat_len2 _ _ _) (M.mat_one _ _) ?_; clear O; intro u2 O) | ((with_reducible refine at_load 58 ?_); refine wpList_rowg_h rfl O 8 rfl rfl Tryz.underlying27 rfl (sH _) ?_) | ((with_reducible refine at_load 60 ?_); refine wpList_cell_h (v := .int .i64 (s.1)) rfl O 0 rfl K0.out rfl agg3 rfl ?_) | (go_at_call 18; refine (CL _).mono ?_; rintro e u3 ⟨rfl, hb⟩; replace O := O.call hb; clear hb) | ((with_reducible refine at_load 65 ?_); refine wpList_rowg_h rfl O 0 rfl rfl Tryz.underlying56 rfl (sT _) ?_) | (go_at_call 35; refine (KB.out _ _ _ _ _ _ O.tail).mono ?_; clear O; rintro e u4 ⟨TA, Tc, rfl, O⟩))
    go_roundw
    case rel => exact ⟨j + 1, TA, Tc, by omega, by rw [HJ.out, HSP.out]; first | done | rfl | simp, by go_num, by rw [HJ.out, HSP.out]; exact O⟩
    case measure => exact meas_lt W1 hlt
  ·
   have hje : j = xs.length := by omega
   have q1 : ¬ (j : Int) < xs.length := by omega
   have HE : Hid (WD.frs a b t r n true d xs = LL) := Lib.hid (by rw [← HLL.out, List.take_of_length_le (by omega)])
   clear hje
   go_wp2_with fail
   have OO := O
   clear O
   have O := OO
   clear OO
   refine region_T (fun w2 => Held w w2 [(gr, 29, M.mat 4 r), (gl, 47, M.mat 17 lnc), (g15, 44, M.mat 2 ca), (g16, 44, M.mat 2 cb), (g14, 47, M.mat 17 lnc), (g13, 27, M.mat 3 M.zero), (g11, 29, M.mat 4 r), (g10, 27, M.mat 3 d), (g7, 25, M.mat 7 b), (g6, 25, M.mat 7 a)] (gR A c LL) [tE w.heap.size XA xc xs]) [0, 1, 2, 3, 4] 12 [some 69, some 70, some 71, some 72, some 73] [arr 3 d, arr 2 ca, arr 2 cb, .int .i64 cn, arr 3 nx] 1 (by kernel_rfl) (by rfl) (by kernel_rfl) (by rfl) (by rfl) (O.drew) (fun F hF => ?_)
   simp only [fillD, Act.put, List.setIfInBounds_toArray, List.set_cons_zero, List.set_cons_succ] at hF
   subst hF
   refine ⟨⟨does_want rfl (by rfl) (fun w' O K hK => ?_), does_want rfl (by rfl) (fun w' O K hK => ?_), does_want rfl (by rfl) (fun w' O K hK => ?_), does_want rfl (by rfl) (fun w' O K hK => ?_), does_want rfl (by rfl) (fun w' O K hK => ?_), trivial⟩, fun w' O => ?_⟩
   · exact wp_row_h O 7 rfl rfl Tryz.underlying27 rfl (sH _) (hK _ O)
   · exact wp_row_h O 2 rfl rfl Tryz.underlying44 rfl (sP _) (hK _ O)
   · exact wp_row_h O 3 rfl rfl Tryz.underlying44 rfl (sP _) (hK _ O)
   ·
    go_simp
    go_at_call 20
    refine (CC _).mono ?_
    rintro e w2 ⟨rfl, hb⟩
    exact hK _ (O.call hb)
   ·
    go_simp
    go_at_call 19
    refine (CN _).mono ?_
    rintro e w2 ⟨rfl, hb⟩
    exact hK _ (O.call hb)
   refine wpAny_want (i := 5) (by kernel_rfl) rfl (by rfl) (fun K hK => ?_)
   refine wp_put_h O 7 (M.mat 3 (nx)) rfl rfl rfl (sH _) (M.mat_len2 _ _ _) (M.mat_one _ _) fun w9 O9 => hK _ _ ?_
   clear O
   have O := O9
   clear O9
   clear hK K
   try simp only [Act.put, List.setIfInBounds_toArray, List.set_cons_zero, List.set_cons_succ]
   refine wpAny_done (by kernel_rfl) ?_ _
   go_wp2_with fail
   have OO := O
   clear O
   have O := OO
   clear OO
   refine region_T (fun w2 => Held w w2 [(gr, 29, M.mat 4 r), (gl, 47, M.mat 17 lnc), (g15, 44, M.mat 2 ca), (g16, 44, M.mat 2 cb), (g14, 47, M.mat 17 lnc), (g13, 27, M.mat 3 M.zero), (g11, 29, M.mat 4 r), (g10, 27, M.mat 3 nx), (g7, 25, M.mat 7 b), (g6, 25, M.mat 7 a)] (gR A c LL) [tE w.heap.size XA xc xs]) [0, 1, 2] 12 [some 74, some 75, some 12] [.slice A LL.length c, arr 3 nx, .slice A LL.length c] 1 (by kernel_rfl) (by rfl) (by kernel_rfl) (by rfl) (by rfl) (O.drew) (fun F hF => ?_)
   simp only [fillD, Act.put, List.setIfInBounds_toArray, List.set_cons_zero, List.set_cons_succ] at hF
   subst hF
   refine ⟨⟨does_want rfl (by rfl) (fun w' O K hK => ?_), does_want rfl (by rfl) (fun w' O K hK => ?_), does_want rfl (by rfl) (fun w' O K hK => ?_), trivial⟩, fun w' O => ?_⟩
   ·
    go_simp
    exact hK _ O
   · exact wp_row_h O 7 rfl rfl Tryz.underlying27 rfl (sH _) (hK _ O)
   ·
    go_simp
    exact hK _ O
   refine wpAny_want (i := 3) (by kernel_rfl) rfl (by rfl) (fun K hK => ?_)
   refine wp_put_h O 5 (M.mat 3 (nx)) rfl rfl rfl (sH _) (M.mat_len2 _ _ _) (M.mat_one _ _) fun w9 O9 => hK _ _ ?_
   clear O
   have O := O9
   clear O9
   clear hK K
   try simp only [Act.put, List.setIfInBounds_toArray, List.set_cons_zero, List.set_cons_succ]
   refine wpAny_done (by kernel_rfl) ?_ _
   go_wp2_with fail
   obtain ⟨A2, c2, hv, OD⟩ := O.done
   dsimp only [gR] at hv OD
   injection hv with e1 e2 e3
   subst e1 e3
   exact bodyPost_ret (v := .tuple #[.slice A LL.length c, arr 3 nx]) (res_t2 rfl O.1 5 rfl rfl Tryz.underlying27 rfl (sH _) rfl) rfl ⟨A, c, by first | (rw [HE.out]; done) | (rw [HE.out]; rfl), by rw [HE.out]; exact OD.arg List.mem_cons_self, O.below⟩
end Go.Proofs.YtpfhaocmcfnhnaaGreat
