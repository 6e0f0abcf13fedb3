/- Contract: the document's Line, dashed. -/
import Derived.Test.YtpfhaocmcfnhnaaGreatZl
namespace Go.Proofs.YtpfhaocmcfnhnaaGreat
open Go.ChangeShapes Go.WideShapes Go.ChangeAt Go.RowKit
set_option linter.unusedVariables false
set_option linter.unusedSimpArgs false

set_option maxRecDepth 100000 in
set_option maxHeartbeats 64000000 in
theorem rline_true (a b : Nat → Int) (n : Nat) (d r : Nat → Int) (hr : WD.right a b n d = true) (hs : RC.right r = true → r 2 - r 0 ≤ 300 ∧ r 3 - r 1 ≤ 300) (w : World) : Calls Tryz.prog 7 #[arr 7 a, arr 7 b, .int .i64 (n : Int), .bool true, arr 3 d, arr 4 r] w (RetL w (WD.frs a b (WD.tl a b) r n true d (WD.al n (WD.tl a b) a b)) (HM.nextF d (WD.cnt n (WD.tl a b) a b))) := by
 have O := Held.start w [] (by simp)
 have CR := fun w => rlright_any a b n d w
 rw [hr] at CR
 obtain ⟨⟨hfa, hfb⟩, ⟨hn1, hn2⟩, hd⟩ := WD.right_iff.1 hr
 have hn : 1 ≤ n ∧ n ≤ 64 := by omega
 have CC := fun w => rlcore_any a b (n : Int) hfa hfb (by omega) w
 have FL := fun h => @WD.fnd_len a b r n true d hfa hfb hn h
 obtain ⟨t, ht⟩ : ∃ t, WD.tl a b = t := ⟨_, rfl⟩
 rw [ht] at CC FL ⊢
 have hra := WD.core_rg (t := t) hfa hn
 have hrb := WD.core_rg (t := t) hfb hn
 have CW := fun w => rlwide_any (WD.core n t a) (WD.core n t b) hra hrb w
 rw [WD.core_tall, ht] at CW
 have hcl := WD.cnt_lim (ax := WD.core n t a 0) (ay := WD.core n t a 1) (bx := WD.core n t b 0) (by_ := WD.core n t b 1) hra hrb
 have CN := fun w => count_any (WD.core n t a) (WD.core n t b) hra hrb w
 change ∀ w, Calls _ _ _ w (fun e w' => e = .returned (.int .i64 (WD.cnt n t a b)) ∧ Below w.heap.size w w') at CN
 have CX := fun w => rnext_any d (WD.cnt n t a b) hd (by unfold WD.cnt; omega) w
 have CQ := fun w => rright_any r w
 have PL := fun h => fun x y m => @place_any a b r d n t hfa hfb hn hd h true x y m
 have BAD : RC.right r = false → WD.frs a b t r n true d (WD.al n t a b) = [] := fun h => by
  unfold WD.frs
  rw [List.flatMap_eq_nil_iff]
  exact fun s _ => WD.stp_nil fun i _ => WD.has_bad h _ _
 have FS : WD.Fd a b t r n true d (r 0) (r 1) 0 [] := WD.fnd_start
 have FR : ∀ x y L, WD.Fd a b t r n true d x y n L → WD.Fd a b t r n true d x (y + 1) 0 L := fun x y L h => WD.fnd_row.symm.trans h
 have FC : ∀ x L, WD.Fd a b t r n true d x (r 3) 0 L → WD.Fd a b t r n true d (x + 1) (r 1) 0 L := fun x L h => WD.fnd_col.symm.trans h
 have FE : ∀ L, WD.Fd a b t r n true d (r 2) (r 1) 0 L → L.map WD.frag = WD.frs a b t r n true d (WD.al n t a b) := fun L h => by
  rw [← WD.mks_frag, ← WD.fnd_end (Int.le_refl (r 2))]
  exact congrArg _ h.symm
 have FN : RC.right r = true → ∀ x y m L, WD.Fd a b t r n true d x y m L → L.length ≤ 19200 := fun h x y m L hL => by
  unfold WD.Fd at hL
  rw [← hL]
  exact FL h (hs h) x y m
 obtain ⟨ca, hca⟩ : ∃ c, WD.core n t a = c := ⟨_, rfl⟩
 obtain ⟨cb, hcb⟩ : ∃ c, WD.core n t b = c := ⟨_, rfl⟩
 obtain ⟨nx, hnx⟩ : ∃ c, HM.nextF d (WD.cnt n t a b) = c := ⟨_, rfl⟩
 obtain ⟨cn, hcn⟩ : ∃ c, WD.cnt n t a b = c := ⟨_, rfl⟩
 obtain ⟨res, hres⟩ : ∃ c, WD.frs a b t r n true d (WD.al n t a b) = c := ⟨_, rfl⟩
 rw [hnx] at CX ⊢
 rw [hcn] at CN CX
 rw [hca, hcb] at CC CW CN
 simp only [hca, hcb] at PL
 rw [hres] at BAD ⊢
 simp only [hres] at FE
 generalize WD.Fd a b t r n true d = FD at *
 clear hr hfa hfb hn1 hn2 hd ht hra hrb hcl hca hcb hnx hcn hres FL
 have HN := Lib.hid hn
 clear hn
 cases hq : RC.right r
 ·
  rw [hq] at CQ
  have HB := Lib.hid (BAD hq)
  clear PL BAD FS FR FC FE FN hs hq HN CW
  go_enter Tryz.func7, Tryz.ntmps7
  go_wp2_with (first | ((with_reducible refine at_box 6 ?_); refine wpList_box_h O (M.mat 7 (a)) rfl ?_; clear O; intro g6 w1 O) | ((with_reducible refine at_box 7 ?_); refine wpList_box_h O (M.mat 7 (b)) rfl ?_; clear O; intro g7 w2 O) | ((with_reducible refine at_box 10 ?_); refine wpList_box_h O (M.mat 3 (d)) rfl ?_; clear O; intro g10 w3 O) | ((with_reducible refine at_box 11 ?_); refine wpList_box_h O (M.mat 4 (r)) rfl ?_; clear O; intro g11 w4 O) | ((with_reducible refine at_alloc 13 ?_); refine wpList_alloc_h O (M.mat 3 M.zero) zeroH ?_; clear O; intro g13 w5 O) | ((with_reducible first | refine at_load 29 ?_ | refine at_load 37 ?_); refine wpList_rowg_h rfl O 4 rfl rfl Tryz.underlying25 rfl (sW _) ?_) | ((with_reducible first | refine at_load 30 ?_ | refine at_load 38 ?_); refine wpList_rowg_h rfl O 3 rfl rfl Tryz.underlying25 rfl (sW _) ?_) | ((with_reducible refine at_load 32 ?_); refine wpList_rowg_h rfl O 2 rfl rfl Tryz.underlying27 rfl (sH _) ?_) | (go_at_call 10; refine (CR _).mono ?_; rintro e w6 ⟨rfl, hb⟩; replace O := O.call hb; clear hb) | (go_at_call 21; refine (CC _).mono ?_; rintro e w7 ⟨rfl, hb⟩; replace O := O.call hb; clear hb) | ((with_reducible refine at_alloc 14 ?_); refine wpList_alloc_h O (M.mat 2 M.zero) zeroP ?_; clear O; intro g14 w8 O) | ((with_reducible refine at_alloc 15 ?_); refine wpList_alloc_h O (M.mat 2 M.zero) zeroP ?_; clear O; intro g15 w9 O) | ((with_reducible refine at_store 14 ?_); refine wpList_put_h O 1 (M.mat 2 (ca)) rfl rfl rfl (sP _) (M.mat_len2 _ _ _) (M.mat_one _ _) ?_; clear O; intro w10 O) | ((with_reducible refine at_store 15 ?_); refine wpList_put_h O 0 (M.mat 2 (cb)) rfl rfl rfl (sP _) (M.mat_len2 _ _ _) (M.mat_one _ _) ?_; clear O; intro w11 O) | ((with_reducible refine at_load 43 ?_); refine wpList_rowg_h rfl O 4 rfl rfl Tryz.underlying27 rfl (sH _) ?_) | ((with_reducible refine at_alloc 16 ?_); refine wpList_alloc_h O (M.mat 3 M.zero) zeroH ?_; clear O; intro g16 w12 O) | ((with_reducible refine at_store 16 ?_); refine wpList_put_h O 0 (M.mat 3 (d)) rfl rfl rfl (sH _) (M.mat_len2 _ _ _) (M.mat_one _ _) ?_; clear O; intro w13 O))
  have OO := O
  clear O
  have O := OO
  clear OO
  refine region_T (fun w2 => Held w w2 [(g16, 27, M.mat 3 d), (g15, 44, M.mat 2 cb), (g14, 44, M.mat 2 ca), (g13, 27, M.mat 3 M.zero), (g11, 29, M.mat 4 r), (g10, 27, M.mat 3 d), (g7, 25, M.mat 7 b), (g6, 25, M.mat 7 a)] nilRow []) [0, 1, 2, 3, 4] 12 [some 45, some 46, some 47, some 48, some 49] [arr 3 d, arr 2 ca, arr 2 cb, .int .i64 cn, arr 3 nx] 1 (by kernel_rfl) (by rfl) (by kernel_rfl) (by rfl) (by rfl) (O.drew) (fun F hF => ?_)
  simp only [fillD, Act.put, List.setIfInBounds_toArray, List.set_cons_zero, List.set_cons_succ] at hF
  subst hF
  refine ⟨⟨does_want rfl (by rfl) (fun w' O K hK => ?_), does_want rfl (by rfl) (fun w' O K hK => ?_), does_want rfl (by rfl) (fun w' O K hK => ?_), does_want rfl (by rfl) (fun w' O K hK => ?_), does_want rfl (by rfl) (fun w' O K hK => ?_), trivial⟩, fun w' O => ?_⟩
  · exact wp_row_h O 5 rfl rfl Tryz.underlying27 rfl (sH _) (hK _ O)
  · exact wp_row_h O 2 rfl rfl Tryz.underlying44 rfl (sP _) (hK _ O)
  · exact wp_row_h O 1 rfl rfl Tryz.underlying44 rfl (sP _) (hK _ O)
  ·
   go_simp
   go_at_call 23
   refine (CN _).mono ?_
   rintro e w2 ⟨rfl, hb⟩
   exact hK _ (O.call hb)
  ·
   go_simp
   go_at_call 22
   refine (CX _).mono ?_
   rintro e w2 ⟨rfl, hb⟩
   exact hK _ (O.call hb)
  refine wpAny_want (i := 5) (by kernel_rfl) rfl (by rfl) (fun K hK => ?_)
  refine wp_put_h O 0 (M.mat 3 (nx)) rfl rfl rfl (sH _) (M.mat_len2 _ _ _) (M.mat_one _ _) fun w9 O9 => hK _ _ ?_
  clear O
  have O := O9
  clear O9
  clear hK K
  try simp only [Act.put, List.setIfInBounds_toArray, List.set_cons_zero, List.set_cons_succ]
  refine wpAny_done (by kernel_rfl) ?_ _
  go_wp2_with (first | ((with_reducible refine at_load 50 ?_); refine wpList_rowg_h rfl O 4 rfl rfl Tryz.underlying29 rfl (sR _) ?_) | (go_at_call 11; refine (CQ _).mono ?_; rintro e w14 ⟨rfl, hb⟩; replace O := O.call hb; clear hb))
  have OO := O
  clear O
  have O := OO
  clear OO
  refine region_T (fun w2 => Held w w2 [(g16, 27, M.mat 3 nx), (g15, 44, M.mat 2 cb), (g14, 44, M.mat 2 ca), (g13, 27, M.mat 3 M.zero), (g11, 29, M.mat 4 r), (g10, 27, M.mat 3 d), (g7, 25, M.mat 7 b), (g6, 25, M.mat 7 a)] nilRow []) [0, 1] 12 [some 53, some 12] [arr 3 nx, .slice none 0 0] 1 (by kernel_rfl) (by rfl) (by kernel_rfl) (by rfl) (by rfl) (O.drew) (fun F hF => ?_)
  simp only [fillD, Act.put, List.setIfInBounds_toArray, List.set_cons_zero, List.set_cons_succ] at hF
  subst hF
  refine ⟨⟨does_want rfl (by rfl) (fun w' O K hK => ?_), does_want rfl (by rfl) (fun w' O K hK => ?_), trivial⟩, fun w' O => ?_⟩
  · exact wp_row_h O 0 rfl rfl Tryz.underlying27 rfl (sH _) (hK _ O)
  ·
   go_simp
   exact hK _ O
  refine wpAny_want (i := 2) (by kernel_rfl) rfl (by rfl) (fun K hK => ?_)
  refine wp_put_h O 3 (M.mat 3 (nx)) rfl rfl rfl (sH _) (M.mat_len2 _ _ _) (M.mat_one _ _) fun w9 O9 => hK _ _ ?_
  clear O
  have O := O9
  clear O9
  clear hK K
  try simp only [Act.put, List.setIfInBounds_toArray, List.set_cons_zero, List.set_cons_succ]
  refine wpAny_done (by kernel_rfl) ?_ _
  go_wp2_with fail
  exact bodyPost_ret (v := .tuple #[.slice none 0 0, arr 3 nx]) (res_t2 rfl O.1 3 rfl rfl Tryz.underlying27 rfl (sH _) rfl) rfl ⟨none, 0, by rw [HB.out]; rfl, by rw [HB.out]; exact Lies.nil, O.below⟩
 ·
  rw [hq] at CQ
  obtain ⟨hrl, hrl2, hrl3⟩ := RC.right_iff.1 hq
  replace PL := PL hq
  replace FN := Lib.hid (FN hq)
  clear BAD hs hq
  have Cr0 : Hid ((M.mat 4 r)[0]? = some (.int .i64 (r 0))) := cell_is rfl (by decide)
  have Cr1 : Hid ((M.mat 4 r)[1]? = some (.int .i64 (r 1))) := cell_is rfl (by decide)
  have Cr2 : Hid ((M.mat 4 r)[2]? = some (.int .i64 (r 2))) := cell_is rfl (by decide)
  have Cr3 : Hid ((M.mat 4 r)[3]? = some (.int .i64 (r 3))) := cell_is rfl (by decide)
  obtain ⟨r0, e0⟩ : ∃ z, r 0 = z := ⟨_, rfl⟩
  obtain ⟨r1, e1⟩ : ∃ z, r 1 = z := ⟨_, rfl⟩
  obtain ⟨r2, e2⟩ : ∃ z, r 2 = z := ⟨_, rfl⟩
  obtain ⟨r3, e3⟩ : ∃ z, r 3 = z := ⟨_, rfl⟩
  rw [e0] at Cr0 FS hrl hrl2
  rw [e1] at Cr1 FS hrl hrl3
  rw [e2] at Cr2 hrl hrl2
  rw [e3] at Cr3 hrl hrl3
  simp only [e0, e1, e2, e3] at PL
  simp only [e1, e3] at FC
  simp only [e1, e2] at FE
  clear e0 e1 e2 e3
  have HL := Lib.hid (And.intro hrl (And.intro hrl2 hrl3))
  replace PL := Lib.hid PL
  replace FS := Lib.hid FS
  replace FR := Lib.hid FR
  replace FC := Lib.hid FC
  replace FE := Lib.hid FE
  clear hrl hrl2 hrl3
  go_enter Tryz.func7, Tryz.ntmps7
  go_wp2_with (first | ((with_reducible refine at_box 6 ?_); refine wpList_box_h O (M.mat 7 (a)) rfl ?_; clear O; intro g6 w1 O) | ((with_reducible refine at_box 7 ?_); refine wpList_box_h O (M.mat 7 (b)) rfl ?_; clear O; intro g7 w2 O) | ((with_reducible refine at_box 10 ?_); refine wpList_box_h O (M.mat 3 (d)) rfl ?_; clear O; intro g10 w3 O) | ((with_reducible refine at_box 11 ?_); refine wpList_box_h O (M.mat 4 (r)) rfl ?_; clear O; intro g11 w4 O) | ((with_reducible refine at_alloc 13 ?_); refine wpList_alloc_h O (M.mat 3 M.zero) zeroH ?_; clear O; intro g13 w5 O) | ((with_reducible first | refine at_load 29 ?_ | refine at_load 37 ?_); refine wpList_rowg_h rfl O 4 rfl rfl Tryz.underlying25 rfl (sW _) ?_) | ((with_reducible first | refine at_load 30 ?_ | refine at_load 38 ?_); refine wpList_rowg_h rfl O 3 rfl rfl Tryz.underlying25 rfl (sW _) ?_) | ((with_reducible refine at_load 32 ?_); refine wpList_rowg_h rfl O 2 rfl rfl Tryz.underlying27 rfl (sH _) ?_) | (go_at_call 10; refine (CR _).mono ?_; rintro e w6 ⟨rfl, hb⟩; replace O := O.call hb; clear hb) | (go_at_call 21; refine (CC _).mono ?_; rintro e w7 ⟨rfl, hb⟩; replace O := O.call hb; clear hb) | ((with_reducible refine at_alloc 14 ?_); refine wpList_alloc_h O (M.mat 2 M.zero) zeroP ?_; clear O; intro g14 w8 O) | ((with_reducible refine at_alloc 15 ?_); refine wpList_alloc_h O (M.mat 2 M.zero) zeroP ?_; clear O; intro g15 w9 O) | ((with_reducible refine at_store 14 ?_); refine wpList_put_h O 1 (M.mat 2 (ca)) rfl rfl rfl (sP _) (M.mat_len2 _ _ _) (M.mat_one _ _) ?_; clear O; intro w10 O) | ((with_reducible refine at_store 15 ?_); refine wpList_put_h O 0 (M.mat 2 (cb)) rfl rfl rfl (sP _) (M.mat_len2 _ _ _) (M.mat_one _ _) ?_; clear O; intro w11 O) | ((with_reducible refine at_load 43 ?_); refine wpList_rowg_h rfl O 4 rfl rfl Tryz.underlying27 rfl (sH _) ?_) | ((with_reducible refine at_alloc 16 ?_); refine wpList_alloc_h O (M.mat 3 M.zero) zeroH ?_; clear O; intro g16 w12 O) | ((with_reducible refine at_store 16 ?_); refine wpList_put_h O 0 (M.mat 3 (d)) rfl rfl rfl (sH _) (M.mat_len2 _ _ _) (M.mat_one _ _) ?_; clear O; intro w13 O))
  have OO := O
  clear O
  have O := OO
  clear OO
  refine region_T (fun w2 => Held w w2 [(g16, 27, M.mat 3 d), (g15, 44, M.mat 2 cb), (g14, 44, M.mat 2 ca), (g13, 27, M.mat 3 M.zero), (g11, 29, M.mat 4 r), (g10, 27, M.mat 3 d), (g7, 25, M.mat 7 b), (g6, 25, M.mat 7 a)] nilRow []) [0, 1, 2, 3, 4] 12 [some 45, some 46, some 47, some 48, some 49] [arr 3 d, arr 2 ca, arr 2 cb, .int .i64 cn, arr 3 nx] 1 (by kernel_rfl) (by rfl) (by kernel_rfl) (by rfl) (by rfl) (O.drew) (fun F hF => ?_)
  simp only [fillD, Act.put, List.setIfInBounds_toArray, List.set_cons_zero, List.set_cons_succ] at hF
  subst hF
  refine ⟨⟨does_want rfl (by rfl) (fun w' O K hK => ?_), does_want rfl (by rfl) (fun w' O K hK => ?_), does_want rfl (by rfl) (fun w' O K hK => ?_), does_want rfl (by rfl) (fun w' O K hK => ?_), does_want rfl (by rfl) (fun w' O K hK => ?_), trivial⟩, fun w' O => ?_⟩
  · exact wp_row_h O 5 rfl rfl Tryz.underlying27 rfl (sH _) (hK _ O)
  · exact wp_row_h O 2 rfl rfl Tryz.underlying44 rfl (sP _) (hK _ O)
  · exact wp_row_h O 1 rfl rfl Tryz.underlying44 rfl (sP _) (hK _ O)
  ·
   go_simp
   go_at_call 23
   refine (CN _).mono ?_
   rintro e w2 ⟨rfl, hb⟩
   exact hK _ (O.call hb)
  ·
   go_simp
   go_at_call 22
   refine (CX _).mono ?_
   rintro e w2 ⟨rfl, hb⟩
   exact hK _ (O.call hb)
  refine wpAny_want (i := 5) (by kernel_rfl) rfl (by rfl) (fun K hK => ?_)
  refine wp_put_h O 0 (M.mat 3 (nx)) rfl rfl rfl (sH _) (M.mat_len2 _ _ _) (M.mat_one _ _) fun w9 O9 => hK _ _ ?_
  clear O
  have O := O9
  clear O9
  clear hK K
  try simp only [Act.put, List.setIfInBounds_toArray, List.set_cons_zero, List.set_cons_succ]
  refine wpAny_done (by kernel_rfl) ?_ _
  go_wp2_with (first | ((with_reducible refine at_load 50 ?_); refine wpList_rowg_h rfl O 4 rfl rfl Tryz.underlying29 rfl (sR _) ?_) | (go_at_call 11; refine (CQ _).mono ?_; rintro e w14 ⟨rfl, hb⟩; replace O := O.call hb; clear hb) | ((with_reducible refine at_load 55 ?_); refine wpList_cell_h (v := .int .i64 (r0)) rfl O 4 rfl Cr0.out rfl agg3 rfl ?_))
  have OO : Held w w14 [(g16, 27, M.mat 3 nx), (g15, 44, M.mat 2 cb), (g14, 44, M.mat 2 ca), (g13, 27, M.mat 3 M.zero), (g11, 29, M.mat 4 r), (g10, 27, M.mat 3 d), (g7, 25, M.mat 7 b), (g6, 25, M.mat 7 a)] (kR none 0 []) [] := O.fresh 70 10
  clear O
  have O := OO
  clear OO CR CC CX CN CQ Cr0
  go_loopw [17, 18] (fun u t_ wr => ∃ (x : Int) (L : List (Nat → Int)) (A : Option Addr) (c : Nat), r0 ≤ x ∧ x ≤ r2 ∧ u = .slice A L.length c ∧ t_ = .int .i64 x ∧ FD x r1 0 L ∧ Held w wr [(g16, 27, M.mat 3 nx), (g15, 44, M.mat 2 cb), (g14, 44, M.mat 2 ca), (g13, 27, M.mat 3 M.zero), (g11, 29, M.mat 4 r), (g10, 27, M.mat 3 d), (g7, 25, M.mat 7 b), (g6, 25, M.mat 7 a)] (kR A c L) []) (fun _ t_ _ => (r2 - intOf t_).toNat)
  case atStart => exact ⟨r0, [], none, 0, Int.le_refl _, by have := HL.out.2.1; omega, rfl, rfl, FS.out, O⟩
  case round =>
   clear O
   obtain ⟨x, L0, A0, c0, x0, x1, rfl, rfl, hF0, O⟩ := hrel
   have HF0 := Lib.hid hF0
   clear hF0
   by_cases hlx : x < r2
   ·
    go_wp2_with (first | ((with_reducible refine at_load 58 ?_); refine wpList_cell_h (v := .int .i64 (r2)) rfl O 4 rfl Cr2.out rfl agg3 rfl ?_) | ((with_reducible refine at_load 63 ?_); refine wpList_cell_h (v := .int .i64 (r1)) rfl O 4 rfl Cr1.out rfl agg3 rfl ?_))
    go_loopw [17, 19] (fun u t_ wr => ∃ (y : Int) (L : List (Nat → Int)) (A : Option Addr) (c : Nat), r1 ≤ y ∧ y ≤ r3 ∧ u = .slice A L.length c ∧ t_ = .int .i64 y ∧ FD x y 0 L ∧ Held w wr [(g16, 27, M.mat 3 nx), (g15, 44, M.mat 2 cb), (g14, 44, M.mat 2 ca), (g13, 27, M.mat 3 M.zero), (g11, 29, M.mat 4 r), (g10, 27, M.mat 3 d), (g7, 25, M.mat 7 b), (g6, 25, M.mat 7 a)] (kR A c L) []) (fun _ t_ _ => (r3 - intOf t_).toNat)
    case atStart => exact ⟨r1, L0, A0, c0, Int.le_refl _, by have := HL.out.2.2; omega, rfl, rfl, HF0.out, O⟩
    case round =>
     clear O HF0
     obtain ⟨y, L1, A1, c1, y0, y1, rfl, rfl, hF1, O⟩ := hrel
     have HF1 := Lib.hid hF1
     clear hF1
     by_cases hly : y < r3
     ·
      have b1 := HL.out
      have Wy : wrap64 (y + 1) = y + 1 := IntWalk.wrap64_in _ (by omega)
      clear b1
      go_wp2_with ((with_reducible refine at_load 66 ?_); refine wpList_cell_h (v := .int .i64 (r3)) rfl O 4 rfl Cr3.out rfl agg3 rfl ?_)
      go_loopw [17, 20] (fun u t_ wr => ∃ (m : Nat) (L : List (Nat → Int)) (A : Option Addr) (c : Nat), m ≤ n ∧ u = .slice A L.length c ∧ t_ = .int .i64 (m : Int) ∧ FD x y (m : Int) L ∧ Held w wr [(g16, 27, M.mat 3 nx), (g15, 44, M.mat 2 cb), (g14, 44, M.mat 2 ca), (g13, 27, M.mat 3 M.zero), (g11, 29, M.mat 4 r), (g10, 27, M.mat 3 d), (g7, 25, M.mat 7 b), (g6, 25, M.mat 7 a)] (kR A c L) []) (fun _ t_ _ => n - (intOf t_).toNat)
      case atStart => exact ⟨0, L1, A1, c1, Nat.zero_le _, rfl, rfl, HF1.out, O⟩
      case round =>
       clear O HF1
       obtain ⟨m, L, A, c, hm, rfl, rfl, hF, O⟩ := hrel
       have hlen : L.length ≤ 100000 := Nat.le_trans (FN.out x y m L hF) (by decide)
       have HF := Lib.hid hF
       clear hF
       have q0 : (0 : Int) ≤ m := by omega
       by_cases hlm : m < n
       ·
        have q1 : (m : Int) < n := by omega
        have b1 := HL.out
        have b2 := HN.out.2
        have Wm : wrap64 ((m : Int) + 1) = (m : Int) + 1 := IntWalk.wrap64_in _ (by omega)
        have WX := sub_wrap (x := x) (m := m) ⟨Int.le_trans b1.1.1.1 x0, Int.le_trans x1 b1.1.2.2.1.2⟩ (Nat.le_trans (Nat.le_of_lt hlm) b2)
        have WY := sub_wrap (x := y) (m := m) ⟨Int.le_trans b1.1.2.1.1 y0, Int.le_trans y1 b1.1.2.2.2.2⟩ (Nat.le_trans (Nat.le_of_lt hlm) b2)
        clear b1 b2
        obtain ⟨z, lt, I, J, N, Z, q, hI, hlt, CN, CL, CA, FK, FI⟩ := PL.out x y m hlm ⟨x0, hlx⟩ ⟨y0, hly⟩
        replace FK := fun h => FK h L HF.out
        replace FI := fun h1 h2 => FI h1 h2 L HF.out
        have HLE := Lib.hid hlen
        clear hlen
        cases t
        ·
         simp only [Bool.not_false] at CW
         obtain ⟨hI1, hI2⟩ := hI.1 rfl
         simp only [hI1, hI2] at CN CA
         clear hI hI1 hI2 WX
         cases z
         ·
          have HK := Lib.hid (FK (fun h => (by cases h.1)))
          clear CL CA FK FI hlt
          go_wp2_with (first | ((with_reducible first | refine at_load 79 ?_ | refine at_load 88 ?_); refine wpList_rowg_h rfl O 2 rfl rfl Tryz.underlying44 rfl (sP _) ?_) | ((with_reducible first | refine at_load 80 ?_ | refine at_load 89 ?_); refine wpList_rowg_h rfl O 1 rfl rfl Tryz.underlying44 rfl (sP _) ?_) | (go_at_call 24; refine (CW _).mono ?_; rintro e v1 ⟨rfl, hb⟩; replace O := O.call hb; clear hb) | (go_at_call 25; refine (CN _).mono ?_; rintro e v2 ⟨rfl, hb⟩; replace O := O.call hb; clear hb))
          go_roundw
          case rel => exact ⟨m + 1, L, A, c, by omega, rfl, by go_num, HK.out, O⟩
          case measure => exact meas_lt Wm hlm
         ·
          replace CL := CL rfl
          replace CA := CA rfl
          have hl : HM.litF d N = lt := hlt.symm
          rw [hl] at CL
          clear hl hlt
          cases lt
          ·
           have HK := Lib.hid (FK (fun h => (by cases h.2)))
           clear CA FK FI
           go_wp2_with (first | ((with_reducible first | refine at_load 79 ?_ | refine at_load 88 ?_); refine wpList_rowg_h rfl O 2 rfl rfl Tryz.underlying44 rfl (sP _) ?_) | ((with_reducible first | refine at_load 80 ?_ | refine at_load 89 ?_); refine wpList_rowg_h rfl O 1 rfl rfl Tryz.underlying44 rfl (sP _) ?_) | (go_at_call 24; refine (CW _).mono ?_; rintro e v1 ⟨rfl, hb⟩; replace O := O.call hb; clear hb) | (go_at_call 25; refine (CN _).mono ?_; rintro e v2 ⟨rfl, hb⟩; replace O := O.call hb; clear hb) | ((with_reducible refine at_load 100 ?_); refine wpList_rowg_h rfl O 5 rfl rfl Tryz.underlying27 rfl (sH _) ?_) | (go_at_call 26; refine (CL _).mono ?_; rintro e v3 ⟨rfl, hb⟩; replace O := O.call hb; clear hb))
           go_roundw
           case rel => exact ⟨m + 1, L, A, c, by omega, rfl, by go_num, HK.out, O⟩
           case measure => exact meas_lt Wm hlm
          ·
           replace FI := Lib.hid (FI rfl rfl)
           clear FK
           go_wp2_with (first | ((with_reducible first | refine at_load 79 ?_ | refine at_load 88 ?_); refine wpList_rowg_h rfl O 2 rfl rfl Tryz.underlying44 rfl (sP _) ?_) | ((with_reducible first | refine at_load 80 ?_ | refine at_load 89 ?_); refine wpList_rowg_h rfl O 1 rfl rfl Tryz.underlying44 rfl (sP _) ?_) | (go_at_call 24; refine (CW _).mono ?_; rintro e v1 ⟨rfl, hb⟩; replace O := O.call hb; clear hb) | (go_at_call 25; refine (CN _).mono ?_; rintro e v2 ⟨rfl, hb⟩; replace O := O.call hb; clear hb) | ((with_reducible refine at_load 100 ?_); refine wpList_rowg_h rfl O 5 rfl rfl Tryz.underlying27 rfl (sH _) ?_) | (go_at_call 26; refine (CL _).mono ?_; rintro e v3 ⟨rfl, hb⟩; replace O := O.call hb; clear hb) | ((with_reducible refine at_load 107 ?_); refine wpList_rowg_h rfl O 7 rfl rfl Tryz.underlying25 rfl (sW _) ?_) | ((with_reducible refine at_load 108 ?_); refine wpList_rowg_h rfl O 6 rfl rfl Tryz.underlying25 rfl (sW _) ?_) | (go_at_call 27; refine (CA _).mono ?_; rintro e v4 ⟨rfl, hb⟩; replace O := O.call hb; clear hb) | ((with_reducible refine at_alloc 26 ?_); refine wpList_alloc_h O (M.mat 4 M.zero) zeroC ?_; clear O; intro g26 v5 O) | ((with_reducible refine at_store 26 ?_); refine wpList_put_h O 0 (M.mat 4 (q)) rfl rfl rfl (sC _) (M.mat_len2 _ _ _) (M.mat_one _ _) ?_; clear O; intro v6 O) | ((with_reducible refine at_load 120 ?_); refine wpList_rowg_h rfl O 0 rfl rfl Tryz.underlying23 rfl (sC _) ?_) | ((with_reducible refine at_build 121 ?_); refine wpList_build_g rfl ([(0, .int .i64 x), (1, .int .i64 y), (2, .int .i64 Z), (3, arr 4 q), (4, .int .i64 64)]) ((M.mat 8 (WD.fr x y Z q)).toArray) ?_ (builtG _ _ _ _) ?_; (focus (simp only [List.map_toArray, List.map_cons, List.map_nil]; rfl))) | ((with_reducible refine at_build 122 ?_); refine wpList_build_g rfl ([(0, .int .i64 N), (1, .int .i64 (m : Int)), (2, arr 8 (WD.fr x y Z q))]) ((M.mat 10 (WD.mk N m (WD.fr x y Z q))).toArray) ?_ (builtK _ _ _) ?_; (focus (simp only [List.map_toArray, List.map_cons, List.map_nil]; rfl))) | (go_at_call 28; refine (into_any L (WD.mk N m (WD.fr x y Z q)) HLE.out O).mono ?_; clear O; rintro e v7 ⟨k, TA, Tc, hk, hb1, hb2, hE, O⟩; obtain ⟨L2, hL2⟩ : ∃ L2, L.take k ++ [(WD.mk N m (WD.fr x y Z q))] ++ L.drop k = L2 := ⟨_, rfl⟩; rw [hL2] at hE O; have HK := FI.out k hk hb1 hb2; rw [hL2] at HK; replace HK := Lib.hid HK; clear hL2 hk hb1 hb2; subst hE))
           go_roundw
           case rel => exact ⟨m + 1, L2, TA, Tc, by omega, rfl, by go_num, HK.out, O.tail⟩
           case measure => exact meas_lt Wm hlm
        ·
         simp only [Bool.not_true] at CW
         obtain ⟨hI1, hI2⟩ := hI.2 rfl
         simp only [hI1, hI2] at CN CA
         clear hI hI1 hI2 WY
         cases z
         ·
          have HK := Lib.hid (FK (fun h => (by cases h.1)))
          clear CL CA FK FI hlt
          go_wp2_with (first | ((with_reducible first | refine at_load 79 ?_ | refine at_load 88 ?_); refine wpList_rowg_h rfl O 2 rfl rfl Tryz.underlying44 rfl (sP _) ?_) | ((with_reducible first | refine at_load 80 ?_ | refine at_load 89 ?_); refine wpList_rowg_h rfl O 1 rfl rfl Tryz.underlying44 rfl (sP _) ?_) | (go_at_call 24; refine (CW _).mono ?_; rintro e v1 ⟨rfl, hb⟩; replace O := O.call hb; clear hb) | (go_at_call 25; refine (CN _).mono ?_; rintro e v2 ⟨rfl, hb⟩; replace O := O.call hb; clear hb))
          go_roundw
          case rel => exact ⟨m + 1, L, A, c, by omega, rfl, by go_num, HK.out, O⟩
          case measure => exact meas_lt Wm hlm
         ·
          replace CL := CL rfl
          replace CA := CA rfl
          have hl : HM.litF d N = lt := hlt.symm
          rw [hl] at CL
          clear hl hlt
          cases lt
          ·
           have HK := Lib.hid (FK (fun h => (by cases h.2)))
           clear CA FK FI
           go_wp2_with (first | ((with_reducible first | refine at_load 79 ?_ | refine at_load 88 ?_); refine wpList_rowg_h rfl O 2 rfl rfl Tryz.underlying44 rfl (sP _) ?_) | ((with_reducible first | refine at_load 80 ?_ | refine at_load 89 ?_); refine wpList_rowg_h rfl O 1 rfl rfl Tryz.underlying44 rfl (sP _) ?_) | (go_at_call 24; refine (CW _).mono ?_; rintro e v1 ⟨rfl, hb⟩; replace O := O.call hb; clear hb) | (go_at_call 25; refine (CN _).mono ?_; rintro e v2 ⟨rfl, hb⟩; replace O := O.call hb; clear hb) | ((with_reducible refine at_load 100 ?_); refine wpList_rowg_h rfl O 5 rfl rfl Tryz.underlying27 rfl (sH _) ?_) | (go_at_call 26; refine (CL _).mono ?_; rintro e v3 ⟨rfl, hb⟩; replace O := O.call hb; clear hb))
           go_roundw
           case rel => exact ⟨m + 1, L, A, c, by omega, rfl, by go_num, HK.out, O⟩
           case measure => exact meas_lt Wm hlm
          ·
           replace FI := Lib.hid (FI rfl rfl)
           clear FK
           go_wp2_with (first | ((with_reducible first | refine at_load 79 ?_ | refine at_load 88 ?_); refine wpList_rowg_h rfl O 2 rfl rfl Tryz.underlying44 rfl (sP _) ?_) | ((with_reducible first | refine at_load 80 ?_ | refine at_load 89 ?_); refine wpList_rowg_h rfl O 1 rfl rfl Tryz.underlying44 rfl (sP _) ?_) | (go_at_call 24; refine (CW _).mono ?_; rintro e v1 ⟨rfl, hb⟩; replace O := O.call hb; clear hb) | (go_at_call 25; refine (CN _).mono ?_; rintro e v2 ⟨rfl, hb⟩; replace O := O.call hb; clear hb) | ((with_reducible refine at_load 100 ?_); refine wpList_rowg_h rfl O 5 rfl rfl Tryz.underlying27 rfl (sH _) ?_) | (go_at_call 26; refine (CL _).mono ?_; rintro e v3 ⟨rfl, hb⟩; replace O := O.call hb; clear hb) | ((with_reducible refine at_load 107 ?_); refine wpList_rowg_h rfl O 7 rfl rfl Tryz.underlying25 rfl (sW _) ?_) | ((with_reducible refine at_load 108 ?_); refine wpList_rowg_h rfl O 6 rfl rfl Tryz.underlying25 rfl (sW _) ?_) | (go_at_call 27; refine (CA _).mono ?_; rintro e v4 ⟨rfl, hb⟩; replace O := O.call hb; clear hb) | ((with_reducible refine at_alloc 26 ?_); refine wpList_alloc_h O (M.mat 4 M.zero) zeroC ?_; clear O; intro g26 v5 O) | ((with_reducible refine at_store 26 ?_); refine wpList_put_h O 0 (M.mat 4 (q)) rfl rfl rfl (sC _) (M.mat_len2 _ _ _) (M.mat_one _ _) ?_; clear O; intro v6 O) | ((with_reducible refine at_load 120 ?_); refine wpList_rowg_h rfl O 0 rfl rfl Tryz.underlying23 rfl (sC _) ?_) | ((with_reducible refine at_build 121 ?_); refine wpList_build_g rfl ([(0, .int .i64 x), (1, .int .i64 y), (2, .int .i64 Z), (3, arr 4 q), (4, .int .i64 64)]) ((M.mat 8 (WD.fr x y Z q)).toArray) ?_ (builtG _ _ _ _) ?_; (focus (simp only [List.map_toArray, List.map_cons, List.map_nil]; rfl))) | ((with_reducible refine at_build 122 ?_); refine wpList_build_g rfl ([(0, .int .i64 N), (1, .int .i64 (m : Int)), (2, arr 8 (WD.fr x y Z q))]) ((M.mat 10 (WD.mk N m (WD.fr x y Z q))).toArray) ?_ (builtK _ _ _) ?_; (focus (simp only [List.map_toArray, List.map_cons, List.map_nil]; rfl))) | (go_at_call 28; refine (into_any L (WD.mk N m (WD.fr x y Z q)) HLE.out O).mono ?_; clear O; rintro e v7 ⟨k, TA, Tc, hk, hb1, hb2, hE, O⟩; obtain ⟨L2, hL2⟩ : ∃ L2, L.take k ++ [(WD.mk N m (WD.fr x y Z q))] ++ L.drop k = L2 := ⟨_, rfl⟩; rw [hL2] at hE O; have HK := FI.out k hk hb1 hb2; rw [hL2] at HK; replace HK := Lib.hid HK; clear hL2 hk hb1 hb2; subst hE))
           go_roundw
           case rel => exact ⟨m + 1, L2, TA, Tc, by omega, rfl, by go_num, HK.out, O.tail⟩
           case measure => exact meas_lt Wm hlm
       ·
        have q1 : ¬ (m : Int) < n := by omega
        have hmn : (m : Int) = n := by omega
        have HR := Lib.hid (FR.out x y L (by rw [← hmn]; exact HF.out))
        clear HF hmn
        go_wp2_with fail
        go_roundw
        case rel => exact ⟨y + 1, L, A, c, by omega, by omega, rfl, (by first | rfl | exact congrArg (Value.int IntKind.i64) Wy), HR.out, O⟩
        case measure => simp [intOf]; omega
     ·
      have hye : y = r3 := by omega
      have HR := Lib.hid (FC.out x L1 (by rw [← hye]; exact HF1.out))
      have b1 := HL.out
      have Wx : wrap64 (x + 1) = x + 1 := IntWalk.wrap64_in _ (by omega)
      clear b1 HF1 hye
      go_wp2_with ((with_reducible refine at_load 66 ?_); refine wpList_cell_h (v := .int .i64 (r3)) rfl O 4 rfl Cr3.out rfl agg3 rfl ?_)
      go_roundw
      case rel => exact ⟨x + 1, L1, A1, c1, by omega, by omega, rfl, (by first | rfl | exact congrArg (Value.int IntKind.i64) Wx), HR.out, O⟩
      case measure => simp [intOf]; omega
   ·
    have hxe : x = r2 := by omega
    have HE := Lib.hid (FE.out L0 (by rw [← hxe]; exact HF0.out))
    have hlen : L0.length ≤ 19200 := FN.out x r1 0 L0 HF0.out
    clear HF0 hxe PL FS FR FC FE FN
    go_wp2_with ((with_reducible refine at_load 58 ?_); refine wpList_cell_h (v := .int .i64 (r2)) rfl O 4 rfl Cr2.out rfl agg3 rfl ?_)
    obtain ⟨A2, c2, hv, OD⟩ := O.done
    dsimp only [kR] at hv OD
    injection hv with e1 e2 e3
    subst e1 e3
    have O3 : Held w _ [(g16, 27, M.mat 3 nx), (g15, 44, M.mat 2 cb), (g14, 44, M.mat 2 ca), (g13, 27, M.mat 3 M.zero), (g11, 29, M.mat 4 r), (g10, 27, M.mat 3 d), (g7, 25, M.mat 7 b), (g6, 25, M.mat 7 a)] (gR none 0 ((L0.take 0).map WD.frag)) [kE w.heap.size A0 c0 L0] := OD.fresh 42 8
    clear O OD
    have O := O3
    clear O3
    go_loopw [27, 28] (fun t27 t28 wr => ∃ (k : Nat) (A : Option Addr) (c : Nat), k ≤ L0.length ∧ t27 = .slice A ((L0.take k).map WD.frag).length c ∧ t28 = .int .i64 (k : Int) ∧ Held w wr [(g16, 27, M.mat 3 nx), (g15, 44, M.mat 2 cb), (g14, 44, M.mat 2 ca), (g13, 27, M.mat 3 M.zero), (g11, 29, M.mat 4 r), (g10, 27, M.mat 3 d), (g7, 25, M.mat 7 b), (g6, 25, M.mat 7 a)] (gR A c ((L0.take k).map WD.frag)) [kE w.heap.size A0 c0 L0]) (fun t27 t28 _ => L0.length - (intOf t28).toNat)
    case atStart => exact ⟨0, none, 0, Nat.zero_le _, rfl, rfl, O⟩
    case round =>
     clear O
     obtain ⟨k, A, c, hk, rfl, rfl, O⟩ := hrel
     have hll : ((L0.take k).map WD.frag).length ≤ 19200 := by
      rw [List.length_map, List.length_take]
      omega
     obtain ⟨LL, hLL⟩ : ∃ LL, (L0.take k).map WD.frag = LL := ⟨_, rfl⟩
     rw [hLL] at O hll ⊢
     have HLL := Lib.hid hLL
     clear hLL
     have q0 : (0 : Int) ≤ k := by omega
     by_cases hlt : k < L0.length
     ·
      have q1 : (k : Int) < L0.length := by omega
      have W1 : wrap64 ((k : Int) + 1) = (k : Int) + 1 := IntWalk.wrap64_in _ (by omega)
      obtain ⟨u, hu⟩ : ∃ u, L0[k]? = some u := ⟨_, List.getElem?_eq_getElem hlt⟩
      have HT := frag_take hu
      rw [HLL.out] at HT
      have HU := Lib.hid (kC_frag hu)
      obtain ⟨f, hf⟩ : ∃ f, WD.frag u = f := ⟨_, rfl⟩
      rw [hf] at HT HU
      replace HT := Lib.hid HT
      have HLk : Hid (LL.length + 1 ≤ 1000000000) := Lib.hid (by omega)
      clear hu hf hll
      go_wp2_with (first | ((with_reducible refine at_index_ 133 ?_); refine wpList_at_h rfl Tryz.underlying62 sizeOfK (kE w.heap.size A0 c0 L0) (O.mem List.mem_cons_self) rfl k rfl (by first | rfl | omega) (by show k < L0.length; exact hlt) rfl ?_) | ((with_reducible refine at_load 135 ?_); refine wpList_elem_h rfl _ (O.mem List.mem_cons_self) (k * 10 + 2) (M.mat 8 f) HU.out (by rw [M.mat_len]; decide) (congrArg (fun z => Value.pointer (some z)) (add_fld _ (k * 10) 2 (by decide))) Tryz.underlying42 rfl (sG _) ?_) | ((with_reducible refine at_lit 136 ?_); refine wpList_lit_h rfl O 8 (.agg (M.mat 8 M.zero).toArray) infoG Tryz.underlying34 [(0, arr 8 f)] (gC [f]) rfl (gC_len _) (by decide) (by decide) (by kernel_rfl) ?_; clear O; intro g7 u5 O) | ((with_reducible refine at_app 137 ?_); refine wpList_app_huge rfl O (.agg (M.mat 8 M.zero).toArray) 64 infoGb rfl (Nat.succ_pos _) Tryz.underlying34 rfl (gE w.heap.size (some ⟨g7, 0, none⟩) 1 [f]) (O.mem List.mem_cons_self) rfl rfl (gC_one _) (HLk.out) (by decide) ?_; clear O; intro va u6 O; obtain ⟨TA, Tc, e1, O2⟩ := gR_of (l := LL) (m := [f]) rfl (O.pick (es' := [kE w.heap.size A0 c0 L0]) (fun y hy => List.mem_cons_of_mem _ hy)); subst e1; clear O; have O := O2; clear O2))
      go_roundw
      case rel => exact ⟨k + 1, TA, Tc, by omega, by rw [HT.out]; first | done | rfl | simp, by go_num, by rw [HT.out]; exact O⟩
      case measure => first | exact meas_lt W1 hlt | exact meas_lt2 hlt
     ·
      have q1 : ¬ (k : Int) < L0.length := by omega
      have HE2 : Hid (res = LL) := Lib.hid (by rw [← HE.out, ← HLL.out, List.take_of_length_le (by omega)])
      clear HE HLL
      go_wp2_with fail
      have OO := O
      clear O
      have O := OO
      clear OO
      refine region_T (fun w2 => Held w w2 [(g16, 27, M.mat 3 nx), (g15, 44, M.mat 2 cb), (g14, 44, M.mat 2 ca), (g13, 27, M.mat 3 M.zero), (g11, 29, M.mat 4 r), (g10, 27, M.mat 3 d), (g7, 25, M.mat 7 b), (g6, 25, M.mat 7 a)] (gR A c LL) [kE w.heap.size A0 c0 L0]) [0, 1, 2] 12 [some 138, some 139, some 12] [.slice A LL.length c, arr 3 nx, .slice A LL.length c] 1 (by kernel_rfl) (by rfl) (by kernel_rfl) (by rfl) (by rfl) (O.drew) (fun F hF => ?_)
      simp only [fillD, Act.put, List.setIfInBounds_toArray, List.set_cons_zero, List.set_cons_succ] at hF
      subst hF
      refine ⟨⟨does_want rfl (by rfl) (fun w' O K hK => ?_), does_want rfl (by rfl) (fun w' O K hK => ?_), does_want rfl (by rfl) (fun w' O K hK => ?_), trivial⟩, fun w' O => ?_⟩
      ·
       go_simp
       exact hK _ O
      · exact wp_row_h O 0 rfl rfl Tryz.underlying27 rfl (sH _) (hK _ O)
      ·
       go_simp
       exact hK _ O
      refine wpAny_want (i := 3) (by kernel_rfl) rfl (by rfl) (fun K hK => ?_)
      refine wp_put_h O 3 (M.mat 3 (nx)) rfl rfl rfl (sH _) (M.mat_len2 _ _ _) (M.mat_one _ _) fun w9 O9 => hK _ _ ?_
      clear O
      have O := O9
      clear O9
      clear hK K
      try simp only [Act.put, List.setIfInBounds_toArray, List.set_cons_zero, List.set_cons_succ]
      refine wpAny_done (by kernel_rfl) ?_ _
      go_wp2_with fail
      obtain ⟨A2, c2, hv, OD⟩ := O.done
      dsimp only [gR] at hv OD
      injection hv with e1 e2 e3
      subst e1 e3
      exact bodyPost_ret (v := .tuple #[.slice A LL.length c, arr 3 nx]) (res_t2 rfl O.1 3 rfl rfl Tryz.underlying27 rfl (sH _) rfl) rfl ⟨A, c, by first | (rw [HE2.out]; done) | (rw [HE2.out]; rfl), by rw [HE2.out]; exact OD.arg List.mem_cons_self, O.below⟩
end Go.Proofs.YtpfhaocmcfnhnaaGreat
