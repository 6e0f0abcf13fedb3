/-
  DotCounts: a square point, and a sprite, has just as many fragments as its size says, twice; those of a round one are all within two pixels of these.
-/
import Derived.Test.YtlmgilcigbnbaaaDu
import Derived.Deep.DeepCutAuto
namespace Go.Proofs.Ytlmgilcigbnbaaa.dotCounts
open Go.ChangeShapes Go.WideShapes Go.ChangeAt Go.RowKit
set_option linter.unusedVariables false
set_option linter.unusedSimpArgs false

theorem own : ownKnob Try.prog.godebug = none := by kernel_rfl
theorem builtR9 : Try.prog.built 27 [(2, .int .i64 9), (3, .int .i64 9)] = some (M.mat 4 (RC.mk 0 0 9 9)).toArray := by kernel_rfl

set_option maxRecDepth 100000 in
set_option maxHeartbeats 16000000 in
theorem walk (w : World) (v : Nat → Int) (s : Int) :
    Calls Try.prog 4 #[arr 7 v, .int .i64 s] w fun e w' => e = .returned (.bool true) ∧ Below w.heap.size w w' := by
  have O := Held.start w [] (by simp)
  have CR := fun w => rright19_any v s 0 w
  cases hr : DT.right v s 0
  · rw [hr] at CR
    have CP := fun w => ppoint19_any v s 0 (RC.mk 0 0 9 9) (by decide +kernel) w
    rw [DT.pt_bad (by rw [hr]; rfl)] at CP
    have BR := builtR9
    clear hr
    go_enter Try.func4, Try.ntmps4
    go_wp2_with (first | ((with_reducible refine at_box 2 ?_); refine wpList_box_h O (M.mat 7 (v)) rfl ?_; clear O; intro g2 w1 O) | ((with_reducible refine at_load 12 ?_); refine wpList_rowg_h rfl O 0 rfl rfl Try.underlying25 rfl (sW _) ?_) | (go_at_call 10; refine (CR _).mono ?_; rintro e w2 ⟨rfl, hb⟩; replace O := O.call hb; clear hb) | (go_at_call 8; refine (awake_any _).mono ?_; rintro e w3 ⟨rfl, hb⟩; replace O := O.call hb; clear hb) | ((with_reducible refine at_load 18 ?_); refine wpList_rowg_h rfl O 0 rfl rfl Try.underlying25 rfl (sW _) ?_) | ((with_reducible refine at_build 20 ?_); refine wpList_build_g rfl ([(2, .int .i64 9), (3, .int .i64 9)]) ((M.mat 4 (RC.mk 0 0 9 9)).toArray) ?_ (BR) ?_; (focus (simp only [List.map_toArray, List.map_cons, List.map_nil]; rfl))) | (go_at_call 14; refine (CP _).mono ?_; rintro e w4 ⟨XA, xc, rfl, hV, hb⟩; have O2 := O.gain hb hV; clear O hb hV; have O := O2; clear O2))
    go_ret
    exact ⟨rfl, O.below⟩
  · rw [hr] at CR
    obtain ⟨hf, hsz, _⟩ := DT.right_iff.1 hr
    have hr1 : DT.right v s 1 = true := DT.right_iff.2 ⟨hf, hsz, by decide, by decide⟩
    have hr2 : DT.right v s 2 = true := DT.right_iff.2 ⟨hf, hsz, by decide, by decide⟩
    have hwo := DT.whole_ok hr
    have CW := fun w => whole_any v s hf (by omega) w
    have C0 := fun w => ppoint19_any v s 0 (DT.whole v s) (by omega) w
    have C1 := fun w => ppoint19_any v s 1 (DT.whole v s) (by omega) w
    have C2 := fun w => ppoint19_any v s 2 (DT.whole v s) (by omega) w
    have CB := fun w => pbox19_any v s w
    have CH := Lib.hid (fun x y w => rhas_any (DT.box v s) x y w)
    have CG := Lib.hid (fun x y w => rhas_any (DT.grown (DT.box v s)) x y w)
    have hl0 := DT.pt_sq_len (k := 0) hr (by decide)
    have hl2 := DT.pt_sq_len (k := 2) hr2 (by decide)
    obtain ⟨hl1, hl1b⟩ := DT.pt_round hr1
    have HSQ := Lib.hid (fun i hi => @DT.square_at v s hr i hi)
    have HRD := Lib.hid (fun z hz => And.intro (@DT.pt_round_mem v s hr1 z (DT.whole v s) hz) (DT.grown_has hr hz))
    have hlenB : (DT.pt v s 1 (DT.whole v s)).length ≤ 1000000 := Nat.le_trans (DT.pt_len (n := 17689) hwo.2) (by decide)
    have hbl := DT.box_lim hr
    have hgr : DT.grown (DT.box v s) = RC.mk (DT.box v s 0 - 2) (DT.box v s 1 - 2) (DT.box v s 2 + 2) (DT.box v s 3 + 2) := rfl
    generalize DT.pt v s 0 (DT.whole v s) = LA at *
    generalize DT.pt v s 1 (DT.whole v s) = LB at *
    generalize DT.pt v s 2 (DT.whole v s) = LC at *
    generalize DT.whole v s = wh at *
    generalize DT.box v s = bx at *
    generalize DT.first (v 0) s = fx0 at *
    generalize DT.first (v 1) s = fx1 at *
    obtain ⟨S, hS⟩ : ∃ S, s.toNat = S := ⟨_, rfl⟩
    rw [hS] at hl0 hl2
    simp only [hS] at HSQ
    have hsS : (S : Int) = s := by omega
    have hSb : 1 ≤ S ∧ S ≤ 64 := by omega
    have hmul : S * S ≤ 4096 := by
      have := Nat.mul_le_mul hSb.2 hSb.2
      omega
    obtain ⟨S2, hS2⟩ : ∃ z, s * s = z := ⟨_, rfl⟩
    have hS2' : S2 = ((S * S : Nat) : Int) := by rw [← hS2, ← hsS, Int.natCast_mul]
    have WS : wrap64 (s * s) = S2 := (IntWalk.wrap64_in _ (by rw [hS2]; omega)).trans hS2
    have K1 : ((LA.length : Int) != S2) = false := by rw [hl0, hS2']; simp
    have K2 : ((LC.length : Int) != S2) = false := by rw [hl2, hS2']; simp
    have K1b : (S2 != S2) = false := by simp
    have K3 : ((LB.length : Int) == 0) = false := beq_eq_false_iff_ne.2 (by omega)
    obtain ⟨t2, ht2⟩ : ∃ z, s + 2 = z := ⟨_, rfl⟩
    have WT : wrap64 (s + 2) = t2 := (IntWalk.wrap64_in _ (by omega)).trans ht2
    rw [ht2] at hl1b
    have btt := SP.mul_lim (x := t2) (y := t2) (A := 66) (B := 66) (by omega) (by omega)
    obtain ⟨T2, hT2⟩ : ∃ z, t2 * t2 = z := ⟨_, rfl⟩
    rw [hT2] at hl1b btt
    have WTT : wrap64 (t2 * t2) = T2 := (IntWalk.wrap64_in _ (by rw [hT2]; omega)).trans hT2
    have K4 : decide ((LB.length : Int) > T2) = false := decide_eq_false (by omega)
    have K4b : decide (T2 < (LB.length : Int)) = false := decide_eq_false (by omega)
    have HLL := Lib.hid (And.intro hl0 (And.intro hl2 (And.intro hmul hlenB)))
    obtain ⟨b0, eb0⟩ : ∃ z, bx 0 = z := ⟨_, rfl⟩
    have Cb0 := cell_is (n := 4) eb0 (by decide)
    obtain ⟨b1, eb1⟩ : ∃ z, bx 1 = z := ⟨_, rfl⟩
    have Cb1 := cell_is (n := 4) eb1 (by decide)
    obtain ⟨b2, eb2⟩ : ∃ z, bx 2 = z := ⟨_, rfl⟩
    have Cb2 := cell_is (n := 4) eb2 (by decide)
    obtain ⟨b3, eb3⟩ : ∃ z, bx 3 = z := ⟨_, rfl⟩
    have Cb3 := cell_is (n := 4) eb3 (by decide)
    rw [eb0, eb1, eb2, eb3] at hbl hgr
    obtain ⟨y0, hy0⟩ : ∃ z, b0 - 2 = z := ⟨_, rfl⟩
    have Y0 : wrap64 (b0 - 2) = y0 := (IntWalk.wrap64_in _ (by omega)).trans hy0
    obtain ⟨y1, hy1⟩ : ∃ z, b1 - 2 = z := ⟨_, rfl⟩
    have Y1 : wrap64 (b1 - 2) = y1 := (IntWalk.wrap64_in _ (by omega)).trans hy1
    obtain ⟨y2, hy2⟩ : ∃ z, b2 + 2 = z := ⟨_, rfl⟩
    have Y2 : wrap64 (b2 + 2) = y2 := (IntWalk.wrap64_in _ (by omega)).trans hy2
    obtain ⟨y3, hy3⟩ : ∃ z, b3 + 2 = z := ⟨_, rfl⟩
    have Y3 : wrap64 (b3 + 2) = y3 := (IntWalk.wrap64_in _ (by omega)).trans hy3
    rw [hy0, hy1, hy2, hy3] at hgr
    have HGR := Lib.hid (show ((((M.mat 4 bx).set 0 (.int .i64 y0)).set 1 (.int .i64 y1)).set 2 (.int .i64 y2)).set 3 (.int .i64 y3) = M.mat 4 (RC.mk y0 y1 y2 y3) from rfl)
    rw [hgr] at CG HRD
    generalize RC.mk y0 y1 y2 y3 = gb at *
    obtain ⟨v2, ev2⟩ : ∃ z, v 2 = z := ⟨_, rfl⟩
    have Cv2 := cell_is (n := 7) ev2 (by decide)
    simp only [ev2] at HRD
    clear hr hr1 hr2 hf hsz hwo hl0 hl2 hl1 hl1b hlenB hbl hgr hsS hSb hmul hS2 hS2' ht2 hT2 btt hy0 hy1 hy2 hy3 eb0 eb1 eb2 eb3 ev2 hS
    go_enter Try.func4, Try.ntmps4
    go_wp2_with (first | ((with_reducible refine at_box 2 ?_); refine wpList_box_h O (M.mat 7 (v)) rfl ?_; clear O; intro g2 w1 O) | ((with_reducible refine at_load 12 ?_); refine wpList_rowg_h rfl O 0 rfl rfl Try.underlying25 rfl (sW _) ?_) | (go_at_call 10; refine (CR _).mono ?_; rintro e w2 ⟨rfl, hb⟩; replace O := O.call hb; clear hb) | ((with_reducible refine at_load 25 ?_); refine wpList_rowg_h rfl O 0 rfl rfl Try.underlying25 rfl (sW _) ?_) | (go_at_call 16; refine (CW _).mono ?_; rintro e w3 ⟨rfl, hb⟩; replace O := O.call hb; clear hb) | ((with_reducible refine at_alloc 5 ?_); refine wpList_alloc_h O (M.mat 4 M.zero) zeroR ?_; clear O; intro g5 w4 O) | ((with_reducible refine at_store 5 ?_); refine wpList_put_h O 0 (M.mat 4 (wh)) rfl rfl rfl (sR _) (M.mat_len2 _ _ _) (M.mat_one _ _) ?_; clear O; intro w5 O))
    have OX := O.1
    clear O CR CW
    have O : Own w w5 [(g5, 27, M.mat 4 wh), (g2, 25, M.mat 7 v)] := OX
    clear OX
    refine region_S (fun st w2 => HSn w [(g5, 27, M.mat 4 wh), (g2, 25, M.mat 7 v)] [(3, LA), (7, LB), (11, LC)] st w2) [3, 7, 11] 12 14 [some 28, some 29, some 30, some 31, some 32, some 33, some 34, some 35, some 36, some 37, some 38, some 39, some 6, some 7] (fun g => [arr 7 v, .int .i64 (s), arr 4 wh, g 3, arr 7 v, .int .i64 (s), arr 4 wh, g 7, arr 7 v, .int .i64 (s), arr 4 wh, g 11, g 3, g 7]) 1 (by kernel_rfl) (by kernel_rfl) (by rfl) (by rfl) (fun _ => rfl) (by decide) ?_ (HSn.start O.drew) (fun F hF => ?_)
    · intro i hi
      simp only [List.mem_cons, List.not_mem_nil, or_false] at hi
      rcases hi with rfl | rfl | rfl
      · exact ⟨fun _ => rfl, [0, 1, 2, 4, 5, 6, 7, 8, 9, 10, 11, 13], by kernel_rfl, fun g v => ⟨rfl, rfl, rfl, rfl, rfl, rfl, rfl, rfl, rfl, rfl, rfl, rfl, trivial⟩⟩
      · exact ⟨fun _ => rfl, [0, 1, 2, 3, 4, 5, 6, 8, 9, 10, 11, 12], by kernel_rfl, fun g v => ⟨rfl, rfl, rfl, rfl, rfl, rfl, rfl, rfl, rfl, rfl, rfl, rfl, trivial⟩⟩
      · exact ⟨fun _ => rfl, [0, 1, 2, 3, 4, 5, 6, 7, 8, 9, 10, 12, 13], by kernel_rfl, fun g v => ⟨rfl, rfl, rfl, rfl, rfl, rfl, rfl, rfl, rfl, rfl, rfl, rfl, rfl, trivial⟩⟩
    simp only [fillD, Act.put, List.setIfInBounds_toArray, List.set_cons_zero, List.set_cons_succ] at hF
    have hF2 := funext hF
    clear hF
    subst hF2
    refine ⟨⟨doesN_want (by decide) rfl (fun g => rfl) (fun st w' hS hp K hK => ?_), doesN_want (by decide) rfl (fun g => rfl) (fun st w' hS hp K hK => ?_), doesN_want (by decide) rfl (fun g => rfl) (fun st w' hS hp K hK => ?_), doesC_want (by decide) rfl (fun g => rfl) (fun st w' hS hn hp K hK => ?_), doesN_want (by decide) rfl (fun g => rfl) (fun st w' hS hp K hK => ?_), doesN_want (by decide) rfl (fun g => rfl) (fun st w' hS hp K hK => ?_), doesN_want (by decide) rfl (fun g => rfl) (fun st w' hS hp K hK => ?_), doesC_want (by decide) rfl (fun g => rfl) (fun st w' hS hn hp K hK => ?_), doesN_want (by decide) rfl (fun g => rfl) (fun st w' hS hp K hK => ?_), doesN_want (by decide) rfl (fun g => rfl) (fun st w' hS hp K hK => ?_), doesN_want (by decide) rfl (fun g => rfl) (fun st w' hS hp K hK => ?_), doesC_want (by decide) rfl (fun g => rfl) (fun st w' hS hn hp K hK => ?_), doesN_want (by decide) rfl (fun g => rfl) (fun st w' hS hp K hK => ?_), doesN_want (by decide) rfl (fun g => rfl) (fun st w' hS hp K hK => ?_), trivial⟩, fun st w' hS hall => ?_⟩
    · try dsimp only
      exact wp_row_h hS.1.held 1 rfl rfl Try.underlying25 rfl (sW _) (hK _ hS)
    · try dsimp only
      go_simp
      exact hK _ hS
    · try dsimp only
      exact wp_row_h hS.1.held 0 rfl rfl Try.underlying27 rfl (sR _) (hK _ hS)
    · try dsimp only
      go_simp
      go_at_call 14
      refine (C0 _).mono ?_
      rintro e w2 ⟨VA, vc, rfl, hL, hb⟩
      exact hK _ _ (hS.gain (by intro l' hm; simpa using hm) hL hb)
    · try dsimp only
      exact wp_row_h hS.1.held 1 rfl rfl Try.underlying25 rfl (sW _) (hK _ hS)
    · try dsimp only
      go_simp
      exact hK _ hS
    · try dsimp only
      exact wp_row_h hS.1.held 0 rfl rfl Try.underlying27 rfl (sR _) (hK _ hS)
    · try dsimp only
      go_simp
      go_at_call 14
      refine (C1 _).mono ?_
      rintro e w2 ⟨VA, vc, rfl, hL, hb⟩
      exact hK _ _ (hS.gain (by intro l' hm; simpa using hm) hL hb)
    · try dsimp only
      exact wp_row_h hS.1.held 1 rfl rfl Try.underlying25 rfl (sW _) (hK _ hS)
    · try dsimp only
      go_simp
      exact hK _ hS
    · try dsimp only
      exact wp_row_h hS.1.held 0 rfl rfl Try.underlying27 rfl (sR _) (hK _ hS)
    · try dsimp only
      go_simp
      go_at_call 14
      refine (C2 _).mono ?_
      rintro e w2 ⟨VA, vc, rfl, hL, hb⟩
      exact hK _ _ (hS.gain (by intro l' hm; simpa using hm) hL hb)
    · try dsimp only
      go_simp
      exact hK _ hS
    · try dsimp only
      go_simp
      exact hK _ hS
    try dsimp only
    clear O
    obtain ⟨XA, xc, e1, h1⟩ := hS.get (l := LA) (by simp) (hall 3 (by decide))
    obtain ⟨YA, yc, e2, h2⟩ := hS.get (l := LB) (by simp) (hall 7 (by decide))
    obtain ⟨ZA, zc, e3, h3⟩ := hS.get (l := LC) (by simp) (hall 11 (by decide))
    have O : Held w w' [(g5, 27, M.mat 4 wh), (g2, 25, M.mat 7 v)] nilRow [gE w.heap.size XA xc LA, gE w.heap.size YA yc LB, gE w.heap.size ZA zc LC] := Held.two h1 (Held.two h2 h3)
    clear h1 h2 h3 hS
    simp only [seen, e1, e2, e3, Option.getD_some]
    clear hall e1 e2 e3
    refine wpAny_one (i := 14) (by kernel_rfl) rfl (fun K hK => ?_)
    go_simp
    refine hK _ _ ?_
    clear hK K
    try simp only [Act.put, List.setIfInBounds_toArray, List.set_cons_zero, List.set_cons_succ]
    refine wpAny_done (by kernel_rfl) ?_ _
    clear C0 C1 C2
    have OX : Held w _ [(g5, 27, M.mat 4 wh), (g2, 25, M.mat 7 v)] nilRow [gE w.heap.size XA xc LA, gE w.heap.size YA yc LB, gE w.heap.size ZA zc LC] := O
    clear O
    have O := OX
    clear OX
    go_wp2_with (first | ((with_reducible refine at_load 40 ?_); refine wpList_rowg_h rfl O 1 rfl rfl Try.underlying25 rfl (sW _) ?_) | (go_at_call 11; refine (CB _).mono ?_; rintro e w7 ⟨rfl, hb⟩; replace O := O.call hb; clear hb) | ((with_reducible refine at_alloc 9 ?_); refine wpList_alloc_h O (M.mat 4 M.zero) zeroR ?_; clear O; intro g9 w8 O) | ((with_reducible refine at_store 9 ?_); refine wpList_put_h O 0 (M.mat 4 (bx)) rfl rfl rfl (sR _) (M.mat_len2 _ _ _) (M.mat_one _ _) ?_; clear O; intro w9 O))
    have OX : Held w _ ((g9, 27, M.mat 4 bx) :: [(g5, 27, M.mat 4 wh), (g2, 25, M.mat 7 v)]) nilRow [gE w.heap.size XA xc LA, gE w.heap.size YA yc LB, gE w.heap.size ZA zc LC] := O
    have HYY := Lib.hid (And.intro Y0 (And.intro Y1 (And.intro Y2 Y3)))
    clear O K1 K2 K1b K3 K4 K4b WS WT WTT CB Y0 Y1 Y2 Y3
    have O := OX
    clear OX
    go_loopw [10] (fun t10 wr => ∃ i : Nat, i ≤ LA.length ∧ t10 = .int .i64 (i : Int) ∧ Held w wr ((g9, 27, M.mat 4 bx) :: [(g5, 27, M.mat 4 wh), (g2, 25, M.mat 7 v)]) nilRow [gE w.heap.size XA xc LA, gE w.heap.size YA yc LB, gE w.heap.size ZA zc LC]) (fun t10 _ => LA.length - (intOf t10).toNat)
    case atStart => exact ⟨0, Nat.zero_le _, rfl, O⟩
    case round =>
      clear O
      obtain ⟨i, hi, rfl, O⟩ := hrel
      have z0 : (0 : Int) ≤ i := by omega
      by_cases hlt : i < LA.length
      · have z1 : (i : Int) < LA.length := by omega
        obtain ⟨hl0, hl2, hmul, hlenB⟩ := HLL.out
        have hltC : i < LC.length := by omega
        have hi1 : -9223372036854775808 ≤ (i : Int) + 1 ∧ (i : Int) + 1 ≤ 9223372036854775807 := by omega
        obtain ⟨f, g, hf, hg, ⟨g0, g1⟩, ⟨f7, g7⟩, hh⟩ := HSQ.out i (by omega)
        have CHx := CH.out (f 0) (f 1)
        rw [hh] at CHx
        obtain ⟨X, hX⟩ : ∃ X, f 0 = X := ⟨_, rfl⟩
        obtain ⟨Y, hY⟩ : ∃ Y, f 1 = Y := ⟨_, rfl⟩
        rw [hX, hY] at CHx
        rw [hX] at g0
        rw [hY] at g1
        have FX : Hid ((gC LA)[i * 8]? = some (.int .i64 X)) := Lib.hid (by rw [← hX]; exact gC_at hf 0 _ rfl)
        have FY : Hid ((gC LA)[i * 8 + 1]? = some (.int .i64 Y)) := Lib.hid (by rw [← hY]; exact gC_at hf 1 _ rfl)
        have FC : Hid ((gC LA)[i * 8 + 7]? = some (.int .i64 64)) := Lib.hid (by rw [← f7]; exact gC_at hf 7 _ rfl)
        have GX : Hid ((gC LC)[i * 8]? = some (.int .i64 X)) := Lib.hid (by rw [← g0]; exact gC_at hg 0 _ rfl)
        have GY : Hid ((gC LC)[i * 8 + 1]? = some (.int .i64 Y)) := Lib.hid (by rw [← g1]; exact gC_at hg 1 _ rfl)
        have GC_ : Hid ((gC LC)[i * 8 + 7]? = some (.int .i64 64)) := Lib.hid (by rw [← g7]; exact gC_at hg 7 _ rfl)
        have kx : (X != X) = false := by simp
        have ky : (Y != Y) = false := by simp
        have Wi : wrap64 ((i : Int) + 1) = (i : Int) + 1 := IntWalk.wrap64_in _ hi1
        clear hl0 hl2 hmul hlenB hf hg g0 g1 f7 g7 hh hX hY hi1
        go_wp2_with fail
        have OO := O
        clear O
        have O := OO
        clear OO
        refine region_T ((fun w2 => Held w w2 ((g9, 27, M.mat 4 bx) :: [(g5, 27, M.mat 4 wh), (g2, 25, M.mat 7 v)]) nilRow [gE w.heap.size XA xc LA, gE w.heap.size YA yc LB, gE w.heap.size ZA zc LC])) [0, 1, 2, 3, 4, 5, 6, 7, 8, 9, 10, 11, 12, 13, 14, 15, 16, 17, 18, 19, 20, 21, 22, 23, 24, 25, 26, 27, 28, 29, 30, 31, 32, 33, 34, 35, 36, 37, 38, 39, 40, 41, 42, 43, 44, 45, 46, 47, 48, 49, 50, 51, 52, 53] 12 [some 78, some 79, some 80, some 81, some 82, some 83, some 84, some 85, some 86, some 87, some 88, some 89, some 90, some 91, some 92, some 93, some 94, some 95, some 96, some 97, some 98, some 99, some 100, some 101, some 102, some 103, some 104, some 105, some 106, some 107, some 108, some 109, some 110, some 111, some 112, some 113, some 114, some 115, some 116, some 117, some 118, some 119, some 120, some 121, some 122, some 123, some 124, some 125, some 126, some 127, some 128, some 129, some 130, some 131] [arr 4 bx, .slice XA LA.length xc, .int .i64 (i : Int), .pointer (some ((adr XA).add (i * 8))), .pointer (some ((adr XA).add (i * 8))), .int .i64 (X), .slice XA LA.length xc, .int .i64 (i : Int), .pointer (some ((adr XA).add (i * 8))), .pointer (some ⟨((adr XA).add (i * 8)).block, ((adr XA).add (i * 8)).off + 1, none⟩), .int .i64 (Y), .bool true, .bool false, .bool false, .slice XA LA.length xc, .int .i64 (i : Int), .pointer (some ((adr XA).add (i * 8))), .pointer (some ((adr XA).add (i * 8))), .int .i64 (X), .slice ZA LC.length zc, .int .i64 (i : Int), .pointer (some ((adr ZA).add (i * 8))), .pointer (some ((adr ZA).add (i * 8))), .int .i64 (X), .bool false, .bool false, .bool false, .slice XA LA.length xc, .int .i64 (i : Int), .pointer (some ((adr XA).add (i * 8))), .pointer (some ⟨((adr XA).add (i * 8)).block, ((adr XA).add (i * 8)).off + 1, none⟩), .int .i64 (Y), .slice ZA LC.length zc, .int .i64 (i : Int), .pointer (some ((adr ZA).add (i * 8))), .pointer (some ⟨((adr ZA).add (i * 8)).block, ((adr ZA).add (i * 8)).off + 1, none⟩), .int .i64 (Y), .bool false, .bool false, .bool false, .slice XA LA.length xc, .int .i64 (i : Int), .pointer (some ((adr XA).add (i * 8))), .pointer (some ⟨((adr XA).add (i * 8)).block, ((adr XA).add (i * 8)).off + 7, none⟩), .int .i64 (64), .bool false, .bool false, .bool false, .slice ZA LC.length zc, .int .i64 (i : Int), .pointer (some ((adr ZA).add (i * 8))), .pointer (some ⟨((adr ZA).add (i * 8)).block, ((adr ZA).add (i * 8)).off + 7, none⟩), .int .i64 (64), .bool false] 1 (by kernel_rfl) (by rfl) (by kernel_rfl) (by rfl) (by rfl) (O.drew) (fun F hF => ?_)
        simp only [fillD, Act.put, List.setIfInBounds_toArray, List.set_cons_zero, List.set_cons_succ] at hF
        subst hF
        refine ⟨⟨does_want rfl (by rfl) (fun w' O K hK => ?_), does_want rfl (by rfl) (fun w' O K hK => ?_), does_want rfl (by rfl) (fun w' O K hK => ?_), does_want rfl (by rfl) (fun w' O K hK => ?_), does_want rfl (by rfl) (fun w' O K hK => ?_), does_want rfl (by rfl) (fun w' O K hK => ?_), does_want rfl (by rfl) (fun w' O K hK => ?_), does_want rfl (by rfl) (fun w' O K hK => ?_), does_want rfl (by rfl) (fun w' O K hK => ?_), does_want rfl (by rfl) (fun w' O K hK => ?_), does_want rfl (by rfl) (fun w' O K hK => ?_), does_want rfl (by rfl) (fun w' O K hK => ?_), does_want rfl (by rfl) (fun w' O K hK => ?_), does_want rfl (by rfl) (fun w' O K hK => ?_), does_want rfl (by rfl) (fun w' O K hK => ?_), does_want rfl (by rfl) (fun w' O K hK => ?_), does_want rfl (by rfl) (fun w' O K hK => ?_), does_want rfl (by rfl) (fun w' O K hK => ?_), does_want rfl (by rfl) (fun w' O K hK => ?_), does_want rfl (by rfl) (fun w' O K hK => ?_), does_want rfl (by rfl) (fun w' O K hK => ?_), does_want rfl (by rfl) (fun w' O K hK => ?_), does_want rfl (by rfl) (fun w' O K hK => ?_), does_want rfl (by rfl) (fun w' O K hK => ?_), does_want rfl (by rfl) (fun w' O K hK => ?_), does_want rfl (by rfl) (fun w' O K hK => ?_), does_want rfl (by rfl) (fun w' O K hK => ?_), does_want rfl (by rfl) (fun w' O K hK => ?_), does_want rfl (by rfl) (fun w' O K hK => ?_), does_want rfl (by rfl) (fun w' O K hK => ?_), does_want rfl (by rfl) (fun w' O K hK => ?_), does_want rfl (by rfl) (fun w' O K hK => ?_), does_want rfl (by rfl) (fun w' O K hK => ?_), does_want rfl (by rfl) (fun w' O K hK => ?_), does_want rfl (by rfl) (fun w' O K hK => ?_), does_want rfl (by rfl) (fun w' O K hK => ?_), does_want rfl (by rfl) (fun w' O K hK => ?_), does_want rfl (by rfl) (fun w' O K hK => ?_), does_want rfl (by rfl) (fun w' O K hK => ?_), does_want rfl (by rfl) (fun w' O K hK => ?_), does_want rfl (by rfl) (fun w' O K hK => ?_), does_want rfl (by rfl) (fun w' O K hK => ?_), does_want rfl (by rfl) (fun w' O K hK => ?_), does_want rfl (by rfl) (fun w' O K hK => ?_), does_want rfl (by rfl) (fun w' O K hK => ?_), does_want rfl (by rfl) (fun w' O K hK => ?_), does_want rfl (by rfl) (fun w' O K hK => ?_), does_want rfl (by rfl) (fun w' O K hK => ?_), does_want rfl (by rfl) (fun w' O K hK => ?_), does_want rfl (by rfl) (fun w' O K hK => ?_), does_want rfl (by rfl) (fun w' O K hK => ?_), does_want rfl (by rfl) (fun w' O K hK => ?_), does_want rfl (by rfl) (fun w' O K hK => ?_), does_want rfl (by rfl) (fun w' O K hK => ?_), trivial⟩, fun w' O => ?_⟩
        · exact wp_row_h O 0 rfl rfl Try.underlying27 rfl (sR _) (hK _ O)
        · go_simp
          exact hK _ O
        · go_simp
          exact hK _ O
        · exact wp_at_h Try.underlying35 sizeOfG (gE w.heap.size XA xc LA) (O.mem List.mem_cons_self) rfl i rfl rfl (hlt) rfl (hK _ O)
        · go_simp
          exact hK _ O
        · exact wp_ecell_h (gE w.heap.size XA xc LA) (O.mem List.mem_cons_self) (i * 8) (v := .int .i64 X) FX.out rfl agg3 rfl (hK _ O)
        · go_simp
          exact hK _ O
        · go_simp
          exact hK _ O
        · exact wp_at_h Try.underlying35 sizeOfG (gE w.heap.size XA xc LA) (O.mem List.mem_cons_self) rfl i rfl rfl (hlt) rfl (hK _ O)
        · go_simp
          exact hK _ O
        · exact wp_ecell_h (gE w.heap.size XA xc LA) (O.mem List.mem_cons_self) (i * 8 + 1) (v := .int .i64 Y) FY.out (congrArg (fun z => Value.pointer (some z)) (add_fld _ (i * 8) 1 (by decide))) agg3 rfl (hK _ O)
        · go_simp
          go_at_call 17
          refine (CHx _).mono ?_
          rintro e w2 ⟨rfl, hb⟩
          exact hK _ (O.call hb)
        · go_simp
          exact hK _ O
        · go_simp
          exact hK _ O
        · go_simp
          exact hK _ O
        · go_simp
          exact hK _ O
        · exact wp_at_h Try.underlying35 sizeOfG (gE w.heap.size XA xc LA) (O.mem List.mem_cons_self) rfl i rfl rfl (hlt) rfl (hK _ O)
        · go_simp
          exact hK _ O
        · exact wp_ecell_h (gE w.heap.size XA xc LA) (O.mem List.mem_cons_self) (i * 8) (v := .int .i64 X) FX.out rfl agg3 rfl (hK _ O)
        · go_simp
          exact hK _ O
        · go_simp
          exact hK _ O
        · exact wp_at_h Try.underlying35 sizeOfG (gE w.heap.size ZA zc LC) (O.mem (List.mem_cons_of_mem _ (List.mem_cons_of_mem _ List.mem_cons_self))) rfl i rfl rfl (hltC) rfl (hK _ O)
        · go_simp
          exact hK _ O
        · exact wp_ecell_h (gE w.heap.size ZA zc LC) (O.mem (List.mem_cons_of_mem _ (List.mem_cons_of_mem _ List.mem_cons_self))) (i * 8) (v := .int .i64 X) GX.out rfl agg3 rfl (hK _ O)
        · go_simp
          first | exact hK _ O | (simp only [kx]; exact hK _ O)
        · go_simp
          exact hK _ O
        · go_simp
          exact hK _ O
        · go_simp
          exact hK _ O
        · go_simp
          exact hK _ O
        · exact wp_at_h Try.underlying35 sizeOfG (gE w.heap.size XA xc LA) (O.mem List.mem_cons_self) rfl i rfl rfl (hlt) rfl (hK _ O)
        · go_simp
          exact hK _ O
        · exact wp_ecell_h (gE w.heap.size XA xc LA) (O.mem List.mem_cons_self) (i * 8 + 1) (v := .int .i64 Y) FY.out (congrArg (fun z => Value.pointer (some z)) (add_fld _ (i * 8) 1 (by decide))) agg3 rfl (hK _ O)
        · go_simp
          exact hK _ O
        · go_simp
          exact hK _ O
        · exact wp_at_h Try.underlying35 sizeOfG (gE w.heap.size ZA zc LC) (O.mem (List.mem_cons_of_mem _ (List.mem_cons_of_mem _ List.mem_cons_self))) rfl i rfl rfl (hltC) rfl (hK _ O)
        · go_simp
          exact hK _ O
        · exact wp_ecell_h (gE w.heap.size ZA zc LC) (O.mem (List.mem_cons_of_mem _ (List.mem_cons_of_mem _ List.mem_cons_self))) (i * 8 + 1) (v := .int .i64 Y) GY.out (congrArg (fun z => Value.pointer (some z)) (add_fld _ (i * 8) 1 (by decide))) agg3 rfl (hK _ O)
        · go_simp
          first | exact hK _ O | (simp only [ky]; exact hK _ O)
        · go_simp
          exact hK _ O
        · go_simp
          exact hK _ O
        · go_simp
          exact hK _ O
        · go_simp
          exact hK _ O
        · exact wp_at_h Try.underlying35 sizeOfG (gE w.heap.size XA xc LA) (O.mem List.mem_cons_self) rfl i rfl rfl (hlt) rfl (hK _ O)
        · go_simp
          exact hK _ O
        · exact wp_ecell_h (gE w.heap.size XA xc LA) (O.mem List.mem_cons_self) (i * 8 + 7) (v := .int .i64 64) FC.out (congrArg (fun z => Value.pointer (some z)) (add_fld _ (i * 8) 7 (by decide))) agg3 rfl (hK _ O)
        · go_simp
          first | exact hK _ O | (simp only [bne_self_eq_false]; exact hK _ O)
        · go_simp
          exact hK _ O
        · go_simp
          exact hK _ O
        · go_simp
          exact hK _ O
        · go_simp
          exact hK _ O
        · exact wp_at_h Try.underlying35 sizeOfG (gE w.heap.size ZA zc LC) (O.mem (List.mem_cons_of_mem _ (List.mem_cons_of_mem _ List.mem_cons_self))) rfl i rfl rfl (hltC) rfl (hK _ O)
        · go_simp
          exact hK _ O
        · exact wp_ecell_h (gE w.heap.size ZA zc LC) (O.mem (List.mem_cons_of_mem _ (List.mem_cons_of_mem _ List.mem_cons_self))) (i * 8 + 7) (v := .int .i64 64) GC_.out (congrArg (fun z => Value.pointer (some z)) (add_fld _ (i * 8) 7 (by decide))) agg3 rfl (hK _ O)
        · go_simp
          first | exact hK _ O | (simp only [bne_self_eq_false]; exact hK _ O)
        refine wpAny_one (i := 54) (by kernel_rfl) rfl (fun K hK => ?_)
        go_simp
        refine hK _ _ ?_
        clear hK K
        try simp only [Act.put, List.setIfInBounds_toArray, List.set_cons_zero, List.set_cons_succ]
        refine wpAny_done (by kernel_rfl) ?_ _
        clear kx ky
        go_wp2_with fail
        go_roundw
        case rel => exact ⟨i + 1, by omega, by go_num, O⟩
        case measure => first | exact meas_lt Wi hlt | exact meas_lt2 hlt
      · have z1 : ¬ (i : Int) < LA.length := by omega
        clear hi hlt z0
        obtain ⟨Y0, Y1, Y2, Y3⟩ := HYY.out
        go_wp2_with (first | ((with_reducible refine at_load 134 ?_); refine wpList_cell_h (v := .int .i64 (b0)) rfl O 0 rfl Cb0.out rfl agg3 rfl ?_) | ((with_reducible refine at_load 137 ?_); refine wpList_cell_h (v := .int .i64 (b1)) rfl O 0 rfl Cb1.out rfl agg3 rfl ?_) | ((with_reducible refine at_load 140 ?_); refine wpList_cell_h (v := .int .i64 (b2)) rfl O 0 rfl Cb2.out rfl agg3 rfl ?_) | ((with_reducible refine at_load 143 ?_); refine wpList_cell_h (v := .int .i64 (b3)) rfl O 0 rfl Cb3.out rfl agg3 rfl ?_) | ((with_reducible refine at_store 145 ?_); refine wpList_set_h O 0 (i := 0) (.int .i64 y0) rfl (by first | (rw [M.mat_len]; omega) | (simp only [List.length_set, M.mat_len]; omega)) rfl (by first | rfl | exact congrArg (Value.int IntKind.i64) Y0) size3 rfl rfl ?_; clear O; intro z1w O) | ((with_reducible refine at_store 146 ?_); refine wpList_set_h O 0 (i := 1) (.int .i64 y1) rfl (by first | (rw [M.mat_len]; omega) | (simp only [List.length_set, M.mat_len]; omega)) rfl (by first | rfl | exact congrArg (Value.int IntKind.i64) Y1) size3 rfl rfl ?_; clear O; intro z2w O) | ((with_reducible refine at_store 147 ?_); refine wpList_set_h O 0 (i := 2) (.int .i64 y2) rfl (by first | (rw [M.mat_len]; omega) | (simp only [List.length_set, M.mat_len]; omega)) rfl (by first | rfl | exact congrArg (Value.int IntKind.i64) Y2) size3 rfl rfl ?_; clear O; intro z3w O) | ((with_reducible refine at_store 148 ?_); refine wpList_set_h O 0 (i := 3) (.int .i64 y3) rfl (by first | (rw [M.mat_len]; omega) | (simp only [List.length_set, M.mat_len]; omega)) rfl (by first | rfl | exact congrArg (Value.int IntKind.i64) Y3) size3 rfl rfl ?_; clear O; intro z4w O))
        have OX : Held w z4w ((g9, 27, M.mat 4 gb) :: [(g5, 27, M.mat 4 wh), (g2, 25, M.mat 7 v)]) nilRow [gE w.heap.size XA xc LA, gE w.heap.size YA yc LB, gE w.heap.size ZA zc LC] := by
          have e1 := HGR.out
          have O8 := O
          simp only [List.set_cons_zero, List.set_cons_succ] at O8
          rw [e1] at O8
          exact O8
        clear O Y0 Y1 Y2 Y3 HGR Cb0 Cb1 Cb2 Cb3
        have O := OX
        clear OX
        go_loopw [11] (fun t11 wr => ∃ i : Nat, i ≤ LB.length ∧ t11 = .int .i64 (i : Int) ∧ Held w wr ((g9, 27, M.mat 4 gb) :: [(g5, 27, M.mat 4 wh), (g2, 25, M.mat 7 v)]) nilRow [gE w.heap.size XA xc LA, gE w.heap.size YA yc LB, gE w.heap.size ZA zc LC]) (fun t11 _ => LB.length - (intOf t11).toNat)
        case atStart => exact ⟨0, Nat.zero_le _, rfl, O⟩
        case round =>
          clear O
          obtain ⟨i, hi, rfl, O⟩ := hrel
          have z0 : (0 : Int) ≤ i := by omega
          by_cases hlt : i < LB.length
          · have z2 : (i : Int) < LB.length := by omega
            have Wi : wrap64 ((i : Int) + 1) = (i : Int) + 1 := IntWalk.wrap64_in _ (by have := HLL.out.2.2.2; omega)
            obtain ⟨f, hf⟩ : ∃ f, LB[i]? = some f := ⟨_, List.getElem?_eq_getElem hlt⟩
            obtain ⟨⟨_, _, hc, hcol, hz⟩, hh⟩ := HRD.out f (List.mem_of_getElem? hf)
            have CGx := CG.out (f 0) (f 1)
            rw [hh] at CGx
            obtain ⟨X, hX⟩ : ∃ X, f 0 = X := ⟨_, rfl⟩
            obtain ⟨Y, hY⟩ : ∃ Y, f 1 = Y := ⟨_, rfl⟩
            obtain ⟨n, hn⟩ : ∃ Y, f 7 = Y := ⟨_, rfl⟩
            rw [hX, hY] at CGx
            rw [hn] at hc
            have FX : Hid ((gC LB)[i * 8]? = some (.int .i64 X)) := Lib.hid (by rw [← hX]; exact gC_at hf 0 _ rfl)
            have FY : Hid ((gC LB)[i * 8 + 1]? = some (.int .i64 Y)) := Lib.hid (by rw [← hY]; exact gC_at hf 1 _ rfl)
            have FC : Hid ((gC LB)[i * 8 + 7]? = some (.int .i64 n)) := Lib.hid (by rw [← hn]; exact gC_at hf 7 _ rfl)
            have FZ : Hid ((gC LB)[i * 8 + 2]? = some (.int .i64 v2)) := Lib.hid (by rw [← hz]; exact gC_at hf 2 _ rfl)
            have hce : M.mat 4 (D.sub 3 f) = M.mat 4 (D.sub 3 v) := M.mat_ext fun j hj => hcol j hj
            have FL : Hid (∀ j u, (M.mat 4 (D.sub 3 v))[j]? = some u → (gC LB)[i * 8 + 3 + j]? = some u) := Lib.hid (by rw [← hce]; exact gC_col hf)
            have HSC : Hid (∀ j u, (M.mat 4 (D.sub 3 v))[j]? = some u → (M.mat 7 v)[3 + j]? = some u) := Lib.hid (mat_sub v (by decide))
            generalize D.sub 3 v = sv at FL HSC
            have k1 : decide (n < 1) = false := decide_eq_false (by omega)
            have k2 : decide (n > 64) = false := decide_eq_false (by omega)
            have k2b : decide (64 < n) = false := decide_eq_false (by omega)
            have kz : (v2 != v2) = false := by simp
            clear hf hc hcol hz hh hX hY hn hce
            go_wp2_with fail
            have OO := O
            clear O
            have O := OO
            clear OO
            refine region_T ((fun w2 => Held w w2 ((g9, 27, M.mat 4 gb) :: [(g5, 27, M.mat 4 wh), (g2, 25, M.mat 7 v)]) nilRow [gE w.heap.size XA xc LA, gE w.heap.size YA yc LB, gE w.heap.size ZA zc LC])) [0, 1, 2, 3, 4, 5, 6, 7, 8, 9, 10, 11, 12, 13, 14, 15, 16, 17, 18, 19, 20, 21, 22, 23, 24, 25, 26, 27, 28, 29, 30, 31, 32, 33, 34, 35, 36, 37, 38, 39, 40, 41, 42, 43, 44, 45, 46, 47] 12 [some 155, some 156, some 157, some 158, some 159, some 160, some 161, some 162, some 163, some 164, some 165, some 166, some 167, some 168, some 169, some 170, some 171, some 172, some 173, some 174, some 175, some 176, some 177, some 178, some 179, some 180, some 181, some 182, some 183, some 184, some 185, some 186, some 187, some 188, some 189, some 190, some 191, some 192, some 193, some 194, some 195, some 196, some 197, some 198, some 199, some 200, some 201, some 202] [arr 4 gb, .slice YA LB.length yc, .int .i64 (i : Int), .pointer (some ((adr YA).add (i * 8))), .pointer (some ((adr YA).add (i * 8))), .int .i64 (X), .slice YA LB.length yc, .int .i64 (i : Int), .pointer (some ((adr YA).add (i * 8))), .pointer (some ⟨((adr YA).add (i * 8)).block, ((adr YA).add (i * 8)).off + 1, none⟩), .int .i64 (Y), .bool true, .bool false, .bool false, .slice YA LB.length yc, .int .i64 (i : Int), .pointer (some ((adr YA).add (i * 8))), .pointer (some ⟨((adr YA).add (i * 8)).block, ((adr YA).add (i * 8)).off + 7, none⟩), .int .i64 (n), .bool false, .bool false, .bool false, .slice YA LB.length yc, .int .i64 (i : Int), .pointer (some ((adr YA).add (i * 8))), .pointer (some ⟨((adr YA).add (i * 8)).block, ((adr YA).add (i * 8)).off + 7, none⟩), .int .i64 (n), .bool false, .bool false, .bool false, .slice YA LB.length yc, .int .i64 (i : Int), .pointer (some ((adr YA).add (i * 8))), .pointer (some ⟨((adr YA).add (i * 8)).block, ((adr YA).add (i * 8)).off + 3, none⟩), arr 4 sv, .pointer (some ⟨g2, 3, none⟩), arr 4 sv, .bool false, .bool false, .bool false, .slice YA LB.length yc, .int .i64 (i : Int), .pointer (some ((adr YA).add (i * 8))), .pointer (some ⟨((adr YA).add (i * 8)).block, ((adr YA).add (i * 8)).off + 2, none⟩), .int .i64 (v2), .pointer (some ⟨g2, 2, none⟩), .int .i64 (v2), .bool false] 1 (by kernel_rfl) (by rfl) (by kernel_rfl) (by rfl) (by rfl) (O.drew) (fun F hF => ?_)
            simp only [fillD, Act.put, List.setIfInBounds_toArray, List.set_cons_zero, List.set_cons_succ] at hF
            subst hF
            refine ⟨⟨does_want rfl (by rfl) (fun w' O K hK => ?_), does_want rfl (by rfl) (fun w' O K hK => ?_), does_want rfl (by rfl) (fun w' O K hK => ?_), does_want rfl (by rfl) (fun w' O K hK => ?_), does_want rfl (by rfl) (fun w' O K hK => ?_), does_want rfl (by rfl) (fun w' O K hK => ?_), does_want rfl (by rfl) (fun w' O K hK => ?_), does_want rfl (by rfl) (fun w' O K hK => ?_), does_want rfl (by rfl) (fun w' O K hK => ?_), does_want rfl (by rfl) (fun w' O K hK => ?_), does_want rfl (by rfl) (fun w' O K hK => ?_), does_want rfl (by rfl) (fun w' O K hK => ?_), does_want rfl (by rfl) (fun w' O K hK => ?_), does_want rfl (by rfl) (fun w' O K hK => ?_), does_want rfl (by rfl) (fun w' O K hK => ?_), does_want rfl (by rfl) (fun w' O K hK => ?_), does_want rfl (by rfl) (fun w' O K hK => ?_), does_want rfl (by rfl) (fun w' O K hK => ?_), does_want rfl (by rfl) (fun w' O K hK => ?_), does_want rfl (by rfl) (fun w' O K hK => ?_), does_want rfl (by rfl) (fun w' O K hK => ?_), does_want rfl (by rfl) (fun w' O K hK => ?_), does_want rfl (by rfl) (fun w' O K hK => ?_), does_want rfl (by rfl) (fun w' O K hK => ?_), does_want rfl (by rfl) (fun w' O K hK => ?_), does_want rfl (by rfl) (fun w' O K hK => ?_), does_want rfl (by rfl) (fun w' O K hK => ?_), does_want rfl (by rfl) (fun w' O K hK => ?_), does_want rfl (by rfl) (fun w' O K hK => ?_), does_want rfl (by rfl) (fun w' O K hK => ?_), does_want rfl (by rfl) (fun w' O K hK => ?_), does_want rfl (by rfl) (fun w' O K hK => ?_), does_want rfl (by rfl) (fun w' O K hK => ?_), does_want rfl (by rfl) (fun w' O K hK => ?_), does_want rfl (by rfl) (fun w' O K hK => ?_), does_want rfl (by rfl) (fun w' O K hK => ?_), does_want rfl (by rfl) (fun w' O K hK => ?_), does_want rfl (by rfl) (fun w' O K hK => ?_), does_want rfl (by rfl) (fun w' O K hK => ?_), does_want rfl (by rfl) (fun w' O K hK => ?_), does_want rfl (by rfl) (fun w' O K hK => ?_), does_want rfl (by rfl) (fun w' O K hK => ?_), does_want rfl (by rfl) (fun w' O K hK => ?_), does_want rfl (by rfl) (fun w' O K hK => ?_), does_want rfl (by rfl) (fun w' O K hK => ?_), does_want rfl (by rfl) (fun w' O K hK => ?_), does_want rfl (by rfl) (fun w' O K hK => ?_), does_want rfl (by rfl) (fun w' O K hK => ?_), trivial⟩, fun w' O => ?_⟩
            · exact wp_row_h O 0 rfl rfl Try.underlying27 rfl (sR _) (hK _ O)
            · go_simp
              exact hK _ O
            · go_simp
              exact hK _ O
            · exact wp_at_h Try.underlying35 sizeOfG (gE w.heap.size YA yc LB) (O.mem (List.mem_cons_of_mem _ List.mem_cons_self)) rfl i rfl rfl (hlt) rfl (hK _ O)
            · go_simp
              exact hK _ O
            · exact wp_ecell_h (gE w.heap.size YA yc LB) (O.mem (List.mem_cons_of_mem _ List.mem_cons_self)) (i * 8) (v := .int .i64 X) FX.out rfl agg3 rfl (hK _ O)
            · go_simp
              exact hK _ O
            · go_simp
              exact hK _ O
            · exact wp_at_h Try.underlying35 sizeOfG (gE w.heap.size YA yc LB) (O.mem (List.mem_cons_of_mem _ List.mem_cons_self)) rfl i rfl rfl (hlt) rfl (hK _ O)
            · go_simp
              exact hK _ O
            · exact wp_ecell_h (gE w.heap.size YA yc LB) (O.mem (List.mem_cons_of_mem _ List.mem_cons_self)) (i * 8 + 1) (v := .int .i64 Y) FY.out (congrArg (fun z => Value.pointer (some z)) (add_fld _ (i * 8) 1 (by decide))) agg3 rfl (hK _ O)
            · go_simp
              go_at_call 17
              refine (CGx _).mono ?_
              rintro e w2 ⟨rfl, hb⟩
              exact hK _ (O.call hb)
            · go_simp
              exact hK _ O
            · go_simp
              exact hK _ O
            · go_simp
              exact hK _ O
            · go_simp
              exact hK _ O
            · exact wp_at_h Try.underlying35 sizeOfG (gE w.heap.size YA yc LB) (O.mem (List.mem_cons_of_mem _ List.mem_cons_self)) rfl i rfl rfl (hlt) rfl (hK _ O)
            · go_simp
              exact hK _ O
            · exact wp_ecell_h (gE w.heap.size YA yc LB) (O.mem (List.mem_cons_of_mem _ List.mem_cons_self)) (i * 8 + 7) (v := .int .i64 n) FC.out (congrArg (fun z => Value.pointer (some z)) (add_fld _ (i * 8) 7 (by decide))) agg3 rfl (hK _ O)
            · go_simp
              first | exact hK _ O | (simp only [k1]; exact hK _ O)
            · go_simp
              exact hK _ O
            · go_simp
              exact hK _ O
            · go_simp
              exact hK _ O
            · go_simp
              exact hK _ O
            · exact wp_at_h Try.underlying35 sizeOfG (gE w.heap.size YA yc LB) (O.mem (List.mem_cons_of_mem _ List.mem_cons_self)) rfl i rfl rfl (hlt) rfl (hK _ O)
            · go_simp
              exact hK _ O
            · exact wp_ecell_h (gE w.heap.size YA yc LB) (O.mem (List.mem_cons_of_mem _ List.mem_cons_self)) (i * 8 + 7) (v := .int .i64 n) FC.out (congrArg (fun z => Value.pointer (some z)) (add_fld _ (i * 8) 7 (by decide))) agg3 rfl (hK _ O)
            · go_simp
              first | exact hK _ O | (simp only [k2]; exact hK _ O) | (simp only [k2b]; exact hK _ O)
            · go_simp
              exact hK _ O
            · go_simp
              exact hK _ O
            · go_simp
              exact hK _ O
            · go_simp
              exact hK _ O
            · exact wp_at_h Try.underlying35 sizeOfG (gE w.heap.size YA yc LB) (O.mem (List.mem_cons_of_mem _ List.mem_cons_self)) rfl i rfl rfl (hlt) rfl (hK _ O)
            · go_simp
              exact hK _ O
            · exact wp_elem_h (gE w.heap.size YA yc LB) (O.mem (List.mem_cons_of_mem _ List.mem_cons_self)) (i * 8 + 3) (M.mat 4 sv) FL.out (by rw [M.mat_len]; decide) (congrArg (fun z => Value.pointer (some z)) (add_fld _ (i * 8) 3 (by decide))) Try.underlying23 rfl (sC _) (hK _ O)
            · go_simp
              exact hK _ O
            · exact wp_mid_h O 2 rfl (M.mat 4 sv) HSC.out rfl Try.underlying23 rfl (sC _) (hK _ O)
            · refine wp_neqC sv sv rfl rfl ?_
              rw [M.eqB_refl]
              exact hK _ O
            · go_simp
              exact hK _ O
            · go_simp
              exact hK _ O
            · go_simp
              exact hK _ O
            · go_simp
              exact hK _ O
            · exact wp_at_h Try.underlying35 sizeOfG (gE w.heap.size YA yc LB) (O.mem (List.mem_cons_of_mem _ List.mem_cons_self)) rfl i rfl rfl (hlt) rfl (hK _ O)
            · go_simp
              exact hK _ O
            · exact wp_ecell_h (gE w.heap.size YA yc LB) (O.mem (List.mem_cons_of_mem _ List.mem_cons_self)) (i * 8 + 2) (v := .int .i64 v2) FZ.out (congrArg (fun z => Value.pointer (some z)) (add_fld _ (i * 8) 2 (by decide))) agg3 rfl (hK _ O)
            · go_simp
              exact hK _ O
            · exact wp_cell_h (v := .int .i64 v2) O 2 rfl Cv2.out rfl agg3 rfl (hK _ O)
            · go_simp
              first | exact hK _ O | (simp only [kz]; exact hK _ O)
            refine wpAny_one (i := 48) (by kernel_rfl) rfl (fun K hK => ?_)
            go_simp
            refine hK _ _ ?_
            clear hK K
            try simp only [Act.put, List.setIfInBounds_toArray, List.set_cons_zero, List.set_cons_succ]
            refine wpAny_done (by kernel_rfl) ?_ _
            clear k1 k2 k2b kz
            go_wp2_with fail
            go_roundw
            case rel => exact ⟨i + 1, by omega, by go_num, O⟩
            case measure => first | exact meas_lt Wi hlt | exact meas_lt2 hlt
          · have z2 : ¬ (i : Int) < LB.length := by omega
            go_wp2_with (go_at_call 8; refine (awake_any _).mono ?_; rintro e x20w ⟨rfl, hb⟩; replace O := O.call hb; clear hb)
            go_ret
            exact ⟨rfl, O.below⟩

theorem readable : ∀ t ∈ Try.f4.params.toList, Try.prog.readableRec t = true ∧ t < Try.prog.types.size := by
  intro t ht
  rw [Try.params4] at ht
  simp only [List.mem_cons, List.not_mem_nil, or_false] at ht
  repeat (first | (rcases ht with rfl | ht; exact ⟨by kernel_rfl, of_decide_eq_true (by kernel_rfl)⟩) | (subst ht; exact ⟨by kernel_rfl, of_decide_eq_true (by kernel_rfl)⟩))
set_option maxRecDepth 100000 in
theorem lifted (os : Os) (started : os.Started) (H : Type) (enc : TypeId × Value → H) :
    ReturnsInHanded {} Try.checked os 4 .any (Rows.dotCountsSpec.pre6 enc Try.prog Try.f4 Rows.dotCountsRow.domain false) (Rows.dotCountsSpec.post enc Try.prog Try.f4 false true false false) := by
  refine returnsInHanded_of_change (C := Try.checked) own started (by kernel_rfl) Try.func4
    (ChangeSpec.witness6 (enc := enc) (C := Try.checked) false ⟨#[], #[.agg #[.int .i64 0, .int .i64 0, .int .i64 0, .int .i64 0, .int .i64 0, .int .i64 0, .int .i64 0], .int .i64 0], []⟩ 8 (by kernel_rfl) (by kernel_rfl) (by kernel_rfl) (by kernel_rfl)) ?_
  intro W base args ds gs before hval0 hW hcnd _
  have hval : ∀ (j : Nat) t v, Try.f4.params[j]? = some t → args[j]? = some v → Value.okWide Try.prog W .any base t v := hval0
  have hW' := hW
  obtain ⟨p, q, hA0, hV, rfl, hfz, hnd⟩ := hW
  have hA : DataW.TrodAll enc Try.prog W 0 (fun _ => true) true Try.f4.params.toList args.toList ds p := hA0
  rw [Try.params4] at hA hval
  have hlt : ∀ x ∈ p ++ q, x.block < W.heap.size := fun x hx => hW'.lt x hx
  obtain ⟨v0, vs0, d0, ds0, p0, q0, hargs, rfl, rfl, h0, rr0⟩ := trodAll_cons hA
  obtain ⟨v1, vs1, d1, ds1, p1, q1, rfl, rfl, rfl, h1, rr1⟩ := trodAll_cons rr0
  obtain ⟨rfl, rfl, rfl⟩ := trodAll_nil rr1
  obtain rfl : args = #[v0, v1] := by cases args; simp_all
  obtain ⟨rfl, rfl⟩ := trodVars_none hV
  obtain ⟨a0, rfl⟩ := openSWin (hval 0 25 v0 rfl rfl) h0
  obtain ⟨i1, rfl, rfl, rfl, x1⟩ := open_int Try.underlying3 (hval 1 3 v1 rfl rfl) h1
  clear hA0 hval0
  refine (walk W a0 i1).mono fun e W' ⟨he, hg⟩ => ?_
  subst he
  exact ⟨_, rfl, post_true (tb := 4) laid readable (by kernel_rfl) Try.underlying4 rfl (fun l hl => by
    match l, hl with
    | [_, _], _ => exact ⟨rfl, rfl, rfl⟩) hW' hg⟩

theorem over : Rows.dotCountsRow.holds Try.pinned (OpenSpec.ofChange Rows.dotCountsSpec) :=
  OpenClaim.holds_of_wide 4 Try.f4 rfl rfl rfl rfl rfl rfl rfl ⟨rfl, rfl, rfl, rfl, rfl⟩ rfl rfl rfl rfl rfl (by kernel_rfl) Try.func4 (by kernel_rfl)
    (of_decide_eq_true (by kernel_rfl)) (by unfold Func.isWrapper; first | (rw [if_pos (by decide +kernel)]; kernel_rfl) | (rw [if_neg (by decide +kernel)]; exact ⟨rfl, rfl⟩))
    (fun os started H enc _ => lifted os started H enc)

theorem proved : Rows.DotCountsSaid :=
  over
#print axioms proved
end Go.Proofs.Ytlmgilcigbnbaaa.dotCounts
