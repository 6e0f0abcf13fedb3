/-
  SmoothRects: of every line, what any rectangle (of 1000 pixels at most) shows is what one within it shows there; all of it lies in the rectangle, rising by Y, then by X.
-/
import Derived.Test.YtdkppkdoconfhaaSr
import Derived.Deep.DeepCutAuto
namespace Go.Proofs.Ytdkppkdoconfhaa.smoothRects
open Go.ChangeShapes Go.WideShapes Go.ChangeAt Go.RowKit
set_option linter.unusedVariables false
set_option linter.unusedSimpArgs false

theorem own : ownKnob Try.prog.godebug = none := by kernel_rfl

set_option maxRecDepth 100000 in
set_option maxHeartbeats 16000000 in
theorem walk (w : World) (a b : Nat → Int) (n : Int) (r : Nat → Int) (u v : Int) (huv : (-128 ≤ u ∧ u ≤ 127) ∧ (-128 ≤ v ∧ v ≤ 127)) :
    Calls Try.prog 7 #[.agg (sl a b n r).toArray, .agg (two .i8 u v).toArray] w fun e w' => e = .returned (.bool true) ∧ Below w.heap.size w w' := by
  have O := Held.start w [] (by simp)
  have CR := fun w => rright_any r w
  have CA := fun w => rarea_any r w
  cases hr : RC.right r
  · rw [hr] at CR
    clear hr CA
    go_enter Try.func7, Try.ntmps7
    go_wp2_with (first | ((with_reducible refine at_box 2 ?_); refine wpList_box_h O (sl a b n r) rfl ?_; clear O; intro g2 w1 O) | ((with_reducible refine at_box 3 ?_); refine wpList_box_h O (two .i8 u v) rfl ?_; clear O; intro g3 w2 O) | ((with_reducible refine at_load 11 ?_); refine wpList_mid_h rfl O 1 rfl (M.mat 4 r) (sl_r a b n r) rfl Try.underlying27 rfl (sR _) ?_) | (go_at_call 17; refine (CR _).mono ?_; rintro e w3 ⟨rfl, hb⟩; replace O := O.call hb; clear hb) | (go_at_call 9; refine (awake_any _).mono ?_; rintro e w9 ⟨rfl, hb⟩; replace O := O.call hb; clear hb))
    go_ret
    exact ⟨rfl, O.below⟩
  rw [hr] at CR
  have hra := @SM.both_area r
  obtain ⟨A, hA⟩ : ∃ A, RC.area r = A := ⟨_, rfl⟩
  rw [hA] at CA hra
  cases k2 : decide (1000 < A)
  rotate_left
  · clear hr hA hra
    go_enter Try.func7, Try.ntmps7
    go_wp2_with (first | ((with_reducible refine at_box 2 ?_); refine wpList_box_h O (sl a b n r) rfl ?_; clear O; intro g2 w1 O) | ((with_reducible refine at_box 3 ?_); refine wpList_box_h O (two .i8 u v) rfl ?_; clear O; intro g3 w2 O) | ((with_reducible refine at_load 11 ?_); refine wpList_mid_h rfl O 1 rfl (M.mat 4 r) (sl_r a b n r) rfl Try.underlying27 rfl (sR _) ?_) | (go_at_call 17; refine (CR _).mono ?_; rintro e w3 ⟨rfl, hb⟩; replace O := O.call hb; clear hb) | ((with_reducible refine at_load 16 ?_); refine wpList_mid_h rfl O 1 rfl (M.mat 4 r) (sl_r a b n r) rfl Try.underlying27 rfl (sR _) ?_) | (go_at_call 18; refine (CA _).mono ?_; rintro e w4 ⟨rfl, hb⟩; replace O := O.call hb; clear hb) | (go_at_call 9; refine (awake_any _).mono ?_; rintro e w9 ⟨rfl, hb⟩; replace O := O.call hb; clear hb))
    go_ret
    exact ⟨rfl, O.below⟩
  obtain ⟨⟨u1, u2⟩, v1, v2⟩ := huv
  have hl := RC.right_iff.1 hr
  obtain ⟨x0, ex0⟩ : ∃ z, r 0 = z := ⟨_, rfl⟩
  obtain ⟨y0, ey0⟩ : ∃ z, r 1 = z := ⟨_, rfl⟩
  obtain ⟨x1, ex1⟩ : ∃ z, r 2 = z := ⟨_, rfl⟩
  obtain ⟨y1, ey1⟩ : ∃ z, r 3 = z := ⟨_, rfl⟩
  have D0 : Hid ((sl a b n r)[15]? = some (.int .i64 x0)) := Lib.hid (by rw [← ex0]; rfl)
  have D1 : Hid ((sl a b n r)[16]? = some (.int .i64 y0)) := Lib.hid (by rw [← ey0]; rfl)
  have D2 : Hid ((sl a b n r)[17]? = some (.int .i64 x1)) := Lib.hid (by rw [← ex1]; rfl)
  have D3 : Hid ((sl a b n r)[18]? = some (.int .i64 y1)) := Lib.hid (by rw [← ey1]; rfl)
  rw [ex0, ey0, ex1, ey1] at hl
  have W1 : wrap64 u = u := IntWalk.wrap64_in _ (by omega)
  have W2 : wrap64 v = v := IntWalk.wrap64_in _ (by omega)
  obtain ⟨p0, hp0⟩ : ∃ p, x0 + u = p := ⟨_, rfl⟩
  obtain ⟨p1, hp1⟩ : ∃ p, y0 + v = p := ⟨_, rfl⟩
  have W3 : wrap64 (x0 + u) = p0 := (IntWalk.wrap64_in _ (by omega)).trans hp0
  have W4 : wrap64 (y0 + v) = p1 := (IntWalk.wrap64_in _ (by omega)).trans hp1
  have CB := fun w => rand_any r (RC.mk p0 p1 x1 y1) w
  have hA9 : A ≤ 1000 := by
    have := of_decide_eq_false k2
    omega
  have hsub : ∀ p q, RC.has (RC.both r (RC.mk p0 p1 x1 y1)) p q = true → RC.has r p q = true := fun p q h => SM.both_in h
  have hia := @hra (RC.mk p0 p1 x1 y1) hr
  clear hra
  obtain ⟨c, hc⟩ : ∃ c, RC.both r (RC.mk p0 p1 x1 y1) = c := ⟨_, rfl⟩
  rw [hc] at CB hsub hia
  have CL := fun w => pline18_any a b n r (by rw [hA]; omega) w
  have CM := fun w => pline18_any a b n c (by omega) w
  have hcut := SM.line_cut hsub a b n
  have hhas := fun f => @SM.line_has a b n r f
  have hrise := SM.line_rise a b n r
  have hlen : (SM.line a b n r).length ≤ 1000000 := Nat.le_trans (SM.line_len (n := 1000) (by rw [hA]; omega)) (by decide)
  obtain ⟨LA, hLA⟩ : ∃ l, SM.line a b n r = l := ⟨_, rfl⟩
  obtain ⟨LB, hLB⟩ : ∃ l, SM.line a b n c = l := ⟨_, rfl⟩
  rw [hLA] at CL hcut hhas hlen hrise
  rw [hLB] at CM hcut
  have HH := Lib.hid (fun i f (h : LA[i]? = some f) => hhas f (List.mem_of_getElem? h))
  have HO := Lib.hid (fun k f g (h1 : LA[k]? = some f) (h2 : LA[k + 1]? = some g) => SM.rise_at hrise h1 h2)
  have HY := Lib.hid (fun i f (h : LA[i]? = some f) (hp : RC.has c (f 0) (f 1) = true) => @cntp_yes _ (fun f => RC.has c (f 0) (f 1)) LA i f h hp)
  have HN := Lib.hid (fun i f (h : LA[i]? = some f) (hp : RC.has c (f 0) (f 1) = false) => @cntp_no _ (fun f => RC.has c (f 0) (f 1)) LA i f h hp)
  have HE := Lib.hid (cntp_all (fun f : Nat → Int => RC.has c (f 0) (f 1)) LA)
  have HZ := Lib.hid (cntp_zero (fun f : Nat → Int => RC.has c (f 0) (f 1)) LA)
  have HLE := Lib.hid (cntp_le (fun f : Nat → Int => RC.has c (f 0) (f 1)) LA)
  rw [← hcut] at HY HE
  obtain ⟨cn, hcn⟩ : ∃ g : Nat → Nat, cntp (fun f : Nat → Int => RC.has c (f 0) (f 1)) LA = g := ⟨_, rfl⟩
  rw [hcn] at HY HN HE HZ HLE
  have HLEN := Lib.hid hlen
  have HR := Lib.hid (fun u v => rhas_any r u v)
  have HC := Lib.hid (fun u v => rhas_any c u v)
  clear hr hA hA9 hia hl hp0 hp1 hc hsub hcut hhas hrise hlen hLA hLB hcn u1 u2 v1 v2 ex0 ey0 ex1 ey1
  go_enter Try.func7, Try.ntmps7
  go_wp2_with (first | ((with_reducible refine at_box 2 ?_); refine wpList_box_h O (sl a b n r) rfl ?_; clear O; intro g2 w1 O) | ((with_reducible refine at_box 3 ?_); refine wpList_box_h O (two .i8 u v) rfl ?_; clear O; intro g3 w2 O) | ((with_reducible refine at_load 11 ?_); refine wpList_mid_h rfl O 1 rfl (M.mat 4 r) (sl_r a b n r) rfl Try.underlying27 rfl (sR _) ?_) | (go_at_call 17; refine (CR _).mono ?_; rintro e w3 ⟨rfl, hb⟩; replace O := O.call hb; clear hb) | ((with_reducible refine at_load 16 ?_); refine wpList_mid_h rfl O 1 rfl (M.mat 4 r) (sl_r a b n r) rfl Try.underlying27 rfl (sR _) ?_) | (go_at_call 18; refine (CA _).mono ?_; rintro e w4 ⟨rfl, hb⟩; replace O := O.call hb; clear hb) | ((with_reducible refine at_load 22 ?_); refine wpList_mid_h rfl O 1 rfl (M.mat 4 r) (sl_r a b n r) rfl Try.underlying27 rfl (sR _) ?_) | ((with_reducible refine at_load 25 ?_); refine wpList_cell_h (v := .int .i64 x0) rfl O 1 rfl D0.out rfl agg3 rfl ?_) | ((with_reducible refine at_index_ 26 ?_); refine wpList_ino rfl Try.underlying45 sizeOfi8 (by decide) (0) rfl rfl (by rfl) (by omega) ?_) | ((with_reducible refine at_load 27 ?_); refine wpList_cell_h (v := .int .i8 u) rfl O 0 (i := 0) rfl rfl rfl aggi8 rfl ?_) | ((with_reducible refine at_load 32 ?_); refine wpList_cell_h (v := .int .i64 y0) rfl O 1 rfl D1.out rfl agg3 rfl ?_) | ((with_reducible refine at_index_ 33 ?_); refine wpList_ino rfl Try.underlying45 sizeOfi8 (by decide) (1) rfl rfl (by rfl) (by omega) ?_) | ((with_reducible refine at_load 34 ?_); refine wpList_cell_h (v := .int .i8 v) rfl O 0 (i := 1) rfl rfl rfl aggi8 rfl ?_) | ((with_reducible refine at_load 39 ?_); refine wpList_cell_h (v := .int .i64 x1) rfl O 1 rfl D2.out rfl agg3 rfl ?_) | ((with_reducible refine at_load 42 ?_); refine wpList_cell_h (v := .int .i64 y1) rfl O 1 rfl D3.out rfl agg3 rfl ?_) | ((with_reducible refine at_build 43 ?_); refine wpList_build_g rfl ([(0, .int .i64 p0), (1, .int .i64 p1), (2, .int .i64 x1), (3, .int .i64 y1)]) ((M.mat 4 (RC.mk p0 p1 x1 y1)).toArray) ?_ (builtR17 _ _ _ _) ?_; (focus (simp only [List.map_toArray, List.map_cons, List.map_nil]; rfl))) | (go_at_call 19; refine (CB _).mono ?_; rintro e w5 ⟨rfl, hb⟩; replace O := O.call hb; clear hb) | ((with_reducible refine at_alloc 5 ?_); refine wpList_alloc_h O (M.mat 4 M.zero) zeroR ?_; clear O; intro g5 w6 O) | ((with_reducible refine at_store 5 ?_); refine wpList_put_h O 0 (M.mat 4 (c)) rfl rfl rfl (sR _) (M.mat_len2 _ _ _) (M.mat_one _ _) ?_; clear O; intro w7 O))
  have OX := O.1
  clear O W1 W2 W3 W4 CR CA CB D0 D1 D2 D3 k2
  have O : Own w w7 [(g5, 27, M.mat 4 c), (g3, 45, two .i8 u v), (g2, 29, sl a b n r)] := OX
  clear OX
  refine region_S (fun st w2 => HS2 w [(g5, 27, M.mat 4 c), (g3, 45, two .i8 u v), (g2, 29, sl a b n r)] 8 16 LA LB st w2) [8, 16] 12 18 [some 45, some 46, some 47, some 48, some 49, some 50, some 51, some 52, some 53, some 54, some 55, some 56, some 57, some 58, some 59, some 60, some 61, some 6] (fun g => [.pointer (some ⟨g2, 0, none⟩), arr 7 a, .pointer (some ⟨g2, 7, none⟩), arr 7 b, .pointer (some ⟨g2, 14, none⟩), .int .i64 (n), .pointer (some ⟨g2, 15, none⟩), arr 4 r, g 8, .pointer (some ⟨g2, 0, none⟩), arr 7 a, .pointer (some ⟨g2, 7, none⟩), arr 7 b, .pointer (some ⟨g2, 14, none⟩), .int .i64 (n), arr 4 c, g 16, g 8]) 1 (by kernel_rfl) (by kernel_rfl) (by rfl) (by rfl) (fun _ => rfl) (by decide) ?_ (HS2.start O.drew) (fun F hF => ?_)
  · intro i hi
    simp only [List.mem_cons, List.not_mem_nil, or_false] at hi
    rcases hi with rfl | rfl
    · exact ⟨fun _ => rfl, [0, 1, 2, 3, 4, 5, 6, 7, 9, 10, 11, 12, 13, 14, 15, 16], by kernel_rfl, fun g v => ⟨rfl, rfl, rfl, rfl, rfl, rfl, rfl, rfl, rfl, rfl, rfl, rfl, rfl, rfl, rfl, rfl, trivial⟩⟩
    · exact ⟨fun _ => rfl, [0, 1, 2, 3, 4, 5, 6, 7, 8, 9, 10, 11, 12, 13, 14, 15, 17], by kernel_rfl, fun g v => ⟨rfl, rfl, rfl, rfl, rfl, rfl, rfl, rfl, rfl, rfl, rfl, rfl, rfl, rfl, rfl, rfl, rfl, trivial⟩⟩
  simp only [fillD, Act.put, List.setIfInBounds_toArray, List.set_cons_zero, List.set_cons_succ] at hF
  have hF2 := funext hF
  clear hF
  subst hF2
  refine ⟨⟨doesN_want (by decide) rfl (fun g => rfl) (fun st w' hS hp K hK => ?_), doesN_want (by decide) rfl (fun g => rfl) (fun st w' hS hp K hK => ?_), doesN_want (by decide) rfl (fun g => rfl) (fun st w' hS hp K hK => ?_), doesN_want (by decide) rfl (fun g => rfl) (fun st w' hS hp K hK => ?_), doesN_want (by decide) rfl (fun g => rfl) (fun st w' hS hp K hK => ?_), doesN_want (by decide) rfl (fun g => rfl) (fun st w' hS hp K hK => ?_), doesN_want (by decide) rfl (fun g => rfl) (fun st w' hS hp K hK => ?_), doesN_want (by decide) rfl (fun g => rfl) (fun st w' hS hp K hK => ?_), doesC_want (by decide) rfl (fun g => rfl) (fun st w' hS hn hp K hK => ?_), doesN_want (by decide) rfl (fun g => rfl) (fun st w' hS hp K hK => ?_), doesN_want (by decide) rfl (fun g => rfl) (fun st w' hS hp K hK => ?_), doesN_want (by decide) rfl (fun g => rfl) (fun st w' hS hp K hK => ?_), doesN_want (by decide) rfl (fun g => rfl) (fun st w' hS hp K hK => ?_), doesN_want (by decide) rfl (fun g => rfl) (fun st w' hS hp K hK => ?_), doesN_want (by decide) rfl (fun g => rfl) (fun st w' hS hp K hK => ?_), doesN_want (by decide) rfl (fun g => rfl) (fun st w' hS hp K hK => ?_), doesC_want (by decide) rfl (fun g => rfl) (fun st w' hS hn hp K hK => ?_), doesN_want (by decide) rfl (fun g => rfl) (fun st w' hS hp K hK => ?_), trivial⟩, fun st w' hS hall => ?_⟩
  · try dsimp only
    go_simp
    exact hK _ hS
  · try dsimp only
    exact wp_mid_h hS.1.held 2 rfl (M.mat 7 a) (sl_a a b n r) rfl Try.underlying25 rfl (sW _) (hK _ hS)
  · try dsimp only
    go_simp
    exact hK _ hS
  · try dsimp only
    exact wp_mid_h hS.1.held 2 rfl (M.mat 7 b) (sl_b a b n r) rfl Try.underlying25 rfl (sW _) (hK _ hS)
  · try dsimp only
    go_simp
    exact hK _ hS
  · try dsimp only
    exact wp_cell_h (v := .int .i64 n) hS.1.held 2 rfl (sl_n a b n r) rfl agg3 rfl (hK _ hS)
  · try dsimp only
    go_simp
    exact hK _ hS
  · try dsimp only
    exact wp_mid_h hS.1.held 2 rfl (M.mat 4 r) (sl_r a b n r) rfl Try.underlying27 rfl (sR _) (hK _ hS)
  · try dsimp only
    go_simp
    go_at_call 13
    refine (CL _).mono ?_
    rintro e w2 ⟨VA, vc, rfl, hL, hb⟩
    exact hK _ _ (hS.gain1 (by decide) hL hb)
  · try dsimp only
    go_simp
    exact hK _ hS
  · try dsimp only
    exact wp_mid_h hS.1.held 2 rfl (M.mat 7 a) (sl_a a b n r) rfl Try.underlying25 rfl (sW _) (hK _ hS)
  · try dsimp only
    go_simp
    exact hK _ hS
  · try dsimp only
    exact wp_mid_h hS.1.held 2 rfl (M.mat 7 b) (sl_b a b n r) rfl Try.underlying25 rfl (sW _) (hK _ hS)
  · try dsimp only
    go_simp
    exact hK _ hS
  · try dsimp only
    exact wp_cell_h (v := .int .i64 n) hS.1.held 2 rfl (sl_n a b n r) rfl agg3 rfl (hK _ hS)
  · try dsimp only
    exact wp_row_h hS.1.held 0 rfl rfl Try.underlying27 rfl (sR _) (hK _ hS)
  · try dsimp only
    go_simp
    go_at_call 13
    refine (CM _).mono ?_
    rintro e w2 ⟨VA, vc, rfl, hL, hb⟩
    exact hK _ _ (hS.gain2 (by decide) hL hb)
  · try dsimp only
    go_simp
    exact hK _ hS
  try dsimp only
  clear O
  obtain ⟨XA, xc, e1, h1⟩ := hS.get1 (hall 8 (by decide))
  obtain ⟨YA, yc, e2, h2⟩ := hS.get2 (hall 16 (by decide))
  have O := h2.two h1
  clear h1 h2 hS
  simp only [seen, e1, e2, Option.getD_some]
  clear hall e1 e2
  refine wpAny_one (i := 18) (by kernel_rfl) rfl (fun K hK => ?_)
  go_simp
  refine hK _ _ ?_
  clear hK K
  try simp only [Act.put, List.setIfInBounds_toArray, List.set_cons_zero, List.set_cons_succ]
  refine wpAny_done (by kernel_rfl) ?_ _
  go_wp2_with fail
  have OX : Held w _ [(g5, 27, M.mat 4 c), (g3, 45, two .i8 u v), (g2, 29, sl a b n r)] nilRow [gE w.heap.size YA yc LB, gE w.heap.size XA xc LA] := O
  clear O CL CM
  have O := OX
  clear OX
  go_loopw [8, 9] (fun t10 t11 wr => ∃ i : Nat, i ≤ LA.length ∧ t10 = .int .i64 (cn i : Int) ∧ t11 = .int .i64 (i : Int) ∧ Held w wr [(g5, 27, M.mat 4 c), (g3, 45, two .i8 u v), (g2, 29, sl a b n r)] nilRow [gE w.heap.size YA yc LB, gE w.heap.size XA xc LA]) (fun t10 t11 _ => LA.length - (intOf t11).toNat)
  case atStart => exact ⟨0, Nat.zero_le _, by rw [HZ.out]; rfl, rfl, O⟩
  case round =>
    clear O
    obtain ⟨i, hi, rfl, rfl, O⟩ := hrel
    have q0 : (0 : Int) ≤ i := by omega
    by_cases hlt : i < LA.length
    · have q1 : (i : Int) < LA.length := by omega
      obtain ⟨f, hf⟩ : ∃ f, LA[i]? = some f := ⟨_, List.getElem?_eq_getElem hlt⟩
      have W1 : wrap64 ((i : Int) + 1) = (i : Int) + 1 := IntWalk.wrap64_in _ (by have := HLEN.out; omega)
      have HF := Lib.hid hf
      have hh := HH.out i f hf
      have hy := HY.out i f hf
      have hn := HN.out i f hf
      have CR := HR.out (f 0) (f 1)
      have CC := HC.out (f 0) (f 1)
      rw [hh] at CR
      obtain ⟨X, hX⟩ : ∃ X, f 0 = X := ⟨_, rfl⟩
      obtain ⟨Y, hY⟩ : ∃ Y, f 1 = Y := ⟨_, rfl⟩
      rw [hX, hY] at CR CC hy hn
      have FX : Hid ((gC LA)[i * 8]? = some (.int .i64 X)) := Lib.hid (by rw [← hX]; exact gC_at hf 0 _ rfl)
      have FY : Hid ((gC LA)[i * 8 + 1]? = some (.int .i64 Y)) := Lib.hid (by rw [← hY]; exact gC_at hf 1 _ rfl)
      have HPV : Hid (∀ k, i = k + 1 → ∃ X0 Y0, (gC LA)[k * 8]? = some (.int .i64 X0) ∧ (gC LA)[k * 8 + 1]? = some (.int .i64 Y0) ∧ (Y0 < Y ∨ (Y0 = Y ∧ X0 < X))) := Lib.hid (fun k e => by
        subst e
        have hk : k < LA.length := by omega
        have hg : LA[k]? = some LA[k] := List.getElem?_eq_getElem hk
        have ho := HO.out k _ f hg hf
        unfold SM.Aft at ho
        rw [hX, hY] at ho
        exact ⟨_, _, gC_at hg 0 _ rfl, gC_at hg 1 _ rfl, ho⟩)
      clear hf hh hX hY
      go_wp2_with fail
      have HDN : Hid (∀ k, i = k + 1 → IntKind.i64.wrap ((i : Int) - 1) = (k : Int) ∧ k < LA.length) := Lib.hid (fun k e => ⟨(IntWalk.i64_in _ (by have := HLEN.out; omega)).trans (by omega), by omega⟩)
      rcases (by omega : i = 0 ∨ 0 < i) with hz | hz
      · have kz : decide (0 < (i : Int)) = false := decide_eq_false (by omega)
        have kz2 : decide (0 < i) = false := decide_eq_false (by omega)
        clear hz HPV HDN
        have OO := O
        clear O
        have O := OO
        clear OO
        refine region_T ((fun w2 => Held w w2 [(g5, 27, M.mat 4 c), (g3, 45, two .i8 u v), (g2, 29, sl a b n r)] nilRow [gE w.heap.size YA yc LB, gE w.heap.size XA xc LA])) [0, 1, 2, 3, 4, 5, 6, 7, 8, 9, 10, 11, 12, 13, 14, 15, 16, 17, 18, 19, 20, 21, 22, 23, 24, 25, 26, 27, 28, 29, 30, 31, 32, 33, 34, 35, 36, 37, 38, 39, 40, 41, 42, 43, 44, 45, 46, 47, 48, 49, 50, 51, 52, 53, 54, 55, 56, 57, 58] 12 [some 68, some 69, some 70, some 71, some 72, some 73, some 74, some 75, some 76, some 77, some 78, some 79, some 80, some 81, some 82, some 83, some 84, some 85, some 86, some 87, some 88, some 89, some 90, some 91, some 92, some 93, some 94, some 95, some 96, some 97, some 98, some 99, some 100, some 101, some 102, some 103, some 104, some 105, some 106, some 107, some 108, some 109, some 110, some 111, some 112, some 113, some 114, some 115, some 116, some 117, some 118, some 119, some 120, some 121, some 122, some 123, some 124, some 125, some 126] [.pointer (some ⟨g2, 15, none⟩), arr 4 r, .slice XA LA.length xc, .int .i64 (i : Int), .pointer (some ((adr XA).add (i * 8))), .pointer (some ((adr XA).add (i * 8))), .int .i64 (X), .slice XA LA.length xc, .int .i64 (i : Int), .pointer (some ((adr XA).add (i * 8))), .pointer (some ⟨((adr XA).add (i * 8)).block, ((adr XA).add (i * 8)).off + 1, none⟩), .int .i64 (Y), .bool true, .bool false, .bool false, .int .i64 (i : Int), .bool false, .bool false, undef, undef, undef, undef, undef, undef, undef, undef, undef, undef, undef, undef, undef, undef, undef, undef, undef, undef, undef, undef, undef, undef, undef, undef, undef, undef, undef, undef, undef, undef, undef, undef, undef, undef, undef, undef, undef, undef, undef, undef, .bool false] 1 (by kernel_rfl) (by rfl) (by kernel_rfl) (by rfl) (by rfl) (O.drew) (fun F hF => ?_)
        simp only [fillD, Act.put, List.setIfInBounds_toArray, List.set_cons_zero, List.set_cons_succ] at hF
        subst hF
        refine ⟨⟨does_want rfl (by rfl) (fun w' O K hK => ?_), does_want rfl (by rfl) (fun w' O K hK => ?_), does_want rfl (by rfl) (fun w' O K hK => ?_), does_want rfl (by rfl) (fun w' O K hK => ?_), does_want rfl (by rfl) (fun w' O K hK => ?_), does_want rfl (by rfl) (fun w' O K hK => ?_), does_want rfl (by rfl) (fun w' O K hK => ?_), does_want rfl (by rfl) (fun w' O K hK => ?_), does_want rfl (by rfl) (fun w' O K hK => ?_), does_want rfl (by rfl) (fun w' O K hK => ?_), does_want rfl (by rfl) (fun w' O K hK => ?_), does_want rfl (by rfl) (fun w' O K hK => ?_), does_want rfl (by rfl) (fun w' O K hK => ?_), does_want rfl (by rfl) (fun w' O K hK => ?_), does_want rfl (by rfl) (fun w' O K hK => ?_), does_want rfl (by rfl) (fun w' O K hK => ?_), does_want rfl (by rfl) (fun w' O K hK => ?_), does_want rfl (by rfl) (fun w' O K hK => ?_), does_skip rfl (by rfl), does_skip rfl (by rfl), does_skip rfl (by rfl), does_skip rfl (by rfl), does_skip rfl (by rfl), does_skip rfl (by rfl), does_skip rfl (by rfl), does_skip rfl (by rfl), does_skip rfl (by rfl), does_skip rfl (by rfl), does_skip rfl (by rfl), does_skip rfl (by rfl), does_skip rfl (by rfl), does_skip rfl (by rfl), does_skip rfl (by rfl), does_skip rfl (by rfl), does_skip rfl (by rfl), does_skip rfl (by rfl), does_skip rfl (by rfl), does_skip rfl (by rfl), does_skip rfl (by rfl), does_skip rfl (by rfl), does_skip rfl (by rfl), does_skip rfl (by rfl), does_skip rfl (by rfl), does_skip rfl (by rfl), does_skip rfl (by rfl), does_skip rfl (by rfl), does_skip rfl (by rfl), does_skip rfl (by rfl), does_skip rfl (by rfl), does_skip rfl (by rfl), does_skip rfl (by rfl), does_skip rfl (by rfl), does_skip rfl (by rfl), does_skip rfl (by rfl), does_skip rfl (by rfl), does_skip rfl (by rfl), does_skip rfl (by rfl), does_skip rfl (by rfl), does_want rfl (by rfl) (fun w' O K hK => ?_), trivial⟩, fun w' O => ?_⟩
        · go_simp
          exact hK _ O
        · exact wp_mid_h O 2 rfl (M.mat 4 r) (sl_r a b n r) rfl Try.underlying27 rfl (sR _) (hK _ O)
        · go_simp
          exact hK _ O
        · go_simp
          exact hK _ O
        · exact wp_at_h Try.underlying34 sizeOfG (gE w.heap.size XA xc LA) (O.mem (List.mem_cons_of_mem _ List.mem_cons_self)) rfl i rfl rfl (by omega) rfl (hK _ O)
        · go_simp
          exact hK _ O
        · exact wp_ecell_h (gE w.heap.size XA xc LA) (O.mem (List.mem_cons_of_mem _ List.mem_cons_self)) (i * 8) (v := .int .i64 X) FX.out rfl agg3 rfl (hK _ O)
        · go_simp
          exact hK _ O
        · go_simp
          exact hK _ O
        · exact wp_at_h Try.underlying34 sizeOfG (gE w.heap.size XA xc LA) (O.mem (List.mem_cons_of_mem _ List.mem_cons_self)) rfl i rfl rfl (by omega) rfl (hK _ O)
        · go_simp
          exact hK _ O
        · exact wp_ecell_h (gE w.heap.size XA xc LA) (O.mem (List.mem_cons_of_mem _ List.mem_cons_self)) (i * 8 + 1) (v := .int .i64 Y) FY.out (congrArg (fun z => Value.pointer (some z)) (add_fld _ (i * 8) 1 (by decide))) agg3 rfl (hK _ O)
        · go_simp
          go_at_call 20
          refine (CR _).mono ?_
          rintro e w2 ⟨rfl, hb⟩
          exact hK _ (O.call hb)
        · go_simp
          exact hK _ O
        · go_simp
          exact hK _ O
        · go_simp
          exact hK _ O
        · go_simp
          first | exact hK _ O | (simp only [kz]; exact hK _ O) | (simp only [kz2]; exact hK _ O) | (rw [kz]; exact hK _ O) | (rw [kz2]; exact hK _ O)
        · go_simp
          exact hK _ O
        · go_simp
          exact hK _ O
        refine wpAny_one (i := 59) (by kernel_rfl) rfl (fun K hK => ?_)
        go_simp
        refine hK _ _ ?_
        clear hK K
        try simp only [Act.put, List.setIfInBounds_toArray, List.set_cons_zero, List.set_cons_succ]
        refine wpAny_done (by kernel_rfl) ?_ _
        clear CR kz kz2
        cases hc : RC.has c X Y
        · rw [hc] at CC
          have HR1 := Lib.hid (hn hc)
          clear hy hn hc
          go_wp2_with fail
          have OO := O
          clear O
          have O := OO
          clear OO
          refine region_T ((fun w2 => Held w w2 [(g5, 27, M.mat 4 c), (g3, 45, two .i8 u v), (g2, 29, sl a b n r)] nilRow [gE w.heap.size YA yc LB, gE w.heap.size XA xc LA])) [0, 1, 2, 3, 4, 5, 6, 7, 8, 9, 10, 11] 12 [some 128, some 129, some 130, some 131, some 132, some 133, some 134, some 135, some 136, some 137, some 138, some 139] [arr 4 c, .slice XA LA.length xc, .int .i64 (i : Int), .pointer (some ((adr XA).add (i * 8))), .pointer (some ((adr XA).add (i * 8))), .int .i64 (X), .slice XA LA.length xc, .int .i64 (i : Int), .pointer (some ((adr XA).add (i * 8))), .pointer (some ⟨((adr XA).add (i * 8)).block, ((adr XA).add (i * 8)).off + 1, none⟩), .int .i64 (Y), .bool false] 1 (by kernel_rfl) (by rfl) (by kernel_rfl) (by rfl) (by rfl) (O.drew) (fun F hF => ?_)
          simp only [fillD, Act.put, List.setIfInBounds_toArray, List.set_cons_zero, List.set_cons_succ] at hF
          subst hF
          refine ⟨⟨does_want rfl (by rfl) (fun w' O K hK => ?_), does_want rfl (by rfl) (fun w' O K hK => ?_), does_want rfl (by rfl) (fun w' O K hK => ?_), does_want rfl (by rfl) (fun w' O K hK => ?_), does_want rfl (by rfl) (fun w' O K hK => ?_), does_want rfl (by rfl) (fun w' O K hK => ?_), does_want rfl (by rfl) (fun w' O K hK => ?_), does_want rfl (by rfl) (fun w' O K hK => ?_), does_want rfl (by rfl) (fun w' O K hK => ?_), does_want rfl (by rfl) (fun w' O K hK => ?_), does_want rfl (by rfl) (fun w' O K hK => ?_), does_want rfl (by rfl) (fun w' O K hK => ?_), trivial⟩, fun w' O => ?_⟩
          · exact wp_row_h O 0 rfl rfl Try.underlying27 rfl (sR _) (hK _ O)
          · go_simp
            exact hK _ O
          · go_simp
            exact hK _ O
          · exact wp_at_h Try.underlying34 sizeOfG (gE w.heap.size XA xc LA) (O.mem (List.mem_cons_of_mem _ List.mem_cons_self)) rfl i rfl rfl (by omega) rfl (hK _ O)
          · go_simp
            exact hK _ O
          · exact wp_ecell_h (gE w.heap.size XA xc LA) (O.mem (List.mem_cons_of_mem _ List.mem_cons_self)) (i * 8) (v := .int .i64 X) FX.out rfl agg3 rfl (hK _ O)
          · go_simp
            exact hK _ O
          · go_simp
            exact hK _ O
          · exact wp_at_h Try.underlying34 sizeOfG (gE w.heap.size XA xc LA) (O.mem (List.mem_cons_of_mem _ List.mem_cons_self)) rfl i rfl rfl (by omega) rfl (hK _ O)
          · go_simp
            exact hK _ O
          · exact wp_ecell_h (gE w.heap.size XA xc LA) (O.mem (List.mem_cons_of_mem _ List.mem_cons_self)) (i * 8 + 1) (v := .int .i64 Y) FY.out (congrArg (fun z => Value.pointer (some z)) (add_fld _ (i * 8) 1 (by decide))) agg3 rfl (hK _ O)
          · go_simp
            go_at_call 20
            refine (CC _).mono ?_
            rintro e w2 ⟨rfl, hb⟩
            exact hK _ (O.call hb)
          refine wpAny_one (i := 12) (by kernel_rfl) rfl (fun K hK => ?_)
          go_simp
          refine hK _ _ ?_
          clear hK K
          try simp only [Act.put, List.setIfInBounds_toArray, List.set_cons_zero, List.set_cons_succ]
          refine wpAny_done (by kernel_rfl) ?_ _
          go_wp2_with fail
          go_roundw
          case rel => exact ⟨i + 1, by omega, by rw [HR1.out]; first | done | rfl | (go_num; done), by go_num, O⟩
          case measure => first | exact meas_lt W1 hlt | exact meas_lt2 hlt
        · rw [hc] at CC
          obtain ⟨hy1, hy2⟩ := hy hc
          have HR1 := Lib.hid hy1
          have hlt2 : cn i < LB.length := (List.getElem?_eq_some_iff.1 hy2).1
          have HG := Lib.hid hy2
          have W5 : wrap64 ((cn i : Int) + 1) = (cn i : Int) + 1 := IntWalk.wrap64_in _ (by have := HLEN.out; have := HLE.out i; omega)
          clear hy hn hc hy1 hy2
          obtain ⟨j, hj⟩ : ∃ j, cn i = j := ⟨_, rfl⟩
          rw [hj] at hlt2 HG W5 HR1 ⊢
          have HJ := Lib.hid hj
          clear hj
          have kb : decide ((LB.length : Int) ≤ j) = false := decide_eq_false (by omega)
          have kn : decide (LB.length ≤ j) = false := decide_eq_false (by omega)
          have km : ¬ LB.length ≤ j := by omega
          have q2 : (0 : Int) ≤ j := by omega
          go_wp2_with fail
          have OO := O
          clear O
          have O := OO
          clear OO
          refine region_T ((fun w2 => Held w w2 [(g5, 27, M.mat 4 c), (g3, 45, two .i8 u v), (g2, 29, sl a b n r)] nilRow [gE w.heap.size YA yc LB, gE w.heap.size XA xc LA])) [0, 1, 2, 3, 4, 5, 6, 7, 8, 9, 10, 11] 12 [some 128, some 129, some 130, some 131, some 132, some 133, some 134, some 135, some 136, some 137, some 138, some 139] [arr 4 c, .slice XA LA.length xc, .int .i64 (i : Int), .pointer (some ((adr XA).add (i * 8))), .pointer (some ((adr XA).add (i * 8))), .int .i64 (X), .slice XA LA.length xc, .int .i64 (i : Int), .pointer (some ((adr XA).add (i * 8))), .pointer (some ⟨((adr XA).add (i * 8)).block, ((adr XA).add (i * 8)).off + 1, none⟩), .int .i64 (Y), .bool true] 1 (by kernel_rfl) (by rfl) (by kernel_rfl) (by rfl) (by rfl) (O.drew) (fun F hF => ?_)
          simp only [fillD, Act.put, List.setIfInBounds_toArray, List.set_cons_zero, List.set_cons_succ] at hF
          subst hF
          refine ⟨⟨does_want rfl (by rfl) (fun w' O K hK => ?_), does_want rfl (by rfl) (fun w' O K hK => ?_), does_want rfl (by rfl) (fun w' O K hK => ?_), does_want rfl (by rfl) (fun w' O K hK => ?_), does_want rfl (by rfl) (fun w' O K hK => ?_), does_want rfl (by rfl) (fun w' O K hK => ?_), does_want rfl (by rfl) (fun w' O K hK => ?_), does_want rfl (by rfl) (fun w' O K hK => ?_), does_want rfl (by rfl) (fun w' O K hK => ?_), does_want rfl (by rfl) (fun w' O K hK => ?_), does_want rfl (by rfl) (fun w' O K hK => ?_), does_want rfl (by rfl) (fun w' O K hK => ?_), trivial⟩, fun w' O => ?_⟩
          · exact wp_row_h O 0 rfl rfl Try.underlying27 rfl (sR _) (hK _ O)
          · go_simp
            exact hK _ O
          · go_simp
            exact hK _ O
          · exact wp_at_h Try.underlying34 sizeOfG (gE w.heap.size XA xc LA) (O.mem (List.mem_cons_of_mem _ List.mem_cons_self)) rfl i rfl rfl (by omega) rfl (hK _ O)
          · go_simp
            exact hK _ O
          · exact wp_ecell_h (gE w.heap.size XA xc LA) (O.mem (List.mem_cons_of_mem _ List.mem_cons_self)) (i * 8) (v := .int .i64 X) FX.out rfl agg3 rfl (hK _ O)
          · go_simp
            exact hK _ O
          · go_simp
            exact hK _ O
          · exact wp_at_h Try.underlying34 sizeOfG (gE w.heap.size XA xc LA) (O.mem (List.mem_cons_of_mem _ List.mem_cons_self)) rfl i rfl rfl (by omega) rfl (hK _ O)
          · go_simp
            exact hK _ O
          · exact wp_ecell_h (gE w.heap.size XA xc LA) (O.mem (List.mem_cons_of_mem _ List.mem_cons_self)) (i * 8 + 1) (v := .int .i64 Y) FY.out (congrArg (fun z => Value.pointer (some z)) (add_fld _ (i * 8) 1 (by decide))) agg3 rfl (hK _ O)
          · go_simp
            go_at_call 20
            refine (CC _).mono ?_
            rintro e w2 ⟨rfl, hb⟩
            exact hK _ (O.call hb)
          refine wpAny_one (i := 12) (by kernel_rfl) rfl (fun K hK => ?_)
          go_simp
          refine hK _ _ ?_
          clear hK K
          try simp only [Act.put, List.setIfInBounds_toArray, List.set_cons_zero, List.set_cons_succ]
          refine wpAny_done (by kernel_rfl) ?_ _
          go_wp2_with fail
          have OO := O
          clear O
          have O := OO
          clear OO
          refine region_T ((fun w2 => Held w w2 [(g5, 27, M.mat 4 c), (g3, 45, two .i8 u v), (g2, 29, sl a b n r)] nilRow [gE w.heap.size YA yc LB, gE w.heap.size XA xc LA])) [0, 1, 2, 3, 4, 5, 6, 7, 8, 9, 10, 11, 12, 13] 12 [some 141, some 142, some 143, some 144, some 145, some 146, some 147, some 148, some 149, some 150, some 151, some 152, some 153, some 154] [.int .i64 (j : Int), .slice YA LB.length yc, .int .i64 (LB.length : Int), .bool false, .bool false, .slice XA LA.length xc, .int .i64 (i : Int), .pointer (some ((adr XA).add (i * 8))), arr 8 f, .slice YA LB.length yc, .int .i64 (j : Int), .pointer (some ((adr YA).add (j * 8))), arr 8 f, .bool false] 1 (by kernel_rfl) (by rfl) (by kernel_rfl) (by rfl) (by rfl) (O.drew) (fun F hF => ?_)
          simp only [fillD, Act.put, List.setIfInBounds_toArray, List.set_cons_zero, List.set_cons_succ] at hF
          subst hF
          refine ⟨⟨does_want rfl (by rfl) (fun w' O K hK => ?_), does_want rfl (by rfl) (fun w' O K hK => ?_), does_want rfl (by rfl) (fun w' O K hK => ?_), does_want rfl (by rfl) (fun w' O K hK => ?_), does_want rfl (by rfl) (fun w' O K hK => ?_), does_want rfl (by rfl) (fun w' O K hK => ?_), does_want rfl (by rfl) (fun w' O K hK => ?_), does_want rfl (by rfl) (fun w' O K hK => ?_), does_want rfl (by rfl) (fun w' O K hK => ?_), does_want rfl (by rfl) (fun w' O K hK => ?_), does_want rfl (by rfl) (fun w' O K hK => ?_), does_want rfl (by rfl) (fun w' O K hK => ?_), does_want rfl (by rfl) (fun w' O K hK => ?_), does_want rfl (by rfl) (fun w' O K hK => ?_), trivial⟩, fun w' O => ?_⟩
          · go_simp
            exact hK _ O
          · go_simp
            exact hK _ O
          · go_simp
            exact hK _ O
          · go_simp
            first | exact hK _ O | (rw [kb]; exact hK _ O) | (simp only [kb]; exact hK _ O) | (simp only [kn]; exact hK _ O) | (simp only [km, decide_false]; exact hK _ O)
          · go_simp
            exact hK _ O
          · go_simp
            exact hK _ O
          · go_simp
            exact hK _ O
          · exact wp_at_h Try.underlying34 sizeOfG (gE w.heap.size XA xc LA) (O.mem (List.mem_cons_of_mem _ List.mem_cons_self)) rfl i rfl rfl (by omega) rfl (hK _ O)
          · exact wp_elem_h (gE w.heap.size XA xc LA) (O.mem (List.mem_cons_of_mem _ List.mem_cons_self)) (i * 8) (M.mat 8 f) (gC_at HF.out) (by rw [M.mat_len]; decide) rfl Try.underlying40 rfl (sG _) (hK _ O)
          · go_simp
            exact hK _ O
          · go_simp
            exact hK _ O
          · exact wp_at_h Try.underlying34 sizeOfG (gE w.heap.size YA yc LB) (O.mem List.mem_cons_self) rfl j rfl rfl (by omega) rfl (hK _ O)
          · exact wp_elem_h (gE w.heap.size YA yc LB) (O.mem List.mem_cons_self) (j * 8) (M.mat 8 f) (gC_at HG.out) (by rw [M.mat_len]; decide) rfl Try.underlying40 rfl (sG _) (hK _ O)
          · refine wp_neqG f f rfl rfl ?_
            rw [M.eqB_refl]
            exact hK _ O
          refine wpAny_one (i := 14) (by kernel_rfl) rfl (fun K hK => ?_)
          go_simp
          refine hK _ _ ?_
          clear hK K
          try simp only [Act.put, List.setIfInBounds_toArray, List.set_cons_zero, List.set_cons_succ]
          refine wpAny_done (by kernel_rfl) ?_ _
          clear kb kn km
          go_wp2_with fail
          go_roundw
          case rel => exact ⟨i + 1, by omega, by rw [HR1.out]; first | done | rfl | (go_num; done), by go_num, O⟩
          case measure => first | exact meas_lt W1 hlt | exact meas_lt2 hlt
      · obtain ⟨k, hk⟩ : ∃ k, i = k + 1 := ⟨i - 1, by omega⟩
        obtain ⟨X0, Y0, gx, gy, ho⟩ := HPV.out k hk
        obtain ⟨wj, hkl⟩ := HDN.out k hk
        have GX := Lib.hid gx
        have GY := Lib.hid gy
        have WJ := Lib.hid wj
        have kz : decide (0 < (i : Int)) = true := decide_eq_true (by omega)
        have kz2 : decide (0 < i) = true := decide_eq_true (by omega)
        have kl : decide (Y < Y0) = false := decide_eq_false (by omega)
        have kl2 : ¬ Y < Y0 := by omega
        clear hz hk HPV HDN gx gy wj
        rcases ho with ho | ⟨ho, ho2⟩
        · have ke : (Y == Y0) = false := by simp; omega
          have ke2 : ¬ Y = Y0 := by omega
          clear ho
          have OO := O
          clear O
          have O := OO
          clear OO
          refine region_T ((fun w2 => Held w w2 [(g5, 27, M.mat 4 c), (g3, 45, two .i8 u v), (g2, 29, sl a b n r)] nilRow [gE w.heap.size YA yc LB, gE w.heap.size XA xc LA])) [0, 1, 2, 3, 4, 5, 6, 7, 8, 9, 10, 11, 12, 13, 14, 15, 16, 17, 18, 19, 20, 21, 22, 23, 24, 25, 26, 27, 28, 29, 30, 31, 32, 33, 34, 35, 36, 37, 38, 39, 40, 41, 42, 43, 44, 45, 46, 47, 48, 49, 50, 51, 52, 53, 54, 55, 56, 57, 58] 12 [some 68, some 69, some 70, some 71, some 72, some 73, some 74, some 75, some 76, some 77, some 78, some 79, some 80, some 81, some 82, some 83, some 84, some 85, some 86, some 87, some 88, some 89, some 90, some 91, some 92, some 93, some 94, some 95, some 96, some 97, some 98, some 99, some 100, some 101, some 102, some 103, some 104, some 105, some 106, some 107, some 108, some 109, some 110, some 111, some 112, some 113, some 114, some 115, some 116, some 117, some 118, some 119, some 120, some 121, some 122, some 123, some 124, some 125, some 126] [.pointer (some ⟨g2, 15, none⟩), arr 4 r, .slice XA LA.length xc, .int .i64 (i : Int), .pointer (some ((adr XA).add (i * 8))), .pointer (some ((adr XA).add (i * 8))), .int .i64 (X), .slice XA LA.length xc, .int .i64 (i : Int), .pointer (some ((adr XA).add (i * 8))), .pointer (some ⟨((adr XA).add (i * 8)).block, ((adr XA).add (i * 8)).off + 1, none⟩), .int .i64 (Y), .bool true, .bool false, .bool false, .int .i64 (i : Int), .bool true, .bool true, .slice XA LA.length xc, .int .i64 (i : Int), .pointer (some ((adr XA).add (i * 8))), .pointer (some ⟨((adr XA).add (i * 8)).block, ((adr XA).add (i * 8)).off + 1, none⟩), .int .i64 (Y), .slice XA LA.length xc, .int .i64 (i : Int), .int .i64 (k : Int), .pointer (some ((adr XA).add (k * 8))), .pointer (some ⟨((adr XA).add (k * 8)).block, ((adr XA).add (k * 8)).off + 1, none⟩), .int .i64 (Y0), .bool false, .bool false, .slice XA LA.length xc, .int .i64 (i : Int), .pointer (some ((adr XA).add (i * 8))), .pointer (some ⟨((adr XA).add (i * 8)).block, ((adr XA).add (i * 8)).off + 1, none⟩), .int .i64 (Y), .slice XA LA.length xc, .int .i64 (i : Int), .int .i64 (k : Int), .pointer (some ((adr XA).add (k * 8))), .pointer (some ⟨((adr XA).add (k * 8)).block, ((adr XA).add (k * 8)).off + 1, none⟩), .int .i64 (Y0), .bool false, .bool false, undef, undef, undef, undef, undef, undef, undef, undef, undef, undef, undef, undef, .bool false, .bool false, .bool false] 1 (by kernel_rfl) (by rfl) (by kernel_rfl) (by rfl) (by rfl) (O.drew) (fun F hF => ?_)
          simp only [fillD, Act.put, List.setIfInBounds_toArray, List.set_cons_zero, List.set_cons_succ] at hF
          subst hF
          refine ⟨⟨does_want rfl (by rfl) (fun w' O K hK => ?_), does_want rfl (by rfl) (fun w' O K hK => ?_), does_want rfl (by rfl) (fun w' O K hK => ?_), does_want rfl (by rfl) (fun w' O K hK => ?_), does_want rfl (by rfl) (fun w' O K hK => ?_), does_want rfl (by rfl) (fun w' O K hK => ?_), does_want rfl (by rfl) (fun w' O K hK => ?_), does_want rfl (by rfl) (fun w' O K hK => ?_), does_want rfl (by rfl) (fun w' O K hK => ?_), does_want rfl (by rfl) (fun w' O K hK => ?_), does_want rfl (by rfl) (fun w' O K hK => ?_), does_want rfl (by rfl) (fun w' O K hK => ?_), does_want rfl (by rfl) (fun w' O K hK => ?_), does_want rfl (by rfl) (fun w' O K hK => ?_), does_want rfl (by rfl) (fun w' O K hK => ?_), does_want rfl (by rfl) (fun w' O K hK => ?_), does_want rfl (by rfl) (fun w' O K hK => ?_), does_want rfl (by rfl) (fun w' O K hK => ?_), does_want rfl (by rfl) (fun w' O K hK => ?_), does_want rfl (by rfl) (fun w' O K hK => ?_), does_want rfl (by rfl) (fun w' O K hK => ?_), does_want rfl (by rfl) (fun w' O K hK => ?_), does_want rfl (by rfl) (fun w' O K hK => ?_), does_want rfl (by rfl) (fun w' O K hK => ?_), does_want rfl (by rfl) (fun w' O K hK => ?_), does_want rfl (by rfl) (fun w' O K hK => ?_), does_want rfl (by rfl) (fun w' O K hK => ?_), does_want rfl (by rfl) (fun w' O K hK => ?_), does_want rfl (by rfl) (fun w' O K hK => ?_), does_want rfl (by rfl) (fun w' O K hK => ?_), does_want rfl (by rfl) (fun w' O K hK => ?_), does_want rfl (by rfl) (fun w' O K hK => ?_), does_want rfl (by rfl) (fun w' O K hK => ?_), does_want rfl (by rfl) (fun w' O K hK => ?_), does_want rfl (by rfl) (fun w' O K hK => ?_), does_want rfl (by rfl) (fun w' O K hK => ?_), does_want rfl (by rfl) (fun w' O K hK => ?_), does_want rfl (by rfl) (fun w' O K hK => ?_), does_want rfl (by rfl) (fun w' O K hK => ?_), does_want rfl (by rfl) (fun w' O K hK => ?_), does_want rfl (by rfl) (fun w' O K hK => ?_), does_want rfl (by rfl) (fun w' O K hK => ?_), does_want rfl (by rfl) (fun w' O K hK => ?_), does_want rfl (by rfl) (fun w' O K hK => ?_), does_skip rfl (by rfl), does_skip rfl (by rfl), does_skip rfl (by rfl), does_skip rfl (by rfl), does_skip rfl (by rfl), does_skip rfl (by rfl), does_skip rfl (by rfl), does_skip rfl (by rfl), does_skip rfl (by rfl), does_skip rfl (by rfl), does_skip rfl (by rfl), does_skip rfl (by rfl), does_want rfl (by rfl) (fun w' O K hK => ?_), does_want rfl (by rfl) (fun w' O K hK => ?_), does_want rfl (by rfl) (fun w' O K hK => ?_), trivial⟩, fun w' O => ?_⟩
          · go_simp
            exact hK _ O
          · exact wp_mid_h O 2 rfl (M.mat 4 r) (sl_r a b n r) rfl Try.underlying27 rfl (sR _) (hK _ O)
          · go_simp
            exact hK _ O
          · go_simp
            exact hK _ O
          · exact wp_at_h Try.underlying34 sizeOfG (gE w.heap.size XA xc LA) (O.mem (List.mem_cons_of_mem _ List.mem_cons_self)) rfl i rfl rfl (by omega) rfl (hK _ O)
          · go_simp
            exact hK _ O
          · exact wp_ecell_h (gE w.heap.size XA xc LA) (O.mem (List.mem_cons_of_mem _ List.mem_cons_self)) (i * 8) (v := .int .i64 X) FX.out rfl agg3 rfl (hK _ O)
          · go_simp
            exact hK _ O
          · go_simp
            exact hK _ O
          · exact wp_at_h Try.underlying34 sizeOfG (gE w.heap.size XA xc LA) (O.mem (List.mem_cons_of_mem _ List.mem_cons_self)) rfl i rfl rfl (by omega) rfl (hK _ O)
          · go_simp
            exact hK _ O
          · exact wp_ecell_h (gE w.heap.size XA xc LA) (O.mem (List.mem_cons_of_mem _ List.mem_cons_self)) (i * 8 + 1) (v := .int .i64 Y) FY.out (congrArg (fun z => Value.pointer (some z)) (add_fld _ (i * 8) 1 (by decide))) agg3 rfl (hK _ O)
          · go_simp
            go_at_call 20
            refine (CR _).mono ?_
            rintro e w2 ⟨rfl, hb⟩
            exact hK _ (O.call hb)
          · go_simp
            exact hK _ O
          · go_simp
            exact hK _ O
          · go_simp
            exact hK _ O
          · go_simp
            first | exact hK _ O | (simp only [kz]; exact hK _ O) | (simp only [kz2]; exact hK _ O) | (rw [kz]; exact hK _ O) | (rw [kz2]; exact hK _ O)
          · go_simp
            exact hK _ O
          · go_simp
            exact hK _ O
          · go_simp
            exact hK _ O
          · exact wp_at_h Try.underlying34 sizeOfG (gE w.heap.size XA xc LA) (O.mem (List.mem_cons_of_mem _ List.mem_cons_self)) rfl i rfl rfl (by omega) rfl (hK _ O)
          · go_simp
            exact hK _ O
          · exact wp_ecell_h (gE w.heap.size XA xc LA) (O.mem (List.mem_cons_of_mem _ List.mem_cons_self)) (i * 8 + 1) (v := .int .i64 Y) FY.out (congrArg (fun z => Value.pointer (some z)) (add_fld _ (i * 8) 1 (by decide))) agg3 rfl (hK _ O)
          · go_simp
            exact hK _ O
          · go_simp
            exact hK _ O
          · go_simp
            simp only [WJ.out]
            exact hK _ O
          · exact wp_at_h Try.underlying34 sizeOfG (gE w.heap.size XA xc LA) (O.mem (List.mem_cons_of_mem _ List.mem_cons_self)) rfl k rfl rfl (by omega) rfl (hK _ O)
          · go_simp
            exact hK _ O
          · exact wp_ecell_h (gE w.heap.size XA xc LA) (O.mem (List.mem_cons_of_mem _ List.mem_cons_self)) (k * 8 + 1) (v := .int .i64 Y0) GY.out (congrArg (fun z => Value.pointer (some z)) (add_fld _ (k * 8) 1 (by decide))) agg3 rfl (hK _ O)
          · go_simp
            first | exact hK _ O | (simp only [kl]; exact hK _ O) | (simp only [kl2]; exact hK _ O) | (rw [kl]; exact hK _ O) | (rw [kl2]; exact hK _ O)
          · go_simp
            exact hK _ O
          · go_simp
            exact hK _ O
          · go_simp
            exact hK _ O
          · exact wp_at_h Try.underlying34 sizeOfG (gE w.heap.size XA xc LA) (O.mem (List.mem_cons_of_mem _ List.mem_cons_self)) rfl i rfl rfl (by omega) rfl (hK _ O)
          · go_simp
            exact hK _ O
          · exact wp_ecell_h (gE w.heap.size XA xc LA) (O.mem (List.mem_cons_of_mem _ List.mem_cons_self)) (i * 8 + 1) (v := .int .i64 Y) FY.out (congrArg (fun z => Value.pointer (some z)) (add_fld _ (i * 8) 1 (by decide))) agg3 rfl (hK _ O)
          · go_simp
            exact hK _ O
          · go_simp
            exact hK _ O
          · go_simp
            simp only [WJ.out]
            exact hK _ O
          · exact wp_at_h Try.underlying34 sizeOfG (gE w.heap.size XA xc LA) (O.mem (List.mem_cons_of_mem _ List.mem_cons_self)) rfl k rfl rfl (by omega) rfl (hK _ O)
          · go_simp
            exact hK _ O
          · exact wp_ecell_h (gE w.heap.size XA xc LA) (O.mem (List.mem_cons_of_mem _ List.mem_cons_self)) (k * 8 + 1) (v := .int .i64 Y0) GY.out (congrArg (fun z => Value.pointer (some z)) (add_fld _ (k * 8) 1 (by decide))) agg3 rfl (hK _ O)
          · go_simp
            first | exact hK _ O | (simp only [ke]; exact hK _ O) | (simp only [ke2]; exact hK _ O) | (rw [ke]; exact hK _ O) | (rw [ke2]; exact hK _ O)
          · go_simp
            exact hK _ O
          · go_simp
            exact hK _ O
          · go_simp
            exact hK _ O
          · go_simp
            exact hK _ O
          refine wpAny_one (i := 59) (by kernel_rfl) rfl (fun K hK => ?_)
          go_simp
          refine hK _ _ ?_
          clear hK K
          try simp only [Act.put, List.setIfInBounds_toArray, List.set_cons_zero, List.set_cons_succ]
          refine wpAny_done (by kernel_rfl) ?_ _
          clear CR kz kz2 kl kl2 ke ke2 GX GY WJ hkl
          cases hc : RC.has c X Y
          · rw [hc] at CC
            have HR1 := Lib.hid (hn hc)
            clear hy hn hc
            go_wp2_with fail
            have OO := O
            clear O
            have O := OO
            clear OO
            refine region_T ((fun w2 => Held w w2 [(g5, 27, M.mat 4 c), (g3, 45, two .i8 u v), (g2, 29, sl a b n r)] nilRow [gE w.heap.size YA yc LB, gE w.heap.size XA xc LA])) [0, 1, 2, 3, 4, 5, 6, 7, 8, 9, 10, 11] 12 [some 128, some 129, some 130, some 131, some 132, some 133, some 134, some 135, some 136, some 137, some 138, some 139] [arr 4 c, .slice XA LA.length xc, .int .i64 (i : Int), .pointer (some ((adr XA).add (i * 8))), .pointer (some ((adr XA).add (i * 8))), .int .i64 (X), .slice XA LA.length xc, .int .i64 (i : Int), .pointer (some ((adr XA).add (i * 8))), .pointer (some ⟨((adr XA).add (i * 8)).block, ((adr XA).add (i * 8)).off + 1, none⟩), .int .i64 (Y), .bool false] 1 (by kernel_rfl) (by rfl) (by kernel_rfl) (by rfl) (by rfl) (O.drew) (fun F hF => ?_)
            simp only [fillD, Act.put, List.setIfInBounds_toArray, List.set_cons_zero, List.set_cons_succ] at hF
            subst hF
            refine ⟨⟨does_want rfl (by rfl) (fun w' O K hK => ?_), does_want rfl (by rfl) (fun w' O K hK => ?_), does_want rfl (by rfl) (fun w' O K hK => ?_), does_want rfl (by rfl) (fun w' O K hK => ?_), does_want rfl (by rfl) (fun w' O K hK => ?_), does_want rfl (by rfl) (fun w' O K hK => ?_), does_want rfl (by rfl) (fun w' O K hK => ?_), does_want rfl (by rfl) (fun w' O K hK => ?_), does_want rfl (by rfl) (fun w' O K hK => ?_), does_want rfl (by rfl) (fun w' O K hK => ?_), does_want rfl (by rfl) (fun w' O K hK => ?_), does_want rfl (by rfl) (fun w' O K hK => ?_), trivial⟩, fun w' O => ?_⟩
            · exact wp_row_h O 0 rfl rfl Try.underlying27 rfl (sR _) (hK _ O)
            · go_simp
              exact hK _ O
            · go_simp
              exact hK _ O
            · exact wp_at_h Try.underlying34 sizeOfG (gE w.heap.size XA xc LA) (O.mem (List.mem_cons_of_mem _ List.mem_cons_self)) rfl i rfl rfl (by omega) rfl (hK _ O)
            · go_simp
              exact hK _ O
            · exact wp_ecell_h (gE w.heap.size XA xc LA) (O.mem (List.mem_cons_of_mem _ List.mem_cons_self)) (i * 8) (v := .int .i64 X) FX.out rfl agg3 rfl (hK _ O)
            · go_simp
              exact hK _ O
            · go_simp
              exact hK _ O
            · exact wp_at_h Try.underlying34 sizeOfG (gE w.heap.size XA xc LA) (O.mem (List.mem_cons_of_mem _ List.mem_cons_self)) rfl i rfl rfl (by omega) rfl (hK _ O)
            · go_simp
              exact hK _ O
            · exact wp_ecell_h (gE w.heap.size XA xc LA) (O.mem (List.mem_cons_of_mem _ List.mem_cons_self)) (i * 8 + 1) (v := .int .i64 Y) FY.out (congrArg (fun z => Value.pointer (some z)) (add_fld _ (i * 8) 1 (by decide))) agg3 rfl (hK _ O)
            · go_simp
              go_at_call 20
              refine (CC _).mono ?_
              rintro e w2 ⟨rfl, hb⟩
              exact hK _ (O.call hb)
            refine wpAny_one (i := 12) (by kernel_rfl) rfl (fun K hK => ?_)
            go_simp
            refine hK _ _ ?_
            clear hK K
            try simp only [Act.put, List.setIfInBounds_toArray, List.set_cons_zero, List.set_cons_succ]
            refine wpAny_done (by kernel_rfl) ?_ _
            go_wp2_with fail
            go_roundw
            case rel => exact ⟨i + 1, by omega, by rw [HR1.out]; first | done | rfl | (go_num; done), by go_num, O⟩
            case measure => first | exact meas_lt W1 hlt | exact meas_lt2 hlt
          · rw [hc] at CC
            obtain ⟨hy1, hy2⟩ := hy hc
            have HR1 := Lib.hid hy1
            have hlt2 : cn i < LB.length := (List.getElem?_eq_some_iff.1 hy2).1
            have HG := Lib.hid hy2
            have W5 : wrap64 ((cn i : Int) + 1) = (cn i : Int) + 1 := IntWalk.wrap64_in _ (by have := HLEN.out; have := HLE.out i; omega)
            clear hy hn hc hy1 hy2
            obtain ⟨j, hj⟩ : ∃ j, cn i = j := ⟨_, rfl⟩
            rw [hj] at hlt2 HG W5 HR1 ⊢
            have HJ := Lib.hid hj
            clear hj
            have kb : decide ((LB.length : Int) ≤ j) = false := decide_eq_false (by omega)
            have kn : decide (LB.length ≤ j) = false := decide_eq_false (by omega)
            have km : ¬ LB.length ≤ j := by omega
            have q2 : (0 : Int) ≤ j := by omega
            go_wp2_with fail
            have OO := O
            clear O
            have O := OO
            clear OO
            refine region_T ((fun w2 => Held w w2 [(g5, 27, M.mat 4 c), (g3, 45, two .i8 u v), (g2, 29, sl a b n r)] nilRow [gE w.heap.size YA yc LB, gE w.heap.size XA xc LA])) [0, 1, 2, 3, 4, 5, 6, 7, 8, 9, 10, 11] 12 [some 128, some 129, some 130, some 131, some 132, some 133, some 134, some 135, some 136, some 137, some 138, some 139] [arr 4 c, .slice XA LA.length xc, .int .i64 (i : Int), .pointer (some ((adr XA).add (i * 8))), .pointer (some ((adr XA).add (i * 8))), .int .i64 (X), .slice XA LA.length xc, .int .i64 (i : Int), .pointer (some ((adr XA).add (i * 8))), .pointer (some ⟨((adr XA).add (i * 8)).block, ((adr XA).add (i * 8)).off + 1, none⟩), .int .i64 (Y), .bool true] 1 (by kernel_rfl) (by rfl) (by kernel_rfl) (by rfl) (by rfl) (O.drew) (fun F hF => ?_)
            simp only [fillD, Act.put, List.setIfInBounds_toArray, List.set_cons_zero, List.set_cons_succ] at hF
            subst hF
            refine ⟨⟨does_want rfl (by rfl) (fun w' O K hK => ?_), does_want rfl (by rfl) (fun w' O K hK => ?_), does_want rfl (by rfl) (fun w' O K hK => ?_), does_want rfl (by rfl) (fun w' O K hK => ?_), does_want rfl (by rfl) (fun w' O K hK => ?_), does_want rfl (by rfl) (fun w' O K hK => ?_), does_want rfl (by rfl) (fun w' O K hK => ?_), does_want rfl (by rfl) (fun w' O K hK => ?_), does_want rfl (by rfl) (fun w' O K hK => ?_), does_want rfl (by rfl) (fun w' O K hK => ?_), does_want rfl (by rfl) (fun w' O K hK => ?_), does_want rfl (by rfl) (fun w' O K hK => ?_), trivial⟩, fun w' O => ?_⟩
            · exact wp_row_h O 0 rfl rfl Try.underlying27 rfl (sR _) (hK _ O)
            · go_simp
              exact hK _ O
            · go_simp
              exact hK _ O
            · exact wp_at_h Try.underlying34 sizeOfG (gE w.heap.size XA xc LA) (O.mem (List.mem_cons_of_mem _ List.mem_cons_self)) rfl i rfl rfl (by omega) rfl (hK _ O)
            · go_simp
              exact hK _ O
            · exact wp_ecell_h (gE w.heap.size XA xc LA) (O.mem (List.mem_cons_of_mem _ List.mem_cons_self)) (i * 8) (v := .int .i64 X) FX.out rfl agg3 rfl (hK _ O)
            · go_simp
              exact hK _ O
            · go_simp
              exact hK _ O
            · exact wp_at_h Try.underlying34 sizeOfG (gE w.heap.size XA xc LA) (O.mem (List.mem_cons_of_mem _ List.mem_cons_self)) rfl i rfl rfl (by omega) rfl (hK _ O)
            · go_simp
              exact hK _ O
            · exact wp_ecell_h (gE w.heap.size XA xc LA) (O.mem (List.mem_cons_of_mem _ List.mem_cons_self)) (i * 8 + 1) (v := .int .i64 Y) FY.out (congrArg (fun z => Value.pointer (some z)) (add_fld _ (i * 8) 1 (by decide))) agg3 rfl (hK _ O)
            · go_simp
              go_at_call 20
              refine (CC _).mono ?_
              rintro e w2 ⟨rfl, hb⟩
              exact hK _ (O.call hb)
            refine wpAny_one (i := 12) (by kernel_rfl) rfl (fun K hK => ?_)
            go_simp
            refine hK _ _ ?_
            clear hK K
            try simp only [Act.put, List.setIfInBounds_toArray, List.set_cons_zero, List.set_cons_succ]
            refine wpAny_done (by kernel_rfl) ?_ _
            go_wp2_with fail
            have OO := O
            clear O
            have O := OO
            clear OO
            refine region_T ((fun w2 => Held w w2 [(g5, 27, M.mat 4 c), (g3, 45, two .i8 u v), (g2, 29, sl a b n r)] nilRow [gE w.heap.size YA yc LB, gE w.heap.size XA xc LA])) [0, 1, 2, 3, 4, 5, 6, 7, 8, 9, 10, 11, 12, 13] 12 [some 141, some 142, some 143, some 144, some 145, some 146, some 147, some 148, some 149, some 150, some 151, some 152, some 153, some 154] [.int .i64 (j : Int), .slice YA LB.length yc, .int .i64 (LB.length : Int), .bool false, .bool false, .slice XA LA.length xc, .int .i64 (i : Int), .pointer (some ((adr XA).add (i * 8))), arr 8 f, .slice YA LB.length yc, .int .i64 (j : Int), .pointer (some ((adr YA).add (j * 8))), arr 8 f, .bool false] 1 (by kernel_rfl) (by rfl) (by kernel_rfl) (by rfl) (by rfl) (O.drew) (fun F hF => ?_)
            simp only [fillD, Act.put, List.setIfInBounds_toArray, List.set_cons_zero, List.set_cons_succ] at hF
            subst hF
            refine ⟨⟨does_want rfl (by rfl) (fun w' O K hK => ?_), does_want rfl (by rfl) (fun w' O K hK => ?_), does_want rfl (by rfl) (fun w' O K hK => ?_), does_want rfl (by rfl) (fun w' O K hK => ?_), does_want rfl (by rfl) (fun w' O K hK => ?_), does_want rfl (by rfl) (fun w' O K hK => ?_), does_want rfl (by rfl) (fun w' O K hK => ?_), does_want rfl (by rfl) (fun w' O K hK => ?_), does_want rfl (by rfl) (fun w' O K hK => ?_), does_want rfl (by rfl) (fun w' O K hK => ?_), does_want rfl (by rfl) (fun w' O K hK => ?_), does_want rfl (by rfl) (fun w' O K hK => ?_), does_want rfl (by rfl) (fun w' O K hK => ?_), does_want rfl (by rfl) (fun w' O K hK => ?_), trivial⟩, fun w' O => ?_⟩
            · go_simp
              exact hK _ O
            · go_simp
              exact hK _ O
            · go_simp
              exact hK _ O
            · go_simp
              first | exact hK _ O | (rw [kb]; exact hK _ O) | (simp only [kb]; exact hK _ O) | (simp only [kn]; exact hK _ O) | (simp only [km, decide_false]; exact hK _ O)
            · go_simp
              exact hK _ O
            · go_simp
              exact hK _ O
            · go_simp
              exact hK _ O
            · exact wp_at_h Try.underlying34 sizeOfG (gE w.heap.size XA xc LA) (O.mem (List.mem_cons_of_mem _ List.mem_cons_self)) rfl i rfl rfl (by omega) rfl (hK _ O)
            · exact wp_elem_h (gE w.heap.size XA xc LA) (O.mem (List.mem_cons_of_mem _ List.mem_cons_self)) (i * 8) (M.mat 8 f) (gC_at HF.out) (by rw [M.mat_len]; decide) rfl Try.underlying40 rfl (sG _) (hK _ O)
            · go_simp
              exact hK _ O
            · go_simp
              exact hK _ O
            · exact wp_at_h Try.underlying34 sizeOfG (gE w.heap.size YA yc LB) (O.mem List.mem_cons_self) rfl j rfl rfl (by omega) rfl (hK _ O)
            · exact wp_elem_h (gE w.heap.size YA yc LB) (O.mem List.mem_cons_self) (j * 8) (M.mat 8 f) (gC_at HG.out) (by rw [M.mat_len]; decide) rfl Try.underlying40 rfl (sG _) (hK _ O)
            · refine wp_neqG f f rfl rfl ?_
              rw [M.eqB_refl]
              exact hK _ O
            refine wpAny_one (i := 14) (by kernel_rfl) rfl (fun K hK => ?_)
            go_simp
            refine hK _ _ ?_
            clear hK K
            try simp only [Act.put, List.setIfInBounds_toArray, List.set_cons_zero, List.set_cons_succ]
            refine wpAny_done (by kernel_rfl) ?_ _
            clear kb kn km
            go_wp2_with fail
            go_roundw
            case rel => exact ⟨i + 1, by omega, by rw [HR1.out]; first | done | rfl | (go_num; done), by go_num, O⟩
            case measure => first | exact meas_lt W1 hlt | exact meas_lt2 hlt
        · have ke : (Y == Y0) = true := by simp; omega
          have ke2 : decide (Y = Y0) = true := decide_eq_true (by omega)
          have kx : decide (X ≤ X0) = false := decide_eq_false (by omega)
          have kx2 : ¬ X ≤ X0 := by omega
          clear ho ho2
          have OO := O
          clear O
          have O := OO
          clear OO
          refine region_T ((fun w2 => Held w w2 [(g5, 27, M.mat 4 c), (g3, 45, two .i8 u v), (g2, 29, sl a b n r)] nilRow [gE w.heap.size YA yc LB, gE w.heap.size XA xc LA])) [0, 1, 2, 3, 4, 5, 6, 7, 8, 9, 10, 11, 12, 13, 14, 15, 16, 17, 18, 19, 20, 21, 22, 23, 24, 25, 26, 27, 28, 29, 30, 31, 32, 33, 34, 35, 36, 37, 38, 39, 40, 41, 42, 43, 44, 45, 46, 47, 48, 49, 50, 51, 52, 53, 54, 55, 56, 57, 58] 12 [some 68, some 69, some 70, some 71, some 72, some 73, some 74, some 75, some 76, some 77, some 78, some 79, some 80, some 81, some 82, some 83, some 84, some 85, some 86, some 87, some 88, some 89, some 90, some 91, some 92, some 93, some 94, some 95, some 96, some 97, some 98, some 99, some 100, some 101, some 102, some 103, some 104, some 105, some 106, some 107, some 108, some 109, some 110, some 111, some 112, some 113, some 114, some 115, some 116, some 117, some 118, some 119, some 120, some 121, some 122, some 123, some 124, some 125, some 126] [.pointer (some ⟨g2, 15, none⟩), arr 4 r, .slice XA LA.length xc, .int .i64 (i : Int), .pointer (some ((adr XA).add (i * 8))), .pointer (some ((adr XA).add (i * 8))), .int .i64 (X), .slice XA LA.length xc, .int .i64 (i : Int), .pointer (some ((adr XA).add (i * 8))), .pointer (some ⟨((adr XA).add (i * 8)).block, ((adr XA).add (i * 8)).off + 1, none⟩), .int .i64 (Y), .bool true, .bool false, .bool false, .int .i64 (i : Int), .bool true, .bool true, .slice XA LA.length xc, .int .i64 (i : Int), .pointer (some ((adr XA).add (i * 8))), .pointer (some ⟨((adr XA).add (i * 8)).block, ((adr XA).add (i * 8)).off + 1, none⟩), .int .i64 (Y), .slice XA LA.length xc, .int .i64 (i : Int), .int .i64 (k : Int), .pointer (some ((adr XA).add (k * 8))), .pointer (some ⟨((adr XA).add (k * 8)).block, ((adr XA).add (k * 8)).off + 1, none⟩), .int .i64 (Y0), .bool false, .bool false, .slice XA LA.length xc, .int .i64 (i : Int), .pointer (some ((adr XA).add (i * 8))), .pointer (some ⟨((adr XA).add (i * 8)).block, ((adr XA).add (i * 8)).off + 1, none⟩), .int .i64 (Y), .slice XA LA.length xc, .int .i64 (i : Int), .int .i64 (k : Int), .pointer (some ((adr XA).add (k * 8))), .pointer (some ⟨((adr XA).add (k * 8)).block, ((adr XA).add (k * 8)).off + 1, none⟩), .int .i64 (Y0), .bool true, .bool true, .slice XA LA.length xc, .int .i64 (i : Int), .pointer (some ((adr XA).add (i * 8))), .pointer (some ((adr XA).add (i * 8))), .int .i64 (X), .slice XA LA.length xc, .int .i64 (i : Int), .int .i64 (k : Int), .pointer (some ((adr XA).add (k * 8))), .pointer (some ((adr XA).add (k * 8))), .int .i64 (X0), .bool false, .bool false, .bool false, .bool false] 1 (by kernel_rfl) (by rfl) (by kernel_rfl) (by rfl) (by rfl) (O.drew) (fun F hF => ?_)
          simp only [fillD, Act.put, List.setIfInBounds_toArray, List.set_cons_zero, List.set_cons_succ] at hF
          subst hF
          refine ⟨⟨does_want rfl (by rfl) (fun w' O K hK => ?_), does_want rfl (by rfl) (fun w' O K hK => ?_), does_want rfl (by rfl) (fun w' O K hK => ?_), does_want rfl (by rfl) (fun w' O K hK => ?_), does_want rfl (by rfl) (fun w' O K hK => ?_), does_want rfl (by rfl) (fun w' O K hK => ?_), does_want rfl (by rfl) (fun w' O K hK => ?_), does_want rfl (by rfl) (fun w' O K hK => ?_), does_want rfl (by rfl) (fun w' O K hK => ?_), does_want rfl (by rfl) (fun w' O K hK => ?_), does_want rfl (by rfl) (fun w' O K hK => ?_), does_want rfl (by rfl) (fun w' O K hK => ?_), does_want rfl (by rfl) (fun w' O K hK => ?_), does_want rfl (by rfl) (fun w' O K hK => ?_), does_want rfl (by rfl) (fun w' O K hK => ?_), does_want rfl (by rfl) (fun w' O K hK => ?_), does_want rfl (by rfl) (fun w' O K hK => ?_), does_want rfl (by rfl) (fun w' O K hK => ?_), does_want rfl (by rfl) (fun w' O K hK => ?_), does_want rfl (by rfl) (fun w' O K hK => ?_), does_want rfl (by rfl) (fun w' O K hK => ?_), does_want rfl (by rfl) (fun w' O K hK => ?_), does_want rfl (by rfl) (fun w' O K hK => ?_), does_want rfl (by rfl) (fun w' O K hK => ?_), does_want rfl (by rfl) (fun w' O K hK => ?_), does_want rfl (by rfl) (fun w' O K hK => ?_), does_want rfl (by rfl) (fun w' O K hK => ?_), does_want rfl (by rfl) (fun w' O K hK => ?_), does_want rfl (by rfl) (fun w' O K hK => ?_), does_want rfl (by rfl) (fun w' O K hK => ?_), does_want rfl (by rfl) (fun w' O K hK => ?_), does_want rfl (by rfl) (fun w' O K hK => ?_), does_want rfl (by rfl) (fun w' O K hK => ?_), does_want rfl (by rfl) (fun w' O K hK => ?_), does_want rfl (by rfl) (fun w' O K hK => ?_), does_want rfl (by rfl) (fun w' O K hK => ?_), does_want rfl (by rfl) (fun w' O K hK => ?_), does_want rfl (by rfl) (fun w' O K hK => ?_), does_want rfl (by rfl) (fun w' O K hK => ?_), does_want rfl (by rfl) (fun w' O K hK => ?_), does_want rfl (by rfl) (fun w' O K hK => ?_), does_want rfl (by rfl) (fun w' O K hK => ?_), does_want rfl (by rfl) (fun w' O K hK => ?_), does_want rfl (by rfl) (fun w' O K hK => ?_), does_want rfl (by rfl) (fun w' O K hK => ?_), does_want rfl (by rfl) (fun w' O K hK => ?_), does_want rfl (by rfl) (fun w' O K hK => ?_), does_want rfl (by rfl) (fun w' O K hK => ?_), does_want rfl (by rfl) (fun w' O K hK => ?_), does_want rfl (by rfl) (fun w' O K hK => ?_), does_want rfl (by rfl) (fun w' O K hK => ?_), does_want rfl (by rfl) (fun w' O K hK => ?_), does_want rfl (by rfl) (fun w' O K hK => ?_), does_want rfl (by rfl) (fun w' O K hK => ?_), does_want rfl (by rfl) (fun w' O K hK => ?_), does_want rfl (by rfl) (fun w' O K hK => ?_), does_want rfl (by rfl) (fun w' O K hK => ?_), does_want rfl (by rfl) (fun w' O K hK => ?_), does_want rfl (by rfl) (fun w' O K hK => ?_), trivial⟩, fun w' O => ?_⟩
          · go_simp
            exact hK _ O
          · exact wp_mid_h O 2 rfl (M.mat 4 r) (sl_r a b n r) rfl Try.underlying27 rfl (sR _) (hK _ O)
          · go_simp
            exact hK _ O
          · go_simp
            exact hK _ O
          · exact wp_at_h Try.underlying34 sizeOfG (gE w.heap.size XA xc LA) (O.mem (List.mem_cons_of_mem _ List.mem_cons_self)) rfl i rfl rfl (by omega) rfl (hK _ O)
          · go_simp
            exact hK _ O
          · exact wp_ecell_h (gE w.heap.size XA xc LA) (O.mem (List.mem_cons_of_mem _ List.mem_cons_self)) (i * 8) (v := .int .i64 X) FX.out rfl agg3 rfl (hK _ O)
          · go_simp
            exact hK _ O
          · go_simp
            exact hK _ O
          · exact wp_at_h Try.underlying34 sizeOfG (gE w.heap.size XA xc LA) (O.mem (List.mem_cons_of_mem _ List.mem_cons_self)) rfl i rfl rfl (by omega) rfl (hK _ O)
          · go_simp
            exact hK _ O
          · exact wp_ecell_h (gE w.heap.size XA xc LA) (O.mem (List.mem_cons_of_mem _ List.mem_cons_self)) (i * 8 + 1) (v := .int .i64 Y) FY.out (congrArg (fun z => Value.pointer (some z)) (add_fld _ (i * 8) 1 (by decide))) agg3 rfl (hK _ O)
          · go_simp
            go_at_call 20
            refine (CR _).mono ?_
            rintro e w2 ⟨rfl, hb⟩
            exact hK _ (O.call hb)
          · go_simp
            exact hK _ O
          · go_simp
            exact hK _ O
          · go_simp
            exact hK _ O
          · go_simp
            first | exact hK _ O | (simp only [kz]; exact hK _ O) | (simp only [kz2]; exact hK _ O) | (rw [kz]; exact hK _ O) | (rw [kz2]; exact hK _ O)
          · go_simp
            exact hK _ O
          · go_simp
            exact hK _ O
          · go_simp
            exact hK _ O
          · exact wp_at_h Try.underlying34 sizeOfG (gE w.heap.size XA xc LA) (O.mem (List.mem_cons_of_mem _ List.mem_cons_self)) rfl i rfl rfl (by omega) rfl (hK _ O)
          · go_simp
            exact hK _ O
          · exact wp_ecell_h (gE w.heap.size XA xc LA) (O.mem (List.mem_cons_of_mem _ List.mem_cons_self)) (i * 8 + 1) (v := .int .i64 Y) FY.out (congrArg (fun z => Value.pointer (some z)) (add_fld _ (i * 8) 1 (by decide))) agg3 rfl (hK _ O)
          · go_simp
            exact hK _ O
          · go_simp
            exact hK _ O
          · go_simp
            simp only [WJ.out]
            exact hK _ O
          · exact wp_at_h Try.underlying34 sizeOfG (gE w.heap.size XA xc LA) (O.mem (List.mem_cons_of_mem _ List.mem_cons_self)) rfl k rfl rfl (by omega) rfl (hK _ O)
          · go_simp
            exact hK _ O
          · exact wp_ecell_h (gE w.heap.size XA xc LA) (O.mem (List.mem_cons_of_mem _ List.mem_cons_self)) (k * 8 + 1) (v := .int .i64 Y0) GY.out (congrArg (fun z => Value.pointer (some z)) (add_fld _ (k * 8) 1 (by decide))) agg3 rfl (hK _ O)
          · go_simp
            first | exact hK _ O | (simp only [kl]; exact hK _ O) | (simp only [kl2]; exact hK _ O) | (rw [kl]; exact hK _ O) | (rw [kl2]; exact hK _ O)
          · go_simp
            exact hK _ O
          · go_simp
            exact hK _ O
          · go_simp
            exact hK _ O
          · exact wp_at_h Try.underlying34 sizeOfG (gE w.heap.size XA xc LA) (O.mem (List.mem_cons_of_mem _ List.mem_cons_self)) rfl i rfl rfl (by omega) rfl (hK _ O)
          · go_simp
            exact hK _ O
          · exact wp_ecell_h (gE w.heap.size XA xc LA) (O.mem (List.mem_cons_of_mem _ List.mem_cons_self)) (i * 8 + 1) (v := .int .i64 Y) FY.out (congrArg (fun z => Value.pointer (some z)) (add_fld _ (i * 8) 1 (by decide))) agg3 rfl (hK _ O)
          · go_simp
            exact hK _ O
          · go_simp
            exact hK _ O
          · go_simp
            simp only [WJ.out]
            exact hK _ O
          · exact wp_at_h Try.underlying34 sizeOfG (gE w.heap.size XA xc LA) (O.mem (List.mem_cons_of_mem _ List.mem_cons_self)) rfl k rfl rfl (by omega) rfl (hK _ O)
          · go_simp
            exact hK _ O
          · exact wp_ecell_h (gE w.heap.size XA xc LA) (O.mem (List.mem_cons_of_mem _ List.mem_cons_self)) (k * 8 + 1) (v := .int .i64 Y0) GY.out (congrArg (fun z => Value.pointer (some z)) (add_fld _ (k * 8) 1 (by decide))) agg3 rfl (hK _ O)
          · go_simp
            first | exact hK _ O | (simp only [ke]; exact hK _ O) | (simp only [ke2]; exact hK _ O) | (rw [ke]; exact hK _ O) | (rw [ke2]; exact hK _ O)
          · go_simp
            exact hK _ O
          · go_simp
            exact hK _ O
          · go_simp
            exact hK _ O
          · exact wp_at_h Try.underlying34 sizeOfG (gE w.heap.size XA xc LA) (O.mem (List.mem_cons_of_mem _ List.mem_cons_self)) rfl i rfl rfl (by omega) rfl (hK _ O)
          · go_simp
            exact hK _ O
          · exact wp_ecell_h (gE w.heap.size XA xc LA) (O.mem (List.mem_cons_of_mem _ List.mem_cons_self)) (i * 8) (v := .int .i64 X) FX.out rfl agg3 rfl (hK _ O)
          · go_simp
            exact hK _ O
          · go_simp
            exact hK _ O
          · go_simp
            simp only [WJ.out]
            exact hK _ O
          · exact wp_at_h Try.underlying34 sizeOfG (gE w.heap.size XA xc LA) (O.mem (List.mem_cons_of_mem _ List.mem_cons_self)) rfl k rfl rfl (by omega) rfl (hK _ O)
          · go_simp
            exact hK _ O
          · exact wp_ecell_h (gE w.heap.size XA xc LA) (O.mem (List.mem_cons_of_mem _ List.mem_cons_self)) (k * 8) (v := .int .i64 X0) GX.out rfl agg3 rfl (hK _ O)
          · go_simp
            first | exact hK _ O | (simp only [kx]; exact hK _ O) | (simp only [kx2]; exact hK _ O) | (rw [kx]; exact hK _ O) | (rw [kx2]; exact hK _ O)
          · go_simp
            exact hK _ O
          · go_simp
            exact hK _ O
          · go_simp
            exact hK _ O
          refine wpAny_one (i := 59) (by kernel_rfl) rfl (fun K hK => ?_)
          go_simp
          refine hK _ _ ?_
          clear hK K
          try simp only [Act.put, List.setIfInBounds_toArray, List.set_cons_zero, List.set_cons_succ]
          refine wpAny_done (by kernel_rfl) ?_ _
          clear CR kz kz2 kl kl2 ke ke2 kx kx2 GX GY WJ hkl
          cases hc : RC.has c X Y
          · rw [hc] at CC
            have HR1 := Lib.hid (hn hc)
            clear hy hn hc
            go_wp2_with fail
            have OO := O
            clear O
            have O := OO
            clear OO
            refine region_T ((fun w2 => Held w w2 [(g5, 27, M.mat 4 c), (g3, 45, two .i8 u v), (g2, 29, sl a b n r)] nilRow [gE w.heap.size YA yc LB, gE w.heap.size XA xc LA])) [0, 1, 2, 3, 4, 5, 6, 7, 8, 9, 10, 11] 12 [some 128, some 129, some 130, some 131, some 132, some 133, some 134, some 135, some 136, some 137, some 138, some 139] [arr 4 c, .slice XA LA.length xc, .int .i64 (i : Int), .pointer (some ((adr XA).add (i * 8))), .pointer (some ((adr XA).add (i * 8))), .int .i64 (X), .slice XA LA.length xc, .int .i64 (i : Int), .pointer (some ((adr XA).add (i * 8))), .pointer (some ⟨((adr XA).add (i * 8)).block, ((adr XA).add (i * 8)).off + 1, none⟩), .int .i64 (Y), .bool false] 1 (by kernel_rfl) (by rfl) (by kernel_rfl) (by rfl) (by rfl) (O.drew) (fun F hF => ?_)
            simp only [fillD, Act.put, List.setIfInBounds_toArray, List.set_cons_zero, List.set_cons_succ] at hF
            subst hF
            refine ⟨⟨does_want rfl (by rfl) (fun w' O K hK => ?_), does_want rfl (by rfl) (fun w' O K hK => ?_), does_want rfl (by rfl) (fun w' O K hK => ?_), does_want rfl (by rfl) (fun w' O K hK => ?_), does_want rfl (by rfl) (fun w' O K hK => ?_), does_want rfl (by rfl) (fun w' O K hK => ?_), does_want rfl (by rfl) (fun w' O K hK => ?_), does_want rfl (by rfl) (fun w' O K hK => ?_), does_want rfl (by rfl) (fun w' O K hK => ?_), does_want rfl (by rfl) (fun w' O K hK => ?_), does_want rfl (by rfl) (fun w' O K hK => ?_), does_want rfl (by rfl) (fun w' O K hK => ?_), trivial⟩, fun w' O => ?_⟩
            · exact wp_row_h O 0 rfl rfl Try.underlying27 rfl (sR _) (hK _ O)
            · go_simp
              exact hK _ O
            · go_simp
              exact hK _ O
            · exact wp_at_h Try.underlying34 sizeOfG (gE w.heap.size XA xc LA) (O.mem (List.mem_cons_of_mem _ List.mem_cons_self)) rfl i rfl rfl (by omega) rfl (hK _ O)
            · go_simp
              exact hK _ O
            · exact wp_ecell_h (gE w.heap.size XA xc LA) (O.mem (List.mem_cons_of_mem _ List.mem_cons_self)) (i * 8) (v := .int .i64 X) FX.out rfl agg3 rfl (hK _ O)
            · go_simp
              exact hK _ O
            · go_simp
              exact hK _ O
            · exact wp_at_h Try.underlying34 sizeOfG (gE w.heap.size XA xc LA) (O.mem (List.mem_cons_of_mem _ List.mem_cons_self)) rfl i rfl rfl (by omega) rfl (hK _ O)
            · go_simp
              exact hK _ O
            · exact wp_ecell_h (gE w.heap.size XA xc LA) (O.mem (List.mem_cons_of_mem _ List.mem_cons_self)) (i * 8 + 1) (v := .int .i64 Y) FY.out (congrArg (fun z => Value.pointer (some z)) (add_fld _ (i * 8) 1 (by decide))) agg3 rfl (hK _ O)
            · go_simp
              go_at_call 20
              refine (CC _).mono ?_
              rintro e w2 ⟨rfl, hb⟩
              exact hK _ (O.call hb)
            refine wpAny_one (i := 12) (by kernel_rfl) rfl (fun K hK => ?_)
            go_simp
            refine hK _ _ ?_
            clear hK K
            try simp only [Act.put, List.setIfInBounds_toArray, List.set_cons_zero, List.set_cons_succ]
            refine wpAny_done (by kernel_rfl) ?_ _
            go_wp2_with fail
            go_roundw
            case rel => exact ⟨i + 1, by omega, by rw [HR1.out]; first | done | rfl | (go_num; done), by go_num, O⟩
            case measure => first | exact meas_lt W1 hlt | exact meas_lt2 hlt
          · rw [hc] at CC
            obtain ⟨hy1, hy2⟩ := hy hc
            have HR1 := Lib.hid hy1
            have hlt2 : cn i < LB.length := (List.getElem?_eq_some_iff.1 hy2).1
            have HG := Lib.hid hy2
            have W5 : wrap64 ((cn i : Int) + 1) = (cn i : Int) + 1 := IntWalk.wrap64_in _ (by have := HLEN.out; have := HLE.out i; omega)
            clear hy hn hc hy1 hy2
            obtain ⟨j, hj⟩ : ∃ j, cn i = j := ⟨_, rfl⟩
            rw [hj] at hlt2 HG W5 HR1 ⊢
            have HJ := Lib.hid hj
            clear hj
            have kb : decide ((LB.length : Int) ≤ j) = false := decide_eq_false (by omega)
            have kn : decide (LB.length ≤ j) = false := decide_eq_false (by omega)
            have km : ¬ LB.length ≤ j := by omega
            have q2 : (0 : Int) ≤ j := by omega
            go_wp2_with fail
            have OO := O
            clear O
            have O := OO
            clear OO
            refine region_T ((fun w2 => Held w w2 [(g5, 27, M.mat 4 c), (g3, 45, two .i8 u v), (g2, 29, sl a b n r)] nilRow [gE w.heap.size YA yc LB, gE w.heap.size XA xc LA])) [0, 1, 2, 3, 4, 5, 6, 7, 8, 9, 10, 11] 12 [some 128, some 129, some 130, some 131, some 132, some 133, some 134, some 135, some 136, some 137, some 138, some 139] [arr 4 c, .slice XA LA.length xc, .int .i64 (i : Int), .pointer (some ((adr XA).add (i * 8))), .pointer (some ((adr XA).add (i * 8))), .int .i64 (X), .slice XA LA.length xc, .int .i64 (i : Int), .pointer (some ((adr XA).add (i * 8))), .pointer (some ⟨((adr XA).add (i * 8)).block, ((adr XA).add (i * 8)).off + 1, none⟩), .int .i64 (Y), .bool true] 1 (by kernel_rfl) (by rfl) (by kernel_rfl) (by rfl) (by rfl) (O.drew) (fun F hF => ?_)
            simp only [fillD, Act.put, List.setIfInBounds_toArray, List.set_cons_zero, List.set_cons_succ] at hF
            subst hF
            refine ⟨⟨does_want rfl (by rfl) (fun w' O K hK => ?_), does_want rfl (by rfl) (fun w' O K hK => ?_), does_want rfl (by rfl) (fun w' O K hK => ?_), does_want rfl (by rfl) (fun w' O K hK => ?_), does_want rfl (by rfl) (fun w' O K hK => ?_), does_want rfl (by rfl) (fun w' O K hK => ?_), does_want rfl (by rfl) (fun w' O K hK => ?_), does_want rfl (by rfl) (fun w' O K hK => ?_), does_want rfl (by rfl) (fun w' O K hK => ?_), does_want rfl (by rfl) (fun w' O K hK => ?_), does_want rfl (by rfl) (fun w' O K hK => ?_), does_want rfl (by rfl) (fun w' O K hK => ?_), trivial⟩, fun w' O => ?_⟩
            · exact wp_row_h O 0 rfl rfl Try.underlying27 rfl (sR _) (hK _ O)
            · go_simp
              exact hK _ O
            · go_simp
              exact hK _ O
            · exact wp_at_h Try.underlying34 sizeOfG (gE w.heap.size XA xc LA) (O.mem (List.mem_cons_of_mem _ List.mem_cons_self)) rfl i rfl rfl (by omega) rfl (hK _ O)
            · go_simp
              exact hK _ O
            · exact wp_ecell_h (gE w.heap.size XA xc LA) (O.mem (List.mem_cons_of_mem _ List.mem_cons_self)) (i * 8) (v := .int .i64 X) FX.out rfl agg3 rfl (hK _ O)
            · go_simp
              exact hK _ O
            · go_simp
              exact hK _ O
            · exact wp_at_h Try.underlying34 sizeOfG (gE w.heap.size XA xc LA) (O.mem (List.mem_cons_of_mem _ List.mem_cons_self)) rfl i rfl rfl (by omega) rfl (hK _ O)
            · go_simp
              exact hK _ O
            · exact wp_ecell_h (gE w.heap.size XA xc LA) (O.mem (List.mem_cons_of_mem _ List.mem_cons_self)) (i * 8 + 1) (v := .int .i64 Y) FY.out (congrArg (fun z => Value.pointer (some z)) (add_fld _ (i * 8) 1 (by decide))) agg3 rfl (hK _ O)
            · go_simp
              go_at_call 20
              refine (CC _).mono ?_
              rintro e w2 ⟨rfl, hb⟩
              exact hK _ (O.call hb)
            refine wpAny_one (i := 12) (by kernel_rfl) rfl (fun K hK => ?_)
            go_simp
            refine hK _ _ ?_
            clear hK K
            try simp only [Act.put, List.setIfInBounds_toArray, List.set_cons_zero, List.set_cons_succ]
            refine wpAny_done (by kernel_rfl) ?_ _
            go_wp2_with fail
            have OO := O
            clear O
            have O := OO
            clear OO
            refine region_T ((fun w2 => Held w w2 [(g5, 27, M.mat 4 c), (g3, 45, two .i8 u v), (g2, 29, sl a b n r)] nilRow [gE w.heap.size YA yc LB, gE w.heap.size XA xc LA])) [0, 1, 2, 3, 4, 5, 6, 7, 8, 9, 10, 11, 12, 13] 12 [some 141, some 142, some 143, some 144, some 145, some 146, some 147, some 148, some 149, some 150, some 151, some 152, some 153, some 154] [.int .i64 (j : Int), .slice YA LB.length yc, .int .i64 (LB.length : Int), .bool false, .bool false, .slice XA LA.length xc, .int .i64 (i : Int), .pointer (some ((adr XA).add (i * 8))), arr 8 f, .slice YA LB.length yc, .int .i64 (j : Int), .pointer (some ((adr YA).add (j * 8))), arr 8 f, .bool false] 1 (by kernel_rfl) (by rfl) (by kernel_rfl) (by rfl) (by rfl) (O.drew) (fun F hF => ?_)
            simp only [fillD, Act.put, List.setIfInBounds_toArray, List.set_cons_zero, List.set_cons_succ] at hF
            subst hF
            refine ⟨⟨does_want rfl (by rfl) (fun w' O K hK => ?_), does_want rfl (by rfl) (fun w' O K hK => ?_), does_want rfl (by rfl) (fun w' O K hK => ?_), does_want rfl (by rfl) (fun w' O K hK => ?_), does_want rfl (by rfl) (fun w' O K hK => ?_), does_want rfl (by rfl) (fun w' O K hK => ?_), does_want rfl (by rfl) (fun w' O K hK => ?_), does_want rfl (by rfl) (fun w' O K hK => ?_), does_want rfl (by rfl) (fun w' O K hK => ?_), does_want rfl (by rfl) (fun w' O K hK => ?_), does_want rfl (by rfl) (fun w' O K hK => ?_), does_want rfl (by rfl) (fun w' O K hK => ?_), does_want rfl (by rfl) (fun w' O K hK => ?_), does_want rfl (by rfl) (fun w' O K hK => ?_), trivial⟩, fun w' O => ?_⟩
            · go_simp
              exact hK _ O
            · go_simp
              exact hK _ O
            · go_simp
              exact hK _ O
            · go_simp
              first | exact hK _ O | (rw [kb]; exact hK _ O) | (simp only [kb]; exact hK _ O) | (simp only [kn]; exact hK _ O) | (simp only [km, decide_false]; exact hK _ O)
            · go_simp
              exact hK _ O
            · go_simp
              exact hK _ O
            · go_simp
              exact hK _ O
            · exact wp_at_h Try.underlying34 sizeOfG (gE w.heap.size XA xc LA) (O.mem (List.mem_cons_of_mem _ List.mem_cons_self)) rfl i rfl rfl (by omega) rfl (hK _ O)
            · exact wp_elem_h (gE w.heap.size XA xc LA) (O.mem (List.mem_cons_of_mem _ List.mem_cons_self)) (i * 8) (M.mat 8 f) (gC_at HF.out) (by rw [M.mat_len]; decide) rfl Try.underlying40 rfl (sG _) (hK _ O)
            · go_simp
              exact hK _ O
            · go_simp
              exact hK _ O
            · exact wp_at_h Try.underlying34 sizeOfG (gE w.heap.size YA yc LB) (O.mem List.mem_cons_self) rfl j rfl rfl (by omega) rfl (hK _ O)
            · exact wp_elem_h (gE w.heap.size YA yc LB) (O.mem List.mem_cons_self) (j * 8) (M.mat 8 f) (gC_at HG.out) (by rw [M.mat_len]; decide) rfl Try.underlying40 rfl (sG _) (hK _ O)
            · refine wp_neqG f f rfl rfl ?_
              rw [M.eqB_refl]
              exact hK _ O
            refine wpAny_one (i := 14) (by kernel_rfl) rfl (fun K hK => ?_)
            go_simp
            refine hK _ _ ?_
            clear hK K
            try simp only [Act.put, List.setIfInBounds_toArray, List.set_cons_zero, List.set_cons_succ]
            refine wpAny_done (by kernel_rfl) ?_ _
            clear kb kn km
            go_wp2_with fail
            go_roundw
            case rel => exact ⟨i + 1, by omega, by rw [HR1.out]; first | done | rfl | (go_num; done), by go_num, O⟩
            case measure => first | exact meas_lt W1 hlt | exact meas_lt2 hlt
    · have q1 : ¬ (i : Int) < LA.length := by omega
      obtain rfl : i = LA.length := by omega
      have he := HE.out
      rw [he]
      clear he hlt
      go_wp2_with (go_at_call 9; refine (awake_any _).mono ?_; rintro e w20 ⟨rfl, hb⟩; replace O := O.call hb; clear hb)
      go_ret
      exact ⟨rfl, O.below⟩

theorem readable : ∀ t ∈ Try.f7.params.toList, Try.prog.readableRec t = true ∧ t < Try.prog.types.size := by
  intro t ht
  rw [Try.params7] at ht
  simp only [List.mem_cons, List.not_mem_nil, or_false] at ht
  repeat (first | (rcases ht with rfl | ht; exact ⟨by kernel_rfl, of_decide_eq_true (by kernel_rfl)⟩) | (subst ht; exact ⟨by kernel_rfl, of_decide_eq_true (by kernel_rfl)⟩))
set_option maxRecDepth 100000 in
theorem lifted (os : Os) (started : os.Started) (H : Type) (enc : TypeId × Value → H) :
    ReturnsInHanded {} Try.checked os 7 .any (Rows.smoothRectsSpec.pre6 enc Try.prog Try.f7 Rows.smoothRectsRow.domain false) (Rows.smoothRectsSpec.post enc Try.prog Try.f7 false true false false) := by
  refine returnsInHanded_of_change (C := Try.checked) own started (by kernel_rfl) Try.func7
    (ChangeSpec.witness6 (enc := enc) (C := Try.checked) false ⟨#[], #[.agg #[.int .i64 0, .int .i64 0, .int .i64 0, .int .i64 0, .int .i64 0, .int .i64 0, .int .i64 0, .int .i64 0, .int .i64 0, .int .i64 0, .int .i64 0, .int .i64 0, .int .i64 0, .int .i64 0, .int .i64 0, .int .i64 0, .int .i64 0, .int .i64 0, .int .i64 0], .agg #[.int .i8 0, .int .i8 0]], []⟩ 8 (by kernel_rfl) (by kernel_rfl) (by kernel_rfl) (by kernel_rfl)) ?_
  intro W base args ds gs before hval0 hW hcnd _
  have hval : ∀ (j : Nat) t v, Try.f7.params[j]? = some t → args[j]? = some v → Value.okWide Try.prog W .any base t v := hval0
  have hW' := hW
  obtain ⟨p, q, hA0, hV, rfl, hfz, hnd⟩ := hW
  have hA : DataW.TrodAll enc Try.prog W 0 (fun _ => true) true Try.f7.params.toList args.toList ds p := hA0
  rw [Try.params7] at hA hval
  have hlt : ∀ x ∈ p ++ q, x.block < W.heap.size := fun x hx => hW'.lt x hx
  obtain ⟨v0, vs0, d0, ds0, p0, q0, hargs, rfl, rfl, h0, rr0⟩ := trodAll_cons hA
  obtain ⟨v1, vs1, d1, ds1, p1, q1, rfl, rfl, rfl, h1, rr1⟩ := trodAll_cons rr0
  obtain ⟨rfl, rfl, rfl⟩ := trodAll_nil rr1
  obtain rfl : args = #[v0, v1] := by cases args; simp_all
  obtain ⟨rfl, rfl⟩ := trodVars_none hV
  obtain ⟨a0, b0, n0, r0, rfl⟩ := openSLine (hval 0 29 v0 rfl rfl) h0
  obtain ⟨x1, y1, rfl, z1⟩ := openTwo8 (hval 1 45 v1 rfl rfl) h1
  clear hA0 hval0
  refine (walk W a0 b0 n0 r0 x1 y1 z1).mono fun e W' ⟨he, hg⟩ => ?_
  subst he
  exact ⟨_, rfl, post_true (tb := 4) laid readable (by kernel_rfl) Try.underlying4 rfl (fun l hl => by
    match l, hl with
    | [_, _], _ => exact ⟨rfl, rfl, rfl⟩) hW' hg⟩

theorem over : Rows.smoothRectsRow.holds Try.pinned (OpenSpec.ofChange Rows.smoothRectsSpec) :=
  OpenClaim.holds_of_wide 7 Try.f7 rfl rfl rfl rfl rfl rfl rfl ⟨rfl, rfl, rfl, rfl, rfl⟩ rfl rfl rfl rfl rfl (by kernel_rfl) Try.func7 (by kernel_rfl)
    (of_decide_eq_true (by kernel_rfl)) (by unfold Func.isWrapper; first | (rw [if_pos (by decide +kernel)]; kernel_rfl) | (rw [if_neg (by decide +kernel)]; exact ⟨rfl, rfl⟩))
    (fun os started H enc _ => lifted os started H enc)

theorem proved : Rows.SmoothRectsSaid :=
  over
#print axioms proved
end Go.Proofs.Ytdkppkdoconfhaa.smoothRects
