/-
  RectOnce: for every two rectangles, any corner and any pixel, the pixel is in just one part of the first one if it is one of its pixels, and in none else; so too in what both have and what the first one has alone.
-/
import Derived.Test.YthioeohmnlppcaaWg
import Derived.Test.YthioeohmnlppcaaWh
import Derived.Test.YthioeohmnlppcaaWi
import Derived.Test.YthioeohmnlppcaaLz
import Derived.Deep.DeepCutAuto
namespace Go.Proofs.Ythioeohmnlppcaa.rectOnce
open Go.ChangeShapes Go.WideShapes Go.ChangeAt Go.RowKit
set_option linter.unusedVariables false
set_option linter.unusedSimpArgs false

theorem own : ownKnob Try.prog.godebug = none := by kernel_rfl

set_option maxRecDepth 100000 in
set_option maxHeartbeats 16000000 in
theorem walk (w : World) (a b t p : Nat → Int) :
    Calls Try.prog 5 #[.agg (spot a b t p).toArray] w fun e w' => e = .returned (.bool true) ∧ Below w.heap.size w w' := by
  have O := Own.start w
  have CH := fun w => has_any a (p 0) (p 1) w
  have CG := fun x w => has_any x (p 0) (p 1) w
  have CP := fun w => parts_any a (t 0) (t 1) w
  have CA := fun w => and_any a b w
  have CM := fun w => minus_any a b w
  have l1 := RC.parts_len a (t 0) (t 1)
  have l2 := RC.minus_len a b
  have s1 := RC.count_parts a (t 0) (t 1) (p 0) (p 1)
  have s2 := RC.count_all a b (p 0) (p 1)
  generalize RC.parts a (t 0) (t 1) = m at *
  generalize RC.minus a b = l at *
  generalize RC.both a b = c at *
  obtain ⟨p0, ep0⟩ : ∃ z, p 0 = z := ⟨_, rfl⟩
  have Cp0 := cell_is (n := 2) ep0 (by decide)
  obtain ⟨p1, ep1⟩ : ∃ z, p 1 = z := ⟨_, rfl⟩
  have Cp1 := cell_is (n := 2) ep1 (by decide)
  obtain ⟨t0, et0⟩ : ∃ z, t 0 = z := ⟨_, rfl⟩
  have Ct0 := cell_is (n := 2) et0 (by decide)
  obtain ⟨t1, et1⟩ : ∃ z, t 1 = z := ⟨_, rfl⟩
  have Ct1 := cell_is (n := 2) et1 (by decide)
  rw [ep0, ep1] at CH CG s1 s2
  rw [et0, et1] at CP
  clear ep0 ep1 et0 et1
  have HD : apart [⟨8, 12, 23, M.mat 4 M.zero, M.mat 4 a⟩, ⟨9, 13, 23, M.mat 4 M.zero, M.mat 4 b⟩, ⟨10, 14, 24, M.mat 2 M.zero, M.mat 2 t⟩, ⟨11, 99, 24, M.mat 2 M.zero, M.mat 2 M.zero⟩] := (by decide : [8, 12, 9, 13, 10, 14, 11, 99].Nodup)
  have L1 := Lib.hid l1
  have L2 := Lib.hid l2
  clear l1 l2
  cases hh : RC.has a p0 p1
  · rw [hh] at CH s1 s2
    clear hh
    have S1 : Hid (RC.count p0 p1 m = 0) := Lib.hid s1
    have S2 : Hid (RC.count p0 p1 (c :: l) = 0) := Lib.hid s2
    clear s1 s2
    have tok0 : True := trivial
    go_enter Try.func5, Try.ntmps5
    go_wp2_with ((with_reducible refine at_box 1 ?_); refine wpList_box_own O (spot a b t p) rfl ?_; clear O; intro g1 w1 O)
    refine region_S (fun st w2 => NB w [(g1, 39, spot a b t p)] [⟨8, 12, 23, M.mat 4 M.zero, M.mat 4 a⟩, ⟨9, 13, 23, M.mat 4 M.zero, M.mat 4 b⟩, ⟨10, 14, 24, M.mat 2 M.zero, M.mat 2 t⟩, ⟨11, 99, 24, M.mat 2 M.zero, M.mat 2 M.zero⟩] st w2) [8, 9, 10, 11, 12, 13, 14] 12 15 [some 13, some 14, some 15, some 16, some 17, some 18, some 19, some 20, some 3, some 4, some 5, some 6, none, none, none] (fun g => [.pointer (some ⟨g1, 0, none⟩), arr 4 a, .pointer (some ⟨g1, 4, none⟩), arr 4 b, .pointer (some ⟨g1, 8, none⟩), arr 2 t, .pointer (some ⟨g1, 10, none⟩), arr 2 p, g 8, g 9, g 10, g 11, g 12, g 13, g 14]) 1 (by kernel_rfl) (by kernel_rfl) (by rfl) (by rfl) (fun _ => rfl) (by decide) ?_ (NB.start O.drew) (fun F hF => ?_)
    · intro i hi
      simp only [List.mem_cons, List.not_mem_nil, or_false] at hi
      rcases hi with rfl | rfl | rfl | rfl | rfl | rfl | rfl
      · exact ⟨fun _ => rfl, [0, 1, 2, 3, 4, 5, 6, 7, 9, 10, 11, 12, 13, 14], by kernel_rfl, fun g v => ⟨rfl, rfl, rfl, rfl, rfl, rfl, rfl, rfl, rfl, rfl, rfl, rfl, rfl, rfl, trivial⟩⟩
      · exact ⟨fun _ => rfl, [0, 1, 2, 3, 4, 5, 6, 7, 8, 10, 11, 12, 13, 14], by kernel_rfl, fun g v => ⟨rfl, rfl, rfl, rfl, rfl, rfl, rfl, rfl, rfl, rfl, rfl, rfl, rfl, rfl, trivial⟩⟩
      · exact ⟨fun _ => rfl, [0, 1, 2, 3, 4, 5, 6, 7, 8, 9, 11, 12, 13, 14], by kernel_rfl, fun g v => ⟨rfl, rfl, rfl, rfl, rfl, rfl, rfl, rfl, rfl, rfl, rfl, rfl, rfl, rfl, trivial⟩⟩
      · exact ⟨fun _ => rfl, [0, 1, 2, 3, 4, 5, 6, 7, 8, 9, 10, 12, 13, 14], by kernel_rfl, fun g v => ⟨rfl, rfl, rfl, rfl, rfl, rfl, rfl, rfl, rfl, rfl, rfl, rfl, rfl, rfl, trivial⟩⟩
      · exact ⟨fun _ => rfl, [0, 1, 2, 3, 4, 5, 6, 7, 8, 9, 10, 11, 13, 14], by kernel_rfl, fun g v => ⟨rfl, rfl, rfl, rfl, rfl, rfl, rfl, rfl, rfl, rfl, rfl, rfl, rfl, rfl, trivial⟩⟩
      · exact ⟨fun _ => rfl, [0, 1, 2, 3, 4, 5, 6, 7, 8, 9, 10, 11, 12, 14], by kernel_rfl, fun g v => ⟨rfl, rfl, rfl, rfl, rfl, rfl, rfl, rfl, rfl, rfl, rfl, rfl, rfl, rfl, trivial⟩⟩
      · exact ⟨fun _ => rfl, [0, 1, 2, 3, 4, 5, 6, 7, 8, 9, 10, 11, 12, 13], by kernel_rfl, fun g v => ⟨rfl, rfl, rfl, rfl, rfl, rfl, rfl, rfl, rfl, rfl, rfl, rfl, rfl, rfl, trivial⟩⟩
    simp only [fillD, Act.put, List.setIfInBounds_toArray, List.set_cons_zero, List.set_cons_succ] at hF
    have hF2 := funext hF
    clear hF
    subst hF2
    refine ⟨⟨doesN_want (by decide) rfl (fun g => rfl) (fun st w' hS hp K hK => ?_), doesN_want (by decide) rfl (fun g => rfl) (fun st w' hS hp K hK => ?_), doesN_want (by decide) rfl (fun g => rfl) (fun st w' hS hp K hK => ?_), doesN_want (by decide) rfl (fun g => rfl) (fun st w' hS hp K hK => ?_), doesN_want (by decide) rfl (fun g => rfl) (fun st w' hS hp K hK => ?_), doesN_want (by decide) rfl (fun g => rfl) (fun st w' hS hp K hK => ?_), doesN_want (by decide) rfl (fun g => rfl) (fun st w' hS hp K hK => ?_), doesN_want (by decide) rfl (fun g => rfl) (fun st w' hS hp K hK => ?_), doesC_want (by decide) rfl (fun g => rfl) (fun st w' hS hn hp K hK => ?_), doesC_want (by decide) rfl (fun g => rfl) (fun st w' hS hn hp K hK => ?_), doesC_want (by decide) rfl (fun g => rfl) (fun st w' hS hn hp K hK => ?_), doesC_want (by decide) rfl (fun g => rfl) (fun st w' hS hn hp K hK => ?_), doesC_want (by decide) rfl (fun g => rfl) (fun st w' hS hn hp K hK => ?_), doesC_want (by decide) rfl (fun g => rfl) (fun st w' hS hn hp K hK => ?_), doesC_want (by decide) rfl (fun g => rfl) (fun st w' hS hn hp K hK => ?_), trivial⟩, fun st w' hS hall => ?_⟩
    · try dsimp only
      go_simp
      exact hK _ hS
    · try dsimp only
      exact wp_mid_h hS.own.held 0 rfl (M.mat 4 a) (sp_a a b t p) rfl Try.underlying23 rfl (sR _) (hK _ hS)
    · try dsimp only
      go_simp
      exact hK _ hS
    · try dsimp only
      exact wp_mid_h hS.own.held 0 rfl (M.mat 4 b) (sp_b a b t p) rfl Try.underlying23 rfl (sR _) (hK _ hS)
    · try dsimp only
      go_simp
      exact hK _ hS
    · try dsimp only
      exact wp_mid_h hS.own.held 0 rfl (M.mat 2 t) (sp_t a b t p) rfl Try.underlying24 rfl (sD _) (hK _ hS)
    · try dsimp only
      go_simp
      exact hK _ hS
    · try dsimp only
      exact wp_mid_h hS.own.held 0 rfl (M.mat 2 p) (sp_p a b t p) rfl Try.underlying24 rfl (sD _) (hK _ hS)
    · try dsimp only
      exact hS.alloc HD 0 rfl hn zeroR hK
    · try dsimp only
      exact hS.alloc HD 1 rfl hn zeroR hK
    · try dsimp only
      exact hS.alloc HD 2 rfl hn zeroD hK
    · try dsimp only
      exact hS.alloc HD 3 rfl hn zeroD hK
    · try dsimp only
      exact hS.put HD 0 rfl (hp 8 (by decide) (by kernel_rfl)) hn rfl rfl (sR _) (M.mat_len2 _ _ _) (M.mat_one _ _) hK
    · try dsimp only
      exact hS.put HD 1 rfl (hp 9 (by decide) (by kernel_rfl)) hn rfl rfl (sR _) (M.mat_len2 _ _ _) (M.mat_one _ _) hK
    · try dsimp only
      exact hS.put HD 2 rfl (hp 10 (by decide) (by kernel_rfl)) hn rfl rfl (sD _) (M.mat_len2 _ _ _) (M.mat_one _ _) hK
    try dsimp only
    obtain ⟨g3, e3⟩ := hS.ptr 0 rfl (hall 8 (by decide))
    obtain ⟨g4, e4⟩ := hS.ptr 1 rfl (hall 9 (by decide))
    obtain ⟨g5, e5⟩ := hS.ptr 2 rfl (hall 10 (by decide))
    obtain ⟨g6, e6⟩ := hS.ptr 3 rfl (hall 11 (by decide))
    have O3 : Own w w' [(g3, 23, M.mat 4 a), (g4, 23, M.mat 4 b), (g5, 24, M.mat 2 t), (g6, 24, M.mat 2 M.zero), (g1, 39, spot a b t p)] := by
      have h3 := hS.2.2
      rw [nows_cons, nows_cons, nows_cons, nows_cons, NbS.now_is e3 true (hall 12 (by decide)), NbS.now_is e4 true (hall 13 (by decide)), NbS.now_is e5 true (hall 14 (by decide)), NbS.now_same e6 rfl] at h3
      exact h3
    clear hS O
    have O := O3
    clear O3
    simp only [seen, e3, e4, e5, e6, Option.getD_some]
    try generalize (st 12).getD undef = x12'
    try generalize (st 13).getD undef = x13'
    try generalize (st 14).getD undef = x14'
    clear hall e3 e4 e5 e6
    refine wpAny_want (i := 15) (by kernel_rfl) rfl (by rfl) (fun K hK => ?_)
    refine wp_put_own O 3 (M.mat 2 (p)) rfl rfl rfl (sD _) (M.mat_len2 _ _ _) (M.mat_one _ _) fun w9 O9 => hK _ _ ?_
    clear O
    have O := O9
    clear O9
    clear hK K
    try simp only [Act.put, List.setIfInBounds_toArray, List.set_cons_zero, List.set_cons_succ]
    refine wpAny_done (by kernel_rfl) ?_ _
    have O9 := Own.as O (l' := [(g3, 23, M.mat 4 a), (g4, 23, M.mat 4 b), (g5, 24, M.mat 2 t), (g6, 24, M.mat 2 p), (g1, 39, spot a b t p)]) rfl
    clear O HD
    have O := O9
    clear O9
    have f0 := O.cell 3 rfl Cp0.out
    have f1 := O.cell 3 rfl Cp1.out
    go_wp2_with (first | ((with_reducible refine at_load 21 ?_); refine wpList_whole rfl O 0 rfl rfl Try.underlying23 rfl (sR _) ?_) | ((with_reducible refine at_load 23 ?_); refine wpList_cell_h (v := .int .i64 (p0)) rfl O.held 3 rfl Cp0.out rfl agg3 rfl ?_) | ((with_reducible refine at_load 25 ?_); refine wpList_cell_h (v := .int .i64 (p1)) rfl O.held 3 rfl Cp1.out rfl agg3 rfl ?_) | (go_at_call 14; clear tok0; have tok1 : True := trivial; refine (CH _).mono ?_; rintro e w5 ⟨rfl, hb⟩; replace O := O.call hb; clear hb; have k0 := O.cell 2 rfl Ct0.out; have k1 := O.cell 2 rfl Ct1.out) | ((with_reducible refine at_load 27 ?_); refine wpList_whole rfl O 0 rfl rfl Try.underlying23 rfl (sR _) ?_) | ((with_reducible refine at_load 29 ?_); refine wpList_cell_h (v := .int .i64 (t0)) rfl O.held 2 rfl Ct0.out rfl agg3 rfl ?_) | ((with_reducible refine at_load 31 ?_); refine wpList_cell_h (v := .int .i64 (t1)) rfl O.held 2 rfl Ct1.out rfl agg3 rfl ?_) | (go_at_call 21; refine (CP _).mono ?_; rintro e w6 ⟨VA, vc, rfl, hL, hb⟩; have O2 := Held.gain0 (O.held) hb hL; clear O hb hL; have O := O2; clear O2))
    try clear f0 f1
    try clear k0 k1
    go_loopw [8, 11] (fun u_ t_ wr => ∃ (k n : Nat), k ≤ m.length ∧ t_ = .int .i64 k ∧ u_ = .int .i64 n ∧ RC.count p0 p1 (m.take k) = n ∧ Held w wr [(g3, 23, M.mat 4 a), (g4, 23, M.mat 4 b), (g5, 24, M.mat 2 t), (g6, 24, M.mat 2 p), (g1, 39, spot a b t p)] nilRow [rE 0 VA vc m]) (fun _ t_ _ => m.length - (intOf t_).toNat)
    case atStart => exact ⟨0, 0, Nat.zero_le _, rfl, rfl, rfl, O⟩
    case round =>
      clear O
      obtain ⟨k, n, hk, rfl, rfl, hT, O⟩ := hrel
      have q0 : (0 : Int) ≤ k := by omega
      have q3 : n ≤ 100 := by
        have h1 := RC.count_lim p0 p1 (m.take k)
        rw [List.length_take] at h1
        have h2 := L1.out
        omega
      have q4 : k ≤ 100 := by have h2 := L1.out; omega
      have HT := Lib.hid hT
      clear hT
      by_cases hlt : k < m.length
      · have q1 : (k : Int) < m.length := by omega
        obtain ⟨x, hx⟩ : ∃ x, m[k]? = some x := ⟨_, List.getElem?_eq_getElem hlt⟩
        have HX := Lib.hid hx
        clear hx
        have C := fun w => CG x w
        cases hc : RC.has x p0 p1
        · have HS : Hid (RC.count p0 p1 (m.take (k + 1)) = n) := Lib.hid (by rw [RC.count_step p0 p1 HX.out, hc, HT.out]; rfl)
          rw [hc] at C
          clear hc
          go_wp2_with fail
          refine region_T ((fun w2 => Held w w2 [(g3, 23, M.mat 4 a), (g4, 23, M.mat 4 b), (g5, 24, M.mat 2 t), (g6, 24, M.mat 2 p), (g1, 39, spot a b t p)] nilRow [rE 0 VA vc m])) [0, 1, 2, 3, 4, 5, 6, 7, 8] 12 [some 39, some 40, some 41, some 42, some 43, some 44, some 45, some 46, some 47] [.slice VA m.length vc, .int .i64 k, .pointer (some ((adr VA).add (k * 4))), arr 4 x, .pointer (some ⟨g6, 0, none⟩), .int .i64 p0, .pointer (some ⟨g6, 1, none⟩), .int .i64 p1, .bool false] 0 (by kernel_rfl) (by rfl) (by kernel_rfl) (by rfl) (by rfl) (O.drew) (fun F hF => ?_)
          simp only [fillD, Act.put, List.setIfInBounds_toArray, List.set_cons_zero, List.set_cons_succ] at hF
          subst hF
          refine ⟨⟨does_want rfl (by rfl) (fun w' O K hK => ?_), does_want rfl (by rfl) (fun w' O K hK => ?_), does_want rfl (by rfl) (fun w' O K hK => ?_), does_want rfl (by rfl) (fun w' O K hK => ?_), does_want rfl (by rfl) (fun w' O K hK => ?_), does_want rfl (by rfl) (fun w' O K hK => ?_), does_want rfl (by rfl) (fun w' O K hK => ?_), does_want rfl (by rfl) (fun w' O K hK => ?_), does_want rfl (by rfl) (fun w' O K hK => ?_), trivial⟩, fun w' O => ?_⟩
          · go_simp
            exact hK _ O
          · go_simp
            exact hK _ O
          · exact wp_at_h Try.underlying34 sizeOfR _ (O.mem List.mem_cons_self) rfl (k) rfl rfl (by omega) rfl (hK _ O)
          · exact wp_elem_h _ (O.mem List.mem_cons_self) (k * 4) (M.mat 4 (x)) (rC_at HX.out) (by rw [M.mat_len]; decide) rfl Try.underlying23 rfl (sR _) (hK _ O)
          · go_simp
            exact hK _ O
          · exact wp_cell_h (v := .int .i64 (p0)) O 3 rfl Cp0.out rfl agg3 rfl (hK _ O)
          · go_simp
            exact hK _ O
          · exact wp_cell_h (v := .int .i64 (p1)) O 3 rfl Cp1.out rfl agg3 rfl (hK _ O)
          · go_simp
            go_at_call 14
            refine (C _).mono ?_
            rintro e w2 ⟨rfl, hb⟩
            exact hK _ (O.call hb)
          refine wpAny_done (by kernel_rfl) ?_ _
          go_wp2_with fail
          go_roundw
          case rel => exact ⟨k + 1, n, by omega, by go_num, by first | rfl | go_num, HS.out, O⟩
          case measure => simp [intOf]; omega
        · have HS : Hid (RC.count p0 p1 (m.take (k + 1)) = n + 1) := Lib.hid (by rw [RC.count_step p0 p1 HX.out, hc, HT.out]; rfl)
          rw [hc] at C
          clear hc
          go_wp2_with fail
          refine region_T ((fun w2 => Held w w2 [(g3, 23, M.mat 4 a), (g4, 23, M.mat 4 b), (g5, 24, M.mat 2 t), (g6, 24, M.mat 2 p), (g1, 39, spot a b t p)] nilRow [rE 0 VA vc m])) [0, 1, 2, 3, 4, 5, 6, 7, 8] 12 [some 39, some 40, some 41, some 42, some 43, some 44, some 45, some 46, some 47] [.slice VA m.length vc, .int .i64 k, .pointer (some ((adr VA).add (k * 4))), arr 4 x, .pointer (some ⟨g6, 0, none⟩), .int .i64 p0, .pointer (some ⟨g6, 1, none⟩), .int .i64 p1, .bool true] 0 (by kernel_rfl) (by rfl) (by kernel_rfl) (by rfl) (by rfl) (O.drew) (fun F hF => ?_)
          simp only [fillD, Act.put, List.setIfInBounds_toArray, List.set_cons_zero, List.set_cons_succ] at hF
          subst hF
          refine ⟨⟨does_want rfl (by rfl) (fun w' O K hK => ?_), does_want rfl (by rfl) (fun w' O K hK => ?_), does_want rfl (by rfl) (fun w' O K hK => ?_), does_want rfl (by rfl) (fun w' O K hK => ?_), does_want rfl (by rfl) (fun w' O K hK => ?_), does_want rfl (by rfl) (fun w' O K hK => ?_), does_want rfl (by rfl) (fun w' O K hK => ?_), does_want rfl (by rfl) (fun w' O K hK => ?_), does_want rfl (by rfl) (fun w' O K hK => ?_), trivial⟩, fun w' O => ?_⟩
          · go_simp
            exact hK _ O
          · go_simp
            exact hK _ O
          · exact wp_at_h Try.underlying34 sizeOfR _ (O.mem List.mem_cons_self) rfl (k) rfl rfl (by omega) rfl (hK _ O)
          · exact wp_elem_h _ (O.mem List.mem_cons_self) (k * 4) (M.mat 4 (x)) (rC_at HX.out) (by rw [M.mat_len]; decide) rfl Try.underlying23 rfl (sR _) (hK _ O)
          · go_simp
            exact hK _ O
          · exact wp_cell_h (v := .int .i64 (p0)) O 3 rfl Cp0.out rfl agg3 rfl (hK _ O)
          · go_simp
            exact hK _ O
          · exact wp_cell_h (v := .int .i64 (p1)) O 3 rfl Cp1.out rfl agg3 rfl (hK _ O)
          · go_simp
            go_at_call 14
            refine (C _).mono ?_
            rintro e w2 ⟨rfl, hb⟩
            exact hK _ (O.call hb)
          refine wpAny_done (by kernel_rfl) ?_ _
          go_wp2_with fail
          go_roundw
          case rel => exact ⟨k + 1, n + 1, by omega, by go_num, by first | rfl | go_num, HS.out, O⟩
          case measure => simp [intOf]; omega
      · have q1 : ¬ (k : Int) < m.length := by omega
        obtain rfl : k = m.length := by omega
        have hT := HT.out
        rw [List.take_length, S1.out] at hT
        obtain rfl : 0 = n := hT
        clear HT hlt q3 q4 q0 hk
        clear q1
        go_wp2_with fail
        have O9 := O.pick (es' := []) (by simp)
        clear O
        have O := O9
        clear O9
        refine region_S (fun st w2 => OnceS w [(g3, 23, M.mat 4 a), (g4, 23, M.mat 4 b), (g5, 24, M.mat 2 t), (g6, 24, M.mat 2 p), (g1, 39, spot a b t p)] c l (st 3) (st 6) (st 7) w2) [3, 6, 7] 12 8 [some 50, some 51, some 52, some 53, some 54, some 55, some 56, some 57] (fun g => [arr 4 a, arr 4 b, arr 4 c, g 3, arr 4 a, arr 4 b, g 6, g 7]) 1 (by kernel_rfl) (by kernel_rfl) (by rfl) (by rfl) (fun _ => rfl) (by decide) ?_ (OnceS.start O.drew) (fun F hF => ?_)
        · intro i hi
          simp only [List.mem_cons, List.not_mem_nil, or_false] at hi
          rcases hi with rfl | rfl | rfl
          · exact ⟨fun _ => rfl, [0, 1, 2, 4, 5, 6, 7], by kernel_rfl, fun g v => ⟨rfl, rfl, rfl, rfl, rfl, rfl, rfl, trivial⟩⟩
          · exact ⟨fun _ => rfl, [0, 1, 2, 3, 4, 5, 7], by kernel_rfl, fun g v => ⟨rfl, rfl, rfl, rfl, rfl, rfl, rfl, trivial⟩⟩
          · exact ⟨fun _ => rfl, [0, 1, 2, 3, 4, 5, 6], by kernel_rfl, fun g v => ⟨rfl, rfl, rfl, rfl, rfl, rfl, rfl, trivial⟩⟩
        simp only [fillD, Act.put, List.setIfInBounds_toArray, List.set_cons_zero, List.set_cons_succ] at hF
        have hF2 := funext hF
        clear hF
        subst hF2
        refine ⟨⟨doesN_want (by decide) rfl (fun g => rfl) (fun st w' hS hp K hK => ?_), doesN_want (by decide) rfl (fun g => rfl) (fun st w' hS hp K hK => ?_), doesN_want (by decide) rfl (fun g => rfl) (fun st w' hS hp K hK => ?_), doesC_want (by decide) rfl (fun g => rfl) (fun st w' hS hn hp K hK => ?_), doesN_want (by decide) rfl (fun g => rfl) (fun st w' hS hp K hK => ?_), doesN_want (by decide) rfl (fun g => rfl) (fun st w' hS hp K hK => ?_), doesC_want (by decide) rfl (fun g => rfl) (fun st w' hS hn hp K hK => ?_), doesC_want (by decide) rfl (fun g => rfl) (fun st w' hS hn hp K hK => ?_), trivial⟩, fun st w' hS hall => ?_⟩
        · try dsimp only
          obtain ⟨R, es, O⟩ := hS.held
          exact wp_row_h O 0 rfl rfl Try.underlying23 rfl (sR _) (hK _ hS)
        · try dsimp only
          obtain ⟨R, es, O⟩ := hS.held
          exact wp_row_h O 1 rfl rfl Try.underlying23 rfl (sR _) (hK _ hS)
        · try dsimp only
          go_simp
          go_at_call 16
          refine (CA _).mono ?_
          rintro e w2 ⟨rfl, hb⟩
          exact hK _ (hS.call hb)
        · try dsimp only
          rw [hn] at hS
          exact hS.lit rfl hK
        · try dsimp only
          obtain ⟨R, es, O⟩ := hS.held
          exact wp_row_h O 0 rfl rfl Try.underlying23 rfl (sR _) (hK _ hS)
        · try dsimp only
          obtain ⟨R, es, O⟩ := hS.held
          exact wp_row_h O 1 rfl rfl Try.underlying23 rfl (sR _) (hK _ hS)
        · try dsimp only
          rw [hn] at hS
          go_simp
          go_at_call 19
          refine (CM _).mono ?_
          rintro e w2 ⟨WA, wc, rfl, hL, hb⟩
          exact hK _ _ (hS.gain hb hL)
        · try dsimp only
          rw [hn] at hS
          exact hS.app (hp 3 (by decide) (by kernel_rfl)) (hp 6 (by decide) (by kernel_rfl)) (by have := L2.out; omega) rfl rfl hK
        try dsimp only
        obtain ⟨UA, uc, e7, O3⟩ := hS.done (hall 3 (by decide)) (hall 7 (by decide))
        clear hS O
        obtain ⟨ll, hll⟩ : ∃ ll, c :: l = ll := ⟨_, rfl⟩
        have L3 : Hid (ll.length ≤ 5) := Lib.hid (by rw [← hll]; have := L2.out; simp; omega)
        have S3 := S2
        rw [hll] at S3 O3 e7
        clear hll S2
        have O := O3
        clear O3
        simp only [seen, e7, Option.getD_some]
        try generalize (st 3).getD undef = x3'
        try generalize (st 6).getD undef = x6'
        clear hall e7
        refine wpAny_one (i := 8) (by kernel_rfl) rfl (fun K hK => ?_)
        go_simp
        refine hK _ _ ?_
        clear hK K
        try simp only [Act.put, List.setIfInBounds_toArray, List.set_cons_zero, List.set_cons_succ]
        refine wpAny_done (by kernel_rfl) ?_ _
        go_wp2_with fail
        go_loopw [9, 12] (fun u_ t_ wr => ∃ (k n : Nat), k ≤ ll.length ∧ t_ = .int .i64 k ∧ u_ = .int .i64 n ∧ RC.count p0 p1 (ll.take k) = n ∧ Held w wr [(g3, 23, M.mat 4 a), (g4, 23, M.mat 4 b), (g5, 24, M.mat 2 t), (g6, 24, M.mat 2 p), (g1, 39, spot a b t p)] nilRow [rE w.heap.size UA uc ll]) (fun _ t_ _ => ll.length - (intOf t_).toNat)
        case atStart => exact ⟨0, 0, Nat.zero_le _, rfl, rfl, rfl, O⟩
        case round =>
          clear O
          obtain ⟨k, n, hk, rfl, rfl, hT, O⟩ := hrel
          have q0 : (0 : Int) ≤ k := by omega
          have q3 : n ≤ 100 := by
            have h1 := RC.count_lim p0 p1 (ll.take k)
            rw [List.length_take] at h1
            have h2 := L3.out
            omega
          have q4 : k ≤ 100 := by have h2 := L3.out; omega
          have HT := Lib.hid hT
          clear hT
          by_cases hlt : k < ll.length
          · have q1 : (k : Int) < ll.length := by omega
            obtain ⟨x, hx⟩ : ∃ x, ll[k]? = some x := ⟨_, List.getElem?_eq_getElem hlt⟩
            have HX := Lib.hid hx
            clear hx
            have C := fun w => CG x w
            cases hc : RC.has x p0 p1
            · have HS : Hid (RC.count p0 p1 (ll.take (k + 1)) = n) := Lib.hid (by rw [RC.count_step p0 p1 HX.out, hc, HT.out]; rfl)
              rw [hc] at C
              clear hc
              go_wp2_with fail
              refine region_T ((fun w2 => Held w w2 [(g3, 23, M.mat 4 a), (g4, 23, M.mat 4 b), (g5, 24, M.mat 2 t), (g6, 24, M.mat 2 p), (g1, 39, spot a b t p)] nilRow [rE w.heap.size UA uc ll])) [0, 1, 2, 3, 4, 5, 6, 7, 8] 12 [some 64, some 65, some 66, some 67, some 68, some 69, some 70, some 71, some 72] [.slice UA ll.length uc, .int .i64 k, .pointer (some ((adr UA).add (k * 4))), arr 4 x, .pointer (some ⟨g6, 0, none⟩), .int .i64 p0, .pointer (some ⟨g6, 1, none⟩), .int .i64 p1, .bool false] 0 (by kernel_rfl) (by rfl) (by kernel_rfl) (by rfl) (by rfl) (O.drew) (fun F hF => ?_)
              simp only [fillD, Act.put, List.setIfInBounds_toArray, List.set_cons_zero, List.set_cons_succ] at hF
              subst hF
              refine ⟨⟨does_want rfl (by rfl) (fun w' O K hK => ?_), does_want rfl (by rfl) (fun w' O K hK => ?_), does_want rfl (by rfl) (fun w' O K hK => ?_), does_want rfl (by rfl) (fun w' O K hK => ?_), does_want rfl (by rfl) (fun w' O K hK => ?_), does_want rfl (by rfl) (fun w' O K hK => ?_), does_want rfl (by rfl) (fun w' O K hK => ?_), does_want rfl (by rfl) (fun w' O K hK => ?_), does_want rfl (by rfl) (fun w' O K hK => ?_), trivial⟩, fun w' O => ?_⟩
              · go_simp
                exact hK _ O
              · go_simp
                exact hK _ O
              · exact wp_at_h Try.underlying34 sizeOfR _ (O.mem List.mem_cons_self) rfl (k) rfl rfl (by omega) rfl (hK _ O)
              · exact wp_elem_h _ (O.mem List.mem_cons_self) (k * 4) (M.mat 4 (x)) (rC_at HX.out) (by rw [M.mat_len]; decide) rfl Try.underlying23 rfl (sR _) (hK _ O)
              · go_simp
                exact hK _ O
              · exact wp_cell_h (v := .int .i64 (p0)) O 3 rfl Cp0.out rfl agg3 rfl (hK _ O)
              · go_simp
                exact hK _ O
              · exact wp_cell_h (v := .int .i64 (p1)) O 3 rfl Cp1.out rfl agg3 rfl (hK _ O)
              · go_simp
                go_at_call 14
                refine (C _).mono ?_
                rintro e w2 ⟨rfl, hb⟩
                exact hK _ (O.call hb)
              refine wpAny_done (by kernel_rfl) ?_ _
              go_wp2_with fail
              go_roundw
              case rel => exact ⟨k + 1, n, by omega, by go_num, by first | rfl | go_num, HS.out, O⟩
              case measure => simp [intOf]; omega
            · have HS : Hid (RC.count p0 p1 (ll.take (k + 1)) = n + 1) := Lib.hid (by rw [RC.count_step p0 p1 HX.out, hc, HT.out]; rfl)
              rw [hc] at C
              clear hc
              go_wp2_with fail
              refine region_T ((fun w2 => Held w w2 [(g3, 23, M.mat 4 a), (g4, 23, M.mat 4 b), (g5, 24, M.mat 2 t), (g6, 24, M.mat 2 p), (g1, 39, spot a b t p)] nilRow [rE w.heap.size UA uc ll])) [0, 1, 2, 3, 4, 5, 6, 7, 8] 12 [some 64, some 65, some 66, some 67, some 68, some 69, some 70, some 71, some 72] [.slice UA ll.length uc, .int .i64 k, .pointer (some ((adr UA).add (k * 4))), arr 4 x, .pointer (some ⟨g6, 0, none⟩), .int .i64 p0, .pointer (some ⟨g6, 1, none⟩), .int .i64 p1, .bool true] 0 (by kernel_rfl) (by rfl) (by kernel_rfl) (by rfl) (by rfl) (O.drew) (fun F hF => ?_)
              simp only [fillD, Act.put, List.setIfInBounds_toArray, List.set_cons_zero, List.set_cons_succ] at hF
              subst hF
              refine ⟨⟨does_want rfl (by rfl) (fun w' O K hK => ?_), does_want rfl (by rfl) (fun w' O K hK => ?_), does_want rfl (by rfl) (fun w' O K hK => ?_), does_want rfl (by rfl) (fun w' O K hK => ?_), does_want rfl (by rfl) (fun w' O K hK => ?_), does_want rfl (by rfl) (fun w' O K hK => ?_), does_want rfl (by rfl) (fun w' O K hK => ?_), does_want rfl (by rfl) (fun w' O K hK => ?_), does_want rfl (by rfl) (fun w' O K hK => ?_), trivial⟩, fun w' O => ?_⟩
              · go_simp
                exact hK _ O
              · go_simp
                exact hK _ O
              · exact wp_at_h Try.underlying34 sizeOfR _ (O.mem List.mem_cons_self) rfl (k) rfl rfl (by omega) rfl (hK _ O)
              · exact wp_elem_h _ (O.mem List.mem_cons_self) (k * 4) (M.mat 4 (x)) (rC_at HX.out) (by rw [M.mat_len]; decide) rfl Try.underlying23 rfl (sR _) (hK _ O)
              · go_simp
                exact hK _ O
              · exact wp_cell_h (v := .int .i64 (p0)) O 3 rfl Cp0.out rfl agg3 rfl (hK _ O)
              · go_simp
                exact hK _ O
              · exact wp_cell_h (v := .int .i64 (p1)) O 3 rfl Cp1.out rfl agg3 rfl (hK _ O)
              · go_simp
                go_at_call 14
                refine (C _).mono ?_
                rintro e w2 ⟨rfl, hb⟩
                exact hK _ (O.call hb)
              refine wpAny_done (by kernel_rfl) ?_ _
              go_wp2_with fail
              go_roundw
              case rel => exact ⟨k + 1, n + 1, by omega, by go_num, by first | rfl | go_num, HS.out, O⟩
              case measure => simp [intOf]; omega
          · have q1 : ¬ (k : Int) < ll.length := by omega
            obtain rfl : k = ll.length := by omega
            have hT := HT.out
            rw [List.take_length, S3.out] at hT
            obtain rfl : 0 = n := hT
            clear HT hlt q3 q4 q0 hk
            clear q1
            go_wp2_with (go_at_call 9; refine (awake_any _).mono ?_; rintro e w30 ⟨rfl, hb⟩; replace O := O.call hb; clear hb)
            go_ret
            exact ⟨rfl, O.below⟩
  · rw [hh] at CH s1 s2
    clear hh
    have S1 : Hid (RC.count p0 p1 m = 1) := Lib.hid s1
    have S2 : Hid (RC.count p0 p1 (c :: l) = 1) := Lib.hid s2
    clear s1 s2
    have tok0 : True := trivial
    go_enter Try.func5, Try.ntmps5
    go_wp2_with ((with_reducible refine at_box 1 ?_); refine wpList_box_own O (spot a b t p) rfl ?_; clear O; intro g1 w1 O)
    refine region_S (fun st w2 => NB w [(g1, 39, spot a b t p)] [⟨8, 12, 23, M.mat 4 M.zero, M.mat 4 a⟩, ⟨9, 13, 23, M.mat 4 M.zero, M.mat 4 b⟩, ⟨10, 14, 24, M.mat 2 M.zero, M.mat 2 t⟩, ⟨11, 99, 24, M.mat 2 M.zero, M.mat 2 M.zero⟩] st w2) [8, 9, 10, 11, 12, 13, 14] 12 15 [some 13, some 14, some 15, some 16, some 17, some 18, some 19, some 20, some 3, some 4, some 5, some 6, none, none, none] (fun g => [.pointer (some ⟨g1, 0, none⟩), arr 4 a, .pointer (some ⟨g1, 4, none⟩), arr 4 b, .pointer (some ⟨g1, 8, none⟩), arr 2 t, .pointer (some ⟨g1, 10, none⟩), arr 2 p, g 8, g 9, g 10, g 11, g 12, g 13, g 14]) 1 (by kernel_rfl) (by kernel_rfl) (by rfl) (by rfl) (fun _ => rfl) (by decide) ?_ (NB.start O.drew) (fun F hF => ?_)
    · intro i hi
      simp only [List.mem_cons, List.not_mem_nil, or_false] at hi
      rcases hi with rfl | rfl | rfl | rfl | rfl | rfl | rfl
      · exact ⟨fun _ => rfl, [0, 1, 2, 3, 4, 5, 6, 7, 9, 10, 11, 12, 13, 14], by kernel_rfl, fun g v => ⟨rfl, rfl, rfl, rfl, rfl, rfl, rfl, rfl, rfl, rfl, rfl, rfl, rfl, rfl, trivial⟩⟩
      · exact ⟨fun _ => rfl, [0, 1, 2, 3, 4, 5, 6, 7, 8, 10, 11, 12, 13, 14], by kernel_rfl, fun g v => ⟨rfl, rfl, rfl, rfl, rfl, rfl, rfl, rfl, rfl, rfl, rfl, rfl, rfl, rfl, trivial⟩⟩
      · exact ⟨fun _ => rfl, [0, 1, 2, 3, 4, 5, 6, 7, 8, 9, 11, 12, 13, 14], by kernel_rfl, fun g v => ⟨rfl, rfl, rfl, rfl, rfl, rfl, rfl, rfl, rfl, rfl, rfl, rfl, rfl, rfl, trivial⟩⟩
      · exact ⟨fun _ => rfl, [0, 1, 2, 3, 4, 5, 6, 7, 8, 9, 10, 12, 13, 14], by kernel_rfl, fun g v => ⟨rfl, rfl, rfl, rfl, rfl, rfl, rfl, rfl, rfl, rfl, rfl, rfl, rfl, rfl, trivial⟩⟩
      · exact ⟨fun _ => rfl, [0, 1, 2, 3, 4, 5, 6, 7, 8, 9, 10, 11, 13, 14], by kernel_rfl, fun g v => ⟨rfl, rfl, rfl, rfl, rfl, rfl, rfl, rfl, rfl, rfl, rfl, rfl, rfl, rfl, trivial⟩⟩
      · exact ⟨fun _ => rfl, [0, 1, 2, 3, 4, 5, 6, 7, 8, 9, 10, 11, 12, 14], by kernel_rfl, fun g v => ⟨rfl, rfl, rfl, rfl, rfl, rfl, rfl, rfl, rfl, rfl, rfl, rfl, rfl, rfl, trivial⟩⟩
      · exact ⟨fun _ => rfl, [0, 1, 2, 3, 4, 5, 6, 7, 8, 9, 10, 11, 12, 13], by kernel_rfl, fun g v => ⟨rfl, rfl, rfl, rfl, rfl, rfl, rfl, rfl, rfl, rfl, rfl, rfl, rfl, rfl, trivial⟩⟩
    simp only [fillD, Act.put, List.setIfInBounds_toArray, List.set_cons_zero, List.set_cons_succ] at hF
    have hF2 := funext hF
    clear hF
    subst hF2
    refine ⟨⟨doesN_want (by decide) rfl (fun g => rfl) (fun st w' hS hp K hK => ?_), doesN_want (by decide) rfl (fun g => rfl) (fun st w' hS hp K hK => ?_), doesN_want (by decide) rfl (fun g => rfl) (fun st w' hS hp K hK => ?_), doesN_want (by decide) rfl (fun g => rfl) (fun st w' hS hp K hK => ?_), doesN_want (by decide) rfl (fun g => rfl) (fun st w' hS hp K hK => ?_), doesN_want (by decide) rfl (fun g => rfl) (fun st w' hS hp K hK => ?_), doesN_want (by decide) rfl (fun g => rfl) (fun st w' hS hp K hK => ?_), doesN_want (by decide) rfl (fun g => rfl) (fun st w' hS hp K hK => ?_), doesC_want (by decide) rfl (fun g => rfl) (fun st w' hS hn hp K hK => ?_), doesC_want (by decide) rfl (fun g => rfl) (fun st w' hS hn hp K hK => ?_), doesC_want (by decide) rfl (fun g => rfl) (fun st w' hS hn hp K hK => ?_), doesC_want (by decide) rfl (fun g => rfl) (fun st w' hS hn hp K hK => ?_), doesC_want (by decide) rfl (fun g => rfl) (fun st w' hS hn hp K hK => ?_), doesC_want (by decide) rfl (fun g => rfl) (fun st w' hS hn hp K hK => ?_), doesC_want (by decide) rfl (fun g => rfl) (fun st w' hS hn hp K hK => ?_), trivial⟩, fun st w' hS hall => ?_⟩
    · try dsimp only
      go_simp
      exact hK _ hS
    · try dsimp only
      exact wp_mid_h hS.own.held 0 rfl (M.mat 4 a) (sp_a a b t p) rfl Try.underlying23 rfl (sR _) (hK _ hS)
    · try dsimp only
      go_simp
      exact hK _ hS
    · try dsimp only
      exact wp_mid_h hS.own.held 0 rfl (M.mat 4 b) (sp_b a b t p) rfl Try.underlying23 rfl (sR _) (hK _ hS)
    · try dsimp only
      go_simp
      exact hK _ hS
    · try dsimp only
      exact wp_mid_h hS.own.held 0 rfl (M.mat 2 t) (sp_t a b t p) rfl Try.underlying24 rfl (sD _) (hK _ hS)
    · try dsimp only
      go_simp
      exact hK _ hS
    · try dsimp only
      exact wp_mid_h hS.own.held 0 rfl (M.mat 2 p) (sp_p a b t p) rfl Try.underlying24 rfl (sD _) (hK _ hS)
    · try dsimp only
      exact hS.alloc HD 0 rfl hn zeroR hK
    · try dsimp only
      exact hS.alloc HD 1 rfl hn zeroR hK
    · try dsimp only
      exact hS.alloc HD 2 rfl hn zeroD hK
    · try dsimp only
      exact hS.alloc HD 3 rfl hn zeroD hK
    · try dsimp only
      exact hS.put HD 0 rfl (hp 8 (by decide) (by kernel_rfl)) hn rfl rfl (sR _) (M.mat_len2 _ _ _) (M.mat_one _ _) hK
    · try dsimp only
      exact hS.put HD 1 rfl (hp 9 (by decide) (by kernel_rfl)) hn rfl rfl (sR _) (M.mat_len2 _ _ _) (M.mat_one _ _) hK
    · try dsimp only
      exact hS.put HD 2 rfl (hp 10 (by decide) (by kernel_rfl)) hn rfl rfl (sD _) (M.mat_len2 _ _ _) (M.mat_one _ _) hK
    try dsimp only
    obtain ⟨g3, e3⟩ := hS.ptr 0 rfl (hall 8 (by decide))
    obtain ⟨g4, e4⟩ := hS.ptr 1 rfl (hall 9 (by decide))
    obtain ⟨g5, e5⟩ := hS.ptr 2 rfl (hall 10 (by decide))
    obtain ⟨g6, e6⟩ := hS.ptr 3 rfl (hall 11 (by decide))
    have O3 : Own w w' [(g3, 23, M.mat 4 a), (g4, 23, M.mat 4 b), (g5, 24, M.mat 2 t), (g6, 24, M.mat 2 M.zero), (g1, 39, spot a b t p)] := by
      have h3 := hS.2.2
      rw [nows_cons, nows_cons, nows_cons, nows_cons, NbS.now_is e3 true (hall 12 (by decide)), NbS.now_is e4 true (hall 13 (by decide)), NbS.now_is e5 true (hall 14 (by decide)), NbS.now_same e6 rfl] at h3
      exact h3
    clear hS O
    have O := O3
    clear O3
    simp only [seen, e3, e4, e5, e6, Option.getD_some]
    try generalize (st 12).getD undef = x12'
    try generalize (st 13).getD undef = x13'
    try generalize (st 14).getD undef = x14'
    clear hall e3 e4 e5 e6
    refine wpAny_want (i := 15) (by kernel_rfl) rfl (by rfl) (fun K hK => ?_)
    refine wp_put_own O 3 (M.mat 2 (p)) rfl rfl rfl (sD _) (M.mat_len2 _ _ _) (M.mat_one _ _) fun w9 O9 => hK _ _ ?_
    clear O
    have O := O9
    clear O9
    clear hK K
    try simp only [Act.put, List.setIfInBounds_toArray, List.set_cons_zero, List.set_cons_succ]
    refine wpAny_done (by kernel_rfl) ?_ _
    have O9 := Own.as O (l' := [(g3, 23, M.mat 4 a), (g4, 23, M.mat 4 b), (g5, 24, M.mat 2 t), (g6, 24, M.mat 2 p), (g1, 39, spot a b t p)]) rfl
    clear O HD
    have O := O9
    clear O9
    have f0 := O.cell 3 rfl Cp0.out
    have f1 := O.cell 3 rfl Cp1.out
    go_wp2_with (first | ((with_reducible refine at_load 21 ?_); refine wpList_whole rfl O 0 rfl rfl Try.underlying23 rfl (sR _) ?_) | ((with_reducible refine at_load 23 ?_); refine wpList_cell_h (v := .int .i64 (p0)) rfl O.held 3 rfl Cp0.out rfl agg3 rfl ?_) | ((with_reducible refine at_load 25 ?_); refine wpList_cell_h (v := .int .i64 (p1)) rfl O.held 3 rfl Cp1.out rfl agg3 rfl ?_) | (go_at_call 14; clear tok0; have tok1 : True := trivial; refine (CH _).mono ?_; rintro e w5 ⟨rfl, hb⟩; replace O := O.call hb; clear hb; have k0 := O.cell 2 rfl Ct0.out; have k1 := O.cell 2 rfl Ct1.out) | ((with_reducible refine at_load 27 ?_); refine wpList_whole rfl O 0 rfl rfl Try.underlying23 rfl (sR _) ?_) | ((with_reducible refine at_load 29 ?_); refine wpList_cell_h (v := .int .i64 (t0)) rfl O.held 2 rfl Ct0.out rfl agg3 rfl ?_) | ((with_reducible refine at_load 31 ?_); refine wpList_cell_h (v := .int .i64 (t1)) rfl O.held 2 rfl Ct1.out rfl agg3 rfl ?_) | (go_at_call 21; refine (CP _).mono ?_; rintro e w6 ⟨VA, vc, rfl, hL, hb⟩; have O2 := Held.gain0 (O.held) hb hL; clear O hb hL; have O := O2; clear O2))
    try clear f0 f1
    try clear k0 k1
    go_loopw [8, 11] (fun u_ t_ wr => ∃ (k n : Nat), k ≤ m.length ∧ t_ = .int .i64 k ∧ u_ = .int .i64 n ∧ RC.count p0 p1 (m.take k) = n ∧ Held w wr [(g3, 23, M.mat 4 a), (g4, 23, M.mat 4 b), (g5, 24, M.mat 2 t), (g6, 24, M.mat 2 p), (g1, 39, spot a b t p)] nilRow [rE 0 VA vc m]) (fun _ t_ _ => m.length - (intOf t_).toNat)
    case atStart => exact ⟨0, 0, Nat.zero_le _, rfl, rfl, rfl, O⟩
    case round =>
      clear O
      obtain ⟨k, n, hk, rfl, rfl, hT, O⟩ := hrel
      have q0 : (0 : Int) ≤ k := by omega
      have q3 : n ≤ 100 := by
        have h1 := RC.count_lim p0 p1 (m.take k)
        rw [List.length_take] at h1
        have h2 := L1.out
        omega
      have q4 : k ≤ 100 := by have h2 := L1.out; omega
      have HT := Lib.hid hT
      clear hT
      by_cases hlt : k < m.length
      · have q1 : (k : Int) < m.length := by omega
        obtain ⟨x, hx⟩ : ∃ x, m[k]? = some x := ⟨_, List.getElem?_eq_getElem hlt⟩
        have HX := Lib.hid hx
        clear hx
        have C := fun w => CG x w
        cases hc : RC.has x p0 p1
        · have HS : Hid (RC.count p0 p1 (m.take (k + 1)) = n) := Lib.hid (by rw [RC.count_step p0 p1 HX.out, hc, HT.out]; rfl)
          rw [hc] at C
          clear hc
          go_wp2_with fail
          refine region_T ((fun w2 => Held w w2 [(g3, 23, M.mat 4 a), (g4, 23, M.mat 4 b), (g5, 24, M.mat 2 t), (g6, 24, M.mat 2 p), (g1, 39, spot a b t p)] nilRow [rE 0 VA vc m])) [0, 1, 2, 3, 4, 5, 6, 7, 8] 12 [some 39, some 40, some 41, some 42, some 43, some 44, some 45, some 46, some 47] [.slice VA m.length vc, .int .i64 k, .pointer (some ((adr VA).add (k * 4))), arr 4 x, .pointer (some ⟨g6, 0, none⟩), .int .i64 p0, .pointer (some ⟨g6, 1, none⟩), .int .i64 p1, .bool false] 0 (by kernel_rfl) (by rfl) (by kernel_rfl) (by rfl) (by rfl) (O.drew) (fun F hF => ?_)
          simp only [fillD, Act.put, List.setIfInBounds_toArray, List.set_cons_zero, List.set_cons_succ] at hF
          subst hF
          refine ⟨⟨does_want rfl (by rfl) (fun w' O K hK => ?_), does_want rfl (by rfl) (fun w' O K hK => ?_), does_want rfl (by rfl) (fun w' O K hK => ?_), does_want rfl (by rfl) (fun w' O K hK => ?_), does_want rfl (by rfl) (fun w' O K hK => ?_), does_want rfl (by rfl) (fun w' O K hK => ?_), does_want rfl (by rfl) (fun w' O K hK => ?_), does_want rfl (by rfl) (fun w' O K hK => ?_), does_want rfl (by rfl) (fun w' O K hK => ?_), trivial⟩, fun w' O => ?_⟩
          · go_simp
            exact hK _ O
          · go_simp
            exact hK _ O
          · exact wp_at_h Try.underlying34 sizeOfR _ (O.mem List.mem_cons_self) rfl (k) rfl rfl (by omega) rfl (hK _ O)
          · exact wp_elem_h _ (O.mem List.mem_cons_self) (k * 4) (M.mat 4 (x)) (rC_at HX.out) (by rw [M.mat_len]; decide) rfl Try.underlying23 rfl (sR _) (hK _ O)
          · go_simp
            exact hK _ O
          · exact wp_cell_h (v := .int .i64 (p0)) O 3 rfl Cp0.out rfl agg3 rfl (hK _ O)
          · go_simp
            exact hK _ O
          · exact wp_cell_h (v := .int .i64 (p1)) O 3 rfl Cp1.out rfl agg3 rfl (hK _ O)
          · go_simp
            go_at_call 14
            refine (C _).mono ?_
            rintro e w2 ⟨rfl, hb⟩
            exact hK _ (O.call hb)
          refine wpAny_done (by kernel_rfl) ?_ _
          go_wp2_with fail
          go_roundw
          case rel => exact ⟨k + 1, n, by omega, by go_num, by first | rfl | go_num, HS.out, O⟩
          case measure => simp [intOf]; omega
        · have HS : Hid (RC.count p0 p1 (m.take (k + 1)) = n + 1) := Lib.hid (by rw [RC.count_step p0 p1 HX.out, hc, HT.out]; rfl)
          rw [hc] at C
          clear hc
          go_wp2_with fail
          refine region_T ((fun w2 => Held w w2 [(g3, 23, M.mat 4 a), (g4, 23, M.mat 4 b), (g5, 24, M.mat 2 t), (g6, 24, M.mat 2 p), (g1, 39, spot a b t p)] nilRow [rE 0 VA vc m])) [0, 1, 2, 3, 4, 5, 6, 7, 8] 12 [some 39, some 40, some 41, some 42, some 43, some 44, some 45, some 46, some 47] [.slice VA m.length vc, .int .i64 k, .pointer (some ((adr VA).add (k * 4))), arr 4 x, .pointer (some ⟨g6, 0, none⟩), .int .i64 p0, .pointer (some ⟨g6, 1, none⟩), .int .i64 p1, .bool true] 0 (by kernel_rfl) (by rfl) (by kernel_rfl) (by rfl) (by rfl) (O.drew) (fun F hF => ?_)
          simp only [fillD, Act.put, List.setIfInBounds_toArray, List.set_cons_zero, List.set_cons_succ] at hF
          subst hF
          refine ⟨⟨does_want rfl (by rfl) (fun w' O K hK => ?_), does_want rfl (by rfl) (fun w' O K hK => ?_), does_want rfl (by rfl) (fun w' O K hK => ?_), does_want rfl (by rfl) (fun w' O K hK => ?_), does_want rfl (by rfl) (fun w' O K hK => ?_), does_want rfl (by rfl) (fun w' O K hK => ?_), does_want rfl (by rfl) (fun w' O K hK => ?_), does_want rfl (by rfl) (fun w' O K hK => ?_), does_want rfl (by rfl) (fun w' O K hK => ?_), trivial⟩, fun w' O => ?_⟩
          · go_simp
            exact hK _ O
          · go_simp
            exact hK _ O
          · exact wp_at_h Try.underlying34 sizeOfR _ (O.mem List.mem_cons_self) rfl (k) rfl rfl (by omega) rfl (hK _ O)
          · exact wp_elem_h _ (O.mem List.mem_cons_self) (k * 4) (M.mat 4 (x)) (rC_at HX.out) (by rw [M.mat_len]; decide) rfl Try.underlying23 rfl (sR _) (hK _ O)
          · go_simp
            exact hK _ O
          · exact wp_cell_h (v := .int .i64 (p0)) O 3 rfl Cp0.out rfl agg3 rfl (hK _ O)
          · go_simp
            exact hK _ O
          · exact wp_cell_h (v := .int .i64 (p1)) O 3 rfl Cp1.out rfl agg3 rfl (hK _ O)
          · go_simp
            go_at_call 14
            refine (C _).mono ?_
            rintro e w2 ⟨rfl, hb⟩
            exact hK _ (O.call hb)
          refine wpAny_done (by kernel_rfl) ?_ _
          go_wp2_with fail
          go_roundw
          case rel => exact ⟨k + 1, n + 1, by omega, by go_num, by first | rfl | go_num, HS.out, O⟩
          case measure => simp [intOf]; omega
      · have q1 : ¬ (k : Int) < m.length := by omega
        obtain rfl : k = m.length := by omega
        have hT := HT.out
        rw [List.take_length, S1.out] at hT
        obtain rfl : 1 = n := hT
        clear HT hlt q3 q4 q0 hk
        clear q1
        go_wp2_with fail
        have O9 := O.pick (es' := []) (by simp)
        clear O
        have O := O9
        clear O9
        refine region_S (fun st w2 => OnceS w [(g3, 23, M.mat 4 a), (g4, 23, M.mat 4 b), (g5, 24, M.mat 2 t), (g6, 24, M.mat 2 p), (g1, 39, spot a b t p)] c l (st 3) (st 6) (st 7) w2) [3, 6, 7] 12 8 [some 50, some 51, some 52, some 53, some 54, some 55, some 56, some 57] (fun g => [arr 4 a, arr 4 b, arr 4 c, g 3, arr 4 a, arr 4 b, g 6, g 7]) 1 (by kernel_rfl) (by kernel_rfl) (by rfl) (by rfl) (fun _ => rfl) (by decide) ?_ (OnceS.start O.drew) (fun F hF => ?_)
        · intro i hi
          simp only [List.mem_cons, List.not_mem_nil, or_false] at hi
          rcases hi with rfl | rfl | rfl
          · exact ⟨fun _ => rfl, [0, 1, 2, 4, 5, 6, 7], by kernel_rfl, fun g v => ⟨rfl, rfl, rfl, rfl, rfl, rfl, rfl, trivial⟩⟩
          · exact ⟨fun _ => rfl, [0, 1, 2, 3, 4, 5, 7], by kernel_rfl, fun g v => ⟨rfl, rfl, rfl, rfl, rfl, rfl, rfl, trivial⟩⟩
          · exact ⟨fun _ => rfl, [0, 1, 2, 3, 4, 5, 6], by kernel_rfl, fun g v => ⟨rfl, rfl, rfl, rfl, rfl, rfl, rfl, trivial⟩⟩
        simp only [fillD, Act.put, List.setIfInBounds_toArray, List.set_cons_zero, List.set_cons_succ] at hF
        have hF2 := funext hF
        clear hF
        subst hF2
        refine ⟨⟨doesN_want (by decide) rfl (fun g => rfl) (fun st w' hS hp K hK => ?_), doesN_want (by decide) rfl (fun g => rfl) (fun st w' hS hp K hK => ?_), doesN_want (by decide) rfl (fun g => rfl) (fun st w' hS hp K hK => ?_), doesC_want (by decide) rfl (fun g => rfl) (fun st w' hS hn hp K hK => ?_), doesN_want (by decide) rfl (fun g => rfl) (fun st w' hS hp K hK => ?_), doesN_want (by decide) rfl (fun g => rfl) (fun st w' hS hp K hK => ?_), doesC_want (by decide) rfl (fun g => rfl) (fun st w' hS hn hp K hK => ?_), doesC_want (by decide) rfl (fun g => rfl) (fun st w' hS hn hp K hK => ?_), trivial⟩, fun st w' hS hall => ?_⟩
        · try dsimp only
          obtain ⟨R, es, O⟩ := hS.held
          exact wp_row_h O 0 rfl rfl Try.underlying23 rfl (sR _) (hK _ hS)
        · try dsimp only
          obtain ⟨R, es, O⟩ := hS.held
          exact wp_row_h O 1 rfl rfl Try.underlying23 rfl (sR _) (hK _ hS)
        · try dsimp only
          go_simp
          go_at_call 16
          refine (CA _).mono ?_
          rintro e w2 ⟨rfl, hb⟩
          exact hK _ (hS.call hb)
        · try dsimp only
          rw [hn] at hS
          exact hS.lit rfl hK
        · try dsimp only
          obtain ⟨R, es, O⟩ := hS.held
          exact wp_row_h O 0 rfl rfl Try.underlying23 rfl (sR _) (hK _ hS)
        · try dsimp only
          obtain ⟨R, es, O⟩ := hS.held
          exact wp_row_h O 1 rfl rfl Try.underlying23 rfl (sR _) (hK _ hS)
        · try dsimp only
          rw [hn] at hS
          go_simp
          go_at_call 19
          refine (CM _).mono ?_
          rintro e w2 ⟨WA, wc, rfl, hL, hb⟩
          exact hK _ _ (hS.gain hb hL)
        · try dsimp only
          rw [hn] at hS
          exact hS.app (hp 3 (by decide) (by kernel_rfl)) (hp 6 (by decide) (by kernel_rfl)) (by have := L2.out; omega) rfl rfl hK
        try dsimp only
        obtain ⟨UA, uc, e7, O3⟩ := hS.done (hall 3 (by decide)) (hall 7 (by decide))
        clear hS O
        obtain ⟨ll, hll⟩ : ∃ ll, c :: l = ll := ⟨_, rfl⟩
        have L3 : Hid (ll.length ≤ 5) := Lib.hid (by rw [← hll]; have := L2.out; simp; omega)
        have S3 := S2
        rw [hll] at S3 O3 e7
        clear hll S2
        have O := O3
        clear O3
        simp only [seen, e7, Option.getD_some]
        try generalize (st 3).getD undef = x3'
        try generalize (st 6).getD undef = x6'
        clear hall e7
        refine wpAny_one (i := 8) (by kernel_rfl) rfl (fun K hK => ?_)
        go_simp
        refine hK _ _ ?_
        clear hK K
        try simp only [Act.put, List.setIfInBounds_toArray, List.set_cons_zero, List.set_cons_succ]
        refine wpAny_done (by kernel_rfl) ?_ _
        go_wp2_with fail
        go_loopw [9, 12] (fun u_ t_ wr => ∃ (k n : Nat), k ≤ ll.length ∧ t_ = .int .i64 k ∧ u_ = .int .i64 n ∧ RC.count p0 p1 (ll.take k) = n ∧ Held w wr [(g3, 23, M.mat 4 a), (g4, 23, M.mat 4 b), (g5, 24, M.mat 2 t), (g6, 24, M.mat 2 p), (g1, 39, spot a b t p)] nilRow [rE w.heap.size UA uc ll]) (fun _ t_ _ => ll.length - (intOf t_).toNat)
        case atStart => exact ⟨0, 0, Nat.zero_le _, rfl, rfl, rfl, O⟩
        case round =>
          clear O
          obtain ⟨k, n, hk, rfl, rfl, hT, O⟩ := hrel
          have q0 : (0 : Int) ≤ k := by omega
          have q3 : n ≤ 100 := by
            have h1 := RC.count_lim p0 p1 (ll.take k)
            rw [List.length_take] at h1
            have h2 := L3.out
            omega
          have q4 : k ≤ 100 := by have h2 := L3.out; omega
          have HT := Lib.hid hT
          clear hT
          by_cases hlt : k < ll.length
          · have q1 : (k : Int) < ll.length := by omega
            obtain ⟨x, hx⟩ : ∃ x, ll[k]? = some x := ⟨_, List.getElem?_eq_getElem hlt⟩
            have HX := Lib.hid hx
            clear hx
            have C := fun w => CG x w
            cases hc : RC.has x p0 p1
            · have HS : Hid (RC.count p0 p1 (ll.take (k + 1)) = n) := Lib.hid (by rw [RC.count_step p0 p1 HX.out, hc, HT.out]; rfl)
              rw [hc] at C
              clear hc
              go_wp2_with fail
              refine region_T ((fun w2 => Held w w2 [(g3, 23, M.mat 4 a), (g4, 23, M.mat 4 b), (g5, 24, M.mat 2 t), (g6, 24, M.mat 2 p), (g1, 39, spot a b t p)] nilRow [rE w.heap.size UA uc ll])) [0, 1, 2, 3, 4, 5, 6, 7, 8] 12 [some 64, some 65, some 66, some 67, some 68, some 69, some 70, some 71, some 72] [.slice UA ll.length uc, .int .i64 k, .pointer (some ((adr UA).add (k * 4))), arr 4 x, .pointer (some ⟨g6, 0, none⟩), .int .i64 p0, .pointer (some ⟨g6, 1, none⟩), .int .i64 p1, .bool false] 0 (by kernel_rfl) (by rfl) (by kernel_rfl) (by rfl) (by rfl) (O.drew) (fun F hF => ?_)
              simp only [fillD, Act.put, List.setIfInBounds_toArray, List.set_cons_zero, List.set_cons_succ] at hF
              subst hF
              refine ⟨⟨does_want rfl (by rfl) (fun w' O K hK => ?_), does_want rfl (by rfl) (fun w' O K hK => ?_), does_want rfl (by rfl) (fun w' O K hK => ?_), does_want rfl (by rfl) (fun w' O K hK => ?_), does_want rfl (by rfl) (fun w' O K hK => ?_), does_want rfl (by rfl) (fun w' O K hK => ?_), does_want rfl (by rfl) (fun w' O K hK => ?_), does_want rfl (by rfl) (fun w' O K hK => ?_), does_want rfl (by rfl) (fun w' O K hK => ?_), trivial⟩, fun w' O => ?_⟩
              · go_simp
                exact hK _ O
              · go_simp
                exact hK _ O
              · exact wp_at_h Try.underlying34 sizeOfR _ (O.mem List.mem_cons_self) rfl (k) rfl rfl (by omega) rfl (hK _ O)
              · exact wp_elem_h _ (O.mem List.mem_cons_self) (k * 4) (M.mat 4 (x)) (rC_at HX.out) (by rw [M.mat_len]; decide) rfl Try.underlying23 rfl (sR _) (hK _ O)
              · go_simp
                exact hK _ O
              · exact wp_cell_h (v := .int .i64 (p0)) O 3 rfl Cp0.out rfl agg3 rfl (hK _ O)
              · go_simp
                exact hK _ O
              · exact wp_cell_h (v := .int .i64 (p1)) O 3 rfl Cp1.out rfl agg3 rfl (hK _ O)
              · go_simp
                go_at_call 14
                refine (C _).mono ?_
                rintro e w2 ⟨rfl, hb⟩
                exact hK _ (O.call hb)
              refine wpAny_done (by kernel_rfl) ?_ _
              go_wp2_with fail
              go_roundw
              case rel => exact ⟨k + 1, n, by omega, by go_num, by first | rfl | go_num, HS.out, O⟩
              case measure => simp [intOf]; omega
            · have HS : Hid (RC.count p0 p1 (ll.take (k + 1)) = n + 1) := Lib.hid (by rw [RC.count_step p0 p1 HX.out, hc, HT.out]; rfl)
              rw [hc] at C
              clear hc
              go_wp2_with fail
              refine region_T ((fun w2 => Held w w2 [(g3, 23, M.mat 4 a), (g4, 23, M.mat 4 b), (g5, 24, M.mat 2 t), (g6, 24, M.mat 2 p), (g1, 39, spot a b t p)] nilRow [rE w.heap.size UA uc ll])) [0, 1, 2, 3, 4, 5, 6, 7, 8] 12 [some 64, some 65, some 66, some 67, some 68, some 69, some 70, some 71, some 72] [.slice UA ll.length uc, .int .i64 k, .pointer (some ((adr UA).add (k * 4))), arr 4 x, .pointer (some ⟨g6, 0, none⟩), .int .i64 p0, .pointer (some ⟨g6, 1, none⟩), .int .i64 p1, .bool true] 0 (by kernel_rfl) (by rfl) (by kernel_rfl) (by rfl) (by rfl) (O.drew) (fun F hF => ?_)
              simp only [fillD, Act.put, List.setIfInBounds_toArray, List.set_cons_zero, List.set_cons_succ] at hF
              subst hF
              refine ⟨⟨does_want rfl (by rfl) (fun w' O K hK => ?_), does_want rfl (by rfl) (fun w' O K hK => ?_), does_want rfl (by rfl) (fun w' O K hK => ?_), does_want rfl (by rfl) (fun w' O K hK => ?_), does_want rfl (by rfl) (fun w' O K hK => ?_), does_want rfl (by rfl) (fun w' O K hK => ?_), does_want rfl (by rfl) (fun w' O K hK => ?_), does_want rfl (by rfl) (fun w' O K hK => ?_), does_want rfl (by rfl) (fun w' O K hK => ?_), trivial⟩, fun w' O => ?_⟩
              · go_simp
                exact hK _ O
              · go_simp
                exact hK _ O
              · exact wp_at_h Try.underlying34 sizeOfR _ (O.mem List.mem_cons_self) rfl (k) rfl rfl (by omega) rfl (hK _ O)
              · exact wp_elem_h _ (O.mem List.mem_cons_self) (k * 4) (M.mat 4 (x)) (rC_at HX.out) (by rw [M.mat_len]; decide) rfl Try.underlying23 rfl (sR _) (hK _ O)
              · go_simp
                exact hK _ O
              · exact wp_cell_h (v := .int .i64 (p0)) O 3 rfl Cp0.out rfl agg3 rfl (hK _ O)
              · go_simp
                exact hK _ O
              · exact wp_cell_h (v := .int .i64 (p1)) O 3 rfl Cp1.out rfl agg3 rfl (hK _ O)
              · go_simp
                go_at_call 14
                refine (C _).mono ?_
                rintro e w2 ⟨rfl, hb⟩
                exact hK _ (O.call hb)
              refine wpAny_done (by kernel_rfl) ?_ _
              go_wp2_with fail
              go_roundw
              case rel => exact ⟨k + 1, n + 1, by omega, by go_num, by first | rfl | go_num, HS.out, O⟩
              case measure => simp [intOf]; omega
          · have q1 : ¬ (k : Int) < ll.length := by omega
            obtain rfl : k = ll.length := by omega
            have hT := HT.out
            rw [List.take_length, S3.out] at hT
            obtain rfl : 1 = n := hT
            clear HT hlt q3 q4 q0 hk
            clear q1
            go_wp2_with (go_at_call 9; refine (awake_any _).mono ?_; rintro e w30 ⟨rfl, hb⟩; replace O := O.call hb; clear hb)
            go_ret
            exact ⟨rfl, O.below⟩

theorem readable : ∀ t ∈ Try.f5.params.toList, Try.prog.readableRec t = true ∧ t < Try.prog.types.size := by
  intro t ht
  rw [Try.params5] at ht
  simp only [List.mem_cons, List.not_mem_nil, or_false] at ht
  repeat (first | (rcases ht with rfl | ht; exact ⟨by kernel_rfl, of_decide_eq_true (by kernel_rfl)⟩) | (subst ht; exact ⟨by kernel_rfl, of_decide_eq_true (by kernel_rfl)⟩))
set_option maxRecDepth 100000 in
theorem lifted (os : Os) (started : os.Started) (H : Type) (enc : TypeId × Value → H) :
    ReturnsInHanded {} Try.checked os 5 .any (Rows.rectOnceSpec.pre6 enc Try.prog Try.f5 Rows.rectOnceRow.domain false) (Rows.rectOnceSpec.post enc Try.prog Try.f5 false true false false) := by
  refine returnsInHanded_of_change (C := Try.checked) own started (by kernel_rfl) Try.func5
    (ChangeSpec.witness6 (enc := enc) (C := Try.checked) false ⟨#[], #[.agg #[.int .i64 0, .int .i64 0, .int .i64 0, .int .i64 0, .int .i64 0, .int .i64 0, .int .i64 0, .int .i64 0, .int .i64 0, .int .i64 0, .int .i64 0, .int .i64 0]], []⟩ 8 (by kernel_rfl) (by kernel_rfl) (by kernel_rfl) (by kernel_rfl)) ?_
  intro W base args ds gs before hval0 hW hcnd _
  have hval : ∀ (j : Nat) t v, Try.f5.params[j]? = some t → args[j]? = some v → Value.okWide Try.prog W .any base t v := hval0
  have hW' := hW
  obtain ⟨p, q, hA0, hV, rfl, hfz, hnd⟩ := hW
  have hA : DataW.TrodAll enc Try.prog W 0 (fun _ => true) true Try.f5.params.toList args.toList ds p := hA0
  rw [Try.params5] at hA hval
  have hlt : ∀ x ∈ p ++ q, x.block < W.heap.size := fun x hx => hW'.lt x hx
  obtain ⟨v0, vs0, d0, ds0, p0, q0, hargs, rfl, rfl, h0, rr0⟩ := trodAll_cons hA
  obtain ⟨rfl, rfl, rfl⟩ := trodAll_nil rr0
  obtain rfl : args = #[v0] := by cases args; simp_all
  obtain ⟨rfl, rfl⟩ := trodVars_none hV
  obtain ⟨a0, b0, c0, e0, rfl⟩ := openSpot (hval 0 39 v0 rfl rfl) h0
  clear hA0 hval0
  refine (walk W a0 b0 c0 e0).mono fun e W' ⟨he, hg⟩ => ?_
  subst he
  exact ⟨_, rfl, post_true (tb := 4) laid readable (by kernel_rfl) Try.underlying4 rfl (fun l hl => by
    match l, hl with
    | [_], _ => exact ⟨rfl, rfl, rfl⟩) hW' hg⟩

theorem over : Rows.rectOnceRow.holds Try.pinned (OpenSpec.ofChange Rows.rectOnceSpec) :=
  OpenClaim.holds_of_wide 5 Try.f5 rfl rfl rfl rfl rfl rfl rfl ⟨rfl, rfl, rfl, rfl, rfl⟩ rfl rfl rfl rfl rfl (by kernel_rfl) Try.func5 (by kernel_rfl)
    (of_decide_eq_true (by kernel_rfl)) (by unfold Func.isWrapper; first | (rw [if_pos (by decide +kernel)]; kernel_rfl) | (rw [if_neg (by decide +kernel)]; exact ⟨rfl, rfl⟩))
    (fun os started H enc _ => lifted os started H enc)

theorem proved : Rows.RectOnceSaid :=
  over
#print axioms proved
end Go.Proofs.Ythioeohmnlppcaa.rectOnce
