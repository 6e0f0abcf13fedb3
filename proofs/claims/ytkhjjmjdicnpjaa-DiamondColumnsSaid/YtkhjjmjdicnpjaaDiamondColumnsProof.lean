/-
  DiamondColumns: for every line that is wider than high, or, turned, higher than wide, just one diamond of the column whose middles it crosses with both ends a pixel away is met.
-/
import Derived.Test.YtkhjjmjdicnpjaaWe
import Derived.Test.YtkhjjmjdicnpjaaWj
import Derived.Deep.DeepCutAuto
namespace Go.Proofs.Ytkhjjmjdicnpjaa.diamondColumns
open Go.ChangeShapes Go.WideShapes Go.ChangeAt Go.RowKit
set_option linter.unusedVariables false
set_option linter.unusedSimpArgs false

theorem own : ownKnob Try.prog.godebug = none := by kernel_rfl
theorem wide_a (a : Nat → Int) (u h : Int) (b : Bool) : ∀ k v, (M.mat 2 a)[k]? = some v → (wide a u h b)[0 + k]? = some v := fun k v e => by
  have hk : k < (M.mat 2 a).length := (List.getElem?_eq_some_iff.1 e).1
  rw [Nat.zero_add, wide, List.getElem?_append_left hk]
  exact e
/-- How many of the first k have come: one, once the one is among them. -/
def met (y0 lo : Int) (k : Nat) : Int := if y0 < lo + k then 1 else 0
theorem met_zero {y0 lo : Int} (h : lo ≤ y0) : met y0 lo 0 = 0 := if_neg (by omega)
theorem met_hit {y0 lo : Int} {k : Nat} (h : lo + k = y0) : met y0 lo k = 0 ∧ met y0 lo (k + 1) = 1 := ⟨if_neg (by omega), if_pos (by omega)⟩
theorem met_not {y0 lo : Int} {k : Nat} (h : ¬ lo + k = y0) : met y0 lo (k + 1) = met y0 lo k := by
  unfold met
  by_cases e : y0 < lo + k
  · rw [if_pos e, if_pos (by omega)]
  · rw [if_neg e, if_neg (by omega)]
theorem met_all {y0 lo hi : Int} {k : Nat} (h : y0 ≤ hi) (hk : lo + k = hi + 1) : met y0 lo k = 1 := if_pos (by omega)

set_option maxRecDepth 100000 in
set_option maxHeartbeats 16000000 in
theorem walk (w : World) (a : Nat → Int) (u h : Int) (b : Bool) (hr : (0 ≤ u ∧ u ≤ 65535) ∧ (-32768 ≤ h ∧ h ≤ 32767)) :
    Calls Try.prog 7 #[.agg (wide a u h b).toArray] w fun e w' => e = .returned (.bool true) ∧ Below w.heap.size w w' := by
  have O := Own.start w
  have LO : Hid ((0 ≤ u ∧ u ≤ 65535) ∧ (-32768 ≤ h ∧ h ≤ 32767)) := Lib.hid hr
  clear hr
  obtain ⟨a0, ea0⟩ : ∃ z, a 0 = z := ⟨_, rfl⟩
  have Ca0 := cell_is (n := 2) ea0 (by decide)
  obtain ⟨a1, ea1⟩ : ∃ z, a 1 = z := ⟨_, rfl⟩
  have Ca1 := cell_is (n := 2) ea1 (by decide)
  have EA := Lib.hid (And.intro ea0 ea1)
  clear ea0 ea1
  have HD : apart [⟨8, 9, 23, M.mat 2 M.zero, M.mat 2 a⟩] := (by decide : [8, 9].Nodup)
  go_enter Try.func7, Try.ntmps7
  go_wp2_with ((with_reducible refine at_box 1 ?_); refine wpList_box_own O (wide a u h b) rfl ?_; clear O; intro g1 w1 O)
  refine region_S (fun st w2 => NB w [(g1, 40, wide a u h b)] [⟨8, 9, 23, M.mat 2 M.zero, M.mat 2 a⟩] st w2) [8, 9] 12 12 [some 15, some 16, some 17, some 18, some 19, some 20, some 21, some 22, some 3, none, some 4, some 5] (fun g => [.pointer (some ⟨g1, 0, none⟩), arr 2 a, .pointer (some ⟨g1, 2, none⟩), .int .u16 u, .pointer (some ⟨g1, 3, none⟩), .int .i16 h, .pointer (some ⟨g1, 4, none⟩), .bool b, g 8, g 9, .int .u16 u, .int .i16 h]) 1 (by kernel_rfl) (by kernel_rfl) (by rfl) (by rfl) (fun _ => rfl) (by decide) ?_ (NB.start O.drew) (fun F hF => ?_)
  · intro i hi
    simp only [List.mem_cons, List.not_mem_nil, or_false] at hi
    rcases hi with rfl | rfl
    · exact ⟨fun _ => rfl, [0, 1, 2, 3, 4, 5, 6, 7, 9, 10, 11], by kernel_rfl, fun g v => ⟨rfl, rfl, rfl, rfl, rfl, rfl, rfl, rfl, rfl, rfl, rfl, trivial⟩⟩
    · exact ⟨fun _ => rfl, [0, 1, 2, 3, 4, 5, 6, 7, 8, 10, 11], by kernel_rfl, fun g v => ⟨rfl, rfl, rfl, rfl, rfl, rfl, rfl, rfl, rfl, rfl, rfl, trivial⟩⟩
  simp only [fillD, Act.put, List.setIfInBounds_toArray, List.set_cons_zero, List.set_cons_succ] at hF
  have hF2 := funext hF
  clear hF
  subst hF2
  refine ⟨⟨doesN_want (by decide) rfl (fun g => rfl) (fun st w' hS hp K hK => ?_), doesN_want (by decide) rfl (fun g => rfl) (fun st w' hS hp K hK => ?_), doesN_want (by decide) rfl (fun g => rfl) (fun st w' hS hp K hK => ?_), doesN_want (by decide) rfl (fun g => rfl) (fun st w' hS hp K hK => ?_), doesN_want (by decide) rfl (fun g => rfl) (fun st w' hS hp K hK => ?_), doesN_want (by decide) rfl (fun g => rfl) (fun st w' hS hp K hK => ?_), doesN_want (by decide) rfl (fun g => rfl) (fun st w' hS hp K hK => ?_), doesN_want (by decide) rfl (fun g => rfl) (fun st w' hS hp K hK => ?_), doesC_want (by decide) rfl (fun g => rfl) (fun st w' hS hn hp K hK => ?_), doesC_want (by decide) rfl (fun g => rfl) (fun st w' hS hn hp K hK => ?_), doesN_want (by decide) rfl (fun g => rfl) (fun st w' hS hp K hK => ?_), doesN_want (by decide) rfl (fun g => rfl) (fun st w' hS hp K hK => ?_), trivial⟩, fun st w' hS hall => ?_⟩
  · try dsimp only
    go_simp
    exact hK _ hS
  · try dsimp only
    exact wp_mid_h hS.own.held 0 rfl (M.mat 2 a) (wide_a a u h b) rfl Try.underlying23 rfl (sP _) (hK _ hS)
  · try dsimp only
    go_simp
    exact hK _ hS
  · try dsimp only
    exact wp_cell_h (v := .int .u16 u) hS.own.held 0 rfl (i := 2) rfl rfl agg38 rfl (hK _ hS)
  · try dsimp only
    go_simp
    exact hK _ hS
  · try dsimp only
    exact wp_cell_h (v := .int .i16 h) hS.own.held 0 rfl (i := 3) rfl rfl agg32 rfl (hK _ hS)
  · try dsimp only
    go_simp
    exact hK _ hS
  · try dsimp only
    exact wp_cell_h (v := .bool b) hS.own.held 0 rfl (i := 4) rfl rfl agg4 rfl (hK _ hS)
  · try dsimp only
    exact hS.alloc HD 0 rfl hn zeroP hK
  · try dsimp only
    exact hS.put HD 0 rfl (hp 8 (by decide) (by kernel_rfl)) hn rfl rfl (sP _) (M.mat_len2 _ _ _) (M.mat_one _ _) hK
  · try dsimp only
    go_simp
    exact hK _ hS
  · try dsimp only
    go_simp
    exact hK _ hS
  try dsimp only
  obtain ⟨g3, e3⟩ := hS.ptr 0 rfl (hall 8 (by decide))
  have O3 : Own w w' [(g3, 23, M.mat 2 a), (g1, 40, wide a u h b)] := by
    have h3 := hS.2.2
    rw [nows_cons, NbS.now_is e3 true (hall 9 (by decide))] at h3
    exact h3
  clear hS O
  have O := O3
  clear O3
  simp only [seen, e3, Option.getD_some]
  try generalize (st 9).getD undef = x9'
  clear hall e3
  refine wpAny_one (i := 12) (by kernel_rfl) rfl (fun K hK => ?_)
  go_simp
  refine hK _ _ ?_
  clear hK K
  try simp only [Act.put, List.setIfInBounds_toArray, List.set_cons_zero, List.set_cons_succ]
  refine wpAny_done (by kernel_rfl) ?_ _
  clear HD
  cases h0 : decide (a0 < -1048576)
  · cases h1 : decide (1048576 < a0)
    · cases h2 : decide (a1 < -1048576)
      · cases h3 : decide (1048576 < a1)
        · go_wp2_with (first | ((with_reducible refine at_load 24 ?_); refine wpList_cell_h (v := .int .i64 (a0)) rfl O.held 0 rfl Ca0.out rfl agg3 rfl ?_) | ((with_reducible refine at_load 28 ?_); refine wpList_cell_h (v := .int .i64 (a0)) rfl O.held 0 rfl Ca0.out rfl agg3 rfl ?_) | ((with_reducible refine at_load 33 ?_); refine wpList_cell_h (v := .int .i64 (a1)) rfl O.held 0 rfl Ca1.out rfl agg3 rfl ?_) | ((with_reducible refine at_load 38 ?_); refine wpList_cell_h (v := .int .i64 (a1)) rfl O.held 0 rfl Ca1.out rfl agg3 rfl ?_))
          obtain ⟨⟨l1, l2⟩, l3, l4⟩ := LO.out
          have la : (-1048576 ≤ a0 ∧ a0 ≤ 1048576) ∧ (-1048576 ≤ a1 ∧ a1 ≤ 1048576) := by
            have := of_decide_eq_false h0
            have := of_decide_eq_false h1
            have := of_decide_eq_false h2
            have := of_decide_eq_false h3
            omega
          clear h0 h1 h2 h3
          obtain ⟨r, hr⟩ : ∃ z, u.tmod 2048 = z := ⟨_, rfl⟩
          have rr : 0 ≤ r ∧ r < 2048 := by rw [← hr]; exact ⟨Int.tmod_nonneg _ l1, Int.tmod_lt_of_pos _ (by decide)⟩
          obtain ⟨D, hD⟩ : ∃ z, 514 + r = z := ⟨_, rfl⟩
          obtain ⟨H, hH⟩ : ∃ z, h.tmod D = z := ⟨_, rfl⟩
          obtain ⟨s1, hs1⟩ : ∃ z, a0 + 513 = z := ⟨_, rfl⟩
          obtain ⟨X, hX⟩ : ∃ z, s1 + r = z := ⟨_, rfl⟩
          obtain ⟨Y, hY⟩ : ∃ z, a1 + H = z := ⟨_, rfl⟩
          have rH : -D < H ∧ H < D := by
            rw [← hH]
            rcases (by omega : 0 ≤ h ∨ h < 0) with q | q
            · have q1 := Int.tmod_lt_of_pos h (show 0 < D by omega)
              have q2 := Int.tmod_nonneg (a := h) D q
              omega
            · have q1 := Int.tmod_lt_of_pos (-h) (show 0 < D by omega)
              have q2 := Int.tmod_nonneg (a := -h) D (by omega)
              rw [Int.neg_tmod] at q1 q2
              omega
          have Hr : Hid (u.tmod 2048 = r ∧ IntKind.u16.wrap r = r ∧ IntKind.i64.wrap r = r) := Lib.hid ⟨hr, by rw [IntKind.wrap_u16]; omega, IntWalk.i64_in _ (by omega)⟩
          have Hh : Hid (IntKind.i64.wrap h = h) := Lib.hid (IntWalk.i64_in _ (by omega))
          have HDn : Hid (514 + r = D ∧ IntKind.i64.wrap D = D) := Lib.hid ⟨hD, IntWalk.i64_in _ (by omega)⟩
          have HH : Hid (¬ D = 0 ∧ h.tmod D = H ∧ IntKind.i64.wrap H = H) := Lib.hid ⟨by omega, hH, IntWalk.i64_in _ (by omega)⟩
          have Hs1 : Hid (a0 + 513 = s1 ∧ IntKind.i64.wrap s1 = s1) := Lib.hid ⟨hs1, IntWalk.i64_in _ (by omega)⟩
          have HX : Hid (s1 + r = X ∧ IntKind.i64.wrap X = X) := Lib.hid ⟨hX, IntWalk.i64_in _ (by omega)⟩
          have HY : Hid (a1 + H = Y ∧ IntKind.i64.wrap Y = Y) := Lib.hid ⟨hY, IntWalk.i64_in _ (by omega)⟩
          obtain ⟨W, hW⟩ : ∃ z, 513 + r = z := ⟨_, rfl⟩
          have eX : X = a0 + W := by omega
          have RW : Hid ((513 ≤ W ∧ W ≤ 2560) ∧ (-W ≤ H ∧ H ≤ W) ∧ a0 + W = X ∧ a1 + H = Y ∧ ((-1048576 ≤ a0 ∧ a0 ≤ 1048576) ∧ (-1048576 ≤ a1 ∧ a1 ≤ 1048576))) := Lib.hid ⟨by omega, by omega, eX.symm, hY, la⟩
          clear l1 l2 l3 l4 la hr rr hD hH hs1 hX hY rH hW eX LO
          have HD : apart [⟨18, 99, 23, M.mat 2 M.zero, M.mat 2 M.zero⟩] := (by decide : [18, 99].Nodup)
          have HD2 : apart [⟨2, 4, 23, M.mat 2 M.zero, M.mat 2 a⟩, ⟨3, 99, 23, M.mat 2 M.zero, M.mat 2 M.zero⟩] := (by decide : [2, 4, 3, 99].Nodup)
          have HDh := Lib.hid HD2
          clear HD2
          have CX := cell_is (n := 2) (a := DM.t2 X Y) (i := 0) (z := X) rfl (by decide)
          have CY := cell_is (n := 2) (a := DM.t2 X Y) (i := 1) (z := Y) rfl (by decide)
          have OO := O
          clear O
          have O := OO
          clear OO
          refine region_S (fun st w2 => NB w [(g3, 23, M.mat 2 a), (g1, 40, wide a u h b)] [⟨18, 99, 23, M.mat 2 M.zero, M.mat 2 M.zero⟩] st w2) [18] 12 19 [some 42, some 43, some 44, some 45, some 46, some 47, some 48, some 49, some 50, some 51, some 52, some 53, some 54, some 55, some 56, some 57, some 58, some 59, some 7] (fun g => [.pointer (some ⟨g3, 0, none⟩), .int .i64 a0, .int .i64 s1, .int .u16 u, .int .u16 r, .int .i64 r, .int .i64 X, .pointer (some ⟨g3, 1, none⟩), .int .i64 a1, .int .i16 h, .int .i64 h, .int .u16 u, .int .u16 r, .int .i64 r, .int .i64 D, .int .i64 H, .int .i64 Y, arr 2 (DM.t2 X Y), g 18]) 1 (by kernel_rfl) (by kernel_rfl) (by rfl) (by rfl) (fun _ => rfl) (by decide) ?_ (NB.start O.drew) (fun F hF => ?_)
          · intro i hi
            simp only [List.mem_cons, List.not_mem_nil, or_false] at hi
            rcases hi with rfl
            · exact ⟨fun _ => rfl, [0, 1, 2, 3, 4, 5, 6, 7, 8, 9, 10, 11, 12, 13, 14, 15, 16, 17], by kernel_rfl, fun g v => ⟨rfl, rfl, rfl, rfl, rfl, rfl, rfl, rfl, rfl, rfl, rfl, rfl, rfl, rfl, rfl, rfl, rfl, rfl, trivial⟩⟩
          simp only [fillD, Act.put, List.setIfInBounds_toArray, List.set_cons_zero, List.set_cons_succ] at hF
          have hF2 := funext hF
          clear hF
          subst hF2
          refine ⟨⟨doesN_want (by decide) rfl (fun g => rfl) (fun st w' hS hp K hK => ?_), doesN_want (by decide) rfl (fun g => rfl) (fun st w' hS hp K hK => ?_), doesN_want (by decide) rfl (fun g => rfl) (fun st w' hS hp K hK => ?_), doesN_want (by decide) rfl (fun g => rfl) (fun st w' hS hp K hK => ?_), doesN_want (by decide) rfl (fun g => rfl) (fun st w' hS hp K hK => ?_), doesN_want (by decide) rfl (fun g => rfl) (fun st w' hS hp K hK => ?_), doesN_want (by decide) rfl (fun g => rfl) (fun st w' hS hp K hK => ?_), doesN_want (by decide) rfl (fun g => rfl) (fun st w' hS hp K hK => ?_), doesN_want (by decide) rfl (fun g => rfl) (fun st w' hS hp K hK => ?_), doesN_want (by decide) rfl (fun g => rfl) (fun st w' hS hp K hK => ?_), doesN_want (by decide) rfl (fun g => rfl) (fun st w' hS hp K hK => ?_), doesN_want (by decide) rfl (fun g => rfl) (fun st w' hS hp K hK => ?_), doesN_want (by decide) rfl (fun g => rfl) (fun st w' hS hp K hK => ?_), doesN_want (by decide) rfl (fun g => rfl) (fun st w' hS hp K hK => ?_), doesN_want (by decide) rfl (fun g => rfl) (fun st w' hS hp K hK => ?_), doesN_want (by decide) rfl (fun g => rfl) (fun st w' hS hp K hK => ?_), doesN_want (by decide) rfl (fun g => rfl) (fun st w' hS hp K hK => ?_), doesN_want (by decide) rfl (fun g => rfl) (fun st w' hS hp K hK => ?_), doesC_want (by decide) rfl (fun g => rfl) (fun st w' hS hn hp K hK => ?_), trivial⟩, fun st w' hS hall => ?_⟩
          · try dsimp only
            go_simp
            exact hK _ hS
          · try dsimp only
            exact wp_cell_h (v := .int .i64 a0) hS.own.held 0 rfl Ca0.out rfl agg3 rfl (hK _ hS)
          · try dsimp only
            obtain ⟨e1, e2⟩ := Hs1.out
            go_simp
            first | exact hK _ hS | (rw [e1, e2]; exact hK _ hS) | (simp only [e1, e2]; exact hK _ hS)
          · try dsimp only
            go_simp
            exact hK _ hS
          · try dsimp only
            obtain ⟨e1, e2, e3⟩ := Hr.out
            go_simp
            first | exact hK _ hS | (simp only [e1, e2, e3]; exact hK _ hS) | (rw [e1]; exact hK _ hS) | (rw [e2]; exact hK _ hS) | (rw [e3]; exact hK _ hS)
          · try dsimp only
            obtain ⟨e1, e2, e3⟩ := Hr.out
            go_simp
            first | exact hK _ hS | (simp only [e1, e2, e3]; exact hK _ hS) | (rw [e1]; exact hK _ hS) | (rw [e2]; exact hK _ hS) | (rw [e3]; exact hK _ hS)
          · try dsimp only
            obtain ⟨e1, e2⟩ := HX.out
            go_simp
            first | exact hK _ hS | (rw [e1, e2]; exact hK _ hS) | (simp only [e1, e2]; exact hK _ hS)
          · try dsimp only
            go_simp
            exact hK _ hS
          · try dsimp only
            exact wp_cell_h (v := .int .i64 a1) hS.own.held 0 rfl Ca1.out rfl agg3 rfl (hK _ hS)
          · try dsimp only
            go_simp
            exact hK _ hS
          · try dsimp only
            have e1 := Hh.out
            go_simp
            first | exact hK _ hS | (rw [e1]; exact hK _ hS)
          · try dsimp only
            go_simp
            exact hK _ hS
          · try dsimp only
            obtain ⟨e1, e2, e3⟩ := Hr.out
            go_simp
            first | exact hK _ hS | (simp only [e1, e2, e3]; exact hK _ hS) | (rw [e1]; exact hK _ hS) | (rw [e2]; exact hK _ hS) | (rw [e3]; exact hK _ hS)
          · try dsimp only
            obtain ⟨e1, e2, e3⟩ := Hr.out
            go_simp
            first | exact hK _ hS | (simp only [e1, e2, e3]; exact hK _ hS) | (rw [e1]; exact hK _ hS) | (rw [e2]; exact hK _ hS) | (rw [e3]; exact hK _ hS)
          · try dsimp only
            obtain ⟨e1, e2⟩ := HDn.out
            go_simp
            first | exact hK _ hS | (rw [e1, e2]; exact hK _ hS) | (simp only [e1, e2]; exact hK _ hS)
          · try dsimp only
            obtain ⟨e1, e2, e3⟩ := HH.out
            go_simp
            first | exact hK _ hS | (simp only [if_neg e1, e2, e3]; exact hK _ hS) | (rw [if_neg e1, e2, e3]; exact hK _ hS)
          · try dsimp only
            obtain ⟨e1, e2⟩ := HY.out
            go_simp
            first | exact hK _ hS | (rw [e1, e2]; exact hK _ hS) | (simp only [e1, e2]; exact hK _ hS)
          · try dsimp only
            refine wp_build_own [(0, .int .i64 X), (1, .int .i64 Y)] ((M.mat 2 (DM.t2 X Y)).toArray) ?_ (builtP X Y) (hK _ hS)
            simp only [List.map_toArray, List.map_cons, List.map_nil]
            rfl
          · try dsimp only
            exact hS.alloc HD 0 rfl hn zeroP hK
          try dsimp only
          obtain ⟨g7, e7⟩ := hS.ptr 0 rfl (hall 18 (by decide))
          have O3 : Own w w' [(g7, 23, M.mat 2 M.zero), (g3, 23, M.mat 2 a), (g1, 40, wide a u h b)] := by
            have h3 := hS.2.2
            rw [nows_cons, NbS.now_same e7 rfl] at h3
            exact h3
          clear hS O
          have O := O3
          clear O3
          simp only [seen, e7, Option.getD_some]
          clear hall e7
          refine wpAny_want (i := 19) (by kernel_rfl) rfl (by rfl) (fun K hK => ?_)
          refine wp_put_own O 0 (M.mat 2 (DM.t2 X Y)) rfl rfl rfl (sP _) (M.mat_len2 _ _ _) (M.mat_one _ _) fun w9 O9 => hK _ _ ?_
          clear O
          have O := O9
          clear O9
          clear hK K
          try simp only [Act.put, List.setIfInBounds_toArray, List.set_cons_zero, List.set_cons_succ]
          refine wpAny_done (by kernel_rfl) ?_ _
          have O9 := Own.as O (l' := [(g7, 23, M.mat 2 (DM.t2 X Y)), (g3, 23, M.mat 2 a), (g1, 40, wide a u h b)]) rfl
          clear O HD Hr Hh HDn HH Hs1 HX HY
          have O := O9
          clear O9
          have HD2 := HDh.out
          clear HDh
          go_wp2_with fail
          refine region_S (fun st w2 => NB w [(g7, 23, M.mat 2 (DM.t2 X Y)), (g3, 23, M.mat 2 a), (g1, 40, wide a u h b)] [⟨2, 4, 23, M.mat 2 M.zero, M.mat 2 a⟩, ⟨3, 99, 23, M.mat 2 M.zero, M.mat 2 M.zero⟩] st w2) [2, 3, 4] 12 5 [some 60, some 61, some 8, some 9, none] (fun g => [arr 2 a, arr 2 (DM.t2 X Y), g 2, g 3, g 4]) 1 (by kernel_rfl) (by kernel_rfl) (by rfl) (by rfl) (fun _ => rfl) (by decide) ?_ (NB.start O.drew) (fun F hF => ?_)
          · intro i hi
            simp only [List.mem_cons, List.not_mem_nil, or_false] at hi
            rcases hi with rfl | rfl | rfl
            · exact ⟨fun _ => rfl, [0, 1, 3, 4], by kernel_rfl, fun g v => ⟨rfl, rfl, rfl, rfl, trivial⟩⟩
            · exact ⟨fun _ => rfl, [0, 1, 2, 4], by kernel_rfl, fun g v => ⟨rfl, rfl, rfl, rfl, trivial⟩⟩
            · exact ⟨fun _ => rfl, [0, 1, 2, 3], by kernel_rfl, fun g v => ⟨rfl, rfl, rfl, rfl, trivial⟩⟩
          simp only [fillD, Act.put, List.setIfInBounds_toArray, List.set_cons_zero, List.set_cons_succ] at hF
          have hF2 := funext hF
          clear hF
          subst hF2
          refine ⟨⟨doesN_want (by decide) rfl (fun g => rfl) (fun st w' hS hp K hK => ?_), doesN_want (by decide) rfl (fun g => rfl) (fun st w' hS hp K hK => ?_), doesC_want (by decide) rfl (fun g => rfl) (fun st w' hS hn hp K hK => ?_), doesC_want (by decide) rfl (fun g => rfl) (fun st w' hS hn hp K hK => ?_), doesC_want (by decide) rfl (fun g => rfl) (fun st w' hS hn hp K hK => ?_), trivial⟩, fun st w' hS hall => ?_⟩
          · try dsimp only
            exact wp_whole hS.own 1 rfl rfl Try.underlying23 rfl (sP _) (hK _ hS)
          · try dsimp only
            exact wp_whole hS.own 0 rfl rfl Try.underlying23 rfl (sP _) (hK _ hS)
          · try dsimp only
            exact hS.alloc HD2 0 rfl hn zeroP hK
          · try dsimp only
            exact hS.alloc HD2 1 rfl hn zeroP hK
          · try dsimp only
            exact hS.put HD2 0 rfl (hp 2 (by decide) (by kernel_rfl)) hn rfl rfl (sP _) (M.mat_len2 _ _ _) (M.mat_one _ _) hK
          try dsimp only
          obtain ⟨g8, e8⟩ := hS.ptr 0 rfl (hall 2 (by decide))
          obtain ⟨g9, e9⟩ := hS.ptr 1 rfl (hall 3 (by decide))
          have O3 : Own w w' [(g8, 23, M.mat 2 a), (g9, 23, M.mat 2 M.zero), (g7, 23, M.mat 2 (DM.t2 X Y)), (g3, 23, M.mat 2 a), (g1, 40, wide a u h b)] := by
            have h3 := hS.2.2
            rw [nows_cons, nows_cons, NbS.now_is e8 true (hall 4 (by decide)), NbS.now_same e9 rfl] at h3
            exact h3
          clear hS O
          have O := O3
          clear O3
          simp only [seen, e8, e9, Option.getD_some]
          try generalize (st 4).getD undef = x4'
          clear hall e8 e9
          refine wpAny_want (i := 5) (by kernel_rfl) rfl (by rfl) (fun K hK => ?_)
          refine wp_put_own O 1 (M.mat 2 (DM.t2 X Y)) rfl rfl rfl (sP _) (M.mat_len2 _ _ _) (M.mat_one _ _) fun w9 O9 => hK _ _ ?_
          clear O
          have O := O9
          clear O9
          clear hK K
          try simp only [Act.put, List.setIfInBounds_toArray, List.set_cons_zero, List.set_cons_succ]
          refine wpAny_done (by kernel_rfl) ?_ _
          have O9 := Own.as O (l' := [(g8, 23, M.mat 2 a), (g9, 23, M.mat 2 (DM.t2 X Y)), (g7, 23, M.mat 2 (DM.t2 X Y)), (g3, 23, M.mat 2 a), (g1, 40, wide a u h b)]) rfl
          clear O HD2
          have O := O9
          clear O9
          cases b
          · obtain ⟨⟨w1_, w2_⟩, ⟨w3_, w4_⟩, w5_, w6_, ⟨w7_, w8_⟩, w9_, w10_⟩ := RW.out
            obtain ⟨x, hx⟩ : ∃ z, (a0 + 256) / 256 = z := ⟨_, rfl⟩
            have Wx : wrap64 (a0 + 256) = a0 + 256 := IntWalk.wrap64_in _ (by omega)
            obtain ⟨m1, hm1⟩ : ∃ z, min a1 Y = z := ⟨_, rfl⟩
            obtain ⟨m2, hm2⟩ : ∃ z, max a1 Y = z := ⟨_, rfl⟩
            have G1 := (min_if a1 Y).trans hm1
            have G2 := (max_if a1 Y).trans hm2
            obtain ⟨lo, hlo⟩ : ∃ z, m1 / 256 - 1 = z := ⟨_, rfl⟩
            obtain ⟨hi, hhi⟩ : ∃ z, m2 / 256 + 1 = z := ⟨_, rfl⟩
            have Hmin : Hid (min a1 Y = m1 ∧ (if Y < a1 then Y else a1) = m1) := Lib.hid ⟨hm1, G1⟩
            have Hmax : Hid (max a1 Y = m2 ∧ (if a1 < Y then Y else a1) = m2) := Lib.hid ⟨hm2, G2⟩
            have Hlo : Hid (m1 / 256 - 1 = lo ∧ IntKind.i64.wrap lo = lo) := Lib.hid ⟨hlo, IntWalk.i64_in _ (by omega)⟩
            have Hhi : Hid (m2 / 256 + 1 = hi ∧ IntKind.i64.wrap hi = hi) := Lib.hid ⟨hhi, IntWalk.i64_in _ (by omega)⟩
            have hu : DM.rel a0 x ≤ -129 ∧ -384 ≤ DM.rel a0 x := by unfold DM.rel; omega
            obtain ⟨y0, hy0⟩ : ∃ z, DM.colY W H (W * a1 - H * DM.rel a0 x) = z := ⟨_, rfl⟩
            have cl := @DM.col_lim a1 W H (DM.rel a0 x) H w1_ hu.1 hu.2
            rw [hy0, w6_, hm1, hm2, hlo, hhi] at cl
            obtain ⟨cl1, cl2⟩ := cl
            have rx : -4194304 ≤ x ∧ x ≤ 4194304 := by omega
            have rl : ((-4194304 ≤ lo ∧ hi ≤ 4194303) ∧ hi < lo + 19) ∧ lo ≤ hi := by omega
            have RL := Lib.hid rl
            have CM : Hid (∀ y w, -4194304 ≤ y → y ≤ 4194304 → Calls Try.prog 13 #[arr 2 a, arr 2 (DM.t2 X Y), .int .i64 x, .int .i64 y] w fun e w' => e = .returned (.bool (decide (y = y0))) ∧ Below w.heap.size w w') := Lib.hid (by
              intro y w k1 k2
              have ga : DM.Rg a := by unfold DM.Rg; rw [EA.out.1, EA.out.2]; omega
              have gb : DM.Rg (DM.t2 X Y) := by unfold DM.Rg; show (-536870912 ≤ X ∧ X ≤ 536870912) ∧ (-536870912 ≤ Y ∧ Y ≤ 536870912); omega
              have C := meets_any a (DM.t2 X Y) x y ga gb (by unfold DM.Rx; omega) w
              change Calls Try.prog 13 #[arr 2 a, arr 2 (DM.t2 X Y), .int .i64 x, .int .i64 y] w fun e w' => e = .returned (.bool (DM.meets (DM.rel (a 0) x) (DM.rel (a 1) y) (DM.rel X x) (DM.rel Y y))) ∧ Below w.heap.size w w' at C
              rw [EA.out.1, EA.out.2, ← w5_, ← w6_, DM.column w1_ w3_ w4_ hx.symm y, hy0] at C
              rw [← w5_, ← w6_]
              exact C)
            have CL1 := Lib.hid cl1
            have CL2 := Lib.hid cl2
            clear w1_ w2_ w3_ w4_ w5_ w6_ w7_ w8_ w9_ w10_ hm1 hm2 G1 G2 hlo hhi hu hy0 cl1 cl2 rx rl EA RW
            go_wp2_with ((with_reducible refine at_load 74 ?_); refine wpList_cell_h (v := .int .i64 (a0)) rfl O.held 3 rfl Ca0.out rfl agg3 rfl ?_)
            clear hx Wx
            have OO := O
            clear O
            have O := OO
            clear OO
            refine region_T ((fun w2 => Own w w2 [(g8, 23, M.mat 2 a), (g9, 23, M.mat 2 (DM.t2 X Y)), (g7, 23, M.mat 2 (DM.t2 X Y)), (g3, 23, M.mat 2 a), (g1, 40, wide a u h false)])) [0, 1, 2, 3, 4, 5, 6, 7, 8, 9, 10, 11, 12, 13, 14] 12 [some 77, some 78, some 79, some 80, some 81, some 82, some 83, some 84, some 85, some 86, some 87, some 88, some 89, some 90, some 11] [.pointer (some ⟨g3, 1, none⟩), .int .i64 a1, .pointer (some ⟨g7, 1, none⟩), .int .i64 Y, .int .i64 m1, .int .i64 (m1 / 256), .int .i64 lo, .pointer (some ⟨g3, 1, none⟩), .int .i64 a1, .pointer (some ⟨g7, 1, none⟩), .int .i64 Y, .int .i64 m2, .int .i64 (m2 / 256), .int .i64 hi, .int .i64 lo] 1 (by kernel_rfl) (by rfl) (by kernel_rfl) (by rfl) (by rfl) (O.drew) (fun F hF => ?_)
            simp only [fillD, Act.put, List.setIfInBounds_toArray, List.set_cons_zero, List.set_cons_succ] at hF
            subst hF
            refine ⟨⟨does_want rfl (by rfl) (fun w' O K hK => ?_), does_want rfl (by rfl) (fun w' O K hK => ?_), does_want rfl (by rfl) (fun w' O K hK => ?_), does_want rfl (by rfl) (fun w' O K hK => ?_), does_want rfl (by rfl) (fun w' O K hK => ?_), does_want rfl (by rfl) (fun w' O K hK => ?_), does_want rfl (by rfl) (fun w' O K hK => ?_), does_want rfl (by rfl) (fun w' O K hK => ?_), does_want rfl (by rfl) (fun w' O K hK => ?_), does_want rfl (by rfl) (fun w' O K hK => ?_), does_want rfl (by rfl) (fun w' O K hK => ?_), does_want rfl (by rfl) (fun w' O K hK => ?_), does_want rfl (by rfl) (fun w' O K hK => ?_), does_want rfl (by rfl) (fun w' O K hK => ?_), does_want rfl (by rfl) (fun w' O K hK => ?_), trivial⟩, fun w' O => ?_⟩
            · go_simp
              exact hK _ O
            · exact wp_cell_h (v := .int .i64 (a1)) O.held 3 rfl Ca1.out rfl agg3 rfl (hK _ O)
            · go_simp
              exact hK _ O
            · exact wp_cell_h (v := .int .i64 (Y)) O.held 2 rfl CY.out rfl agg3 rfl (hK _ O)
            · obtain ⟨e1, e2⟩ := Hmin.out
              go_simp
              first | exact hK _ O | (rw [e1, e2]; exact hK _ O) | (simp only [e1, e2]; exact hK _ O) | (rw [e1]; exact hK _ O) | (rw [e2]; exact hK _ O)
            · go_simp
              exact hK _ O
            · obtain ⟨e1, e2⟩ := Hlo.out
              go_simp
              first | exact hK _ O | (rw [e1, e2]; exact hK _ O) | (simp only [e1, e2]; exact hK _ O) | (rw [e1]; exact hK _ O) | (rw [e2]; exact hK _ O)
            · go_simp
              exact hK _ O
            · exact wp_cell_h (v := .int .i64 (a1)) O.held 3 rfl Ca1.out rfl agg3 rfl (hK _ O)
            · go_simp
              exact hK _ O
            · exact wp_cell_h (v := .int .i64 (Y)) O.held 2 rfl CY.out rfl agg3 rfl (hK _ O)
            · obtain ⟨e1, e2⟩ := Hmax.out
              go_simp
              first | exact hK _ O | (rw [e1, e2]; exact hK _ O) | (simp only [e1, e2]; exact hK _ O) | (rw [e1]; exact hK _ O) | (rw [e2]; exact hK _ O)
            · go_simp
              exact hK _ O
            · obtain ⟨e1, e2⟩ := Hhi.out
              go_simp
              first | exact hK _ O | (rw [e1, e2]; exact hK _ O) | (simp only [e1, e2]; exact hK _ O) | (rw [e1]; exact hK _ O) | (rw [e2]; exact hK _ O)
            · go_simp
              exact hK _ O
            refine wpAny_one (i := 15) (by kernel_rfl) rfl (fun K hK => ?_)
            go_simp
            refine hK _ _ ?_
            clear hK K
            try simp only [Act.put, List.setIfInBounds_toArray, List.set_cons_zero, List.set_cons_succ]
            refine wpAny_done (by kernel_rfl) ?_ _
            clear Hmin Hmax Hlo Hhi Ca0 Ca1 CX CY
            go_wp2_with fail
            have RLo := RL.out
            obtain ⟨⟨⟨q1, q2⟩, q3⟩, q4⟩ := RLo
            have W20 : wrap64 (lo + 20) = lo + 20 := IntWalk.wrap64_in _ (by omega)
            have NN := Lib.hid (met_zero CL1.out)
            go_loopw [13, 14] (fun c v wr => ∃ k : Nat, lo + k ≤ hi + 1 ∧ c = .int .i64 (met y0 lo k) ∧ v = .int .i64 (lo + k) ∧ Own w wr [(g8, 23, M.mat 2 a), (g9, 23, M.mat 2 (DM.t2 X Y)), (g7, 23, M.mat 2 (DM.t2 X Y)), (g3, 23, M.mat 2 a), (g1, 40, wide a u h false)]) (fun _ v _ => (hi + 1 - intOf v).toNat)
            case atStart => exact ⟨0, by have := CL1.out; have := CL2.out; omega, by rw [NN.out], by simp, O⟩
            case round =>
              clear O
              obtain ⟨k, hk, rfl, rfl, O⟩ := hrel
              obtain ⟨y, hy⟩ : ∃ y, lo + (k : Int) = y := ⟨_, rfl⟩
              obtain ⟨c, hc⟩ : ∃ c, met y0 lo k = c := ⟨_, rfl⟩
              rw [hy, hc]
              have ry : lo ≤ y ∧ y ≤ hi + 1 := by omega
              obtain ⟨r1, r2⟩ := ry
              by_cases hlt : y ≤ hi
              · have W21 : wrap64 (y + 1) = y + 1 := IntWalk.wrap64_in _ (by omega)
                have hl2 : y < lo + 20 := by omega
                have C := fun w => CM.out y w (by omega) (by omega)
                by_cases e0 : y = y0
                · rw [decide_eq_true e0] at C
                  have hh := met_hit (y0 := y0) (lo := lo) (k := k) (by omega)
                  rw [hc] at hh
                  obtain ⟨hc0, hc1⟩ := hh
                  have HN := Lib.hid hc1
                  have HY := Lib.hid hy
                  subst hc0
                  clear hc hc1 e0 hy
                  go_wp2_with (first | ((with_reducible refine at_load 106 ?_); refine wpList_whole rfl O 0 rfl rfl Try.underlying23 rfl (sP _) ?_) | ((with_reducible refine at_load 107 ?_); refine wpList_whole rfl O 1 rfl rfl Try.underlying23 rfl (sP _) ?_) | (go_at_call 13; refine (C _).mono ?_; rintro e w30 ⟨rfl, hb⟩; replace O := O.call hb; clear hb))
                  go_roundw
                  case rel => exact ⟨k + 1, by have := HY.out; omega, by rw [HN.out], by rw [← HY.out]; exact congrArg (Value.int IntKind.i64) (by omega), O⟩
                  case measure => simp [intOf]; omega
                · rw [decide_eq_false e0] at C
                  have HN := Lib.hid (met_not (y0 := y0) (lo := lo) (k := k) (by omega))
                  rw [hc] at HN
                  have HY := Lib.hid hy
                  clear hc e0 hy
                  go_wp2_with (first | ((with_reducible refine at_load 106 ?_); refine wpList_whole rfl O 0 rfl rfl Try.underlying23 rfl (sP _) ?_) | ((with_reducible refine at_load 107 ?_); refine wpList_whole rfl O 1 rfl rfl Try.underlying23 rfl (sP _) ?_) | (go_at_call 13; refine (C _).mono ?_; rintro e w30 ⟨rfl, hb⟩; replace O := O.call hb; clear hb))
                  go_roundw
                  case rel => exact ⟨k + 1, by have := HY.out; omega, by rw [HN.out], by rw [← HY.out]; exact congrArg (Value.int IntKind.i64) (by omega), O⟩
                  case measure => simp [intOf]; omega
              · have hc1 := met_all (k := k) CL2.out (show lo + (k : Int) = hi + 1 by omega)
                rw [hc] at hc1
                subst hc1
                clear hc hy
                go_wp2_with (go_at_call 9; refine (awake_any _).mono ?_; rintro e w20 ⟨rfl, hb⟩; replace O := O.call hb; clear hb)
                go_ret
                exact ⟨rfl, O.below⟩
          · go_wp2_with fail
            have OO := O
            clear O
            have O := OO
            clear OO
            refine region_S (fun st w2 => Own w w2 [(g8, 23, if (st 10).isSome then M.mat 2 (DM.t2 a1 a0) else M.mat 2 a), (g9, 23, M.mat 2 (DM.t2 X Y)), (g7, 23, M.mat 2 (DM.t2 X Y)), (g3, 23, M.mat 2 a), (g1, 40, wide a u h true)]) [10] 12 11 [some 63, some 64, some 65, some 66, some 67, some 68, some 69, some 70, some 71, some 72, none] (fun g => [.pointer (some ⟨g3, 1, none⟩), .int .i64 a1, .pointer (some ⟨g3, 0, none⟩), .int .i64 a0, arr 2 (DM.t2 a1 a0), .pointer (some ⟨g7, 1, none⟩), .int .i64 Y, .pointer (some ⟨g7, 0, none⟩), .int .i64 X, arr 2 (DM.t2 Y X), g 10]) 1 (by kernel_rfl) (by kernel_rfl) (by rfl) (by rfl) (fun _ => rfl) (by decide) ?_ (O.drew) (fun F hF => ?_)
            · intro i hi
              simp only [List.mem_cons, List.not_mem_nil, or_false] at hi
              rcases hi with rfl
              · exact ⟨fun _ => rfl, [0, 1, 2, 3, 4, 5, 6, 7, 8, 9], by kernel_rfl, fun g v => ⟨rfl, rfl, rfl, rfl, rfl, rfl, rfl, rfl, rfl, rfl, trivial⟩⟩
            simp only [fillD, Act.put, List.setIfInBounds_toArray, List.set_cons_zero, List.set_cons_succ] at hF
            have hF2 := funext hF
            clear hF
            subst hF2
            refine ⟨⟨doesN_want (by decide) rfl (fun g => rfl) (fun st w' hS hp K hK => ?_), doesN_want (by decide) rfl (fun g => rfl) (fun st w' hS hp K hK => ?_), doesN_want (by decide) rfl (fun g => rfl) (fun st w' hS hp K hK => ?_), doesN_want (by decide) rfl (fun g => rfl) (fun st w' hS hp K hK => ?_), doesN_want (by decide) rfl (fun g => rfl) (fun st w' hS hp K hK => ?_), doesN_want (by decide) rfl (fun g => rfl) (fun st w' hS hp K hK => ?_), doesN_want (by decide) rfl (fun g => rfl) (fun st w' hS hp K hK => ?_), doesN_want (by decide) rfl (fun g => rfl) (fun st w' hS hp K hK => ?_), doesN_want (by decide) rfl (fun g => rfl) (fun st w' hS hp K hK => ?_), doesN_want (by decide) rfl (fun g => rfl) (fun st w' hS hp K hK => ?_), doesC_want (by decide) rfl (fun g => rfl) (fun st w' hS hn hp K hK => ?_), trivial⟩, fun st w' hS hall => ?_⟩
            · try dsimp only
              go_simp
              exact hK _ hS
            · try dsimp only
              exact wp_cell_h (v := .int .i64 a1) hS.held 3 rfl Ca1.out rfl agg3 rfl (hK _ hS)
            · try dsimp only
              go_simp
              exact hK _ hS
            · try dsimp only
              exact wp_cell_h (v := .int .i64 a0) hS.held 3 rfl Ca0.out rfl agg3 rfl (hK _ hS)
            · try dsimp only
              refine wp_build_own [(0, .int .i64 a1), (1, .int .i64 a0)] ((M.mat 2 (DM.t2 a1 a0)).toArray) ?_ (builtP a1 a0) (hK _ hS)
              simp only [List.map_toArray, List.map_cons, List.map_nil]
              rfl
            · try dsimp only
              go_simp
              exact hK _ hS
            · try dsimp only
              exact wp_cell_h (v := .int .i64 Y) hS.held 2 rfl CY.out rfl agg3 rfl (hK _ hS)
            · try dsimp only
              go_simp
              exact hK _ hS
            · try dsimp only
              exact wp_cell_h (v := .int .i64 X) hS.held 2 rfl CX.out rfl agg3 rfl (hK _ hS)
            · try dsimp only
              refine wp_build_own [(0, .int .i64 Y), (1, .int .i64 X)] ((M.mat 2 (DM.t2 Y X)).toArray) ?_ (builtP Y X) (hK _ hS)
              simp only [List.map_toArray, List.map_cons, List.map_nil]
              rfl
            · try dsimp only
              rw [hn] at hS
              exact wp_put_own hS 0 (M.mat 2 (DM.t2 a1 a0)) rfl rfl rfl (sP _) (M.mat_len2 _ _ _) (M.mat_one _ _) fun w1 O1 => hK _ _ O1
            try dsimp only
            have O3 : Own w w' [(g8, 23, M.mat 2 (DM.t2 a1 a0)), (g9, 23, M.mat 2 (DM.t2 X Y)), (g7, 23, M.mat 2 (DM.t2 X Y)), (g3, 23, M.mat 2 a), (g1, 40, wide a u h true)] := by
              have := hall 10 (by decide)
              rwa [if_pos this] at hS
            clear hS O
            have O := O3
            clear O3
            try simp only [seen]
            try generalize (st 10).getD undef = u10'
            clear hall
            refine wpAny_want (i := 11) (by kernel_rfl) rfl (by rfl) (fun K hK => ?_)
            refine wp_put_own O 1 (M.mat 2 (DM.t2 Y X)) rfl rfl rfl (sP _) (M.mat_len2 _ _ _) (M.mat_one _ _) fun w9 O9 => hK _ _ ?_
            clear O
            have O := O9
            clear O9
            clear hK K
            try simp only [Act.put, List.setIfInBounds_toArray, List.set_cons_zero, List.set_cons_succ]
            refine wpAny_done (by kernel_rfl) ?_ _
            have O9 := Own.as O (l' := [(g8, 23, M.mat 2 (DM.t2 a1 a0)), (g9, 23, M.mat 2 (DM.t2 Y X)), (g7, 23, M.mat 2 (DM.t2 X Y)), (g3, 23, M.mat 2 a), (g1, 40, wide a u h true)]) rfl
            clear O
            have O := O9
            clear O9
            obtain ⟨⟨w1_, w2_⟩, ⟨w3_, w4_⟩, w5_, w6_, ⟨w7_, w8_⟩, w9_, w10_⟩ := RW.out
            obtain ⟨x, hx⟩ : ∃ z, (a0 + 256) / 256 = z := ⟨_, rfl⟩
            have Wx : wrap64 (a0 + 256) = a0 + 256 := IntWalk.wrap64_in _ (by omega)
            obtain ⟨m1, hm1⟩ : ∃ z, min a1 Y = z := ⟨_, rfl⟩
            obtain ⟨m2, hm2⟩ : ∃ z, max a1 Y = z := ⟨_, rfl⟩
            have G1 := (min_if a1 Y).trans hm1
            have G2 := (max_if a1 Y).trans hm2
            obtain ⟨lo, hlo⟩ : ∃ z, m1 / 256 - 1 = z := ⟨_, rfl⟩
            obtain ⟨hi, hhi⟩ : ∃ z, m2 / 256 + 1 = z := ⟨_, rfl⟩
            have Hmin : Hid (min a1 Y = m1 ∧ (if Y < a1 then Y else a1) = m1) := Lib.hid ⟨hm1, G1⟩
            have Hmax : Hid (max a1 Y = m2 ∧ (if a1 < Y then Y else a1) = m2) := Lib.hid ⟨hm2, G2⟩
            have Hlo : Hid (m1 / 256 - 1 = lo ∧ IntKind.i64.wrap lo = lo) := Lib.hid ⟨hlo, IntWalk.i64_in _ (by omega)⟩
            have Hhi : Hid (m2 / 256 + 1 = hi ∧ IntKind.i64.wrap hi = hi) := Lib.hid ⟨hhi, IntWalk.i64_in _ (by omega)⟩
            have hu : DM.rel a0 x ≤ -129 ∧ -384 ≤ DM.rel a0 x := by unfold DM.rel; omega
            obtain ⟨y0, hy0⟩ : ∃ z, DM.colY W 0 (W * a1 - H * DM.rel a0 x) = z := ⟨_, rfl⟩
            have cl := @DM.col_lim a1 W H (DM.rel a0 x) 0 w1_ hu.1 hu.2
            rw [hy0, w6_, hm1, hm2, hlo, hhi] at cl
            obtain ⟨cl1, cl2⟩ := cl
            have rx : -4194304 ≤ x ∧ x ≤ 4194304 := by omega
            have rl : ((-4194304 ≤ lo ∧ hi ≤ 4194303) ∧ hi < lo + 19) ∧ lo ≤ hi := by omega
            have RL := Lib.hid rl
            have CM : Hid (∀ y w, -4194304 ≤ y → y ≤ 4194304 → Calls Try.prog 13 #[arr 2 (DM.t2 a1 a0), arr 2 (DM.t2 Y X), .int .i64 y, .int .i64 x] w fun e w' => e = .returned (.bool (decide (y = y0))) ∧ Below w.heap.size w w') := Lib.hid (by
              intro y w k1 k2
              have ga : DM.Rg (DM.t2 a1 a0) := by unfold DM.Rg; show (-536870912 ≤ a1 ∧ a1 ≤ 536870912) ∧ (-536870912 ≤ a0 ∧ a0 ≤ 536870912); omega
              have gb : DM.Rg (DM.t2 Y X) := by unfold DM.Rg; show (-536870912 ≤ Y ∧ Y ≤ 536870912) ∧ (-536870912 ≤ X ∧ X ≤ 536870912); omega
              have C := meets_any (DM.t2 a1 a0) (DM.t2 Y X) y x ga gb (by unfold DM.Rx; omega) w
              change Calls Try.prog 13 #[arr 2 (DM.t2 a1 a0), arr 2 (DM.t2 Y X), .int .i64 y, .int .i64 x] w fun e w' => e = .returned (.bool (DM.meets (DM.rel a1 y) (DM.rel a0 x) (DM.rel Y y) (DM.rel X x))) ∧ Below w.heap.size w w' at C
              rw [← w5_, ← w6_, DM.columnT w1_ w3_ w4_ hx.symm y, hy0] at C
              rw [← w5_, ← w6_]
              exact C)
            have CL1 := Lib.hid cl1
            have CL2 := Lib.hid cl2
            clear w1_ w2_ w3_ w4_ w5_ w6_ w7_ w8_ w9_ w10_ hm1 hm2 G1 G2 hlo hhi hu hy0 cl1 cl2 rx rl EA RW
            go_wp2_with ((with_reducible refine at_load 74 ?_); refine wpList_cell_h (v := .int .i64 (a0)) rfl O.held 3 rfl Ca0.out rfl agg3 rfl ?_)
            clear hx Wx
            have OO := O
            clear O
            have O := OO
            clear OO
            refine region_T ((fun w2 => Own w w2 [(g8, 23, M.mat 2 (DM.t2 a1 a0)), (g9, 23, M.mat 2 (DM.t2 Y X)), (g7, 23, M.mat 2 (DM.t2 X Y)), (g3, 23, M.mat 2 a), (g1, 40, wide a u h true)])) [0, 1, 2, 3, 4, 5, 6, 7, 8, 9, 10, 11, 12, 13, 14] 12 [some 77, some 78, some 79, some 80, some 81, some 82, some 83, some 84, some 85, some 86, some 87, some 88, some 89, some 90, some 11] [.pointer (some ⟨g3, 1, none⟩), .int .i64 a1, .pointer (some ⟨g7, 1, none⟩), .int .i64 Y, .int .i64 m1, .int .i64 (m1 / 256), .int .i64 lo, .pointer (some ⟨g3, 1, none⟩), .int .i64 a1, .pointer (some ⟨g7, 1, none⟩), .int .i64 Y, .int .i64 m2, .int .i64 (m2 / 256), .int .i64 hi, .int .i64 lo] 1 (by kernel_rfl) (by rfl) (by kernel_rfl) (by rfl) (by rfl) (O.drew) (fun F hF => ?_)
            simp only [fillD, Act.put, List.setIfInBounds_toArray, List.set_cons_zero, List.set_cons_succ] at hF
            subst hF
            refine ⟨⟨does_want rfl (by rfl) (fun w' O K hK => ?_), does_want rfl (by rfl) (fun w' O K hK => ?_), does_want rfl (by rfl) (fun w' O K hK => ?_), does_want rfl (by rfl) (fun w' O K hK => ?_), does_want rfl (by rfl) (fun w' O K hK => ?_), does_want rfl (by rfl) (fun w' O K hK => ?_), does_want rfl (by rfl) (fun w' O K hK => ?_), does_want rfl (by rfl) (fun w' O K hK => ?_), does_want rfl (by rfl) (fun w' O K hK => ?_), does_want rfl (by rfl) (fun w' O K hK => ?_), does_want rfl (by rfl) (fun w' O K hK => ?_), does_want rfl (by rfl) (fun w' O K hK => ?_), does_want rfl (by rfl) (fun w' O K hK => ?_), does_want rfl (by rfl) (fun w' O K hK => ?_), does_want rfl (by rfl) (fun w' O K hK => ?_), trivial⟩, fun w' O => ?_⟩
            · go_simp
              exact hK _ O
            · exact wp_cell_h (v := .int .i64 (a1)) O.held 3 rfl Ca1.out rfl agg3 rfl (hK _ O)
            · go_simp
              exact hK _ O
            · exact wp_cell_h (v := .int .i64 (Y)) O.held 2 rfl CY.out rfl agg3 rfl (hK _ O)
            · obtain ⟨e1, e2⟩ := Hmin.out
              go_simp
              first | exact hK _ O | (rw [e1, e2]; exact hK _ O) | (simp only [e1, e2]; exact hK _ O) | (rw [e1]; exact hK _ O) | (rw [e2]; exact hK _ O)
            · go_simp
              exact hK _ O
            · obtain ⟨e1, e2⟩ := Hlo.out
              go_simp
              first | exact hK _ O | (rw [e1, e2]; exact hK _ O) | (simp only [e1, e2]; exact hK _ O) | (rw [e1]; exact hK _ O) | (rw [e2]; exact hK _ O)
            · go_simp
              exact hK _ O
            · exact wp_cell_h (v := .int .i64 (a1)) O.held 3 rfl Ca1.out rfl agg3 rfl (hK _ O)
            · go_simp
              exact hK _ O
            · exact wp_cell_h (v := .int .i64 (Y)) O.held 2 rfl CY.out rfl agg3 rfl (hK _ O)
            · obtain ⟨e1, e2⟩ := Hmax.out
              go_simp
              first | exact hK _ O | (rw [e1, e2]; exact hK _ O) | (simp only [e1, e2]; exact hK _ O) | (rw [e1]; exact hK _ O) | (rw [e2]; exact hK _ O)
            · go_simp
              exact hK _ O
            · obtain ⟨e1, e2⟩ := Hhi.out
              go_simp
              first | exact hK _ O | (rw [e1, e2]; exact hK _ O) | (simp only [e1, e2]; exact hK _ O) | (rw [e1]; exact hK _ O) | (rw [e2]; exact hK _ O)
            · go_simp
              exact hK _ O
            refine wpAny_one (i := 15) (by kernel_rfl) rfl (fun K hK => ?_)
            go_simp
            refine hK _ _ ?_
            clear hK K
            try simp only [Act.put, List.setIfInBounds_toArray, List.set_cons_zero, List.set_cons_succ]
            refine wpAny_done (by kernel_rfl) ?_ _
            clear Hmin Hmax Hlo Hhi Ca0 Ca1 CX CY
            go_wp2_with fail
            have RLo := RL.out
            obtain ⟨⟨⟨q1, q2⟩, q3⟩, q4⟩ := RLo
            have W20 : wrap64 (lo + 20) = lo + 20 := IntWalk.wrap64_in _ (by omega)
            have NN := Lib.hid (met_zero CL1.out)
            go_loopw [13, 14] (fun c v wr => ∃ k : Nat, lo + k ≤ hi + 1 ∧ c = .int .i64 (met y0 lo k) ∧ v = .int .i64 (lo + k) ∧ Own w wr [(g8, 23, M.mat 2 (DM.t2 a1 a0)), (g9, 23, M.mat 2 (DM.t2 Y X)), (g7, 23, M.mat 2 (DM.t2 X Y)), (g3, 23, M.mat 2 a), (g1, 40, wide a u h true)]) (fun _ v _ => (hi + 1 - intOf v).toNat)
            case atStart => exact ⟨0, by have := CL1.out; have := CL2.out; omega, by rw [NN.out], by simp, O⟩
            case round =>
              clear O
              obtain ⟨k, hk, rfl, rfl, O⟩ := hrel
              obtain ⟨y, hy⟩ : ∃ y, lo + (k : Int) = y := ⟨_, rfl⟩
              obtain ⟨c, hc⟩ : ∃ c, met y0 lo k = c := ⟨_, rfl⟩
              rw [hy, hc]
              have ry : lo ≤ y ∧ y ≤ hi + 1 := by omega
              obtain ⟨r1, r2⟩ := ry
              by_cases hlt : y ≤ hi
              · have W21 : wrap64 (y + 1) = y + 1 := IntWalk.wrap64_in _ (by omega)
                have hl2 : y < lo + 20 := by omega
                have C := fun w => CM.out y w (by omega) (by omega)
                by_cases e0 : y = y0
                · rw [decide_eq_true e0] at C
                  have hh := met_hit (y0 := y0) (lo := lo) (k := k) (by omega)
                  rw [hc] at hh
                  obtain ⟨hc0, hc1⟩ := hh
                  have HN := Lib.hid hc1
                  have HY := Lib.hid hy
                  subst hc0
                  clear hc hc1 e0 hy
                  go_wp2_with (first | ((with_reducible refine at_load 115 ?_); refine wpList_whole rfl O 0 rfl rfl Try.underlying23 rfl (sP _) ?_) | ((with_reducible refine at_load 116 ?_); refine wpList_whole rfl O 1 rfl rfl Try.underlying23 rfl (sP _) ?_) | (go_at_call 13; refine (C _).mono ?_; rintro e w30 ⟨rfl, hb⟩; replace O := O.call hb; clear hb))
                  go_roundw
                  case rel => exact ⟨k + 1, by have := HY.out; omega, by rw [HN.out], by rw [← HY.out]; exact congrArg (Value.int IntKind.i64) (by omega), O⟩
                  case measure => simp [intOf]; omega
                · rw [decide_eq_false e0] at C
                  have HN := Lib.hid (met_not (y0 := y0) (lo := lo) (k := k) (by omega))
                  rw [hc] at HN
                  have HY := Lib.hid hy
                  clear hc e0 hy
                  go_wp2_with (first | ((with_reducible refine at_load 115 ?_); refine wpList_whole rfl O 0 rfl rfl Try.underlying23 rfl (sP _) ?_) | ((with_reducible refine at_load 116 ?_); refine wpList_whole rfl O 1 rfl rfl Try.underlying23 rfl (sP _) ?_) | (go_at_call 13; refine (C _).mono ?_; rintro e w30 ⟨rfl, hb⟩; replace O := O.call hb; clear hb))
                  go_roundw
                  case rel => exact ⟨k + 1, by have := HY.out; omega, by rw [HN.out], by rw [← HY.out]; exact congrArg (Value.int IntKind.i64) (by omega), O⟩
                  case measure => simp [intOf]; omega
              · have hc1 := met_all (k := k) CL2.out (show lo + (k : Int) = hi + 1 by omega)
                rw [hc] at hc1
                subst hc1
                clear hc hy
                go_wp2_with (go_at_call 9; refine (awake_any _).mono ?_; rintro e w20 ⟨rfl, hb⟩; replace O := O.call hb; clear hb)
                go_ret
                exact ⟨rfl, O.below⟩
        · clear EA LO
          go_wp2_with (first | ((with_reducible refine at_load 24 ?_); refine wpList_cell_h (v := .int .i64 (a0)) rfl O.held 0 rfl Ca0.out rfl agg3 rfl ?_) | ((with_reducible refine at_load 28 ?_); refine wpList_cell_h (v := .int .i64 (a0)) rfl O.held 0 rfl Ca0.out rfl agg3 rfl ?_) | ((with_reducible refine at_load 33 ?_); refine wpList_cell_h (v := .int .i64 (a1)) rfl O.held 0 rfl Ca1.out rfl agg3 rfl ?_) | ((with_reducible refine at_load 38 ?_); refine wpList_cell_h (v := .int .i64 (a1)) rfl O.held 0 rfl Ca1.out rfl agg3 rfl ?_) | (go_at_call 9; refine (awake_any _).mono ?_; rintro e w20 ⟨rfl, hb⟩; replace O := O.call hb; clear hb))
          go_ret
          exact ⟨rfl, O.below⟩
      · clear EA LO
        go_wp2_with (first | ((with_reducible refine at_load 24 ?_); refine wpList_cell_h (v := .int .i64 (a0)) rfl O.held 0 rfl Ca0.out rfl agg3 rfl ?_) | ((with_reducible refine at_load 28 ?_); refine wpList_cell_h (v := .int .i64 (a0)) rfl O.held 0 rfl Ca0.out rfl agg3 rfl ?_) | ((with_reducible refine at_load 33 ?_); refine wpList_cell_h (v := .int .i64 (a1)) rfl O.held 0 rfl Ca1.out rfl agg3 rfl ?_) | ((with_reducible refine at_load 38 ?_); refine wpList_cell_h (v := .int .i64 (a1)) rfl O.held 0 rfl Ca1.out rfl agg3 rfl ?_) | (go_at_call 9; refine (awake_any _).mono ?_; rintro e w20 ⟨rfl, hb⟩; replace O := O.call hb; clear hb))
        go_ret
        exact ⟨rfl, O.below⟩
    · clear EA LO
      go_wp2_with (first | ((with_reducible refine at_load 24 ?_); refine wpList_cell_h (v := .int .i64 (a0)) rfl O.held 0 rfl Ca0.out rfl agg3 rfl ?_) | ((with_reducible refine at_load 28 ?_); refine wpList_cell_h (v := .int .i64 (a0)) rfl O.held 0 rfl Ca0.out rfl agg3 rfl ?_) | ((with_reducible refine at_load 33 ?_); refine wpList_cell_h (v := .int .i64 (a1)) rfl O.held 0 rfl Ca1.out rfl agg3 rfl ?_) | ((with_reducible refine at_load 38 ?_); refine wpList_cell_h (v := .int .i64 (a1)) rfl O.held 0 rfl Ca1.out rfl agg3 rfl ?_) | (go_at_call 9; refine (awake_any _).mono ?_; rintro e w20 ⟨rfl, hb⟩; replace O := O.call hb; clear hb))
      go_ret
      exact ⟨rfl, O.below⟩
  · clear EA LO
    go_wp2_with (first | ((with_reducible refine at_load 24 ?_); refine wpList_cell_h (v := .int .i64 (a0)) rfl O.held 0 rfl Ca0.out rfl agg3 rfl ?_) | ((with_reducible refine at_load 28 ?_); refine wpList_cell_h (v := .int .i64 (a0)) rfl O.held 0 rfl Ca0.out rfl agg3 rfl ?_) | ((with_reducible refine at_load 33 ?_); refine wpList_cell_h (v := .int .i64 (a1)) rfl O.held 0 rfl Ca1.out rfl agg3 rfl ?_) | ((with_reducible refine at_load 38 ?_); refine wpList_cell_h (v := .int .i64 (a1)) rfl O.held 0 rfl Ca1.out rfl agg3 rfl ?_) | (go_at_call 9; refine (awake_any _).mono ?_; rintro e w20 ⟨rfl, hb⟩; replace O := O.call hb; clear hb))
    go_ret
    exact ⟨rfl, O.below⟩

theorem readable : ∀ t ∈ Try.f7.params.toList, Try.prog.readableRec t = true ∧ t < Try.prog.types.size := by
  intro t ht
  rw [Try.params7] at ht
  simp only [List.mem_cons, List.not_mem_nil, or_false] at ht
  repeat (first | (rcases ht with rfl | ht; exact ⟨by kernel_rfl, of_decide_eq_true (by kernel_rfl)⟩) | (subst ht; exact ⟨by kernel_rfl, of_decide_eq_true (by kernel_rfl)⟩))
set_option maxRecDepth 100000 in
theorem lifted (os : Os) (started : os.Started) (H : Type) (enc : TypeId × Value → H) :
    ReturnsInHanded {} Try.checked os 7 .any (Rows.diamondColumnsSpec.pre6 enc Try.prog Try.f7 Rows.diamondColumnsRow.domain false) (Rows.diamondColumnsSpec.post enc Try.prog Try.f7 false true false false) := by
  refine returnsInHanded_of_change (C := Try.checked) own started (by kernel_rfl) Try.func7
    (ChangeSpec.witness6 (enc := enc) (C := Try.checked) false ⟨#[], #[.agg #[.int .i64 0, .int .i64 0, .int .u16 0, .int .i16 0, .bool false]], []⟩ 8 (by kernel_rfl) (by kernel_rfl) (by kernel_rfl) (by kernel_rfl)) ?_
  intro W base args ds gs before hval0 hW hcnd _
  have hval : ∀ (j : Nat) t v, Try.f7.params[j]? = some t → args[j]? = some v → Value.okWide Try.prog W .any base t v := hval0
  have hW' := hW
  obtain ⟨p, q, hA0, hV, rfl, hfz, hnd⟩ := hW
  have hA : DataW.TrodAll enc Try.prog W 0 (fun _ => true) true Try.f7.params.toList args.toList ds p := hA0
  rw [Try.params7] at hA hval
  have hlt : ∀ x ∈ p ++ q, x.block < W.heap.size := fun x hx => hW'.lt x hx
  obtain ⟨v0, vs0, d0, ds0, p0, q0, hargs, rfl, rfl, h0, rr0⟩ := trodAll_cons hA
  obtain ⟨rfl, rfl, rfl⟩ := trodAll_nil rr0
  obtain rfl : args = #[v0] := by cases args; simp_all
  obtain ⟨rfl, rfl⟩ := trodVars_none hV
  obtain ⟨a0, u0, h0_, b0, rfl, x0⟩ := openWide (hval 0 40 v0 rfl rfl) h0
  clear hA0 hval0
  refine (walk W a0 u0 h0_ b0 x0).mono fun e W' ⟨he, hg⟩ => ?_
  subst he
  exact ⟨_, rfl, post_true (tb := 4) laid readable (by kernel_rfl) Try.underlying4 rfl (fun l hl => by
    match l, hl with
    | [_], _ => exact ⟨rfl, rfl, rfl⟩) hW' hg⟩

theorem over : Rows.diamondColumnsRow.holds Try.pinned (OpenSpec.ofChange Rows.diamondColumnsSpec) :=
  OpenClaim.holds_of_wide 7 Try.f7 rfl rfl rfl rfl rfl rfl rfl ⟨rfl, rfl, rfl, rfl, rfl⟩ rfl rfl rfl rfl rfl (by kernel_rfl) Try.func7 (by kernel_rfl)
    (of_decide_eq_true (by kernel_rfl)) (by unfold Func.isWrapper; first | (rw [if_pos (by decide +kernel)]; kernel_rfl) | (rw [if_neg (by decide +kernel)]; exact ⟨rfl, rfl⟩))
    (fun os started H enc _ => lifted os started H enc)

theorem proved : Rows.DiamondColumnsSaid :=
  over
#print axioms proved
end Go.Proofs.Ytkhjjmjdicnpjaa.diamondColumns
