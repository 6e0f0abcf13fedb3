/-
  For every row of calls the law StackPlays returns true: each answer, and the stacks, are the document's, those that are refused left out. No condition.
-/
import Derived.Test.YthcieapfpgejdaaRow
import Derived.Test.YthcieapfpgejdaaDeeds6
import Derived.Deep.DeepCutAuto
namespace Go.Proofs.Ythcieapfpgejdaa.stackPlays
open Go.ChangeShapes Go.WideShapes Go.ChangeAt Go.RowKit
set_option linter.unusedVariables false
set_option linter.unusedSimpArgs false

theorem own : ownKnob Try.prog.godebug = none := by kernel_rfl
theorem two_eq {x0 x1 y0 y1 : Ent} (h0 : y0.l = x0.l) (h1 : y1.l = x1.l) : ∀ i, i < 2 → (two y0 y1 i).l = (two x0 x1 i).l := fun i _ => by
  by_cases h : i = 0
  · simp [two, h, h0]
  · simp [two, h, h1]
theorem two_short {x0 x1 : Ent} (h0 : x0.l.length ≤ 100) (h1 : x1.l.length ≤ 100) : ∀ i, i < 2 → (two x0 x1 i).l.length ≤ 100 := fun i _ => by
  by_cases h : i = 0
  · simpa [two, h] using h0
  · simpa [two, h] using h1

set_option maxRecDepth 100000 in
set_option maxHeartbeats 8000000 in
theorem walk (w : World) (A : Option Addr) (c : Nat) (l : List Deed) (hD : LiesD w A l) :
    Calls Try.prog 4 #[.slice A l.length c] w fun e w' => e = .returned (.bool true) ∧ Below w.heap.size w w' := by
  have O := OwnL.start w [] (by simp)
  have hu2 := Try.underlying25
  have hu3 := Try.underlying27
  have HD := Lib.hid hD
  clear hD
  obtain ⟨n, hn⟩ : ∃ n, l.length = n := ⟨_, rfl⟩
  rw [hn]
  have HN := Lib.hid hn
  clear hn
  go_enter Try.func4, Try.ntmps4
  by_cases h60 : 60 < n
  · have q1 : (60 : Int) < n := by omega
    go_wp2_with (go_at_call 8; refine (awake_any _).mono ?_; rintro e w6 ⟨rfl, hb⟩; replace O := O.call hb; clear hb)
    go_ret
    exact ⟨rfl, O.below⟩
  have q1 : ¬ (60 : Int) < n := by omega
  go_wp2_with (first | (go_at_call 24; refine (new_any _).mono ?_; rintro e w3 ⟨v, rfl, hv, hb⟩; obtain ⟨X, rfl, hX, O2⟩ := O.gainS hv hb; clear O hv hb; have O := O2; clear O2) | (go_at_call 25; refine (rnew_any _).mono ?_; rintro e w4 ⟨v, rfl, hv, hb⟩; obtain ⟨Y, rfl, hY, O2⟩ := O.gainS hv hb; clear O hv hb; have O := O2; clear O2) | ((with_reducible refine at_alloc 3 ?_); refine wpList_alloc_ls O (sv 0 (noL 0)) zero25 ?_; clear O; intro g3 w5 O) | ((with_reducible refine at_alloc 4 ?_); refine wpList_alloc_ls O (sv 0 (noL 0)) zero25 ?_; clear O; intro g4 w6 O) | ((with_reducible refine at_store 3 ?_); refine wpList_put_ls O 1 (sv (0) (X)) rfl rfl rfl (s25 _ _) (sv_len _ _ _ _) (sv_one _ _) ?_; clear O; intro w7 O) | ((with_reducible refine at_store 4 ?_); refine wpList_put_ls O 0 (sv (0) (Y)) rfl rfl rfl (s25 _ _) (sv_len _ _ _ _) (sv_one _ _) ?_; clear O; intro w8 O))
  clear q1
  go_loopw [5] (fun u wr => ∃ (k : Nat) (m : Int) (x0 x1 y0 y1 : Ent), k ≤ n ∧ u = .int .i64 k ∧ OwnL w wr [(g4, 25, sv m (two y0 y1)), (g3, 25, sv m (two x0 x1))] [x0, x1, y0, y1] ∧ y0.l = x0.l ∧ y1.l = x1.l ∧ x0.l.length ≤ 100 ∧ x1.l.length ≤ 100) (fun u _ => n - (intOf u).toNat)
  case atStart =>
    refine ⟨0, 0, X 0, X 1, Y 0, Y 1, by omega, rfl, O.pick (fun x hx => ?_), ?_, ?_, ?_, ?_⟩
    · simp only [List.mem_cons, List.not_mem_nil, or_false] at hx ⊢
      rcases hx with h | h | h | h
      · exact .inr (.inr (.inl h))
      · exact .inr (.inr (.inr h))
      · exact .inl h
      · exact .inr (.inl h)
    · rw [(hX 0 (by decide)).2, (hY 0 (by decide)).2]
    · rw [(hX 1 (by decide)).2, (hY 1 (by decide)).2]
    · rw [(hX 0 (by decide)).2]; decide
    · rw [(hX 1 (by decide)).2]; decide
  case round =>
    clear O
    obtain ⟨k, m, x0, x1, y0, y1, hk, rfl, O, hq⟩ := hrel
    have HQ := Lib.hid hq
    clear hq
    have q0 : (0 : Int) ≤ k := by omega
    by_cases hlt : k < n
    · have q1 : (k : Int) < n := by omega
      obtain ⟨a, ha⟩ : ∃ a, l[k]? = some a := ⟨_, List.getElem?_eq_getElem (by have := HN.out; omega)⟩
      obtain ⟨p, hp⟩ : ∃ p, Stk.deed (stk m (two x0 x1)) a = p := ⟨_, rfl⟩
      have hp2 : Stk.deed (stk m (two y0 y1)) a = p := by rw [stk_two HQ.out.1 HQ.out.2.1]; exact hp
      have hsh : Stk.short p.1 := by rw [← hp]; exact Stk.short_deed _ _
      have HA := Lib.hid ha
      have HSH := Lib.hid hsh
      have HP := Lib.hid hp
      clear ha hsh hp
      go_wp2_with fail
      refine region_S (fun st w2 => DoSt w [(g4, 25, sv m (two y0 y1)), (g3, 25, sv m (two x0 x1))] [x0, x1, y0, y1] p (st 9) (st 10) (st 5) w2) [5, 9, 10] 12 11 [some 23, some 24, some 25, some 26, some 27, some 28, some 22, some 29, some 30, some 6, none] (fun g => [.agg (sv m (two x0 x1)).toArray, .slice A n c, .int .i64 k, .pointer (some ((adr A).add (k * 18))), .agg a.cells.toArray, g 5, g 5, ex 0 (g 5), ex 1 (g 5), g 9, g 10]) 1 (by kernel_rfl) (by kernel_rfl) (by rfl) (by rfl) (fun _ => rfl) (by decide) ?_ (DoSt.start O.drew) (fun F hF => ?_)
      · intro i hi
        simp only [List.mem_cons, List.not_mem_nil, or_false] at hi
        rcases hi with rfl | rfl | rfl
        · exact ⟨fun _ => rfl, [0, 1, 2, 3, 4, 9, 10], by kernel_rfl, fun g v => ⟨rfl, rfl, rfl, rfl, rfl, rfl, rfl, trivial⟩⟩
        · exact ⟨fun _ => rfl, [0, 1, 2, 3, 4, 5, 6, 7, 8, 10], by kernel_rfl, fun g v => ⟨rfl, rfl, rfl, rfl, rfl, rfl, rfl, rfl, rfl, rfl, trivial⟩⟩
        · exact ⟨fun _ => rfl, [0, 1, 2, 3, 4, 5, 6, 7, 8, 9], by kernel_rfl, fun g v => ⟨rfl, rfl, rfl, rfl, rfl, rfl, rfl, rfl, rfl, rfl, trivial⟩⟩
      simp only [fillD, Act.put, List.setIfInBounds_toArray, List.set_cons_zero, List.set_cons_succ] at hF
      have hF2 := funext hF
      clear hF
      subst hF2
      refine ⟨⟨doesN_want (by decide) rfl (fun g => rfl) (fun st w' hS hp K hK => ?_), doesN_want (by decide) rfl (fun g => rfl) (fun st w' hS hp K hK => ?_), doesN_want (by decide) rfl (fun g => rfl) (fun st w' hS hp K hK => ?_), doesN_want (by decide) rfl (fun g => rfl) (fun st w' hS hp K hK => ?_), doesN_want (by decide) rfl (fun g => rfl) (fun st w' hS hp K hK => ?_), doesC_want (by decide) rfl (fun g => rfl) (fun st w' hS hn hp K hK => ?_), doesN_want (by decide) rfl (fun g => rfl) (fun st w' hS hp K hK => ?_), doesN_want (by decide) rfl (fun g => rfl) (fun st w' hS hp K hK => ?_), doesN_want (by decide) rfl (fun g => rfl) (fun st w' hS hp K hK => ?_), doesC_want (by decide) rfl (fun g => rfl) (fun st w' hS hn hp K hK => ?_), doesC_want (by decide) rfl (fun g => rfl) (fun st w' hS hn hp K hK => ?_), trivial⟩, fun st w' hS hall => ?_⟩
      · try dsimp only
        exact wp_row_ls hS.own 1 rfl rfl Try.underlying25 rfl (s25 _ _) (hK _ hS)
      · try dsimp only
        go_simp
        exact hK _ hS
      · try dsimp only
        go_simp
        exact hK _ hS
      · try dsimp only
        exact wp_atD HD.out rfl k rfl rfl hlt (by have := HN.out; omega) (hK _ hS)
      · try dsimp only
        exact wp_loadD HD.out hS.own k HA.out rfl (hK _ hS)
      · try dsimp only
        have hS2 : DoSt w [(g4, 25, sv m (two y0 y1)), (g3, 25, sv m (two x0 x1))] [x0, x1, y0, y1] p (st 9) (st 10) none w' := by rw [← hn]; exact hS
        go_simp
        go_at_call 26
        refine (do_any m (two x0 x1) a _ (two_lies hS.own (by simp) (by simp))).mono ?_
        rw [HP.out]
        rintro e w6 ⟨v, rfl, hv, hb⟩
        refine hK _ w6 ?_
        show DoSt w _ _ p (upd st 5 _ 9) (upd st 5 _ 10) (upd st 5 _ 5) w6
        rw [upd_same, upd_other _ _ (by decide), upd_other _ _ (by decide)]
        exact hS2.got hv hb
      · try dsimp only
        go_simp
        exact hK _ hS
      · try dsimp only
        obtain ⟨N, hN⟩ := hS.tup (hp 5 (by decide) (by kernel_rfl))
        have e1 : seen st 5 = .tuple #[.agg (sv p.1.m N).toArray, .int .i64 p.2] := by simp [seen, hN]
        simp only [e1] at hK ⊢
        go_simp
        exact hK _ hS
      · try dsimp only
        obtain ⟨N, hN⟩ := hS.tup (hp 5 (by decide) (by kernel_rfl))
        have e1 : seen st 5 = .tuple #[.agg (sv p.1.m N).toArray, .int .i64 p.2] := by simp [seen, hN]
        simp only [e1] at hK ⊢
        go_simp
        exact hK _ hS
      · try dsimp only
        have hS2 : DoSt w [(g4, 25, sv m (two y0 y1)), (g3, 25, sv m (two x0 x1))] [x0, x1, y0, y1] p none (st 10) (st 5) w' := by rw [← hn]; exact hS
        refine hS2.alloc_ fun v w6 h => hK v w6 ?_
        show DoSt w _ _ p (upd st 9 _ 9) (upd st 9 _ 10) (upd st 9 _ 5) w6
        rw [upd_same, upd_other _ _ (by decide), upd_other _ _ (by decide)]
        exact h
      · try dsimp only
        have hS2 : DoSt w [(g4, 25, sv m (two y0 y1)), (g3, 25, sv m (two x0 x1))] [x0, x1, y0, y1] p (st 9) none (st 5) w' := by rw [← hn]; exact hS
        refine hS2.store_ (hp 9 (by decide) (by kernel_rfl)) (hp 5 (by decide) (by kernel_rfl)) rfl rfl fun v w6 h => hK v w6 ?_
        show DoSt w _ _ p (upd st 10 _ 9) (upd st 10 _ 10) (upd st 10 _ 5) w6
        rw [upd_same, upd_other _ _ (by decide), upd_other _ _ (by decide)]
        exact h
      try dsimp only
      obtain ⟨g6, N, e9, e5, OE, hN⟩ := hS.done (hall 9 (by decide)) (hall 10 (by decide)) (hall 5 (by decide))
      have es9 : seen st 9 = .pointer (some ⟨g6, 0, none⟩) := by simp [seen, e9]
      have es5 : seen st 5 = .tuple #[.agg (sv p.1.m N).toArray, .int .i64 p.2] := by simp [seen, e5]
      simp only [es9, es5, ex_0, ex_1]
      clear e9 e5 es9 es5 hS hall
      have O := OE
      clear OE
      refine wpAny_one (i := 11) (by kernel_rfl) rfl (fun K hK => ?_)
      go_simp
      refine hK _ _ ?_
      clear hK K
      try simp only [Act.put, List.setIfInBounds_toArray, List.set_cons_zero, List.set_cons_succ]
      refine wpAny_done (by kernel_rfl) ?_ _
      clear HP
      have HP := Lib.hid hp2
      clear hp2
      go_wp2_with fail
      refine region_S (fun st w2 => DoSt w [(g6, 25, sv p.1.m N), (g4, 25, sv m (two y0 y1)), (g3, 25, sv m (two x0 x1))] [N 0, N 1, x0, x1, y0, y1] p (st 9) (st 10) (st 5) w2) [5, 9, 10] 12 11 [some 32, some 33, some 34, some 35, some 36, some 37, some 31, some 38, some 39, some 8, none] (fun g => [.agg (sv m (two y0 y1)).toArray, .slice A n c, .int .i64 k, .pointer (some ((adr A).add (k * 18))), .agg a.cells.toArray, g 5, g 5, ex 0 (g 5), ex 1 (g 5), g 9, g 10]) 1 (by kernel_rfl) (by kernel_rfl) (by rfl) (by rfl) (fun _ => rfl) (by decide) ?_ (DoSt.start O.drew) (fun F hF => ?_)
      · intro i hi
        simp only [List.mem_cons, List.not_mem_nil, or_false] at hi
        rcases hi with rfl | rfl | rfl
        · exact ⟨fun _ => rfl, [0, 1, 2, 3, 4, 9, 10], by kernel_rfl, fun g v => ⟨rfl, rfl, rfl, rfl, rfl, rfl, rfl, trivial⟩⟩
        · exact ⟨fun _ => rfl, [0, 1, 2, 3, 4, 5, 6, 7, 8, 10], by kernel_rfl, fun g v => ⟨rfl, rfl, rfl, rfl, rfl, rfl, rfl, rfl, rfl, rfl, trivial⟩⟩
        · exact ⟨fun _ => rfl, [0, 1, 2, 3, 4, 5, 6, 7, 8, 9], by kernel_rfl, fun g v => ⟨rfl, rfl, rfl, rfl, rfl, rfl, rfl, rfl, rfl, rfl, trivial⟩⟩
      simp only [fillD, Act.put, List.setIfInBounds_toArray, List.set_cons_zero, List.set_cons_succ] at hF
      have hF2 := funext hF
      clear hF
      subst hF2
      refine ⟨⟨doesN_want (by decide) rfl (fun g => rfl) (fun st w' hS hp K hK => ?_), doesN_want (by decide) rfl (fun g => rfl) (fun st w' hS hp K hK => ?_), doesN_want (by decide) rfl (fun g => rfl) (fun st w' hS hp K hK => ?_), doesN_want (by decide) rfl (fun g => rfl) (fun st w' hS hp K hK => ?_), doesN_want (by decide) rfl (fun g => rfl) (fun st w' hS hp K hK => ?_), doesC_want (by decide) rfl (fun g => rfl) (fun st w' hS hn hp K hK => ?_), doesN_want (by decide) rfl (fun g => rfl) (fun st w' hS hp K hK => ?_), doesN_want (by decide) rfl (fun g => rfl) (fun st w' hS hp K hK => ?_), doesN_want (by decide) rfl (fun g => rfl) (fun st w' hS hp K hK => ?_), doesC_want (by decide) rfl (fun g => rfl) (fun st w' hS hn hp K hK => ?_), doesC_want (by decide) rfl (fun g => rfl) (fun st w' hS hn hp K hK => ?_), trivial⟩, fun st w' hS hall => ?_⟩
      · try dsimp only
        exact wp_row_ls hS.own 1 rfl rfl Try.underlying25 rfl (s25 _ _) (hK _ hS)
      · try dsimp only
        go_simp
        exact hK _ hS
      · try dsimp only
        go_simp
        exact hK _ hS
      · try dsimp only
        exact wp_atD HD.out rfl k rfl rfl hlt (by have := HN.out; omega) (hK _ hS)
      · try dsimp only
        exact wp_loadD HD.out hS.own k HA.out rfl (hK _ hS)
      · try dsimp only
        have hS2 : DoSt w [(g6, 25, sv p.1.m N), (g4, 25, sv m (two y0 y1)), (g3, 25, sv m (two x0 x1))] [N 0, N 1, x0, x1, y0, y1] p (st 9) (st 10) none w' := by rw [← hn]; exact hS
        go_simp
        go_at_call 27
        refine (want_any m (two y0 y1) a _ (two_lies hS.own (by simp) (by simp))).mono ?_
        rw [HP.out]
        rintro e w6 ⟨v, rfl, hv, hb⟩
        refine hK _ w6 ?_
        show DoSt w _ _ p (upd st 5 _ 9) (upd st 5 _ 10) (upd st 5 _ 5) w6
        rw [upd_same, upd_other _ _ (by decide), upd_other _ _ (by decide)]
        exact hS2.got hv hb
      · try dsimp only
        go_simp
        exact hK _ hS
      · try dsimp only
        obtain ⟨N, hN⟩ := hS.tup (hp 5 (by decide) (by kernel_rfl))
        have e1 : seen st 5 = .tuple #[.agg (sv p.1.m N).toArray, .int .i64 p.2] := by simp [seen, hN]
        simp only [e1] at hK ⊢
        go_simp
        exact hK _ hS
      · try dsimp only
        obtain ⟨N, hN⟩ := hS.tup (hp 5 (by decide) (by kernel_rfl))
        have e1 : seen st 5 = .tuple #[.agg (sv p.1.m N).toArray, .int .i64 p.2] := by simp [seen, hN]
        simp only [e1] at hK ⊢
        go_simp
        exact hK _ hS
      · try dsimp only
        have hS2 : DoSt w [(g6, 25, sv p.1.m N), (g4, 25, sv m (two y0 y1)), (g3, 25, sv m (two x0 x1))] [N 0, N 1, x0, x1, y0, y1] p none (st 10) (st 5) w' := by rw [← hn]; exact hS
        refine hS2.alloc_ fun v w6 h => hK v w6 ?_
        show DoSt w _ _ p (upd st 9 _ 9) (upd st 9 _ 10) (upd st 9 _ 5) w6
        rw [upd_same, upd_other _ _ (by decide), upd_other _ _ (by decide)]
        exact h
      · try dsimp only
        have hS2 : DoSt w [(g6, 25, sv p.1.m N), (g4, 25, sv m (two y0 y1)), (g3, 25, sv m (two x0 x1))] [N 0, N 1, x0, x1, y0, y1] p (st 9) none (st 5) w' := by rw [← hn]; exact hS
        refine hS2.store_ (hp 9 (by decide) (by kernel_rfl)) (hp 5 (by decide) (by kernel_rfl)) rfl rfl fun v w6 h => hK v w6 ?_
        show DoSt w _ _ p (upd st 10 _ 9) (upd st 10 _ 10) (upd st 10 _ 5) w6
        rw [upd_same, upd_other _ _ (by decide), upd_other _ _ (by decide)]
        exact h
      try dsimp only
      obtain ⟨g8, N2, e9, e5, OE, hN2⟩ := hS.done (hall 9 (by decide)) (hall 10 (by decide)) (hall 5 (by decide))
      have es9 : seen st 9 = .pointer (some ⟨g8, 0, none⟩) := by simp [seen, e9]
      have es5 : seen st 5 = .tuple #[.agg (sv p.1.m N2).toArray, .int .i64 p.2] := by simp [seen, e5]
      simp only [es9, es5, ex_0, ex_1]
      clear e9 e5 es9 es5 hS hall
      have O := OE
      clear OE
      refine wpAny_one (i := 11) (by kernel_rfl) rfl (fun K hK => ?_)
      go_simp
      refine hK _ _ ?_
      clear hK K
      try simp only [Act.put, List.setIfInBounds_toArray, List.set_cons_zero, List.set_cons_succ]
      refine wpAny_done (by kernel_rfl) ?_ _
      have bp : (p.2 != p.2) = false := by simp
      by_cases he : p.2 = 0
      · have b0 : (p.2 == 0) = true := by simpa using he
        have tok : True := trivial
        clear he
        go_wp2_with (first | ((with_reducible refine at_load 44 ?_); refine wpList_rowg_ls rfl O 1 rfl rfl Try.underlying25 rfl (s25 _ _) ?_) | ((with_reducible refine at_load 45 ?_); refine wpList_rowg_ls rfl O 0 rfl rfl Try.underlying25 rfl (s25 _ _) ?_) | (go_at_call 13; clear tok; refine (same_any p.1.m N N2 _ O.two2 O.twoL (fun i hi => ((hN2 i hi).2).trans ((hN i hi).2).symm) (fun i hi => by rw [(hN i hi).2]; exact HSH.out i hi)).mono ?_; rintro e w6 ⟨rfl, hb⟩; replace O := O.call hb; clear hb) | ((with_reducible refine at_load 50 ?_); refine wpList_rowg_ls rfl O 3 rfl rfl Try.underlying25 rfl (s25 _ _) ?_) | ((with_reducible refine at_load 51 ?_); refine wpList_rowg_ls rfl O 2 rfl rfl Try.underlying25 rfl (s25 _ _) ?_) | (go_at_call 13; refine (same_any _ (two x0 x1) (two y0 y1) _ (two_lies O (by simp) (by simp)) (two_lies O (by simp) (by simp)) (two_eq HQ.out.1 HQ.out.2.1) (two_short HQ.out.2.2.1 HQ.out.2.2.2)).mono ?_; rintro e w6 ⟨rfl, hb⟩; replace O := O.call hb; clear hb))
        refine region_S (fun st w2 => (st 2 = none ∧ OwnL w w2 [(g8, 25, sv p.1.m N2), (g6, 25, sv p.1.m N), (g4, 25, sv m (two y0 y1)), (g3, 25, sv m (two x0 x1))] [N2 0, N2 1, N 0, N 1, x0, x1, y0, y1]) ∨ ((st 2).isSome = true ∧ OwnL w w2 [(g8, 25, sv p.1.m N2), (g6, 25, sv p.1.m N), (g4, 25, sv m (two y0 y1)), (g3, 25, sv p.1.m N)] [N2 0, N2 1, N 0, N 1, x0, x1, y0, y1])) [2] 12 3 [some 57, some 58, none] (fun g => [.agg (sv p.1.m N).toArray, .agg (sv p.1.m N2).toArray, g 2]) 1 (by kernel_rfl) (by kernel_rfl) (by rfl) (by rfl) (fun _ => rfl) (by decide) ?_ (.inl ⟨rfl, O.drew⟩) (fun F hF => ?_)
        · intro i hi
          simp only [List.mem_cons, List.not_mem_nil, or_false] at hi
          rcases hi with rfl
          · exact ⟨fun _ => rfl, [0, 1], by kernel_rfl, fun g v => ⟨rfl, rfl, trivial⟩⟩
        simp only [fillD, Act.put, List.setIfInBounds_toArray, List.set_cons_zero, List.set_cons_succ] at hF
        have hF2 := funext hF
        clear hF
        subst hF2
        refine ⟨⟨doesN_want (by decide) rfl (fun g => rfl) (fun st w' hS hp K hK => ?_), doesN_want (by decide) rfl (fun g => rfl) (fun st w' hS hp K hK => ?_), doesC_want (by decide) rfl (fun g => rfl) (fun st w' hS hn hp K hK => ?_), trivial⟩, fun st w' hS hall => ?_⟩
        · try dsimp only
          rcases hS with ⟨h1, O⟩ | ⟨h1, O⟩
          · exact wp_row_ls O 1 rfl rfl Try.underlying25 rfl (s25 _ _) (hK _ (.inl ⟨h1, O⟩))
          · exact wp_row_ls O 1 rfl rfl Try.underlying25 rfl (s25 _ _) (hK _ (.inr ⟨h1, O⟩))
        · try dsimp only
          rcases hS with ⟨h1, O⟩ | ⟨h1, O⟩
          · exact wp_row_ls O 0 rfl rfl Try.underlying25 rfl (s25 _ _) (hK _ (.inl ⟨h1, O⟩))
          · exact wp_row_ls O 0 rfl rfl Try.underlying25 rfl (s25 _ _) (hK _ (.inr ⟨h1, O⟩))
        · try dsimp only
          rcases hS with ⟨h1, O⟩ | ⟨h1, O⟩
          · exact wp_put_ls O 3 (sv p.1.m N) rfl rfl rfl (s25 _ _) rfl (sv_one _ _) fun w6 O6 => hK undef w6 (.inr ⟨by rw [upd_same]; rfl, O6⟩)
          · rw [hn] at h1; cases h1
        try dsimp only
        rcases hS with ⟨h1, O⟩ | ⟨h1, O⟩
        · have := hall 2 (by decide)
          rw [h1] at this
          cases this
        clear h1 hall
        refine wpAny_want (i := 3) (by kernel_rfl) rfl (by rfl) (fun K hK => ?_)
        refine wp_put_ls O 2 (sv p.1.m N2) rfl rfl rfl (s25 _ _) rfl (sv_one _ _) fun w9 O9 => hK _ _ ?_
        clear O
        have O := O9
        clear O9
        clear hK K
        try simp only [Act.put, List.setIfInBounds_toArray, List.set_cons_zero, List.set_cons_succ]
        refine wpAny_done (by kernel_rfl) ?_ _
        go_wp2_with fail
        go_roundw
        case rel =>
          refine ⟨k + 1, p.1.m, N 0, N 1, N2 0, N2 1, by omega, by go_num, (OwnL.tail (OwnL.tail O)).pick (fun x hx => ?_), ?_, ?_, ?_, ?_⟩
          · simp only [List.mem_cons, List.not_mem_nil, or_false] at hx ⊢
            rcases hx with h | h | h | h
            · exact .inr (.inr (.inl h))
            · exact .inr (.inr (.inr (.inl h)))
            · exact .inl h
            · exact .inr (.inl h)
          · rw [(hN2 0 (by decide)).2, (hN 0 (by decide)).2]
          · rw [(hN2 1 (by decide)).2, (hN 1 (by decide)).2]
          · rw [(hN 0 (by decide)).2]; exact HSH.out 0 (by decide)
          · rw [(hN 1 (by decide)).2]; exact HSH.out 1 (by decide)
        case measure => simp [intOf]; omega
      · have b0 : (p.2 == 0) = false := by simpa using he
        have tok : True := trivial
        clear he
        go_wp2_with (first | ((with_reducible refine at_load 44 ?_); refine wpList_rowg_ls rfl O 1 rfl rfl Try.underlying25 rfl (s25 _ _) ?_) | ((with_reducible refine at_load 45 ?_); refine wpList_rowg_ls rfl O 0 rfl rfl Try.underlying25 rfl (s25 _ _) ?_) | (go_at_call 13; clear tok; refine (same_any p.1.m N N2 _ O.two2 O.twoL (fun i hi => ((hN2 i hi).2).trans ((hN i hi).2).symm) (fun i hi => by rw [(hN i hi).2]; exact HSH.out i hi)).mono ?_; rintro e w6 ⟨rfl, hb⟩; replace O := O.call hb; clear hb) | ((with_reducible refine at_load 50 ?_); refine wpList_rowg_ls rfl O 3 rfl rfl Try.underlying25 rfl (s25 _ _) ?_) | ((with_reducible refine at_load 51 ?_); refine wpList_rowg_ls rfl O 2 rfl rfl Try.underlying25 rfl (s25 _ _) ?_) | (go_at_call 13; refine (same_any _ (two x0 x1) (two y0 y1) _ (two_lies O (by simp) (by simp)) (two_lies O (by simp) (by simp)) (two_eq HQ.out.1 HQ.out.2.1) (two_short HQ.out.2.2.1 HQ.out.2.2.2)).mono ?_; rintro e w6 ⟨rfl, hb⟩; replace O := O.call hb; clear hb))
        go_roundw
        case rel =>
          refine ⟨k + 1, m, x0, x1, y0, y1, by omega, by go_num, (OwnL.tail (OwnL.tail O)).pick (fun x hx => ?_), HQ.out⟩
          simp only [List.mem_cons, List.not_mem_nil, or_false] at hx ⊢
          exact .inr (.inr (.inr (.inr hx)))
        case measure => simp [intOf]; omega
    · have q1 : ¬ (k : Int) < n := by omega
      go_wp2_with (first | (go_at_call 8; refine (awake_any _).mono ?_; rintro e w6 ⟨rfl, hb⟩; replace O := O.call hb; clear hb) | ((with_reducible refine at_load 61 ?_); refine wpList_rowg_ls rfl O 1 rfl rfl Try.underlying25 rfl (s25 _ _) ?_) | ((with_reducible refine at_load 62 ?_); refine wpList_rowg_ls rfl O 0 rfl rfl Try.underlying25 rfl (s25 _ _) ?_) | (go_at_call 13; refine (same_any _ (two x0 x1) (two y0 y1) _ (two_lies O (by simp) (by simp)) (two_lies O (by simp) (by simp)) (two_eq HQ.out.1 HQ.out.2.1) (two_short HQ.out.2.2.1 HQ.out.2.2.2)).mono ?_; rintro e w6 ⟨rfl, hb⟩; replace O := O.call hb; clear hb))
      go_ret
      exact ⟨rfl, O.below⟩

theorem readable : ∀ t ∈ Try.f4.params.toList, Try.prog.readableRec t = true ∧ t < Try.prog.types.size := by
  intro t ht
  rw [Try.params4] at ht
  simp only [List.mem_cons, List.not_mem_nil, or_false] at ht
  repeat (first | (rcases ht with rfl | ht; exact ⟨by kernel_rfl, of_decide_eq_true (by kernel_rfl)⟩) | (subst ht; exact ⟨by kernel_rfl, of_decide_eq_true (by kernel_rfl)⟩))
set_option maxRecDepth 100000 in
theorem lifted (os : Os) (started : os.Started) (H : Type) (enc : TypeId × Value → H) :
    ReturnsInHanded {} Try.checked os 4 .any (Rows.stackPlaysSpec.pre6 enc Try.prog Try.f4 Rows.stackPlaysRow.domain false) (Rows.stackPlaysSpec.post enc Try.prog Try.f4 false true false false) := by
  refine returnsInHanded_of_change (C := Try.checked) own started (by kernel_rfl) Try.func4
    (ChangeSpec.witness6 (enc := enc) (C := Try.checked) false ⟨#[], #[.slice none 0 0], []⟩ 8 (by kernel_rfl) (by kernel_rfl) (by kernel_rfl) (by kernel_rfl)) ?_
  intro W base args ds gs before hval0 hW hcnd _
  have hval : ∀ (j : Nat) t v, Try.f4.params[j]? = some t → args[j]? = some v → Value.okWide Try.prog W .any base t v := hval0
  have hW' := hW
  obtain ⟨p, q, hA0, hV, rfl, hfz, hnd⟩ := hW
  have hA : DataW.TrodAll enc Try.prog W 0 (fun _ => true) true Try.f4.params.toList args.toList ds p := hA0
  rw [Try.params4] at hA hval
  have hlt : ∀ x ∈ p ++ q, x.block < W.heap.size := fun x hx => hW'.lt x hx
  obtain ⟨v0, vs0, d0, ds0, p0, q0, hargs, rfl, rfl, h0, rr0⟩ := trodAll_cons hA
  obtain ⟨rfl, rfl, rfl⟩ := trodAll_nil rr0
  obtain rfl : args = #[v0] := by cases args; simp_all
  obtain ⟨rfl, rfl⟩ := trodVars_none hV
  obtain ⟨A0, n0, c0, rfl⟩ := okWide_slice Try.underlying40 (hval 0 40 v0 rfl rfl)
  obtain ⟨A, c, l, e0, hD⟩ := openDeeds rfl h0 (fun x hx => hlt x (by simp [hx]))
  obtain ⟨rfl, rfl, rfl⟩ := Value.slice.inj e0
  clear hA0 hval0
  refine (walk W A0 c0 l hD).mono fun e W' ⟨he, hg⟩ => ?_
  subst he
  exact ⟨_, rfl, post_true (tb := 4) laid readable (by kernel_rfl) Try.underlying4 rfl (fun l hl => by
    match l, hl with
    | [_], _ => exact ⟨rfl, rfl, rfl⟩) hW' hg⟩

theorem over : Rows.stackPlaysRow.holds Try.pinned (OpenSpec.ofChange Rows.stackPlaysSpec) :=
  OpenClaim.holds_of_wide 4 Try.f4 rfl rfl rfl rfl rfl rfl rfl ⟨rfl, rfl, rfl, rfl, rfl⟩ rfl rfl rfl rfl rfl (by kernel_rfl) Try.func4 (by kernel_rfl)
    (of_decide_eq_true (by kernel_rfl)) (by unfold Func.isWrapper; first | (rw [if_pos (by decide +kernel)]; kernel_rfl) | (rw [if_neg (by decide +kernel)]; exact ⟨rfl, rfl⟩))
    (fun os started H enc _ => lifted os started H enc)

theorem proved : Rows.StackPlaysSaid :=
  over
#print axioms proved
end Go.Proofs.Ythcieapfpgejdaa.stackPlays
