/-
  For every row of calls and every matrix the law StackApart returns true: what is done with one of the stacks changes nothing of the other one; a product is the product of the tops. No condition.
-/
import Derived.Test.YthcieapfpgejdaaRow
import Derived.Test.YthcieapfpgejdaaApart6
import Derived.Deep.DeepCutAuto
namespace Go.Proofs.Ythcieapfpgejdaa.stackApart
open Go.ChangeShapes Go.WideShapes Go.ChangeAt Go.RowKit
set_option linter.unusedVariables false
set_option linter.unusedSimpArgs false

theorem own : ownKnob Try.prog.godebug = none := by kernel_rfl
theorem two_self (N : Nat → Ent) {j : Nat} (h : j < 2) : two (N 0) (N 1) j = N j := by
  rcases j with _ | _ | j
  · rfl
  · rfl
  · omega

set_option maxRecDepth 100000 in
set_option maxHeartbeats 8000000 in
theorem walk (w : World) (A : Option Addr) (c : Nat) (l : List Deed) (y : Nat → Int) (hD : LiesD w A l) :
    Calls Try.prog 6 #[.slice A l.length c, arr 16 y] w fun e w' => e = .returned (.bool true) ∧ Below w.heap.size w w' := by
  have O := OwnL.start w [] (by simp)
  have hu2 := Try.underlying25
  have hu3 := Try.underlying27
  have hu4 := Try.underlying43
  have HD := Lib.hid hD
  clear hD
  obtain ⟨n, hn⟩ : ∃ n, l.length = n := ⟨_, rfl⟩
  rw [hn]
  have HN := Lib.hid hn
  clear hn
  go_enter Try.func6, Try.ntmps6
  by_cases h60 : 40 < n
  · have q1 : (40 : Int) < n := by omega
    go_wp2_with (first | ((with_reducible refine at_box 3 ?_); refine wpList_box_ls O (M.mat 16 y) rfl ?_; clear O; intro g3 w1 O) | (go_at_call 8; refine (awake_any _).mono ?_; rintro e w6 ⟨rfl, hb⟩; replace O := O.call hb; clear hb))
    go_ret
    exact ⟨rfl, O.below⟩
  have q1 : ¬ (40 : Int) < n := by omega
  go_wp2_with ((with_reducible refine at_box 3 ?_); refine wpList_box_ls O (M.mat 16 y) rfl ?_; clear O; intro g3 w1 O)
  clear q1
  obtain ⟨p, hp⟩ : ∃ p, Stk.load (stk 0 (two newE newE)) y = p := ⟨_, rfl⟩
  have HP0 : Hid (∀ a b : Ent, a.l = [M.unit] → b.l = [M.unit] → Stk.load (stk 0 (two a b)) y = p) := by
    show ∀ _, _
    intro a b ha hb
    rw [stk_two (a := newE) (b := newE) ha hb]
    exact hp
  refine region_S (fun st w2 => ApSt w [(g3, 27, M.mat 16 y)] p (st 0) (st 2) (st 6) (st 7) w2) [0, 2, 6, 7] 12 8 [some 23, some 24, some 25, some 22, some 26, some 27, some 5, none] (fun g => [g 0, arr 16 y, g 2, g 2, ex 0 (g 2), ex 1 (g 2), g 6, g 7]) 1 (by kernel_rfl) (by kernel_rfl) (by rfl) (by rfl) (fun _ => rfl) (by decide) ?_ (.inl ⟨rfl, rfl, DoSt.start O.drew⟩) (fun F hF => ?_)
  · intro i hi
    simp only [List.mem_cons, List.not_mem_nil, or_false] at hi
    rcases hi with rfl | rfl | rfl | rfl
    · exact ⟨fun _ => rfl, [1, 2, 3, 4, 5, 6, 7], by kernel_rfl, fun g v => ⟨rfl, rfl, rfl, rfl, rfl, rfl, rfl, trivial⟩⟩
    · exact ⟨fun _ => rfl, [0, 1, 6, 7], by kernel_rfl, fun g v => ⟨rfl, rfl, rfl, rfl, trivial⟩⟩
    · exact ⟨fun _ => rfl, [0, 1, 2, 3, 4, 5, 7], by kernel_rfl, fun g v => ⟨rfl, rfl, rfl, rfl, rfl, rfl, rfl, trivial⟩⟩
    · exact ⟨fun _ => rfl, [0, 1, 2, 3, 4, 5, 6], by kernel_rfl, fun g v => ⟨rfl, rfl, rfl, rfl, rfl, rfl, rfl, trivial⟩⟩
  simp only [fillD, Act.put, List.setIfInBounds_toArray, List.set_cons_zero, List.set_cons_succ] at hF
  have hF2 := funext hF
  clear hF
  subst hF2
  refine ⟨⟨doesC_want (by decide) rfl (fun g => rfl) (fun st w' hS hn hp K hK => ?_), doesN_want (by decide) rfl (fun g => rfl) (fun st w' hS hp K hK => ?_), doesC_want (by decide) rfl (fun g => rfl) (fun st w' hS hn hp K hK => ?_), doesN_want (by decide) rfl (fun g => rfl) (fun st w' hS hp K hK => ?_), doesN_want (by decide) rfl (fun g => rfl) (fun st w' hS hp K hK => ?_), doesN_want (by decide) rfl (fun g => rfl) (fun st w' hS hp K hK => ?_), doesC_want (by decide) rfl (fun g => rfl) (fun st w' hS hn hp K hK => ?_), doesC_want (by decide) rfl (fun g => rfl) (fun st w' hS hn hp K hK => ?_), trivial⟩, fun st w' hS hall => ?_⟩
  · try dsimp only
    have hcs := hn
    rcases hS with ⟨h1, h2, hS⟩ | ⟨x, z, h1, _⟩
    · go_simp
      go_at_call 24
      refine (new_any _).mono ?_
      rintro e w6 ⟨v, rfl, hv, hb⟩
      obtain ⟨N, rfl, hN, hS2⟩ := hS.more hv hb
      refine hK _ w6 ?_
      show ApSt w _ p (upd st 0 _ 0) (upd st 0 _ 2) (upd st 0 _ 6) (upd st 0 _ 7) w6
      simp only [upd_same, upd_other st _ (show (2 : Nat) ≠ 0 by decide), upd_other st _ (show (6 : Nat) ≠ 0 by decide), upd_other st _ (show (7 : Nat) ≠ 0 by decide)]
      exact .inr ⟨N 0, N 1, rfl, hN 0 (by decide), hN 1 (by decide), by rw [h2]; exact hS2⟩
    · rw [h1] at hcs; cases hcs
  · try dsimp only
    exact wp_row_ls hS.own 0 rfl rfl Try.underlying27 rfl (s23 _) (hK _ hS)
  · try dsimp only
    have hcs := hn
    have hp0 := hp 0 (by decide) (by kernel_rfl)
    rcases hS with ⟨h1, h2, hS⟩ | ⟨x, z, h1, hx, hz, hS⟩
    · rw [h1] at hp0; cases hp0
    · have e1 : seen st 0 = .agg (sv 0 (two x z)).toArray := by simp [seen, h1]
      simp only [e1] at hK ⊢
      have hS2 : DoSt w [(g3, 27, M.mat 16 y)] [x, z] p (st 6) (st 7) none w' := by rw [← hcs]; exact hS
      go_simp
      go_at_call 14
      refine (load_any 0 (two x z) y _ (two_lies hS.own (by simp) (by simp))).mono ?_
      rw [HP0.out x z hx hz]
      rintro e w6 ⟨v, rfl, hv, hb⟩
      refine hK _ w6 ?_
      show ApSt w _ p (upd st 2 _ 0) (upd st 2 _ 2) (upd st 2 _ 6) (upd st 2 _ 7) w6
      simp only [upd_same, upd_other st _ (show (0 : Nat) ≠ 2 by decide), upd_other st _ (show (6 : Nat) ≠ 2 by decide), upd_other st _ (show (7 : Nat) ≠ 2 by decide)]
      exact .inr ⟨x, z, h1, hx, hz, hS2.got hv hb⟩
  · try dsimp only
    go_simp
    exact hK _ hS
  · try dsimp only
    obtain ⟨N, hN⟩ := hS.tup (hp 2 (by decide) (by kernel_rfl))
    have e1 : seen st 2 = .tuple #[.agg (sv p.1.m N).toArray, .int .i64 p.2] := by simp [seen, hN]
    simp only [e1] at hK ⊢
    go_simp
    exact hK _ hS
  · try dsimp only
    obtain ⟨N, hN⟩ := hS.tup (hp 2 (by decide) (by kernel_rfl))
    have e1 : seen st 2 = .tuple #[.agg (sv p.1.m N).toArray, .int .i64 p.2] := by simp [seen, hN]
    simp only [e1] at hK ⊢
    go_simp
    exact hK _ hS
  · try dsimp only
    have hS2 : ApSt w [(g3, 27, M.mat 16 y)] p (st 0) (st 2) none (st 7) w' := by rw [← hn]; exact hS
    refine hS2.alloc_ fun v w6 h => hK v w6 ?_
    show ApSt w _ p (upd st 6 _ 0) (upd st 6 _ 2) (upd st 6 _ 6) (upd st 6 _ 7) w6
    simp only [upd_same, upd_other st _ (show (0 : Nat) ≠ 6 by decide), upd_other st _ (show (2 : Nat) ≠ 6 by decide), upd_other st _ (show (7 : Nat) ≠ 6 by decide)]
    exact h
  · try dsimp only
    have hS2 : ApSt w [(g3, 27, M.mat 16 y)] p (st 0) (st 2) (st 6) none w' := by rw [← hn]; exact hS
    refine hS2.store_ (hp 6 (by decide) (by kernel_rfl)) (hp 2 (by decide) (by kernel_rfl)) rfl rfl fun v w6 h => hK v w6 ?_
    show ApSt w _ p (upd st 7 _ 0) (upd st 7 _ 2) (upd st 7 _ 6) (upd st 7 _ 7) w6
    simp only [upd_same, upd_other st _ (show (0 : Nat) ≠ 7 by decide), upd_other st _ (show (2 : Nat) ≠ 7 by decide), upd_other st _ (show (6 : Nat) ≠ 7 by decide)]
    exact h
  try dsimp only
  have hp0 := hall 0 (by decide)
  rcases hS with ⟨h1, h2, hS⟩ | ⟨x, z, h1, hx, hz, hS⟩
  · rw [h1] at hp0; cases hp0
  obtain ⟨g5, N, e9, e5, OE, hN⟩ := hS.done (hall 6 (by decide)) (hall 7 (by decide)) (hall 2 (by decide))
  have es9 : seen st 6 = .pointer (some ⟨g5, 0, none⟩) := by simp [seen, e9]
  have es5 : seen st 2 = .tuple #[.agg (sv p.1.m N).toArray, .int .i64 p.2] := by simp [seen, e5]
  simp only [es9, es5, ex_0, ex_1]
  clear e9 e5 es9 es5 hS hall hp0 h1 hx hz
  have O := OE
  clear OE
  refine wpAny_one (i := 8) (by kernel_rfl) rfl (fun K hK => ?_)
  go_simp
  refine hK _ _ ?_
  clear hK K
  try simp only [Act.put, List.setIfInBounds_toArray, List.set_cons_zero, List.set_cons_succ]
  refine wpAny_done (by kernel_rfl) ?_ _
  cases hy : M.right y
  · have hz : p.2 = 1 := by rw [← hp]; exact new_load_no hy
    have b0 : (p.2 != 0) = true := by rw [hz]; rfl
    have HY := Lib.hid hy
    clear hy hz hp HP0
    go_wp2_with (first | (go_at_call 8; refine (awake_any _).mono ?_; rintro e w6 ⟨rfl, hb⟩; replace O := O.call hb; clear hb) | ((with_reducible refine at_load 32 ?_); refine wpList_rowg_ls rfl O 1 rfl rfl Try.underlying27 rfl (s23 _) ?_) | (go_at_call 28; refine (rright_any y _).mono ?_; rw [HY.out]; rintro e w8 ⟨rfl, hb⟩; replace O := O.call hb; clear hb))
    go_ret
    exact ⟨rfl, O.below⟩
  obtain ⟨l2, lm, l0, l1⟩ := new_load hy
  rw [hp] at l2 lm l0 l1
  have hr0 : Stk.right (stk p.1.m N) = true := one_right hy (.inl lm) ((hN 0 (by decide)).2.trans l0) ((hN 1 (by decide)).2.trans l1)
  have HC : Hid (Stk.choose (stk p.1.m N) 1 = (⟨1, (stk p.1.m N).l⟩, 0)) := by show _ = _; simp [Stk.choose, hr0, Stk.isMode]
  have b0 : (p.2 != 0) = false := by rw [l2]; rfl
  have HY := Lib.hid hy
  have HL0 : Hid ((N 0).l = [y]) := (hN 0 (by decide)).2.trans l0
  have HL1 : Hid ((N 1).l = [M.unit]) := (hN 1 (by decide)).2.trans l1
  clear hy hr0 l2 lm l0 l1 hp HP0
  go_wp2_with (first | ((with_reducible refine at_load 37 ?_); refine wpList_rowg_ls rfl O 0 rfl rfl Try.underlying25 rfl (s25 _ _) ?_) | (go_at_call 11; refine (choose_any p.1.m N 1 _ O.twoL).mono ?_; rw [HC.out]; rintro e w6 ⟨v, rfl, hv, hb⟩; obtain ⟨S0, rfl, hS0, O2⟩ := O.gainS hv hb; clear O hv hb; have O := O2; clear O2) | ((with_reducible refine at_store 5 ?_); refine wpList_put_ls O 0 (sv (1) (S0)) rfl rfl rfl (s25 _ _) (sv_len _ _ _ _) (sv_one _ _) ?_; clear O; intro w8 O))
  have hs0 : (S0 0).l = [y] := (hS0 0 (by decide)).2.trans HL0.out
  have hs1 : (S0 1).l = [M.unit] := (hS0 1 (by decide)).2.trans HL1.out
  have hsr : Stk.right (stk 1 (two (S0 0) (S0 1))) = true := one_right HY.out (.inr rfl) hs0 hs1
  clear b0 HC HL0 HL1 hN
  go_loopw [7] (fun u wr => ∃ (k : Nat) (s0 s1 : Ent), k ≤ n ∧ u = .int .i64 k ∧ OwnL w wr [(g5, 25, sv 1 (two s0 s1)), (g3, 27, M.mat 16 y)] [s0, s1] ∧ s0.l = [y] ∧ Stk.right (stk 1 (two s0 s1)) = true) (fun u _ => n - (intOf u).toNat)
  case atStart => exact ⟨0, S0 0, S0 1, by omega, rfl, O.pick (fun x hx => by simp only [List.mem_cons, List.not_mem_nil, or_false] at hx ⊢; rcases hx with h | h; exact .inl h; exact .inr (.inl h)), hs0, hsr⟩
  case round =>
    clear O hs0 hs1 hsr hS0
    obtain ⟨k, s0, s1, hk, rfl, O, hs0, hsr⟩ := hrel
    have HS0 := Lib.hid hs0
    have HSR := Lib.hid hsr
    clear hs0 hsr
    have q0 : (0 : Int) ≤ k := by omega
    by_cases hlt : k < n
    · have q1 : (k : Int) < n := by omega
      obtain ⟨a, ha⟩ : ∃ a, l[k]? = some a := ⟨_, List.getElem?_eq_getElem (by have := HN.out; omega)⟩
      have HA := Lib.hid ha
      clear ha
      by_cases hk1 : a.k < 1
      · have bk : decide (a.k < 1) = true := by simpa using hk1
        clear hk1
        go_wp2_with (first | ((with_reducible refine at_index 53 ?_); refine wpList_atD rfl HD.out rfl k rfl rfl hlt (by have := HN.out; omega) ?_) | ((with_reducible refine at_field 54 ?_); refine wpList_field0 rfl rfl ?_) | ((with_reducible refine at_load 55 ?_); refine wpList_kind rfl HD.out O k HA.out rfl ?_) | ((with_reducible refine at_index 60 ?_); refine wpList_atD rfl HD.out rfl k rfl rfl hlt (by have := HN.out; omega) ?_) | ((with_reducible refine at_field 61 ?_); refine wpList_field0 rfl rfl ?_) | ((with_reducible refine at_load 62 ?_); refine wpList_kind rfl HD.out O k HA.out rfl ?_))
        go_roundw
        case rel => exact ⟨k + 1, s0, s1, by omega, by go_num, O, HS0.out, HSR.out⟩
        case measure => simp [intOf]; omega
      by_cases hk4 : 4 < a.k
      · have bk : decide (a.k < 1) = false := by simpa using hk1
        have bk4 : decide (4 < a.k) = true := by simpa using hk4
        clear hk1 hk4
        go_wp2_with (first | ((with_reducible refine at_index 53 ?_); refine wpList_atD rfl HD.out rfl k rfl rfl hlt (by have := HN.out; omega) ?_) | ((with_reducible refine at_field 54 ?_); refine wpList_field0 rfl rfl ?_) | ((with_reducible refine at_load 55 ?_); refine wpList_kind rfl HD.out O k HA.out rfl ?_) | ((with_reducible refine at_index 60 ?_); refine wpList_atD rfl HD.out rfl k rfl rfl hlt (by have := HN.out; omega) ?_) | ((with_reducible refine at_field 61 ?_); refine wpList_field0 rfl rfl ?_) | ((with_reducible refine at_load 62 ?_); refine wpList_kind rfl HD.out O k HA.out rfl ?_))
        go_roundw
        case rel => exact ⟨k + 1, s0, s1, by omega, by go_num, O, HS0.out, HSR.out⟩
        case measure => simp [intOf]; omega
      have bk : decide (a.k < 1) = false := by simpa using hk1
      have bk4 : decide (4 < a.k) = false := by simpa using hk4
      obtain ⟨p, hp⟩ : ∃ p, Stk.deed (stk 1 (two s0 s1)) a = p := ⟨_, rfl⟩
      have HT : Hid (Stk.top (stk 1 (two s0 s1)) 1 = (Stk.last s1.l, 0)) := top_at (i := 1) (d := 1) (by decide) HSR.out
      have HKEEP : Hid (p.2 = 0 → p.1.m = 1 ∧ p.1.l 0 = [y] ∧ Stk.right p.1 = true ∧ (a.k = 2 → (M.mul (Stk.last s1.l) a.x).2 = 0 ∧ Stk.last (p.1.l 1) = (M.mul (Stk.last s1.l) a.x).1)) := by
        show _ → _
        intro h0
        have := deed_keep (a := a) HSR.out rfl (by omega) (by omega) (by rw [hp]; exact h0)
        rw [hp] at this
        obtain ⟨e1, e2, e3, e4⟩ := this
        exact ⟨e1, e2.trans HS0.out, e3, e4⟩
      have HP := Lib.hid hp
      clear hp hk1 hk4
      go_wp2_with (first | ((with_reducible refine at_index 53 ?_); refine wpList_atD rfl HD.out rfl k rfl rfl hlt (by have := HN.out; omega) ?_) | ((with_reducible refine at_field 54 ?_); refine wpList_field0 rfl rfl ?_) | ((with_reducible refine at_load 55 ?_); refine wpList_kind rfl HD.out O k HA.out rfl ?_) | ((with_reducible refine at_index 60 ?_); refine wpList_atD rfl HD.out rfl k rfl rfl hlt (by have := HN.out; omega) ?_) | ((with_reducible refine at_field 61 ?_); refine wpList_field0 rfl rfl ?_) | ((with_reducible refine at_load 62 ?_); refine wpList_kind rfl HD.out O k HA.out rfl ?_) | ((with_reducible refine at_load 66 ?_); refine wpList_rowg_ls rfl O 0 rfl rfl Try.underlying25 rfl (s25 _ _) ?_) | (go_at_call 9; refine (top_any 1 (two s0 s1) 1 _ (two_lies O (by simp) (by simp))).mono ?_; rw [HT.out]; rintro e w6 ⟨rfl, hb⟩; replace O := O.call hb; clear hb) | ((with_reducible refine at_alloc 8 ?_); refine wpList_alloc_ls O (M.mat 16 M.zero) zero23 ?_; clear O; intro g8 w7 O) | ((with_reducible refine at_store 8 ?_); refine wpList_put_ls O 0 (M.mat 16 (Stk.last s1.l)) rfl rfl rfl (s23 _) (M.mat_len2 _ _ _) (M.mat_one _ _) ?_; clear O; intro w8 O))
      clear bk bk4 HT
      refine region_S (fun st w2 => DoSt w [(g8, 27, M.mat 16 (Stk.last s1.l)), (g5, 25, sv 1 (two s0 s1)), (g3, 27, M.mat 16 y)] [s0, s1] p (st 9) (st 10) (st 5) w2) [5, 9, 10] 12 11 [some 71, some 72, some 73, some 74, some 75, some 76, some 70, some 77, some 78, some 10, none] (fun g => [.agg (sv 1 (two s0 s1)).toArray, .slice A n c, .int .i64 k, .pointer (some ((adr A).add (k * 18))), .agg a.cells.toArray, g 5, g 5, ex 0 (g 5), ex 1 (g 5), g 9, g 10]) 1 (by kernel_rfl) (by kernel_rfl) (by rfl) (by rfl) (fun _ => rfl) (by decide) ?_ (DoSt.start O.drew) (fun F hF => ?_)
      · intro i hi
        simp only [List.mem_cons, List.not_mem_nil, or_false] at hi
        rcases hi with rfl | rfl | rfl
        · exact ⟨fun _ => rfl, [0, 1, 2, 3, 4, 9, 10], by kernel_rfl, fun g v => ⟨rfl, rfl, rfl, rfl, rfl, rfl, rfl, trivial⟩⟩
        · exact ⟨fun _ => rfl, [0, 1, 2, 3, 4, 5, 6, 7, 8, 10], by kernel_rfl, fun g v => ⟨rfl, rfl, rfl, rfl, rfl, rfl, rfl, rfl, rfl, rfl, trivial⟩⟩
        · exact ⟨fun _ => rfl, [0, 1, 2, 3, 4, 5, 6, 7, 8, 9], by kernel_rfl, fun g v => ⟨rfl, rfl, rfl, rfl, rfl, rfl, rfl, rfl, rfl, rfl, trivial⟩⟩
      simp only [fillD, Act.put, List.setIfInBounds_toArray, List.set_cons_zero, List.set_cons_succ] at hF
      have hF2 := funext hF
      clear hF
      subst hF2
      refine ⟨⟨doesN_want (by decide) rfl (fun g => rfl) (fun st w' hS hp K hK => ?_), doesN_want (by decide) rfl (fun g => rfl) (fun st w' hS hp K hK => ?_), doesN_want (by decide) rfl (fun g => rfl) (fun st w' hS hp K hK => ?_), doesN_want (by decide) rfl (fun g => rfl) (fun st w' hS hp K hK => ?_), doesN_want (by decide) rfl (fun g => rfl) (fun st w' hS hp K hK => ?_), doesC_want (by decide) rfl (fun g => rfl) (fun st w' hS hn hp K hK => ?_), doesN_want (by decide) rfl (fun g => rfl) (fun st w' hS hp K hK => ?_), doesN_want (by decide) rfl (fun g => rfl) (fun st w' hS hp K hK => ?_), doesN_want (by decide) rfl (fun g => rfl) (fun st w' hS hp K hK => ?_), doesC_want (by decide) rfl (fun g => rfl) (fun st w' hS hn hp K hK => ?_), doesC_want (by decide) rfl (fun g => rfl) (fun st w' hS hn hp K hK => ?_), trivial⟩, fun st w' hS hall => ?_⟩
      · try dsimp only
        exact wp_row_ls hS.own 1 rfl rfl Try.underlying25 rfl (s25 _ _) (hK _ hS)
      · try dsimp only
        go_simp
        exact hK _ hS
      · try dsimp only
        go_simp
        exact hK _ hS
      · try dsimp only
        exact wp_atD HD.out rfl k rfl rfl hlt (by have := HN.out; omega) (hK _ hS)
      · try dsimp only
        exact wp_loadD HD.out hS.own k HA.out rfl (hK _ hS)
      · try dsimp only
        have hS2 : DoSt w [(g8, 27, M.mat 16 (Stk.last s1.l)), (g5, 25, sv 1 (two s0 s1)), (g3, 27, M.mat 16 y)] [s0, s1] p (st 9) (st 10) none w' := by rw [← hn]; exact hS
        go_simp
        go_at_call 26
        refine (do_any 1 (two s0 s1) a _ (two_lies hS.own (by simp) (by simp))).mono ?_
        rw [HP.out]
        rintro e w6 ⟨v, rfl, hv, hb⟩
        refine hK _ w6 ?_
        show DoSt w _ _ p (upd st 5 _ 9) (upd st 5 _ 10) (upd st 5 _ 5) w6
        rw [upd_same, upd_other _ _ (by decide), upd_other _ _ (by decide)]
        exact hS2.got hv hb
      · try dsimp only
        go_simp
        exact hK _ hS
      · try dsimp only
        obtain ⟨N, hN⟩ := hS.tup (hp 5 (by decide) (by kernel_rfl))
        have e1 : seen st 5 = .tuple #[.agg (sv p.1.m N).toArray, .int .i64 p.2] := by simp [seen, hN]
        simp only [e1] at hK ⊢
        go_simp
        exact hK _ hS
      · try dsimp only
        obtain ⟨N, hN⟩ := hS.tup (hp 5 (by decide) (by kernel_rfl))
        have e1 : seen st 5 = .tuple #[.agg (sv p.1.m N).toArray, .int .i64 p.2] := by simp [seen, hN]
        simp only [e1] at hK ⊢
        go_simp
        exact hK _ hS
      · try dsimp only
        have hS2 : DoSt w [(g8, 27, M.mat 16 (Stk.last s1.l)), (g5, 25, sv 1 (two s0 s1)), (g3, 27, M.mat 16 y)] [s0, s1] p none (st 10) (st 5) w' := by rw [← hn]; exact hS
        refine hS2.alloc_ fun v w6 h => hK v w6 ?_
        show DoSt w _ _ p (upd st 9 _ 9) (upd st 9 _ 10) (upd st 9 _ 5) w6
        rw [upd_same, upd_other _ _ (by decide), upd_other _ _ (by decide)]
        exact h
      · try dsimp only
        have hS2 : DoSt w [(g8, 27, M.mat 16 (Stk.last s1.l)), (g5, 25, sv 1 (two s0 s1)), (g3, 27, M.mat 16 y)] [s0, s1] p (st 9) none (st 5) w' := by rw [← hn]; exact hS
        refine hS2.store_ (hp 9 (by decide) (by kernel_rfl)) (hp 5 (by decide) (by kernel_rfl)) rfl rfl fun v w6 h => hK v w6 ?_
        show DoSt w _ _ p (upd st 10 _ 9) (upd st 10 _ 10) (upd st 10 _ 5) w6
        rw [upd_same, upd_other _ _ (by decide), upd_other _ _ (by decide)]
        exact h
      try dsimp only
      obtain ⟨g10, N, e9, e5, OE, hN⟩ := hS.done (hall 9 (by decide)) (hall 10 (by decide)) (hall 5 (by decide))
      have es9 : seen st 9 = .pointer (some ⟨g10, 0, none⟩) := by simp [seen, e9]
      have es5 : seen st 5 = .tuple #[.agg (sv p.1.m N).toArray, .int .i64 p.2] := by simp [seen, e5]
      simp only [es9, es5, ex_0, ex_1]
      clear e9 e5 es9 es5 hS hall
      have O := OE
      clear OE
      refine wpAny_one (i := 11) (by kernel_rfl) rfl (fun K hK => ?_)
      go_simp
      refine hK _ _ ?_
      clear hK K
      try simp only [Act.put, List.setIfInBounds_toArray, List.set_cons_zero, List.set_cons_succ]
      refine wpAny_done (by kernel_rfl) ?_ _
      by_cases he : p.2 = 0
      · have b0 : (p.2 != 0) = false := by simpa using he
        obtain ⟨e1, e2, e3, e4⟩ := HKEEP.out he
        have hn0 : (N 0).l = [y] := (hN 0 (by decide)).2.trans e2
        have hnr : Stk.right (stk 1 (two (N 0) (N 1))) = true := by
          rw [← e3]
          exact Stk.right_ext e1.symm (fun i hi => by
            rw [← (hN i hi).2]
            exact congrArg Ent.l (two_self N hi))
        have HT2 : Hid (Stk.top (stk p.1.m N) 1 = (Stk.last (N 1).l, 0)) := by
          show _ = _
          rw [e1]
          refine top_at (i := 1) (d := 1) (by decide) ?_
          rw [← hnr]
          exact Stk.right_ext rfl (fun i hi => (congrArg Ent.l (two_self N hi)).symm)
        have HE1 := Lib.hid e1
        have HN0 := Lib.hid hn0
        have HNR := Lib.hid hnr
        have H2 : Hid (a.k = 2 → (M.mul (Stk.last s1.l) a.x).2 = 0 ∧ Stk.last (N 1).l = (M.mul (Stk.last s1.l) a.x).1) := by
          show _ → _
          rw [(hN 1 (by decide)).2]
          exact e4
        clear e1 e2 e3 e4 hn0 hnr HKEEP he hN
        by_cases hk2 : a.k = 2
        · have b2 : (a.k == 2) = true := by simpa using hk2
          obtain ⟨m1, m2⟩ := H2.out hk2
          obtain ⟨q, hq⟩ : ∃ q, M.mul (Stk.last s1.l) a.x = q := ⟨_, rfl⟩
          rw [hq] at m1 m2
          have HQ := Lib.hid hq
          have HM2 := Lib.hid m2
          have bq : (q.2 != 0) = false := by simpa using m1
          have EQB : Hid (M.eqB 16 q.1 (Stk.last (N 1).l) = true) := by show _ = _; rw [m2]; exact M.eqB_refl _ _
          clear hk2 m1 m2 hq H2
          go_wp2_with (first | ((with_reducible refine at_load 82 ?_); refine wpList_rowg_ls rfl O 0 rfl rfl Try.underlying25 rfl (s25 _ _) ?_) | (go_at_call 9; refine (top_any p.1.m N 1 _ O.twoL).mono ?_; rw [HT2.out]; rintro e w6 ⟨rfl, hb⟩; replace O := O.call hb; clear hb) | ((with_reducible refine at_alloc 12 ?_); refine wpList_alloc_ls O (M.mat 16 M.zero) zero23 ?_; clear O; intro g12 w7 O) | ((with_reducible refine at_store 12 ?_); refine wpList_put_ls O 0 (M.mat 16 (Stk.last (N 1).l)) rfl rfl rfl (s23 _) (M.mat_len2 _ _ _) (M.mat_one _ _) ?_; clear O; intro w8 O) | ((with_reducible refine at_index 88 ?_); refine wpList_atD rfl HD.out rfl k rfl rfl hlt (by have := HN.out; omega) ?_) | ((with_reducible refine at_field 89 ?_); refine wpList_field0 rfl rfl ?_) | ((with_reducible refine at_load 90 ?_); refine wpList_kind rfl HD.out O k HA.out rfl ?_))
          refine region_S (fun st w2 => PutSt w [(g12, 27, M.mat 16 (Stk.last (N 1).l)), (g10, 25, sv p.1.m N), (g8, 27, M.mat 16 (Stk.last s1.l)), (g5, 25, sv 1 (two s0 s1)), (g3, 27, M.mat 16 y)] [N 0, N 1, s0, s1] (st 10) (st 11) q.1 w2) [10, 11] 12 12 [some 93, some 94, some 95, some 96, some 97, some 98, some 99, some 92, some 100, some 101, some 14, none] (fun g => [arr 16 (Stk.last s1.l), .slice A n c, .int .i64 k, .pointer (some ((adr A).add (k * 18))), .pointer (some (((adr A).add (k * 18)).add 2)), arr 16 a.x, .tuple #[arr 16 q.1, .int .i64 q.2], .tuple #[arr 16 q.1, .int .i64 q.2], arr 16 q.1, .int .i64 q.2, g 10, g 11]) 1 (by kernel_rfl) (by kernel_rfl) (by rfl) (by rfl) (fun _ => rfl) (by decide) ?_ (.inl ⟨rfl, rfl, O.drew⟩) (fun F hF => ?_)
          · intro i hi
            simp only [List.mem_cons, List.not_mem_nil, or_false] at hi
            rcases hi with rfl | rfl
            · exact ⟨fun _ => rfl, [0, 1, 2, 3, 4, 5, 6, 7, 8, 9, 11], by kernel_rfl, fun g v => ⟨rfl, rfl, rfl, rfl, rfl, rfl, rfl, rfl, rfl, rfl, rfl, trivial⟩⟩
            · exact ⟨fun _ => rfl, [0, 1, 2, 3, 4, 5, 6, 7, 8, 9, 10], by kernel_rfl, fun g v => ⟨rfl, rfl, rfl, rfl, rfl, rfl, rfl, rfl, rfl, rfl, rfl, trivial⟩⟩
          simp only [fillD, Act.put, List.setIfInBounds_toArray, List.set_cons_zero, List.set_cons_succ] at hF
          have hF2 := funext hF
          clear hF
          subst hF2
          refine ⟨⟨doesN_want (by decide) rfl (fun g => rfl) (fun st w' hS hp K hK => ?_), doesN_want (by decide) rfl (fun g => rfl) (fun st w' hS hp K hK => ?_), doesN_want (by decide) rfl (fun g => rfl) (fun st w' hS hp K hK => ?_), doesN_want (by decide) rfl (fun g => rfl) (fun st w' hS hp K hK => ?_), doesN_want (by decide) rfl (fun g => rfl) (fun st w' hS hp K hK => ?_), doesN_want (by decide) rfl (fun g => rfl) (fun st w' hS hp K hK => ?_), doesN_want (by decide) rfl (fun g => rfl) (fun st w' hS hp K hK => ?_), doesN_want (by decide) rfl (fun g => rfl) (fun st w' hS hp K hK => ?_), doesN_want (by decide) rfl (fun g => rfl) (fun st w' hS hp K hK => ?_), doesN_want (by decide) rfl (fun g => rfl) (fun st w' hS hp K hK => ?_), doesC_want (by decide) rfl (fun g => rfl) (fun st w' hS hn hp K hK => ?_), doesC_want (by decide) rfl (fun g => rfl) (fun st w' hS hn hp K hK => ?_), trivial⟩, fun st w' hS hall => ?_⟩
          · try dsimp only
            exact wp_row_ls hS.own 2 rfl rfl Try.underlying27 rfl (s23 _) (hK _ hS)
          · try dsimp only
            go_simp
            exact hK _ hS
          · try dsimp only
            go_simp
            exact hK _ hS
          · try dsimp only
            exact wp_atD HD.out rfl k rfl rfl hlt (by have := HN.out; omega) (hK _ hS)
          · try dsimp only
            exact wp_field2 rfl (hK _ hS)
          · try dsimp only
            exact wp_matD HD.out hS.own k HA.out rfl (hK _ hS)
          · try dsimp only
            go_simp
            go_at_call 29
            refine (rmul_any (Stk.last s1.l) a.x _).mono ?_
            rw [HQ.out]
            rintro e w3 ⟨rfl, hb⟩
            exact hK _ (hS.call hb)
          · try dsimp only
            go_simp
            exact hK _ hS
          · try dsimp only
            go_simp
            exact hK _ hS
          · try dsimp only
            go_simp
            exact hK _ hS
          · try dsimp only
            have hcs := hn
            rcases hS with ⟨h1, h2, O⟩ | ⟨g, h1, h2, O⟩ | ⟨g, v, h1, h2, O⟩
            · refine wp_alloc_ls O (M.mat 16 M.zero) zero23 fun g w3 O3 => hK _ w3 (.inr (.inl ⟨g, upd_same _ _ _, (upd_other _ _ (by decide)).trans h2, O3⟩))
            · rw [h1] at hcs; cases hcs
            · rw [h1] at hcs; cases hcs
          · try dsimp only
            have hcs := hn
            have hp1 := hp 10 (by decide) (by kernel_rfl)
            rcases hS with ⟨h1, h2, O⟩ | ⟨g, h1, h2, O⟩ | ⟨g, v, h1, h2, O⟩
            · rw [h1] at hp1; cases hp1
            · have es : seen st 10 = .pointer (some ⟨g, 0, none⟩) := by simp [seen, h1]
              refine wp_put_ls O 0 (M.mat 16 q.1) rfl es rfl (s23 _) (M.mat_len2 _ _ _) (M.mat_one _ _) fun w3 O3 => hK _ w3 (.inr (.inr ⟨g, _, (upd_other _ _ (by decide)).trans h1, upd_same _ _ _, O3⟩))
            · rw [h2] at hcs; cases hcs
          try dsimp only
          have hp1 := hall 10 (by decide)
          have hp2 := hall 11 (by decide)
          rcases hS with ⟨h1, h2, O⟩ | ⟨g, h1, h2, O⟩ | ⟨g14, v, h1, h2, O⟩
          · rw [h1] at hp1; cases hp1
          · rw [h2] at hp2; cases hp2
          have es : seen st 10 = .pointer (some ⟨g14, 0, none⟩) := by simp [seen, h1]
          rw [es]
          clear hp1 hp2 h1 h2 es hall
          refine wpAny_one (i := 12) (by kernel_rfl) rfl (fun K hK => ?_)
          go_simp
          refine hK _ _ ?_
          clear hK K
          try simp only [Act.put, List.setIfInBounds_toArray, List.set_cons_zero, List.set_cons_succ]
          refine wpAny_done (by kernel_rfl) ?_ _
          go_wp2_with (first | ((with_reducible refine at_load 105 ?_); refine wpList_rowg_ls rfl O 0 rfl rfl Try.underlying27 rfl (s23 _) ?_) | ((with_reducible refine at_load 106 ?_); refine wpList_rowg_ls rfl O 1 rfl rfl Try.underlying27 rfl (s23 _) ?_) | ((with_reducible refine at_binOp 107 ?_); refine wpList_neq_mat (by rfl) Try.underlying27 Try.eqGuardType27 q.1 (Stk.last (N 1).l) rfl rfl ?_; rw [EQB.out]) | ((with_reducible refine at_load 109 ?_); refine wpList_rowg_ls rfl O 2 rfl rfl Try.underlying25 rfl (s25 _ _) ?_) | ((with_reducible refine at_store 5 ?_); refine wpList_put_ls O 4 (sv (p.1.m) (N)) rfl rfl rfl (s25 _ _) (sv_len _ _ _ _) (sv_one _ _) ?_; clear O; intro w9 O))
          go_roundw
          case rel =>
            rw [HE1.out] at O
            refine ⟨k + 1, N 0, N 1, by omega, by go_num, (OwnL.tail (OwnL.tail (OwnL.tail (OwnL.tail (O))))).pick (fun x hx => ?_), HN0.out, HNR.out⟩
            simp only [List.mem_cons, List.not_mem_nil, or_false] at hx ⊢
            rcases hx with h | h
            · exact .inl h
            · exact .inr (.inl h)
          case measure => simp [intOf]; omega
        · have b2 : (a.k == 2) = false := by simpa using hk2
          clear hk2 H2
          go_wp2_with (first | ((with_reducible refine at_load 82 ?_); refine wpList_rowg_ls rfl O 0 rfl rfl Try.underlying25 rfl (s25 _ _) ?_) | (go_at_call 9; refine (top_any p.1.m N 1 _ O.twoL).mono ?_; rw [HT2.out]; rintro e w6 ⟨rfl, hb⟩; replace O := O.call hb; clear hb) | ((with_reducible refine at_alloc 12 ?_); refine wpList_alloc_ls O (M.mat 16 M.zero) zero23 ?_; clear O; intro g12 w7 O) | ((with_reducible refine at_store 12 ?_); refine wpList_put_ls O 0 (M.mat 16 (Stk.last (N 1).l)) rfl rfl rfl (s23 _) (M.mat_len2 _ _ _) (M.mat_one _ _) ?_; clear O; intro w8 O) | ((with_reducible refine at_index 88 ?_); refine wpList_atD rfl HD.out rfl k rfl rfl hlt (by have := HN.out; omega) ?_) | ((with_reducible refine at_field 89 ?_); refine wpList_field0 rfl rfl ?_) | ((with_reducible refine at_load 90 ?_); refine wpList_kind rfl HD.out O k HA.out rfl ?_) | ((with_reducible refine at_load 109 ?_); refine wpList_rowg_ls rfl O 1 rfl rfl Try.underlying25 rfl (s25 _ _) ?_) | ((with_reducible refine at_store 5 ?_); refine wpList_put_ls O 3 (sv (p.1.m) (N)) rfl rfl rfl (s25 _ _) (sv_len _ _ _ _) (sv_one _ _) ?_; clear O; intro w9 O))
          go_roundw
          case rel =>
            rw [HE1.out] at O
            refine ⟨k + 1, N 0, N 1, by omega, by go_num, (OwnL.tail (OwnL.tail (OwnL.tail (O)))).pick (fun x hx => ?_), HN0.out, HNR.out⟩
            simp only [List.mem_cons, List.not_mem_nil, or_false] at hx ⊢
            rcases hx with h | h
            · exact .inl h
            · exact .inr (.inl h)
          case measure => simp [intOf]; omega
      · have b0 : (p.2 != 0) = true := by simpa using he
        clear he HKEEP
        go_wp2_with fail
        go_roundw
        case rel =>
          refine ⟨k + 1, s0, s1, by omega, by go_num, (OwnL.tail (OwnL.tail O)).pick (fun x hx => ?_), HS0.out, HSR.out⟩
          exact List.mem_cons_of_mem _ (List.mem_cons_of_mem _ hx)
        case measure => simp [intOf]; omega
    · have q1 : ¬ (k : Int) < n := by omega
      have HT : Hid (Stk.top (stk 1 (two s0 s1)) 0 = (y, 0)) := by
        show _ = _
        have := top_at (i := 1) (d := 0) (L := two s0 s1) (by decide) HSR.out
        rw [show (two s0 s1 0).l = [y] from HS0.out] at this
        exact this
      have E0 : s0.val = .slice s0.A 1 s0.c := by rw [Ent.val, HS0.out]; rfl
      go_wp2_with (first | ((with_reducible refine at_load 111 ?_); refine wpList_rowg_ls rfl O 0 rfl rfl Try.underlying25 rfl (s25 _ _) ?_) | (go_at_call 9; refine (top_any 1 (two s0 s1) 0 _ (two_lies O (by simp) (by simp))).mono ?_; rw [HT.out]; rintro e w6 ⟨rfl, hb⟩; replace O := O.call hb; clear hb) | ((with_reducible refine at_alloc 16 ?_); refine wpList_alloc_ls O (M.mat 16 M.zero) zero23 ?_; clear O; intro g16 w7 O) | ((with_reducible refine at_store 16 ?_); refine wpList_put_ls O 0 (M.mat 16 (y)) rfl rfl rfl (s23 _) (M.mat_len2 _ _ _) (M.mat_one _ _) ?_; clear O; intro w8 O) | (go_at_call 8; refine (awake_any _).mono ?_; rintro e w6 ⟨rfl, hb⟩; replace O := O.call hb; clear hb) | ((with_reducible refine at_load 125 ?_); refine wpList_rowg_ls rfl O 0 rfl rfl Try.underlying27 rfl (s23 _) ?_) | ((with_reducible refine at_load 126 ?_); refine wpList_rowg_ls rfl O 2 rfl rfl Try.underlying27 rfl (s23 _) ?_) | ((with_reducible refine at_binOp 127 ?_); refine wpList_eq_mat (by rfl) Try.underlying27 Try.eqGuardType27 y y rfl rfl ?_; rw [M.eqB_refl]) | ((with_reducible refine at_index 131 ?_); refine wpList_in_ls rfl Try.underlying23 sizeOf22 (by decide) (0) rfl rfl (rfl) (by omega) ?_) | ((with_reducible refine at_load 132 ?_); refine wpList_cell_ls rfl O 1 rfl (show (sv 1 (two s0 s1))[1]? = some s0.val from rfl) rfl agg22 rfl ?_))
      go_ret
      exact ⟨rfl, O.below⟩

theorem readable : ∀ t ∈ Try.f6.params.toList, Try.prog.readableRec t = true ∧ t < Try.prog.types.size := by
  intro t ht
  rw [Try.params6] at ht
  simp only [List.mem_cons, List.not_mem_nil, or_false] at ht
  repeat (first | (rcases ht with rfl | ht; exact ⟨by kernel_rfl, of_decide_eq_true (by kernel_rfl)⟩) | (subst ht; exact ⟨by kernel_rfl, of_decide_eq_true (by kernel_rfl)⟩))
set_option maxRecDepth 100000 in
theorem lifted (os : Os) (started : os.Started) (H : Type) (enc : TypeId × Value → H) :
    ReturnsInHanded {} Try.checked os 6 .any (Rows.stackApartSpec.pre6 enc Try.prog Try.f6 Rows.stackApartRow.domain false) (Rows.stackApartSpec.post enc Try.prog Try.f6 false true false false) := by
  refine returnsInHanded_of_change (C := Try.checked) own started (by kernel_rfl) Try.func6
    (ChangeSpec.witness6 (enc := enc) (C := Try.checked) false ⟨#[], #[.slice none 0 0, .agg #[.int .i64 0, .int .i64 0, .int .i64 0, .int .i64 0, .int .i64 0, .int .i64 0, .int .i64 0, .int .i64 0, .int .i64 0, .int .i64 0, .int .i64 0, .int .i64 0, .int .i64 0, .int .i64 0, .int .i64 0, .int .i64 0]], []⟩ 8 (by kernel_rfl) (by kernel_rfl) (by kernel_rfl) (by kernel_rfl)) ?_
  intro W base args ds gs before hval0 hW hcnd _
  have hval : ∀ (j : Nat) t v, Try.f6.params[j]? = some t → args[j]? = some v → Value.okWide Try.prog W .any base t v := hval0
  have hW' := hW
  obtain ⟨p, q, hA0, hV, rfl, hfz, hnd⟩ := hW
  have hA : DataW.TrodAll enc Try.prog W 0 (fun _ => true) true Try.f6.params.toList args.toList ds p := hA0
  rw [Try.params6] at hA hval
  have hlt : ∀ x ∈ p ++ q, x.block < W.heap.size := fun x hx => hW'.lt x hx
  obtain ⟨v0, vs0, d0, ds0, p0, q0, hargs, rfl, rfl, h0, rr0⟩ := trodAll_cons hA
  obtain ⟨v1, vs1, d1, ds1, p1, q1, rfl, rfl, rfl, h1, rr1⟩ := trodAll_cons rr0
  obtain ⟨rfl, rfl, rfl⟩ := trodAll_nil rr1
  obtain rfl : args = #[v0, v1] := by cases args; simp_all
  obtain ⟨rfl, rfl⟩ := trodVars_none hV
  obtain ⟨A0, n0, c0, rfl⟩ := okWide_slice Try.underlying40 (hval 0 40 v0 rfl rfl)
  obtain ⟨A, c, l, e0, hD⟩ := openDeeds rfl h0 (fun x hx => hlt x (by simp [hx]))
  obtain ⟨rfl, rfl, rfl⟩ := Value.slice.inj e0
  obtain ⟨y, rfl⟩ := openMat (hval 1 27 v1 rfl rfl) h1
  clear hA0 hval0
  refine (walk W A0 c0 l y hD).mono fun e W' ⟨he, hg⟩ => ?_
  subst he
  exact ⟨_, rfl, post_true (tb := 4) laid readable (by kernel_rfl) Try.underlying4 rfl (fun l hl => by
    match l, hl with
    | [_, _], _ => exact ⟨rfl, rfl, rfl⟩) hW' hg⟩

theorem over : Rows.stackApartRow.holds Try.pinned (OpenSpec.ofChange Rows.stackApartSpec) :=
  OpenClaim.holds_of_wide 6 Try.f6 rfl rfl rfl rfl rfl rfl rfl ⟨rfl, rfl, rfl, rfl, rfl⟩ rfl rfl rfl rfl rfl (by kernel_rfl) Try.func6 (by kernel_rfl)
    (of_decide_eq_true (by kernel_rfl)) (by unfold Func.isWrapper; first | (rw [if_pos (by decide +kernel)]; kernel_rfl) | (rw [if_neg (by decide +kernel)]; exact ⟨rfl, rfl⟩))
    (fun os started H enc _ => lifted os started H enc)

theorem proved : Rows.StackApartSaid :=
  over
#print axioms proved
end Go.Proofs.Ythcieapfpgejdaa.stackApart
