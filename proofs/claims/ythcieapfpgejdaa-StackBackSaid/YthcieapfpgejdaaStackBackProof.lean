/-
  For every two stacks of matrices and every list of matrices the law StackBack returns true: Pop takes Push back, whatever was loaded and multiplied between. No condition.
-/
import Derived.Test.YthcieapfpgejdaaRow
import Derived.Test.YthcieapfpgejdaaBack6
import Derived.Deep.DeepCutAuto
namespace Go.Proofs.Ythcieapfpgejdaa.stackBack
open Go.ChangeShapes Go.WideShapes Go.ChangeAt Go.RowKit
set_option linter.unusedVariables false
set_option linter.unusedSimpArgs false

theorem own : ownKnob Try.prog.godebug = none := by kernel_rfl
theorem two_self (N : Nat → Ent) {j : Nat} (h : j < 2) : two (N 0) (N 1) j = N j := by
  rcases j with _ | _ | j
  · rfl
  · rfl
  · omega

set_option maxRecDepth 100000 in
set_option maxHeartbeats 8000000 in
theorem walk (w : World) (m : Int) (L : Nat → Ent) (X : Ent) (hL : ∀ i, i < 2 → Lies w [] (L i)) (hX : Lies w [] X) :
    Calls Try.prog 5 #[.agg (sv m L).toArray, X.val] w fun e w' => e = .returned (.bool true) ∧ Below w.heap.size w w' := by
  obtain ⟨lo, A, c, l⟩ := X
  have O := OwnL.start w [⟨lo, A, c, l⟩] (by simpa using hX)
  have hu2 := Try.underlying25
  have hu3 := Try.underlying27
  have HL := Lib.hid hL
  clear hL hX
  obtain ⟨n, hn⟩ : ∃ n, l.length = n := ⟨_, rfl⟩
  show Calls Try.prog 5 #[.agg (sv m L).toArray, .slice A l.length c] w fun e w' => e = .returned (.bool true) ∧ Below w.heap.size w w'
  rw [hn]
  have HN := Lib.hid hn
  clear hn
  go_enter Try.func5, Try.ntmps5
  cases hsm : (decide ((L 0).l.length ≤ 12) && decide ((L 1).l.length ≤ 12))
  · have HSM := Lib.hid hsm
    clear hsm
    go_wp2_with (first | ((with_reducible refine at_box 2 ?_); refine wpList_box_ls O (sv m L) rfl ?_; clear O; intro g2 w1 O) | ((with_reducible refine at_load 10 ?_); refine wpList_rowg_ls rfl O 0 rfl rfl Try.underlying25 rfl (s25 _ _) ?_) | (go_at_call 7; refine (small_any m L _).mono ?_; rw [HSM.out]; rintro e w6 ⟨rfl, hb⟩; replace O := O.call hb; clear hb) | (go_at_call 8; refine (awake_any _).mono ?_; rintro e w6 ⟨rfl, hb⟩; replace O := O.call hb; clear hb))
    go_ret
    exact ⟨rfl, O.below⟩
  have HSM := Lib.hid hsm
  have hsh : ∀ i, i < 2 → (L i).l.length ≤ 100 := fun i hi => by
    simp only [Bool.and_eq_true, decide_eq_true_eq] at hsm
    rcases i with _ | _ | i
    · exact Nat.le_trans hsm.1 (by decide)
    · exact Nat.le_trans hsm.2 (by decide)
    · omega
  have HSH := Lib.hid hsh
  clear hsm hsh
  by_cases h60 : 20 < n
  · have q1 : (20 : Int) < n := by omega
    go_wp2_with (first | ((with_reducible refine at_box 2 ?_); refine wpList_box_ls O (sv m L) rfl ?_; clear O; intro g2 w1 O) | ((with_reducible refine at_load 10 ?_); refine wpList_rowg_ls rfl O 0 rfl rfl Try.underlying25 rfl (s25 _ _) ?_) | (go_at_call 7; refine (small_any m L _).mono ?_; rw [HSM.out]; rintro e w6 ⟨rfl, hb⟩; replace O := O.call hb; clear hb) | (go_at_call 8; refine (awake_any _).mono ?_; rintro e w6 ⟨rfl, hb⟩; replace O := O.call hb; clear hb))
    go_ret
    exact ⟨rfl, O.below⟩
  have q1 : ¬ (20 : Int) < n := by omega
  obtain ⟨pp, hpp⟩ : ∃ p, Stk.push (stk m L) = p := ⟨_, rfl⟩
  by_cases hp0 : pp.2 = 0
  case neg =>
    have HF : Hid (pp.1 = Stk.none_) := by show _ = _; rw [← hpp]; exact push_no (by rw [hpp]; exact hp0)
    have HPP := Lib.hid hpp
    have b0 : (pp.2 != 0) = true := by simpa using hp0
    clear hp0 hpp
    go_wp2_with (first | ((with_reducible refine at_box 2 ?_); refine wpList_box_ls O (sv m L) rfl ?_; clear O; intro g2 w1 O) | ((with_reducible refine at_load 10 ?_); refine wpList_rowg_ls rfl O 0 rfl rfl Try.underlying25 rfl (s25 _ _) ?_) | (go_at_call 7; refine (small_any m L _).mono ?_; rw [HSM.out]; rintro e w6 ⟨rfl, hb⟩; replace O := O.call hb; clear hb) | ((with_reducible refine at_load 20 ?_); refine wpList_rowg_ls rfl O 0 rfl rfl Try.underlying25 rfl (s25 _ _) ?_) | (go_at_call 18; refine (push_any m L _ (fun i hi => O.old (HL.out i hi))).mono ?_; rw [HPP.out]; rintro e w6 ⟨v, rfl, hv, hb⟩; obtain ⟨T, rfl, hT, O2⟩ := O.gainS hv hb; clear O hv hb; have O := O2; clear O2; obtain ⟨E0, E1⟩ := empty_vals HF.out hT) | ((with_reducible refine at_alloc 5 ?_); refine wpList_alloc_ls O (sv 0 (noL 0)) zero25 ?_; clear O; intro g5 w7 O) | ((with_reducible refine at_store 5 ?_); refine wpList_put_ls O 0 (sv (pp.1.m) (T)) rfl rfl rfl (s25 _ _) (sv_len _ _ _ _) (sv_one _ _) ?_; clear O; intro w8 O) | (go_at_call 8; refine (awake_any _).mono ?_; rintro e w6 ⟨rfl, hb⟩; replace O := O.call hb; clear hb) | ((with_reducible refine at_index 29 ?_); refine wpList_in_ls rfl Try.underlying23 sizeOf22 (by decide) (0) rfl rfl (rfl) (by omega) ?_) | ((with_reducible refine at_load 30 ?_); refine wpList_cell_ls rfl O 0 rfl (rfl) rfl agg22 rfl ?_) | ((with_reducible refine at_index 33 ?_); refine wpList_in_ls rfl Try.underlying23 sizeOf22 (by decide) (1) rfl rfl (rfl) (by omega) ?_) | ((with_reducible refine at_load 34 ?_); refine wpList_cell_ls rfl O 0 rfl (rfl) rfl agg22 rfl ?_))
    go_ret
    exact ⟨rfl, O.below⟩
  obtain ⟨hr, h8, hput⟩ := push_ok (s := stk m L) (by rw [hpp]; exact hp0)
  obtain ⟨i, hi, rfl⟩ := Stk.isMode_nat (Stk.isMode_iff.2 (Stk.right_iff.1 hr).1)
  rw [meant_at] at h8
  have HR := Lib.hid hr
  have H8 := Lib.hid h8
  have HPM : Hid (pp.1.m = i) := by show _ = _; rw [← hpp, hput]; rfl
  have HO : Hid (∀ (N : Nat → Ent) (n : Nat), (∀ j, j < 2 → (N j).lo = n ∧ (N j).l = pp.1.l j) → Over i L (two (N 0) (N 1))) := by
    show ∀ _, _
    intro N n hN
    refine over_push hi hr (fun j hj => ?_)
    rw [show (two (N 0) (N 1) j) = N j by rcases j with _ | _ | j; rfl; rfl; omega, (hN j hj).2, ← hpp, hput]
  have HPP := Lib.hid hpp
  have b0 : (pp.2 != 0) = false := by simpa using hp0
  clear hr h8 hput hpp hp0
  go_wp2_with (first | ((with_reducible refine at_box 2 ?_); refine wpList_box_ls O (sv i L) rfl ?_; clear O; intro g2 w1 O) | ((with_reducible refine at_load 10 ?_); refine wpList_rowg_ls rfl O 0 rfl rfl Try.underlying25 rfl (s25 _ _) ?_) | (go_at_call 7; refine (small_any i L _).mono ?_; rw [HSM.out]; rintro e w6 ⟨rfl, hb⟩; replace O := O.call hb; clear hb) | ((with_reducible refine at_load 20 ?_); refine wpList_rowg_ls rfl O 0 rfl rfl Try.underlying25 rfl (s25 _ _) ?_) | (go_at_call 18; refine (push_any i L _ (fun i hi => O.old (HL.out i hi))).mono ?_; rw [HPP.out]; rintro e w6 ⟨v, rfl, hv, hb⟩; obtain ⟨T, rfl, hT, O2⟩ := O.gainS hv hb; clear O hv hb; have O := O2; clear O2) | ((with_reducible refine at_alloc 5 ?_); refine wpList_alloc_ls O (sv 0 (noL 0)) zero25 ?_; clear O; intro g5 w7 O) | ((with_reducible refine at_store 5 ?_); refine wpList_put_ls O 0 (sv (pp.1.m) (T)) rfl rfl rfl (s25 _ _) (sv_len _ _ _ _) (sv_one _ _) ?_; clear O; intro w8 O))
  have hov := HO.out T _ hT
  rw [HPM.out] at O
  clear q1 b0 HO HPP
  go_loopw [7] (fun u wr => ∃ (k : Nat) (t0 t1 : Ent), k ≤ n ∧ u = .int .i64 k ∧ OwnL w wr [(g5, 25, sv i (two t0 t1)), (g2, 25, sv i L)] [t0, t1, ⟨lo, A, c, l⟩] ∧ Over i L (two t0 t1)) (fun u _ => n - (intOf u).toNat)
  case atStart => exact ⟨0, T 0, T 1, by omega, rfl, O, hov⟩
  case round =>
    clear O hov hT
    obtain ⟨k, t0, t1, hk, rfl, O, hov⟩ := hrel
    have HOV := Lib.hid hov
    clear hov
    have q0 : (0 : Int) ≤ k := by omega
    by_cases hlt : k < n
    · have q1 : (k : Int) < n := by omega
      obtain ⟨x, hx⟩ : ∃ x, l[k]? = some x := ⟨_, List.getElem?_eq_getElem (by have := HN.out; omega)⟩
      obtain ⟨p, hp⟩ : ∃ p, Stk.load (stk i (two t0 t1)) x = p := ⟨_, rfl⟩
      have HX := Lib.hid hx
      have HP := Lib.hid hp
      clear hx hp
      go_wp2_with fail
      refine region_S (fun st w2 => DoSt w [(g5, 25, sv i (two t0 t1)), (g2, 25, sv i L)] [t0, t1, ⟨lo, A, c, l⟩] p (st 9) (st 10) (st 5) w2) [5, 9, 10] 12 11 [some 46, some 47, some 48, some 49, some 50, some 51, some 45, some 52, some 53, some 8, none] (fun g => [.agg (sv i (two t0 t1)).toArray, .slice A n c, .int .i64 k, .pointer (some ((adr A).add (k * 16))), arr 16 x, g 5, g 5, ex 0 (g 5), ex 1 (g 5), g 9, g 10]) 1 (by kernel_rfl) (by kernel_rfl) (by rfl) (by rfl) (fun _ => rfl) (by decide) ?_ (DoSt.start O.drew) (fun F hF => ?_)
      · intro i hi
        simp only [List.mem_cons, List.not_mem_nil, or_false] at hi
        rcases hi with rfl | rfl | rfl
        · exact ⟨fun _ => rfl, [0, 1, 2, 3, 4, 9, 10], by kernel_rfl, fun g v => ⟨rfl, rfl, rfl, rfl, rfl, rfl, rfl, trivial⟩⟩
        · exact ⟨fun _ => rfl, [0, 1, 2, 3, 4, 5, 6, 7, 8, 10], by kernel_rfl, fun g v => ⟨rfl, rfl, rfl, rfl, rfl, rfl, rfl, rfl, rfl, rfl, trivial⟩⟩
        · exact ⟨fun _ => rfl, [0, 1, 2, 3, 4, 5, 6, 7, 8, 9], by kernel_rfl, fun g v => ⟨rfl, rfl, rfl, rfl, rfl, rfl, rfl, rfl, rfl, rfl, trivial⟩⟩
      simp only [fillD, Act.put, List.setIfInBounds_toArray, List.set_cons_zero, List.set_cons_succ] at hF
      have hF2 := funext hF
      clear hF
      subst hF2
      refine ⟨⟨doesN_want (by decide) rfl (fun g => rfl) (fun st w' hS hp K hK => ?_), doesN_want (by decide) rfl (fun g => rfl) (fun st w' hS hp K hK => ?_), doesN_want (by decide) rfl (fun g => rfl) (fun st w' hS hp K hK => ?_), doesN_want (by decide) rfl (fun g => rfl) (fun st w' hS hp K hK => ?_), doesN_want (by decide) rfl (fun g => rfl) (fun st w' hS hp K hK => ?_), doesC_want (by decide) rfl (fun g => rfl) (fun st w' hS hn hp K hK => ?_), doesN_want (by decide) rfl (fun g => rfl) (fun st w' hS hp K hK => ?_), doesN_want (by decide) rfl (fun g => rfl) (fun st w' hS hp K hK => ?_), doesN_want (by decide) rfl (fun g => rfl) (fun st w' hS hp K hK => ?_), doesC_want (by decide) rfl (fun g => rfl) (fun st w' hS hn hp K hK => ?_), doesC_want (by decide) rfl (fun g => rfl) (fun st w' hS hn hp K hK => ?_), trivial⟩, fun st w' hS hall => ?_⟩
      · try dsimp only
        exact wp_row_ls hS.own 0 rfl rfl Try.underlying25 rfl (s25 _ _) (hK _ hS)
      · try dsimp only
        go_simp
        exact hK _ hS
      · try dsimp only
        go_simp
        exact hK _ hS
      · try dsimp only
        exact wp_at_ls Try.underlying22 sizeOf27 hS.own 2 rfl rfl k rfl rfl hlt (by have := HN.out; omega) (hK _ hS)
      · try dsimp only
        exact wp_elem_ls hS.own 2 rfl k HX.out rfl Try.underlying27 rfl size23 (hK _ hS)
      · try dsimp only
        have hS2 : DoSt w [(g5, 25, sv i (two t0 t1)), (g2, 25, sv i L)] [t0, t1, ⟨lo, A, c, l⟩] p (st 9) (st 10) none w' := by rw [← hn]; exact hS
        go_simp
        go_at_call 14
        refine (load_any i (two t0 t1) x _ (two_lies hS.own (by simp) (by simp))).mono ?_
        rw [HP.out]
        rintro e w6 ⟨v, rfl, hv, hb⟩
        refine hK _ w6 ?_
        show DoSt w _ _ p (upd st 5 _ 9) (upd st 5 _ 10) (upd st 5 _ 5) w6
        rw [upd_same, upd_other _ _ (by decide), upd_other _ _ (by decide)]
        exact hS2.got hv hb
      · try dsimp only
        go_simp
        exact hK _ hS
      · try dsimp only
        obtain ⟨N, hN⟩ := hS.tup (hp 5 (by decide) (by kernel_rfl))
        have e1 : seen st 5 = .tuple #[.agg (sv p.1.m N).toArray, .int .i64 p.2] := by simp [seen, hN]
        simp only [e1] at hK ⊢
        go_simp
        exact hK _ hS
      · try dsimp only
        obtain ⟨N, hN⟩ := hS.tup (hp 5 (by decide) (by kernel_rfl))
        have e1 : seen st 5 = .tuple #[.agg (sv p.1.m N).toArray, .int .i64 p.2] := by simp [seen, hN]
        simp only [e1] at hK ⊢
        go_simp
        exact hK _ hS
      · try dsimp only
        have hS2 : DoSt w [(g5, 25, sv i (two t0 t1)), (g2, 25, sv i L)] [t0, t1, ⟨lo, A, c, l⟩] p none (st 10) (st 5) w' := by rw [← hn]; exact hS
        refine hS2.alloc_ fun v w6 h => hK v w6 ?_
        show DoSt w _ _ p (upd st 9 _ 9) (upd st 9 _ 10) (upd st 9 _ 5) w6
        rw [upd_same, upd_other _ _ (by decide), upd_other _ _ (by decide)]
        exact h
      · try dsimp only
        have hS2 : DoSt w [(g5, 25, sv i (two t0 t1)), (g2, 25, sv i L)] [t0, t1, ⟨lo, A, c, l⟩] p (st 9) none (st 5) w' := by rw [← hn]; exact hS
        refine hS2.store_ (hp 9 (by decide) (by kernel_rfl)) (hp 5 (by decide) (by kernel_rfl)) rfl rfl fun v w6 h => hK v w6 ?_
        show DoSt w _ _ p (upd st 10 _ 9) (upd st 10 _ 10) (upd st 10 _ 5) w6
        rw [upd_same, upd_other _ _ (by decide), upd_other _ _ (by decide)]
        exact h
      try dsimp only
      obtain ⟨g8, N, e9, e5, OE, hN⟩ := hS.done (hall 9 (by decide)) (hall 10 (by decide)) (hall 5 (by decide))
      have es9 : seen st 9 = .pointer (some ⟨g8, 0, none⟩) := by simp [seen, e9]
      have es5 : seen st 5 = .tuple #[.agg (sv p.1.m N).toArray, .int .i64 p.2] := by simp [seen, e5]
      simp only [es9, es5, ex_0, ex_1]
      clear e9 e5 es9 es5 hS hall
      have O := OE
      clear OE
      refine wpAny_one (i := 11) (by kernel_rfl) rfl (fun K hK => ?_)
      go_simp
      refine hK _ _ ?_
      clear hK K
      try simp only [Act.put, List.setIfInBounds_toArray, List.set_cons_zero, List.set_cons_succ]
      refine wpAny_done (by kernel_rfl) ?_ _
      by_cases hodd : k % 2 = 1
      · have bo : ((k : Int) % 2 == 1) = true := by simp; omega
        clear hodd
        go_wp2_with fail
        clear HP hN bo
        have O3 : OwnL w w' ((g8, 25, sv p.1.m N) :: [(g5, 25, sv i (two t0 t1)), (g2, 25, sv i L)]) [t0, t1, ⟨lo, A, c, l⟩] := O.pick (fun y hy => List.mem_cons_of_mem _ (List.mem_cons_of_mem _ hy))
        clear O
        have O := O3
        clear O3
        obtain ⟨p, hp⟩ : ∃ p, Stk.mult (stk i (two t0 t1)) x = p := ⟨_, rfl⟩
        have HP := Lib.hid hp
        clear hp
        refine region_S (fun st w2 => DoSt w [(g5, 25, sv i (two t0 t1)), (g2, 25, sv i L)] [t0, t1, ⟨lo, A, c, l⟩] p (some (.pointer (some ⟨g8, 0, none⟩))) (st 9) (st 5) w2) [5, 9] 12 10 [some 58, some 59, some 60, some 61, some 62, some 63, some 57, some 64, some 65, none] (fun g => [.agg (sv i (two t0 t1)).toArray, .slice A n c, .int .i64 k, .pointer (some ((adr A).add (k * 16))), arr 16 x, g 5, g 5, ex 0 (g 5), ex 1 (g 5), g 9]) 1 (by kernel_rfl) (by kernel_rfl) (by rfl) (by rfl) (fun _ => rfl) (by decide) ?_ (DoSt.start2 O.drew rfl) (fun F hF => ?_)
        · intro i hi
          simp only [List.mem_cons, List.not_mem_nil, or_false] at hi
          rcases hi with rfl | rfl
          · exact ⟨fun _ => rfl, [0, 1, 2, 3, 4, 9], by kernel_rfl, fun g v => ⟨rfl, rfl, rfl, rfl, rfl, rfl, trivial⟩⟩
          · exact ⟨fun _ => rfl, [0, 1, 2, 3, 4, 5, 6, 7, 8], by kernel_rfl, fun g v => ⟨rfl, rfl, rfl, rfl, rfl, rfl, rfl, rfl, rfl, trivial⟩⟩
        simp only [fillD, Act.put, List.setIfInBounds_toArray, List.set_cons_zero, List.set_cons_succ] at hF
        have hF2 := funext hF
        clear hF
        subst hF2
        refine ⟨⟨doesN_want (by decide) rfl (fun g => rfl) (fun st w' hS hp K hK => ?_), doesN_want (by decide) rfl (fun g => rfl) (fun st w' hS hp K hK => ?_), doesN_want (by decide) rfl (fun g => rfl) (fun st w' hS hp K hK => ?_), doesN_want (by decide) rfl (fun g => rfl) (fun st w' hS hp K hK => ?_), doesN_want (by decide) rfl (fun g => rfl) (fun st w' hS hp K hK => ?_), doesC_want (by decide) rfl (fun g => rfl) (fun st w' hS hn hp K hK => ?_), doesN_want (by decide) rfl (fun g => rfl) (fun st w' hS hp K hK => ?_), doesN_want (by decide) rfl (fun g => rfl) (fun st w' hS hp K hK => ?_), doesN_want (by decide) rfl (fun g => rfl) (fun st w' hS hp K hK => ?_), doesC_want (by decide) rfl (fun g => rfl) (fun st w' hS hn hp K hK => ?_), trivial⟩, fun st w' hS hall => ?_⟩
        · try dsimp only
          exact wp_row_ls hS.own 0 rfl rfl Try.underlying25 rfl (s25 _ _) (hK _ hS)
        · try dsimp only
          go_simp
          exact hK _ hS
        · try dsimp only
          go_simp
          exact hK _ hS
        · try dsimp only
          exact wp_at_ls Try.underlying22 sizeOf27 hS.own 2 rfl rfl k rfl rfl hlt (by have := HN.out; omega) (hK _ hS)
        · try dsimp only
          exact wp_elem_ls hS.own 2 rfl k HX.out rfl Try.underlying27 rfl size23 (hK _ hS)
        · try dsimp only
          have hS2 : DoSt w [(g5, 25, sv i (two t0 t1)), (g2, 25, sv i L)] [t0, t1, ⟨lo, A, c, l⟩] p (some (.pointer (some ⟨g8, 0, none⟩))) (st 9) none w' := by rw [← hn]; exact hS
          go_simp
          go_at_call 16
          refine (mult_any i (two t0 t1) x _ (two_lies hS.own (by simp) (by simp))).mono ?_
          rw [HP.out]
          rintro e w6 ⟨v, rfl, hv, hb⟩
          refine hK _ w6 ?_
          show DoSt w _ _ p _ (upd st 5 _ 9) (upd st 5 _ 5) w6
          rw [upd_same, upd_other _ _ (by decide)]
          exact hS2.got hv hb
        · try dsimp only
          go_simp
          exact hK _ hS
        · try dsimp only
          obtain ⟨N, hN⟩ := hS.tup (hp 5 (by decide) (by kernel_rfl))
          have e1 : seen st 5 = .tuple #[.agg (sv p.1.m N).toArray, .int .i64 p.2] := by simp [seen, hN]
          simp only [e1] at hK ⊢
          go_simp
          exact hK _ hS
        · try dsimp only
          obtain ⟨N, hN⟩ := hS.tup (hp 5 (by decide) (by kernel_rfl))
          have e1 : seen st 5 = .tuple #[.agg (sv p.1.m N).toArray, .int .i64 p.2] := by simp [seen, hN]
          simp only [e1] at hK ⊢
          go_simp
          exact hK _ hS
        · try dsimp only
          have hS2 : DoSt w [(g5, 25, sv i (two t0 t1)), (g2, 25, sv i L)] [t0, t1, ⟨lo, A, c, l⟩] p (some (.pointer (some ⟨g8, 0, none⟩))) none (st 5) w' := by rw [← hn]; exact hS
          refine hS2.store_ rfl (hp 5 (by decide) (by kernel_rfl)) rfl rfl fun v w6 h => hK v w6 ?_
          show DoSt w _ _ p _ (upd st 9 _ 9) (upd st 9 _ 5) w6
          rw [upd_same, upd_other _ _ (by decide)]
          exact h
        try dsimp only
        obtain ⟨g8', N, e9, e5, OE, hN⟩ := hS.done rfl (hall 9 (by decide)) (hall 5 (by decide))
        have es5 : seen st 5 = .tuple #[.agg (sv p.1.m N).toArray, .int .i64 p.2] := by simp [seen, e5]
        have eg : g8' = g8 := by simpa using (Option.some.inj e9).symm
        subst eg
        simp only [es5, ex_0, ex_1]
        clear e9 e5 es5 hS hall
        have O := OE
        clear OE
        refine wpAny_one (i := 10) (by kernel_rfl) rfl (fun K hK => ?_)
        go_simp
        refine hK _ _ ?_
        clear hK K
        try simp only [Act.put, List.setIfInBounds_toArray, List.set_cons_zero, List.set_cons_succ]
        refine wpAny_done (by kernel_rfl) ?_ _
        have HV : Hid (p.2 = 0 → p.1.m = i ∧ Over i L (two (N 0) (N 1))) := by
          show _ → _
          intro h0
          have := over_mult (x := x) hi (over_right hi HR.out H8.out HOV.out) HOV.out (by rw [HP.out]; exact h0) (N := two (N 0) (N 1)) (fun j hj => by rw [two_self N hj, (hN j hj).2, HP.out])
          rw [HP.out] at this
          exact this
        by_cases he : p.2 = 0
        · have b1 : (p.2 == 0) = true := by simpa using he
          obtain ⟨e1, e2⟩ := HV.out he
          have HE1 := Lib.hid e1
          clear he HV e1
          go_wp2_with (first | ((with_reducible refine at_load 68 ?_); refine wpList_rowg_ls rfl O 0 rfl rfl Try.underlying25 rfl (s25 _ _) ?_) | ((with_reducible refine at_store 5 ?_); refine wpList_put_ls O 1 (sv (p.1.m) (N)) rfl rfl rfl (s25 _ _) (sv_len _ _ _ _) (sv_one _ _) ?_; clear O; intro w9 O))
          go_roundw
          case rel =>
            rw [HE1.out] at O
            refine ⟨k + 1, N 0, N 1, by omega, by go_num, (OwnL.tail O).pick (fun y hy => ?_), e2⟩
            simp only [List.mem_cons, List.not_mem_nil, or_false] at hy ⊢
            rcases hy with h | h | h
            · exact .inl h
            · exact .inr (.inl h)
            · exact .inr (.inr (.inr (.inr h)))
          case measure => simp [intOf]; omega
        · have b1 : (p.2 == 0) = false := by simpa using he
          clear he HV
          go_wp2_with fail
          go_roundw
          case rel =>
            refine ⟨k + 1, t0, t1, by omega, by go_num, (OwnL.tail O).pick (fun y hy => ?_), HOV.out⟩
            exact List.mem_cons_of_mem _ (List.mem_cons_of_mem _ hy)
          case measure => simp [intOf]; omega
      · have bo : ((k : Int) % 2 == 1) = false := by simp; omega
        clear hodd
        have HV : Hid (p.2 = 0 → p.1.m = i ∧ Over i L (two (N 0) (N 1))) := by
          show _ → _
          intro h0
          have := over_load (x := x) hi HOV.out (by rw [HP.out]; exact h0) (N := two (N 0) (N 1)) (fun j hj => by rw [two_self N hj, (hN j hj).2, HP.out])
          rw [HP.out] at this
          exact this
        by_cases he : p.2 = 0
        · have b1 : (p.2 == 0) = true := by simpa using he
          obtain ⟨e1, e2⟩ := HV.out he
          have HE1 := Lib.hid e1
          clear he HV e1
          go_wp2_with (first | ((with_reducible refine at_load 68 ?_); refine wpList_rowg_ls rfl O 0 rfl rfl Try.underlying25 rfl (s25 _ _) ?_) | ((with_reducible refine at_store 5 ?_); refine wpList_put_ls O 1 (sv (p.1.m) (N)) rfl rfl rfl (s25 _ _) (sv_len _ _ _ _) (sv_one _ _) ?_; clear O; intro w9 O))
          go_roundw
          case rel =>
            rw [HE1.out] at O
            refine ⟨k + 1, N 0, N 1, by omega, by go_num, (OwnL.tail O).pick (fun y hy => ?_), e2⟩
            simp only [List.mem_cons, List.not_mem_nil, or_false] at hy ⊢
            rcases hy with h | h | h
            · exact .inl h
            · exact .inr (.inl h)
            · exact .inr (.inr (.inr (.inr h)))
          case measure => simp [intOf]; omega
        · have b1 : (p.2 == 0) = false := by simpa using he
          clear he HV
          go_wp2_with fail
          go_roundw
          case rel =>
            refine ⟨k + 1, t0, t1, by omega, by go_num, (OwnL.tail O).pick (fun y hy => ?_), HOV.out⟩
            exact List.mem_cons_of_mem _ (List.mem_cons_of_mem _ hy)
          case measure => simp [intOf]; omega
    · have q1 : ¬ (k : Int) < n := by omega
      obtain ⟨h0, hm, hl⟩ := over_pop hi HR.out H8.out HOV.out
      obtain ⟨q, hq⟩ : ∃ q, Stk.pop (stk i (two t0 t1)) = q := ⟨_, rfl⟩
      rw [hq] at h0 hm hl
      obtain ⟨⟨qm, ql⟩, q2⟩ := q
      have h0' : q2 = 0 := h0
      subst h0'
      have hm' : qm = (i : Int) := hm
      subst hm'
      have HP := Lib.hid hq
      have HLL := Lib.hid hl
      clear h0 hm hl hq
      go_wp2_with (first | ((with_reducible refine at_load 70 ?_); refine wpList_rowg_ls rfl O 0 rfl rfl Try.underlying25 rfl (s25 _ _) ?_) | (go_at_call 20; refine (pop_any i (two t0 t1) _ (two_lies O (by simp) (by simp))).mono ?_; rw [HP.out]; rintro e w6 ⟨v, rfl, hv, hb⟩; obtain ⟨N, rfl, hN, O2⟩ := O.gainS hv hb; clear O hv hb; have O := O2; clear O2) | ((with_reducible refine at_store 5 ?_); refine wpList_put_ls O 0 (sv (i) (N)) rfl rfl rfl (s25 _ _) (sv_len _ _ _ _) (sv_one _ _) ?_; clear O; intro w9 O) | (go_at_call 8; refine (awake_any _).mono ?_; rintro e w6 ⟨rfl, hb⟩; replace O := O.call hb; clear hb) | ((with_reducible refine at_load 80 ?_); refine wpList_rowg_ls rfl O 0 rfl rfl Try.underlying25 rfl (s25 _ _) ?_) | ((with_reducible refine at_load 81 ?_); refine wpList_rowg_ls rfl O 1 rfl rfl Try.underlying25 rfl (s25 _ _) ?_) | (go_at_call 13; refine (same_any i N L _ O.twoL (fun j hj => O.old (HL.out j hj)) (fun j hj => ((hN j hj).2.trans (HLL.out j hj)).symm) (fun j hj => by rw [(hN j hj).2, HLL.out j hj]; exact HSH.out j hj)).mono ?_; rintro e w6 ⟨rfl, hb⟩; replace O := O.call hb; clear hb))
      go_ret
      exact ⟨rfl, O.below⟩

theorem readable : ∀ t ∈ Try.f5.params.toList, Try.prog.readableRec t = true ∧ t < Try.prog.types.size := by
  intro t ht
  rw [Try.params5] at ht
  simp only [List.mem_cons, List.not_mem_nil, or_false] at ht
  repeat (first | (rcases ht with rfl | ht; exact ⟨by kernel_rfl, of_decide_eq_true (by kernel_rfl)⟩) | (subst ht; exact ⟨by kernel_rfl, of_decide_eq_true (by kernel_rfl)⟩))
set_option maxRecDepth 100000 in
theorem lifted (os : Os) (started : os.Started) (H : Type) (enc : TypeId × Value → H) :
    ReturnsInHanded {} Try.checked os 5 .any (Rows.stackBackSpec.pre6 enc Try.prog Try.f5 Rows.stackBackRow.domain false) (Rows.stackBackSpec.post enc Try.prog Try.f5 false true false false) := by
  refine returnsInHanded_of_change (C := Try.checked) own started (by kernel_rfl) Try.func5
    (ChangeSpec.witness6 (enc := enc) (C := Try.checked) false ⟨#[], #[.agg #[.int .i64 0, .slice none 0 0, .slice none 0 0], .slice none 0 0], []⟩ 8 (by kernel_rfl) (by kernel_rfl) (by kernel_rfl) (by kernel_rfl)) ?_
  intro W base args ds gs before hval0 hW hcnd _
  have hval : ∀ (j : Nat) t v, Try.f5.params[j]? = some t → args[j]? = some v → Value.okWide Try.prog W .any base t v := hval0
  have hW' := hW
  obtain ⟨p, q, hA0, hV, rfl, hfz, hnd⟩ := hW
  have hA : DataW.TrodAll enc Try.prog W 0 (fun _ => true) true Try.f5.params.toList args.toList ds p := hA0
  rw [Try.params5] at hA hval
  have hlt : ∀ x ∈ p ++ q, x.block < W.heap.size := fun x hx => hW'.lt x hx
  obtain ⟨v0, vs0, d0, ds0, p0, q0, hargs, rfl, rfl, h0, rr0⟩ := trodAll_cons hA
  obtain ⟨v1, vs1, d1, ds1, p1, q1, rfl, rfl, rfl, h1, rr1⟩ := trodAll_cons rr0
  obtain ⟨rfl, rfl, rfl⟩ := trodAll_nil rr1
  obtain rfl : args = #[v0, v1] := by cases args; simp_all
  obtain ⟨rfl, rfl⟩ := trodVars_none hV
  obtain ⟨m, L, rfl, hL⟩ := openStk (hval 0 25 v0 rfl rfl) h0 (fun x hx => hlt x (by simp [hx]))
  obtain ⟨A0, n0, c0, rfl⟩ := okWide_slice Try.underlying22 (hval 1 22 v1 rfl rfl)
  obtain ⟨X, e0, hX⟩ := openMats rfl h1 (fun x hx => hlt x (by simp [hx]))
  rw [e0] at hW'
  rw [e0]
  clear hA0 hval0
  refine (walk W m L X hL hX).mono fun e W' ⟨he, hg⟩ => ?_
  subst he
  exact ⟨_, rfl, post_true (tb := 4) laid readable (by kernel_rfl) Try.underlying4 rfl (fun l hl => by
    match l, hl with
    | [_, _], _ => exact ⟨rfl, rfl, rfl⟩) hW' hg⟩

theorem over : Rows.stackBackRow.holds Try.pinned (OpenSpec.ofChange Rows.stackBackSpec) :=
  OpenClaim.holds_of_wide 5 Try.f5 rfl rfl rfl rfl rfl rfl rfl ⟨rfl, rfl, rfl, rfl, rfl⟩ rfl rfl rfl rfl rfl (by kernel_rfl) Try.func5 (by kernel_rfl)
    (of_decide_eq_true (by kernel_rfl)) (by unfold Func.isWrapper; first | (rw [if_pos (by decide +kernel)]; kernel_rfl) | (rw [if_neg (by decide +kernel)]; exact ⟨rfl, rfl⟩))
    (fun os started H enc _ => lifted os started H enc)

theorem proved : Rows.StackBackSaid :=
  over
#print axioms proved
end Go.Proofs.Ythcieapfpgejdaa.stackBack
