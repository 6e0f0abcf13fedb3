/- Contract: cut. -/
import Derived.Test.YtbpignicffkaoaaFb
import Derived.Test.YtbpignicffkaoaaFc
namespace Go.Proofs.Ytbpignicffkaoaa
open Go.ChangeShapes Go.WideShapes Go.ChangeAt Go.RowKit
set_option linter.unusedVariables false
set_option linter.unusedSimpArgs false

set_option maxRecDepth 100000 in
set_option maxHeartbeats 16000000 in
theorem pcut_any (l : List C.PV) (s : Nat → Int) (hs : D.right s = true) (hf : C.Fit l) (h9 : l.length ≤ 200000) {lo : Nat} {A : Option Addr} {c : Nat} (w : World) (hL : Lies w free (cnE lo A c l)) :
    Calls Try.prog 19 #[.slice A l.length c, arr 5 s] w (RetCn w (C.cut s l)) := by
  have O := Held.start w [cnE lo A c l] (by simpa using hL)
  clear hL
  have CI := Lib.hid (fun p (h : p ∈ l) w => pin_any p.1 s hs (hf p h) w)
  have CM := Lib.hid (fun p q (hp : p ∈ l) (hq : q ∈ l) h1 h2 w => pmeet_any p.1 q.1 s hs (hf p hp) (hf q hq) h1 h2 w)
  clear hs hf
  go_enter Try.func19, Try.ntmps19
  go_wp2_with ((with_reducible refine at_box 3 ?_); refine wpList_box_h O (M.mat 5 (s)) rfl ?_; clear O; intro g3 w1 O)
  go_loopw [5, 13] (fun u t wr => ∃ (k : Nat) (L : List C.PV) (RA : Option Addr) (Rc : Nat), k ≤ l.length ∧ t = .int .i64 k ∧ u = .slice RA L.length Rc ∧ C.some_ s l k = L ∧ Held w wr [(g3, 35, M.mat 5 s)] (cnR RA Rc L) [cnE lo A c l]) (fun _ t _ => l.length - (intOf t).toNat)
  case atStart => exact ⟨0, [], none, 0, Nat.zero_le _, rfl, rfl, rfl, O.fresh 52 9⟩
  case round =>
    clear O
    obtain ⟨k, L, RA, Rc, hk, rfl, rfl, hT, O⟩ := hrel
    have n1 : L.length ≤ 400000 := by rw [← hT]; exact Nat.le_trans (C.some_len s l k) (by omega)
    have HT := Lib.hid hT
    clear hT
    have q0 : (0 : Int) ≤ k := by omega
    by_cases hlt : k < l.length
    · have q1 : (k : Int) < l.length := by omega
      obtain ⟨j, hj⟩ : ∃ j, (k + 1) % l.length = j := ⟨_, rfl⟩
      have q2 : j < l.length := by rw [← hj]; exact Nat.mod_lt _ (by omega)
      have HM := Lib.hid (show Int.tmod ((k : Int) + 1) (l.length : Int) = (j : Int) by rw [← hj]; rfl)
      obtain ⟨p, hp⟩ : ∃ p, l[k]? = some p := ⟨_, List.getElem?_eq_getElem hlt⟩
      obtain ⟨q, hq⟩ : ∃ q, l[j]? = some q := ⟨_, List.getElem?_eq_getElem q2⟩
      have HS : Hid (C.some_ s l (k + 1) = L ++ C.step s (p, q)) := Lib.hid (by rw [C.some_step hp (by rw [hj]; exact hq), HT.out])
      have c1 := CI.out p (List.mem_of_getElem? hp)
      have c2 := CI.out q (List.mem_of_getElem? hq)
      have cm := CM.out p q (List.mem_of_getElem? hp) (List.mem_of_getElem? hq)
      have cn_ := CM.out q p (List.mem_of_getElem? hq) (List.mem_of_getElem? hp)
      have HP := Lib.hid hp
      have HQ := Lib.hid hq
      clear hp hq hj
      rcases (by omega : (0 ≤ D.dist s p.1 ∧ 0 ≤ D.dist s q.1) ∨ (D.dist s p.1 < 0 ∧ D.dist s q.1 < 0) ∨ (D.dist s p.1 < 0 ∧ 0 ≤ D.dist s q.1) ∨ (0 ≤ D.dist s p.1 ∧ D.dist s q.1 < 0)) with ⟨h1, h2⟩ | ⟨h1, h2⟩ | ⟨h1, h2⟩ | ⟨h1, h2⟩
      · have k1 : decide (0 ≤ D.dist s p.1) = true := by simp; omega
        have k2 : decide (0 ≤ D.dist s q.1) = true := by simp; omega
        rw [k1] at c1
        rw [k2] at c2
        have HE := Lib.hid (C.step_in (p := p) (q := q) h1 h2)
        clear cm cn_
        clear k1 k2 h1 h2
        go_wp2_with (first | ((with_reducible refine at_index_ 16 ?_); refine wpList_at_h rfl Try.underlying43 sizeOf52 _ (O.mem List.mem_cons_self) rfl (k) rfl (rfl) (by omega) rfl ?_) | ((with_reducible refine at_load 17 ?_); refine wpList_elem_h rfl _ (O.mem List.mem_cons_self) (k * 9) (cn (p)) (cnC_at HP.out) (by rw [cn_len]; decide) rfl Try.underlying52 rfl (s52 _) ?_) | ((with_reducible refine at_alloc 7 ?_); refine wpList_alloc_h O (cn C.zero) zero52 ?_; clear O; intro g7 v1 O) | ((with_reducible refine at_store 7 ?_); refine wpList_put_h O 0 (cn (p)) rfl rfl rfl (s52 _) (cn_len2 _ _) (cn_one _) ?_; clear O; intro v2 O) | ((with_reducible refine at_index_ 24 ?_); refine wpList_at_h rfl Try.underlying43 sizeOf52 _ (O.mem List.mem_cons_self) rfl (j) rfl (HM.out) (by omega) rfl ?_) | ((with_reducible refine at_load 25 ?_); refine wpList_elem_h rfl _ (O.mem List.mem_cons_self) (j * 9) (cn (q)) (cnC_at HQ.out) (by rw [cn_len]; decide) rfl Try.underlying52 rfl (s52 _) ?_) | ((with_reducible refine at_alloc 8 ?_); refine wpList_alloc_h O (cn C.zero) zero52 ?_; clear O; intro g8 v3 O) | ((with_reducible refine at_store 8 ?_); refine wpList_put_h O 0 (cn (q)) rfl rfl rfl (s52 _) (cn_len2 _ _) (cn_one _) ?_; clear O; intro v4 O))
        refine region_T ((fun w2 => Held w w2 [(g8, 52, cn q), (g7, 52, cn p), (g3, 35, M.mat 5 s)] (cnR RA Rc L) [cnE lo A c l])) [0, 1, 2, 3, 4, 5, 6, 7, 8] 12 [some 26, some 27, some 28, some 29, some 30, some 31, some 32, some 33, some 9] [.pointer (some ⟨g7, 0, none⟩), arr 8 p.1, arr 5 s, .bool true, .pointer (some ⟨g8, 0, none⟩), arr 8 q.1, arr 5 s, .bool true, .bool true] 1 (by kernel_rfl) (by rfl) (by kernel_rfl) (by rfl) (by rfl) (O.drew) (fun F hF => ?_)
        simp only [fillD, Act.put, List.setIfInBounds_toArray, List.set_cons_zero, List.set_cons_succ] at hF
        subst hF
        refine ⟨⟨does_want rfl (by rfl) (fun w' O K hK => ?_), does_want rfl (by rfl) (fun w' O K hK => ?_), does_want rfl (by rfl) (fun w' O K hK => ?_), does_want rfl (by rfl) (fun w' O K hK => ?_), does_want rfl (by rfl) (fun w' O K hK => ?_), does_want rfl (by rfl) (fun w' O K hK => ?_), does_want rfl (by rfl) (fun w' O K hK => ?_), does_want rfl (by rfl) (fun w' O K hK => ?_), does_want rfl (by rfl) (fun w' O K hK => ?_), trivial⟩, fun w' O => ?_⟩
        · go_simp
          exact hK _ O
        · exact wp_mid_h O 1 rfl (M.mat 8 (p).1) (cn_mid _) rfl Try.underlying39 rfl (s27 _) (hK _ O)
        · exact wp_row_h O 2 rfl rfl Try.underlying35 rfl (s24 _) (hK _ O)
        · go_simp
          go_at_call 26
          refine (c1 _).mono ?_
          rintro e w2 ⟨rfl, hb⟩
          exact hK _ (O.call hb)
        · go_simp
          exact hK _ O
        · exact wp_mid_h O 0 rfl (M.mat 8 (q).1) (cn_mid _) rfl Try.underlying39 rfl (s27 _) (hK _ O)
        · exact wp_row_h O 2 rfl rfl Try.underlying35 rfl (s24 _) (hK _ O)
        · go_simp
          go_at_call 26
          refine (c2 _).mono ?_
          rintro e w2 ⟨rfl, hb⟩
          exact hK _ (O.call hb)
        · go_simp
          exact hK _ O
        refine wpAny_one (i := 9) (by kernel_rfl) rfl (fun K hK => ?_)
        go_simp
        refine hK _ _ ?_
        clear hK K
        try simp only [Act.put, List.setIfInBounds_toArray, List.set_cons_zero, List.set_cons_succ]
        refine wpAny_done (by kernel_rfl) ?_ _
        go_wp2_with (first | ((with_reducible refine at_load 36 ?_); refine wpList_rowg_h rfl O 1 rfl rfl Try.underlying52 rfl (s52 _) ?_) | ((with_reducible refine at_lit 37 ?_); refine wpList_lit_h rfl O 9 (.agg (cn C.zero).toArray) info52 Try.underlying43 ([(0, .agg (cn (p)).toArray)]) (cnC [p]) rfl (cnC_len _) (by decide) (by decide) (by kernel_rfl) ?_; clear O; intro gl u5 O) | ((with_reducible refine at_app 38 ?_); refine wpList_app_big rfl O (.agg (cn C.zero).toArray) 72 info52b rfl (Nat.succ_pos _) Try.underlying43 rfl _ (O.mem List.mem_cons_self) rfl rfl (cnC_one _) (by dsimp only [cnR]; omega) (by decide) ?_; clear O; intro va u6 O; obtain ⟨TA, Tc, e1, O2⟩ := cnR_of (O.pick (es' := [cnE lo A c l]) (fun y hy => List.mem_cons_of_mem _ hy)); subst e1; clear O; have O := O2; clear O2))
        have O2 := O.tail.tail
        clear O
        have O := O2
        clear O2
        go_roundw
        case rel => exact ⟨k + 1, L ++ [p], TA, Tc, by omega, by go_num, by first | rfl | simp, by rw [HS.out, HE.out]; try simp, O⟩
        case measure => simp [intOf]; omega
      · have k1 : decide (0 ≤ D.dist s p.1) = false := by simp; omega
        have k2 : decide (0 ≤ D.dist s q.1) = false := by simp; omega
        rw [k1] at c1
        rw [k2] at c2
        have HE := Lib.hid (C.step_out (p := p) (q := q) h1 h2)
        clear cm cn_
        clear k1 k2 h1 h2
        go_wp2_with (first | ((with_reducible refine at_index_ 16 ?_); refine wpList_at_h rfl Try.underlying43 sizeOf52 _ (O.mem List.mem_cons_self) rfl (k) rfl (rfl) (by omega) rfl ?_) | ((with_reducible refine at_load 17 ?_); refine wpList_elem_h rfl _ (O.mem List.mem_cons_self) (k * 9) (cn (p)) (cnC_at HP.out) (by rw [cn_len]; decide) rfl Try.underlying52 rfl (s52 _) ?_) | ((with_reducible refine at_alloc 7 ?_); refine wpList_alloc_h O (cn C.zero) zero52 ?_; clear O; intro g7 v1 O) | ((with_reducible refine at_store 7 ?_); refine wpList_put_h O 0 (cn (p)) rfl rfl rfl (s52 _) (cn_len2 _ _) (cn_one _) ?_; clear O; intro v2 O) | ((with_reducible refine at_index_ 24 ?_); refine wpList_at_h rfl Try.underlying43 sizeOf52 _ (O.mem List.mem_cons_self) rfl (j) rfl (HM.out) (by omega) rfl ?_) | ((with_reducible refine at_load 25 ?_); refine wpList_elem_h rfl _ (O.mem List.mem_cons_self) (j * 9) (cn (q)) (cnC_at HQ.out) (by rw [cn_len]; decide) rfl Try.underlying52 rfl (s52 _) ?_) | ((with_reducible refine at_alloc 8 ?_); refine wpList_alloc_h O (cn C.zero) zero52 ?_; clear O; intro g8 v3 O) | ((with_reducible refine at_store 8 ?_); refine wpList_put_h O 0 (cn (q)) rfl rfl rfl (s52 _) (cn_len2 _ _) (cn_one _) ?_; clear O; intro v4 O))
        refine region_T ((fun w2 => Held w w2 [(g8, 52, cn q), (g7, 52, cn p), (g3, 35, M.mat 5 s)] (cnR RA Rc L) [cnE lo A c l])) [0, 1, 2, 3, 4, 5, 6, 7, 8] 12 [some 26, some 27, some 28, some 29, some 30, some 31, some 32, some 33, some 9] [.pointer (some ⟨g7, 0, none⟩), arr 8 p.1, arr 5 s, .bool false, .pointer (some ⟨g8, 0, none⟩), arr 8 q.1, arr 5 s, .bool false, .bool false] 1 (by kernel_rfl) (by rfl) (by kernel_rfl) (by rfl) (by rfl) (O.drew) (fun F hF => ?_)
        simp only [fillD, Act.put, List.setIfInBounds_toArray, List.set_cons_zero, List.set_cons_succ] at hF
        subst hF
        refine ⟨⟨does_want rfl (by rfl) (fun w' O K hK => ?_), does_want rfl (by rfl) (fun w' O K hK => ?_), does_want rfl (by rfl) (fun w' O K hK => ?_), does_want rfl (by rfl) (fun w' O K hK => ?_), does_want rfl (by rfl) (fun w' O K hK => ?_), does_want rfl (by rfl) (fun w' O K hK => ?_), does_want rfl (by rfl) (fun w' O K hK => ?_), does_want rfl (by rfl) (fun w' O K hK => ?_), does_want rfl (by rfl) (fun w' O K hK => ?_), trivial⟩, fun w' O => ?_⟩
        · go_simp
          exact hK _ O
        · exact wp_mid_h O 1 rfl (M.mat 8 (p).1) (cn_mid _) rfl Try.underlying39 rfl (s27 _) (hK _ O)
        · exact wp_row_h O 2 rfl rfl Try.underlying35 rfl (s24 _) (hK _ O)
        · go_simp
          go_at_call 26
          refine (c1 _).mono ?_
          rintro e w2 ⟨rfl, hb⟩
          exact hK _ (O.call hb)
        · go_simp
          exact hK _ O
        · exact wp_mid_h O 0 rfl (M.mat 8 (q).1) (cn_mid _) rfl Try.underlying39 rfl (s27 _) (hK _ O)
        · exact wp_row_h O 2 rfl rfl Try.underlying35 rfl (s24 _) (hK _ O)
        · go_simp
          go_at_call 26
          refine (c2 _).mono ?_
          rintro e w2 ⟨rfl, hb⟩
          exact hK _ (O.call hb)
        · go_simp
          exact hK _ O
        refine wpAny_one (i := 9) (by kernel_rfl) rfl (fun K hK => ?_)
        go_simp
        refine hK _ _ ?_
        clear hK K
        try simp only [Act.put, List.setIfInBounds_toArray, List.set_cons_zero, List.set_cons_succ]
        refine wpAny_done (by kernel_rfl) ?_ _
        go_wp2_with fail
        have O2 := O.tail.tail
        clear O
        have O := O2
        clear O2
        go_roundw
        case rel => exact ⟨k + 1, L, RA, Rc, by omega, by go_num, by first | rfl | simp, by rw [HS.out, HE.out]; try simp, O⟩
        case measure => simp [intOf]; omega
      · have k1 : decide (0 ≤ D.dist s p.1) = false := by simp; omega
        have k2 : decide (0 ≤ D.dist s q.1) = true := by simp; omega
        rw [k1] at c1
        rw [k2] at c2
        have HE := Lib.hid (C.step_comes (p := p) (q := q) h1 h2)
        replace cn_ := cn_ h2 h1
        clear cm
        generalize D.way q.1 p.1 (D.dist s q.1) (D.dist s q.1 - D.dist s p.1) = v at *
        clear k1 k2 h1 h2
        go_wp2_with (first | ((with_reducible refine at_index_ 16 ?_); refine wpList_at_h rfl Try.underlying43 sizeOf52 _ (O.mem List.mem_cons_self) rfl (k) rfl (rfl) (by omega) rfl ?_) | ((with_reducible refine at_load 17 ?_); refine wpList_elem_h rfl _ (O.mem List.mem_cons_self) (k * 9) (cn (p)) (cnC_at HP.out) (by rw [cn_len]; decide) rfl Try.underlying52 rfl (s52 _) ?_) | ((with_reducible refine at_alloc 7 ?_); refine wpList_alloc_h O (cn C.zero) zero52 ?_; clear O; intro g7 v1 O) | ((with_reducible refine at_store 7 ?_); refine wpList_put_h O 0 (cn (p)) rfl rfl rfl (s52 _) (cn_len2 _ _) (cn_one _) ?_; clear O; intro v2 O) | ((with_reducible refine at_index_ 24 ?_); refine wpList_at_h rfl Try.underlying43 sizeOf52 _ (O.mem List.mem_cons_self) rfl (j) rfl (HM.out) (by omega) rfl ?_) | ((with_reducible refine at_load 25 ?_); refine wpList_elem_h rfl _ (O.mem List.mem_cons_self) (j * 9) (cn (q)) (cnC_at HQ.out) (by rw [cn_len]; decide) rfl Try.underlying52 rfl (s52 _) ?_) | ((with_reducible refine at_alloc 8 ?_); refine wpList_alloc_h O (cn C.zero) zero52 ?_; clear O; intro g8 v3 O) | ((with_reducible refine at_store 8 ?_); refine wpList_put_h O 0 (cn (q)) rfl rfl rfl (s52 _) (cn_len2 _ _) (cn_one _) ?_; clear O; intro v4 O))
        refine region_T ((fun w2 => Held w w2 [(g8, 52, cn q), (g7, 52, cn p), (g3, 35, M.mat 5 s)] (cnR RA Rc L) [cnE lo A c l])) [0, 1, 2, 3, 4, 5, 6, 7, 8] 12 [some 26, some 27, some 28, some 29, some 30, some 31, some 32, some 33, some 9] [.pointer (some ⟨g7, 0, none⟩), arr 8 p.1, arr 5 s, .bool false, .pointer (some ⟨g8, 0, none⟩), arr 8 q.1, arr 5 s, .bool true, .bool false] 1 (by kernel_rfl) (by rfl) (by kernel_rfl) (by rfl) (by rfl) (O.drew) (fun F hF => ?_)
        simp only [fillD, Act.put, List.setIfInBounds_toArray, List.set_cons_zero, List.set_cons_succ] at hF
        subst hF
        refine ⟨⟨does_want rfl (by rfl) (fun w' O K hK => ?_), does_want rfl (by rfl) (fun w' O K hK => ?_), does_want rfl (by rfl) (fun w' O K hK => ?_), does_want rfl (by rfl) (fun w' O K hK => ?_), does_want rfl (by rfl) (fun w' O K hK => ?_), does_want rfl (by rfl) (fun w' O K hK => ?_), does_want rfl (by rfl) (fun w' O K hK => ?_), does_want rfl (by rfl) (fun w' O K hK => ?_), does_want rfl (by rfl) (fun w' O K hK => ?_), trivial⟩, fun w' O => ?_⟩
        · go_simp
          exact hK _ O
        · exact wp_mid_h O 1 rfl (M.mat 8 (p).1) (cn_mid _) rfl Try.underlying39 rfl (s27 _) (hK _ O)
        · exact wp_row_h O 2 rfl rfl Try.underlying35 rfl (s24 _) (hK _ O)
        · go_simp
          go_at_call 26
          refine (c1 _).mono ?_
          rintro e w2 ⟨rfl, hb⟩
          exact hK _ (O.call hb)
        · go_simp
          exact hK _ O
        · exact wp_mid_h O 0 rfl (M.mat 8 (q).1) (cn_mid _) rfl Try.underlying39 rfl (s27 _) (hK _ O)
        · exact wp_row_h O 2 rfl rfl Try.underlying35 rfl (s24 _) (hK _ O)
        · go_simp
          go_at_call 26
          refine (c2 _).mono ?_
          rintro e w2 ⟨rfl, hb⟩
          exact hK _ (O.call hb)
        · go_simp
          exact hK _ O
        refine wpAny_one (i := 9) (by kernel_rfl) rfl (fun K hK => ?_)
        go_simp
        refine hK _ _ ?_
        clear hK K
        try simp only [Act.put, List.setIfInBounds_toArray, List.set_cons_zero, List.set_cons_succ]
        refine wpAny_done (by kernel_rfl) ?_ _
        go_wp2_with fail
        have OO := O
        clear O
        clear O
        have O := OO
        clear OO
        refine region_S (fun st w2 => LaS w [(g8, 52, cn q), (g7, 52, cn p), (g3, 35, M.mat 5 s)] (cnR RA Rc L) 1 (cnC [(v, p.2)]) [cnE lo A c l] (st 10) (st 11) w2) [10, 11] 12 12 [some 61, some 62, some 63, some 64, some 65, some 66, some 67, some 68, some 69, some 70, some 71, some 72] (fun g => [.slice RA L.length Rc, .pointer (some ⟨g8, 0, none⟩), arr 8 q.1, .pointer (some ⟨g7, 0, none⟩), arr 8 p.1, arr 5 s, arr 8 v, .pointer (some ⟨g7, 8, none⟩), .bool p.2, .agg (cn (v, p.2)).toArray, g 10, g 11]) 1 (by kernel_rfl) (by kernel_rfl) (by rfl) (by rfl) (fun _ => rfl) (by decide) ?_ (LaS.start O.drew) (fun F hF => ?_)
        · intro i hi
          simp only [List.mem_cons, List.not_mem_nil, or_false] at hi
          rcases hi with rfl | rfl
          · exact ⟨fun _ => rfl, [0, 1, 2, 3, 4, 5, 6, 7, 8, 9, 11], by kernel_rfl, fun g v => ⟨rfl, rfl, rfl, rfl, rfl, rfl, rfl, rfl, rfl, rfl, rfl, trivial⟩⟩
          · exact ⟨fun _ => rfl, [0, 1, 2, 3, 4, 5, 6, 7, 8, 9, 10], by kernel_rfl, fun g v => ⟨rfl, rfl, rfl, rfl, rfl, rfl, rfl, rfl, rfl, rfl, rfl, trivial⟩⟩
        simp only [fillD, Act.put, List.setIfInBounds_toArray, List.set_cons_zero, List.set_cons_succ] at hF
        have hF2 := funext hF
        clear hF
        subst hF2
        refine ⟨⟨doesN_want (by decide) rfl (fun g => rfl) (fun st w' hS hp K hK => ?_), doesN_want (by decide) rfl (fun g => rfl) (fun st w' hS hp K hK => ?_), doesN_want (by decide) rfl (fun g => rfl) (fun st w' hS hp K hK => ?_), doesN_want (by decide) rfl (fun g => rfl) (fun st w' hS hp K hK => ?_), doesN_want (by decide) rfl (fun g => rfl) (fun st w' hS hp K hK => ?_), doesN_want (by decide) rfl (fun g => rfl) (fun st w' hS hp K hK => ?_), doesN_want (by decide) rfl (fun g => rfl) (fun st w' hS hp K hK => ?_), doesN_want (by decide) rfl (fun g => rfl) (fun st w' hS hp K hK => ?_), doesN_want (by decide) rfl (fun g => rfl) (fun st w' hS hp K hK => ?_), doesN_want (by decide) rfl (fun g => rfl) (fun st w' hS hp K hK => ?_), doesC_want (by decide) rfl (fun g => rfl) (fun st w' hS hn hp K hK => ?_), doesC_want (by decide) rfl (fun g => rfl) (fun st w' hS hn hp K hK => ?_), trivial⟩, fun st w' hS hall => ?_⟩
        · try dsimp only
          go_simp
          exact hK _ hS
        · try dsimp only
          go_simp
          exact hK _ hS
        · try dsimp only
          obtain ⟨R, O⟩ := hS.held
          exact wp_mid_h O 0 rfl (M.mat 8 (q).1) (cn_mid _) rfl Try.underlying39 rfl (s27 _) (hK _ hS)
        · try dsimp only
          go_simp
          exact hK _ hS
        · try dsimp only
          obtain ⟨R, O⟩ := hS.held
          exact wp_mid_h O 1 rfl (M.mat 8 (p).1) (cn_mid _) rfl Try.underlying39 rfl (s27 _) (hK _ hS)
        · try dsimp only
          obtain ⟨R, O⟩ := hS.held
          exact wp_row_h O 2 rfl rfl Try.underlying35 rfl (s24 _) (hK _ hS)
        · try dsimp only
          go_simp
          go_at_call 27
          refine (cn_ _).mono ?_
          rintro e w2 ⟨rfl, hb⟩
          exact hK _ (hS.call hb)
        · try dsimp only
          go_simp
          exact hK _ hS
        · try dsimp only
          obtain ⟨R, O⟩ := hS.held
          exact wp_cell_h (v := .bool (p).2) O 1 (i := 8) rfl (cn_flag _) rfl agg4 rfl (hK _ hS)
        · try dsimp only
          obtain ⟨R, O⟩ := hS.held
          refine wp_build_own ([(0, arr 8 v), (1, .bool p.2)]) ((cn (v, p.2)).toArray) ?_ (built52 v p.2) (hK _ hS)
          simp only [List.map_toArray, List.map_cons, List.map_nil]
          rfl
        · try dsimp only
          rw [hn] at hS
          exact hS.lit (.agg (cn C.zero).toArray) info52 Try.underlying43 ([(0, .agg (cn ((v, p.2))).toArray)]) rfl (cnC_len _) (by decide : 0 < 1 * 9) (by decide : 1 * 9 ≤ 1000) (by kernel_rfl) hK
        · try dsimp only
          rw [hn] at hS
          exact hS.app (hp 10 (by decide) (by kernel_rfl)) (.agg (cn C.zero).toArray) 72 info52b rfl (Nat.succ_pos _) Try.underlying43 rfl rfl (cnC_one _) (by dsimp only [cnR]; omega) (by decide) hK
        try dsimp only
        obtain ⟨v7, NA, Nc, e7, e8, O3⟩ := hS.done (hall 10 (by decide)) (hall 11 (by decide))
        clear hS O
        have e9 : st 11 = some (.slice NA (L.length + 1) Nc) := e8
        have O : Held w w' [(g8, 52, cn q), (g7, 52, cn p), (g3, 35, M.mat 5 s)] (cnR NA Nc (L ++ [(v, p.2)])) [cnE lo A c l] := by
          unfold cnR
          rw [cnC_app, List.length_append]
          exact O3
        clear O3 e8
        simp only [seen, e7, e9, Option.getD_some]
        clear hall e7 e9
        refine wpAny_one (i := 12) (by kernel_rfl) rfl (fun K hK => ?_)
        go_simp
        refine hK _ _ ?_
        clear hK K
        try simp only [Act.put, List.setIfInBounds_toArray, List.set_cons_zero, List.set_cons_succ]
        refine wpAny_done (by kernel_rfl) ?_ _
        go_wp2_with fail
        have O2 := O.tail.tail
        clear O
        have O := O2
        clear O2
        go_roundw
        case rel => exact ⟨k + 1, L ++ [(v, p.2)], NA, Nc, by omega, by go_num, by first | rfl | simp, by rw [HS.out, HE.out]; try simp, O⟩
        case measure => simp [intOf]; omega
      · have k1 : decide (0 ≤ D.dist s p.1) = true := by simp; omega
        have k2 : decide (0 ≤ D.dist s q.1) = false := by simp; omega
        rw [k1] at c1
        rw [k2] at c2
        have HE := Lib.hid (C.step_goes (p := p) (q := q) h1 h2)
        replace cm := cm h1 h2
        clear cn_
        generalize D.way p.1 q.1 (D.dist s p.1) (D.dist s p.1 - D.dist s q.1) = v at *
        clear k1 k2 h1 h2
        go_wp2_with (first | ((with_reducible refine at_index_ 16 ?_); refine wpList_at_h rfl Try.underlying43 sizeOf52 _ (O.mem List.mem_cons_self) rfl (k) rfl (rfl) (by omega) rfl ?_) | ((with_reducible refine at_load 17 ?_); refine wpList_elem_h rfl _ (O.mem List.mem_cons_self) (k * 9) (cn (p)) (cnC_at HP.out) (by rw [cn_len]; decide) rfl Try.underlying52 rfl (s52 _) ?_) | ((with_reducible refine at_alloc 7 ?_); refine wpList_alloc_h O (cn C.zero) zero52 ?_; clear O; intro g7 v1 O) | ((with_reducible refine at_store 7 ?_); refine wpList_put_h O 0 (cn (p)) rfl rfl rfl (s52 _) (cn_len2 _ _) (cn_one _) ?_; clear O; intro v2 O) | ((with_reducible refine at_index_ 24 ?_); refine wpList_at_h rfl Try.underlying43 sizeOf52 _ (O.mem List.mem_cons_self) rfl (j) rfl (HM.out) (by omega) rfl ?_) | ((with_reducible refine at_load 25 ?_); refine wpList_elem_h rfl _ (O.mem List.mem_cons_self) (j * 9) (cn (q)) (cnC_at HQ.out) (by rw [cn_len]; decide) rfl Try.underlying52 rfl (s52 _) ?_) | ((with_reducible refine at_alloc 8 ?_); refine wpList_alloc_h O (cn C.zero) zero52 ?_; clear O; intro g8 v3 O) | ((with_reducible refine at_store 8 ?_); refine wpList_put_h O 0 (cn (q)) rfl rfl rfl (s52 _) (cn_len2 _ _) (cn_one _) ?_; clear O; intro v4 O))
        refine region_T ((fun w2 => Held w w2 [(g8, 52, cn q), (g7, 52, cn p), (g3, 35, M.mat 5 s)] (cnR RA Rc L) [cnE lo A c l])) [0, 1, 2, 3, 4, 5, 6, 7, 8] 12 [some 26, some 27, some 28, some 29, some 30, some 31, some 32, some 33, some 9] [.pointer (some ⟨g7, 0, none⟩), arr 8 p.1, arr 5 s, .bool true, .pointer (some ⟨g8, 0, none⟩), arr 8 q.1, arr 5 s, .bool false, .bool true] 1 (by kernel_rfl) (by rfl) (by kernel_rfl) (by rfl) (by rfl) (O.drew) (fun F hF => ?_)
        simp only [fillD, Act.put, List.setIfInBounds_toArray, List.set_cons_zero, List.set_cons_succ] at hF
        subst hF
        refine ⟨⟨does_want rfl (by rfl) (fun w' O K hK => ?_), does_want rfl (by rfl) (fun w' O K hK => ?_), does_want rfl (by rfl) (fun w' O K hK => ?_), does_want rfl (by rfl) (fun w' O K hK => ?_), does_want rfl (by rfl) (fun w' O K hK => ?_), does_want rfl (by rfl) (fun w' O K hK => ?_), does_want rfl (by rfl) (fun w' O K hK => ?_), does_want rfl (by rfl) (fun w' O K hK => ?_), does_want rfl (by rfl) (fun w' O K hK => ?_), trivial⟩, fun w' O => ?_⟩
        · go_simp
          exact hK _ O
        · exact wp_mid_h O 1 rfl (M.mat 8 (p).1) (cn_mid _) rfl Try.underlying39 rfl (s27 _) (hK _ O)
        · exact wp_row_h O 2 rfl rfl Try.underlying35 rfl (s24 _) (hK _ O)
        · go_simp
          go_at_call 26
          refine (c1 _).mono ?_
          rintro e w2 ⟨rfl, hb⟩
          exact hK _ (O.call hb)
        · go_simp
          exact hK _ O
        · exact wp_mid_h O 0 rfl (M.mat 8 (q).1) (cn_mid _) rfl Try.underlying39 rfl (s27 _) (hK _ O)
        · exact wp_row_h O 2 rfl rfl Try.underlying35 rfl (s24 _) (hK _ O)
        · go_simp
          go_at_call 26
          refine (c2 _).mono ?_
          rintro e w2 ⟨rfl, hb⟩
          exact hK _ (O.call hb)
        · go_simp
          exact hK _ O
        refine wpAny_one (i := 9) (by kernel_rfl) rfl (fun K hK => ?_)
        go_simp
        refine hK _ _ ?_
        clear hK K
        try simp only [Act.put, List.setIfInBounds_toArray, List.set_cons_zero, List.set_cons_succ]
        refine wpAny_done (by kernel_rfl) ?_ _
        go_wp2_with (first | ((with_reducible refine at_load 36 ?_); refine wpList_rowg_h rfl O 1 rfl rfl Try.underlying52 rfl (s52 _) ?_) | ((with_reducible refine at_lit 37 ?_); refine wpList_lit_h rfl O 9 (.agg (cn C.zero).toArray) info52 Try.underlying43 ([(0, .agg (cn (p)).toArray)]) (cnC [p]) rfl (cnC_len _) (by decide) (by decide) (by kernel_rfl) ?_; clear O; intro gl u5 O) | ((with_reducible refine at_app 38 ?_); refine wpList_app_big rfl O (.agg (cn C.zero).toArray) 72 info52b rfl (Nat.succ_pos _) Try.underlying43 rfl _ (O.mem List.mem_cons_self) rfl rfl (cnC_one _) (by dsimp only [cnR]; omega) (by decide) ?_; clear O; intro va u6 O; obtain ⟨TA, Tc, e1, O2⟩ := cnR_of (O.pick (es' := [cnE lo A c l]) (fun y hy => List.mem_cons_of_mem _ hy)); subst e1; clear O; have O := O2; clear O2) | ((with_reducible refine at_load 47 ?_); refine wpList_mid_h rfl O 1 rfl (M.mat 8 (p).1) (cn_mid _) rfl Try.underlying39 rfl (s27 _) ?_) | ((with_reducible refine at_load 49 ?_); refine wpList_mid_h rfl O 0 rfl (M.mat 8 (q).1) (cn_mid _) rfl Try.underlying39 rfl (s27 _) ?_) | ((with_reducible refine at_load 50 ?_); refine wpList_rowg_h rfl O 2 rfl rfl Try.underlying35 rfl (s24 _) ?_) | (go_at_call 27; refine (cm _).mono ?_; rintro e u7 ⟨rfl, hb⟩; replace O := O.call hb; clear hb) | ((with_reducible refine at_build 52 ?_); refine wpList_build_g rfl ([(0, arr 8 v), (1, .bool true)]) ((cn (v, true)).toArray) ?_ (built52 v true) ?_; (focus (simp only [List.map_toArray, List.map_cons, List.map_nil]; rfl))) | ((with_reducible refine at_lit 53 ?_); refine wpList_lit_h rfl O 9 (.agg (cn C.zero).toArray) info52 Try.underlying43 ([(0, .agg (cn ((v, true))).toArray)]) (cnC [(v, true)]) rfl (cnC_len _) (by decide) (by decide) (by kernel_rfl) ?_; clear O; intro gl u5 O) | ((with_reducible refine at_app 54 ?_); refine wpList_app_big rfl O (.agg (cn C.zero).toArray) 72 info52b rfl (Nat.succ_pos _) Try.underlying43 (show _ = Value.slice TA (L ++ [p]).length Tc by rw [List.length_append]; rfl) _ (O.mem List.mem_cons_self) rfl rfl (cnC_one _) (by dsimp only [cnR]; rw [List.length_append]; dsimp only [List.length_cons, List.length_nil]; omega) (by decide) ?_; clear O; intro va u8 O; obtain ⟨UA, Uc, e1, O2⟩ := cnR_of (O.pick (es' := [cnE lo A c l]) (fun y hy => List.mem_cons_of_mem _ hy)); subst e1; clear O; have O := O2; clear O2))
        have O2 := O.tail.tail
        clear O
        have O := O2
        clear O2
        go_roundw
        case rel => exact ⟨k + 1, (L ++ [p]) ++ [(v, true)], UA, Uc, by omega, by go_num, by first | rfl | simp, by rw [HS.out, HE.out]; try simp, O⟩
        case measure => simp [intOf]; omega
    · have q1 : ¬ (k : Int) < l.length := by omega
      obtain rfl : k = l.length := by omega
      have hT := HT.out
      rw [C.some_end] at hT
      by_cases h3 : L.length < 3
      · have q3 : (L.length : Int) < 3 := by omega
        have HE : Hid (C.cut s l = []) := Lib.hid (by rw [C.cut, hT, C.three, if_pos h3])
        clear hT h3
        go_wp2_with fail
        go_ret
        rw [HE.out]
        exact retCn_nil O.below
      · have q3 : ¬ (L.length : Int) < 3 := by omega
        have HE : Hid (C.cut s l = L) := Lib.hid (by rw [C.cut, hT, C.three, if_neg h3])
        clear hT h3
        go_wp2_with fail
        go_ret
        rw [HE.out]
        exact retCn_done O
end Go.Proofs.Ytbpignicffkaoaa
