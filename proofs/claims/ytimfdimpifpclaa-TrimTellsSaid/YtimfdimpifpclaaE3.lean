/- Contract: the document's Trim. -/
import Derived.Test.YtimfdimpifpclaaE2
import Derived.Test.YtimfdimpifpclaaNd
namespace Go.Proofs.Ytimfdimpifpclaa
open Go.ChangeShapes Go.WideShapes Go.ChangeAt Go.RowKit
set_option linter.unusedVariables false
set_option linter.unusedSimpArgs false

set_option maxRecDepth 100000 in
set_option maxHeartbeats 16000000 in
theorem rtrim_any (a b : Nat → Int) (l : List (Nat → Int)) {lo : Nat} {A : Option Addr} {c : Nat} (ha : D.fits a = true) (hb : D.fits b = true) (hl : ∀ s ∈ l, D.right s = true) (h9 : l.length ≤ 100) (w : World) (hL : Lies w free (sE lo A c l)) :
    Calls Try.prog 13 #[arr 8 a, arr 8 b, .slice A l.length c] w (RetTrim w (D.trim a b l)) := by
  have O := Held.start w [sE lo A c l] (by simpa using hL)
  clear hL
  have CP := Lib.hid (fun s (h : D.right s = true) w => rpart_any s a b h ha hb w)
  have CL := Lib.hid (fun (j : Int) (x : D.Cut) (h : x ∈ D.cuts j a b l) => D.cuts_low hl ha hb h)
  have CA := Lib.hid (fun (n d : Int) (h1 : 1 ≤ d) (h2 : 0 ≤ n) (h3 : n ≤ d) (h4 : d < 9223372036854775808) w => by
    have := rat_any a b n d h4 w
    rw [D.at_yes (D.okAt_iff.2 ⟨ha, hb, h1, h2, h3⟩)] at this
    exact this)
  have HR := Lib.hid hl
  clear ha hb hl
  go_enter Try.func13, Try.ntmps13
  go_wp2_with (first | ((with_reducible refine at_box 3 ?_); refine wpList_box_h O (M.mat 8 (a)) rfl ?_; clear O; intro g3 w1 O) | ((with_reducible refine at_box 4 ?_); refine wpList_box_h O (M.mat 8 (b)) rfl ?_; clear O; intro g4 w2 O) | ((with_reducible refine at_alloc 6 ?_); refine wpList_alloc_h O (M.mat 8 M.zero) zero27 ?_; clear O; intro g6 w3 O) | ((with_reducible refine at_alloc 7 ?_); refine wpList_alloc_h O (M.mat 8 M.zero) zero27 ?_; clear O; intro g7 w4 O))
  go_loopw [9, 10, 11] (fun u v t wr => ∃ (k : Nat) (L1 L2 : List D.Cut) (RA : Option Addr) (Rc : Nat) (SA : Option Addr) (Sc : Nat) (X : List (Nat × TypeId × List Value)), k ≤ l.length ∧ t = .int .i64 k ∧ u = .slice RA L1.length Rc ∧ v = .slice SA L2.length Sc ∧ (∀ s ∈ l.take k, (D.partOf s a b).1 ≠ 3) ∧ D.cuts 1 a b (l.take k) = L1 ∧ D.cuts 2 a b (l.take k) = L2 ∧ Rest X (cR SA Sc L2) ∧ Held w wr ([(g7, 27, M.mat 8 M.zero), (g6, 27, M.mat 8 M.zero), (g4, 27, M.mat 8 b), (g3, 27, M.mat 8 a)] ++ X) (cR RA Rc L1) [sE lo A c l]) (fun _ _ t _ => l.length - (intOf t).toNat)
  case atStart => exact ⟨0, [], [], none, 0, none, 0, [], Nat.zero_le _, rfl, rfl, rfl, fun s hs => absurd hs (by simp), rfl, rfl, Rest.nil 45 2, O.fresh 45 2⟩
  case round =>
    clear O
    obtain ⟨k, L1, L2, RA, Rc, SA, Sc, X, hk, rfl, rfl, rfl, h3, hL1, hL2, hX, O⟩ := hrel
    have H3 := Lib.hid h3
    have HL1 := Lib.hid hL1
    have HL2 := Lib.hid hL2
    have HX := Lib.hid hX
    have n1 : L1.length ≤ 100 := by rw [← hL1]; exact Nat.le_trans (D.cuts_len _ _ _ _) (by rw [List.length_take]; omega)
    have n2 : L2.length ≤ 100 := by rw [← hL2]; exact Nat.le_trans (D.cuts_len _ _ _ _) (by rw [List.length_take]; omega)
    clear h3 hL1 hL2 hX
    have q0 : (0 : Int) ≤ k := by omega
    by_cases hlt : k < l.length
    · have q1 : (k : Int) < l.length := by omega
      obtain ⟨s, hs⟩ : ∃ s, l[k]? = some s := ⟨_, List.getElem?_eq_getElem hlt⟩
      have hr := HR.out s (List.mem_of_getElem? hs)
      have cp := CP.out s hr
      have jk := D.part_kinds s a b
      have HS := Lib.hid hs
      clear hr hs
      obtain ⟨⟨j, n, d⟩, hp⟩ : ∃ r, D.partOf s a b = r := ⟨_, rfl⟩
      unfold RetPart at cp
      rw [hp] at cp jk
      dsimp only at cp jk
      have HP := Lib.hid hp
      clear hp
      rcases jk with rfl | rfl | rfl | rfl
      · go_wp2_with fail
        refine region_T ((fun w2 => Held w w2 ([(g7, 27, M.mat 8 M.zero), (g6, 27, M.mat 8 M.zero), (g4, 27, M.mat 8 b), (g3, 27, M.mat 8 a)] ++ X) (cR RA Rc L1) [sE lo A c l])) [0, 1, 2, 3, 4, 5, 6, 7, 8, 9, 10, 11, 12] 12 [some 32, some 33, some 34, some 35, some 36, some 37, some 38, some 31, some 39, some 40, some 41, some 12, some 13] [.slice A l.length c, .int .i64 k, .pointer (some ((adr A).add (k * 5))), arr 5 s, arr 8 a, arr 8 b, .tuple #[.int .i64 0, .int .i64 n, .int .i64 d], .tuple #[.int .i64 0, .int .i64 n, .int .i64 d], .int .i64 0, .int .i64 n, .int .i64 d, .int .i64 0, .int .i64 n] 1 (by kernel_rfl) (by rfl) (by kernel_rfl) (by rfl) (by rfl) (O.drew) (fun F hF => ?_)
        simp only [fillD, Act.put, List.setIfInBounds_toArray, List.set_cons_zero, List.set_cons_succ] at hF
        subst hF
        refine ⟨⟨does_want rfl (by rfl) (fun w' O K hK => ?_), does_want rfl (by rfl) (fun w' O K hK => ?_), does_want rfl (by rfl) (fun w' O K hK => ?_), does_want rfl (by rfl) (fun w' O K hK => ?_), does_want rfl (by rfl) (fun w' O K hK => ?_), does_want rfl (by rfl) (fun w' O K hK => ?_), does_want rfl (by rfl) (fun w' O K hK => ?_), does_want rfl (by rfl) (fun w' O K hK => ?_), does_want rfl (by rfl) (fun w' O K hK => ?_), does_want rfl (by rfl) (fun w' O K hK => ?_), does_want rfl (by rfl) (fun w' O K hK => ?_), does_want rfl (by rfl) (fun w' O K hK => ?_), does_want rfl (by rfl) (fun w' O K hK => ?_), trivial⟩, fun w' O => ?_⟩
        · go_simp
          exact hK _ O
        · go_simp
          exact hK _ O
        · exact wp_at_h Try.underlying29 sizeOf24 _ (O.mem List.mem_cons_self) rfl (k) rfl rfl (by omega) rfl (hK _ O)
        · exact wp_elem_h _ (O.mem List.mem_cons_self) (k * 5) (M.mat 5 s) (ss_at HS.out) (by rw [M.mat_len]; decide) rfl Try.underlying24 rfl (s24 _) (hK _ O)
        · exact wp_row_h O 3 rfl rfl Try.underlying27 rfl (s27 _) (hK _ O)
        · exact wp_row_h O 2 rfl rfl Try.underlying27 rfl (s27 _) (hK _ O)
        · go_simp
          go_at_call 11
          refine (cp _).mono ?_
          rintro e w2 ⟨rfl, hb⟩
          exact hK _ (O.call hb)
        · go_simp
          exact hK _ O
        · go_simp
          exact hK _ O
        · go_simp
          exact hK _ O
        · go_simp
          exact hK _ O
        · go_simp
          exact hK _ O
        · go_simp
          exact hK _ O
        refine wpAny_one (i := 13) (by kernel_rfl) rfl (fun K hK => ?_)
        go_simp
        refine hK _ _ ?_
        clear hK K
        try simp only [Act.put, List.setIfInBounds_toArray, List.set_cons_zero, List.set_cons_succ]
        refine wpAny_done (by kernel_rfl) ?_ _
        go_wp2_with fail
        go_roundw
        case rel => exact ⟨k + 1, L1, L2, RA, Rc, SA, Sc, X, by omega, by go_num, rfl, rfl, D.not3_step H3.out HS.out (by rw [HP.out]; exact (by decide : (0:Int) ≠ 3)), by rw [D.cuts_not HS.out (by rw [HP.out]; exact (by decide : (0:Int) ≠ 1))]; exact HL1.out, by rw [D.cuts_not HS.out (by rw [HP.out]; exact (by decide : (0:Int) ≠ 2))]; exact HL2.out, HX.out, O⟩
        case measure => simp [intOf]; omega
      · go_wp2_with fail
        refine region_T ((fun w2 => Held w w2 ([(g7, 27, M.mat 8 M.zero), (g6, 27, M.mat 8 M.zero), (g4, 27, M.mat 8 b), (g3, 27, M.mat 8 a)] ++ X) (cR RA Rc L1) [sE lo A c l])) [0, 1, 2, 3, 4, 5, 6, 7, 8, 9, 10, 11, 12] 12 [some 32, some 33, some 34, some 35, some 36, some 37, some 38, some 31, some 39, some 40, some 41, some 12, some 13] [.slice A l.length c, .int .i64 k, .pointer (some ((adr A).add (k * 5))), arr 5 s, arr 8 a, arr 8 b, .tuple #[.int .i64 1, .int .i64 n, .int .i64 d], .tuple #[.int .i64 1, .int .i64 n, .int .i64 d], .int .i64 1, .int .i64 n, .int .i64 d, .int .i64 1, .int .i64 n] 1 (by kernel_rfl) (by rfl) (by kernel_rfl) (by rfl) (by rfl) (O.drew) (fun F hF => ?_)
        simp only [fillD, Act.put, List.setIfInBounds_toArray, List.set_cons_zero, List.set_cons_succ] at hF
        subst hF
        refine ⟨⟨does_want rfl (by rfl) (fun w' O K hK => ?_), does_want rfl (by rfl) (fun w' O K hK => ?_), does_want rfl (by rfl) (fun w' O K hK => ?_), does_want rfl (by rfl) (fun w' O K hK => ?_), does_want rfl (by rfl) (fun w' O K hK => ?_), does_want rfl (by rfl) (fun w' O K hK => ?_), does_want rfl (by rfl) (fun w' O K hK => ?_), does_want rfl (by rfl) (fun w' O K hK => ?_), does_want rfl (by rfl) (fun w' O K hK => ?_), does_want rfl (by rfl) (fun w' O K hK => ?_), does_want rfl (by rfl) (fun w' O K hK => ?_), does_want rfl (by rfl) (fun w' O K hK => ?_), does_want rfl (by rfl) (fun w' O K hK => ?_), trivial⟩, fun w' O => ?_⟩
        · go_simp
          exact hK _ O
        · go_simp
          exact hK _ O
        · exact wp_at_h Try.underlying29 sizeOf24 _ (O.mem List.mem_cons_self) rfl (k) rfl rfl (by omega) rfl (hK _ O)
        · exact wp_elem_h _ (O.mem List.mem_cons_self) (k * 5) (M.mat 5 s) (ss_at HS.out) (by rw [M.mat_len]; decide) rfl Try.underlying24 rfl (s24 _) (hK _ O)
        · exact wp_row_h O 3 rfl rfl Try.underlying27 rfl (s27 _) (hK _ O)
        · exact wp_row_h O 2 rfl rfl Try.underlying27 rfl (s27 _) (hK _ O)
        · go_simp
          go_at_call 11
          refine (cp _).mono ?_
          rintro e w2 ⟨rfl, hb⟩
          exact hK _ (O.call hb)
        · go_simp
          exact hK _ O
        · go_simp
          exact hK _ O
        · go_simp
          exact hK _ O
        · go_simp
          exact hK _ O
        · go_simp
          exact hK _ O
        · go_simp
          exact hK _ O
        refine wpAny_one (i := 13) (by kernel_rfl) rfl (fun K hK => ?_)
        go_simp
        refine hK _ _ ?_
        clear hK K
        try simp only [Act.put, List.setIfInBounds_toArray, List.set_cons_zero, List.set_cons_succ]
        refine wpAny_done (by kernel_rfl) ?_ _
        go_wp2_with (first | ((with_reducible refine at_build 48 ?_); refine wpList_build_g rfl ([(0, .int .i64 n), (1, .int .i64 d)]) ((D.pr (n, d)).toArray) ?_ (built45 n d) ?_; (focus (simp only [List.map_toArray, List.map_cons, List.map_nil]; rfl))) | ((with_reducible refine at_lit 49 ?_); refine wpList_lit_h rfl O 2 (.agg #[.int .i64 0, .int .i64 0]) info45 Try.underlying43 ([(0, .agg (D.pr (n, d)).toArray)]) (D.pr (n, d)) rfl rfl (by decide) (by decide) (by kernel_rfl) ?_; clear O; intro gl v5 O) | ((with_reducible refine at_app 50 ?_); refine wpList_app_h rfl O (.agg #[.int .i64 0, .int .i64 0]) 16 info45b rfl (Nat.succ_pos _) Try.underlying43 rfl _ (O.mem List.mem_cons_self) rfl rfl (pr_one _) (by dsimp only [cR]; omega) (by decide) ?_; clear O; intro va v6 O; obtain ⟨TA, Tc, hv⟩ := O.row_val; dsimp only at hv; subst hv))
        have O2 := O.pick (es' := [sE lo A c l]) (fun y hy => List.mem_cons_of_mem _ hy)
        clear O
        clear O
        have O3 : Held w v6 ([(g7, 27, M.mat 8 M.zero), (g6, 27, M.mat 8 M.zero), (g4, 27, M.mat 8 b), (g3, 27, M.mat 8 a)] ++ X) (cR TA Tc (L1 ++ [(n, d)])) [sE lo A c l] := by
          unfold cR at O2 ⊢
          dsimp only at O2
          rw [← cc_end, List.length_append]
          exact O2
        clear O2
        go_roundw
        case rel => exact ⟨k + 1, L1 ++ [(n, d)], L2, TA, Tc, SA, Sc, X, by omega, by go_num, by simp [cR], rfl, D.not3_step H3.out HS.out (by rw [HP.out]; exact (by decide : (1:Int) ≠ 3)), by rw [D.cuts_yes HS.out (by rw [HP.out]), HP.out, HL1.out], by rw [D.cuts_not HS.out (by rw [HP.out]; exact (by decide : (1:Int) ≠ 2))]; exact HL2.out, HX.out, O3⟩
        case measure => simp [intOf]; omega
      · obtain ⟨Y, hY, O2⟩ := O.swapB HX.out
        have HY := Lib.hid hY
        clear hY O
        have O := O2
        clear O2
        go_wp2_with fail
        refine region_T ((fun w2 => Held w w2 ([(g7, 27, M.mat 8 M.zero), (g6, 27, M.mat 8 M.zero), (g4, 27, M.mat 8 b), (g3, 27, M.mat 8 a)] ++ Y) (cR SA Sc L2) [sE lo A c l])) [0, 1, 2, 3, 4, 5, 6, 7, 8, 9, 10, 11, 12] 12 [some 32, some 33, some 34, some 35, some 36, some 37, some 38, some 31, some 39, some 40, some 41, some 12, some 13] [.slice A l.length c, .int .i64 k, .pointer (some ((adr A).add (k * 5))), arr 5 s, arr 8 a, arr 8 b, .tuple #[.int .i64 2, .int .i64 n, .int .i64 d], .tuple #[.int .i64 2, .int .i64 n, .int .i64 d], .int .i64 2, .int .i64 n, .int .i64 d, .int .i64 2, .int .i64 n] 1 (by kernel_rfl) (by rfl) (by kernel_rfl) (by rfl) (by rfl) (O.drew) (fun F hF => ?_)
        simp only [fillD, Act.put, List.setIfInBounds_toArray, List.set_cons_zero, List.set_cons_succ] at hF
        subst hF
        refine ⟨⟨does_want rfl (by rfl) (fun w' O K hK => ?_), does_want rfl (by rfl) (fun w' O K hK => ?_), does_want rfl (by rfl) (fun w' O K hK => ?_), does_want rfl (by rfl) (fun w' O K hK => ?_), does_want rfl (by rfl) (fun w' O K hK => ?_), does_want rfl (by rfl) (fun w' O K hK => ?_), does_want rfl (by rfl) (fun w' O K hK => ?_), does_want rfl (by rfl) (fun w' O K hK => ?_), does_want rfl (by rfl) (fun w' O K hK => ?_), does_want rfl (by rfl) (fun w' O K hK => ?_), does_want rfl (by rfl) (fun w' O K hK => ?_), does_want rfl (by rfl) (fun w' O K hK => ?_), does_want rfl (by rfl) (fun w' O K hK => ?_), trivial⟩, fun w' O => ?_⟩
        · go_simp
          exact hK _ O
        · go_simp
          exact hK _ O
        · exact wp_at_h Try.underlying29 sizeOf24 _ (O.mem List.mem_cons_self) rfl (k) rfl rfl (by omega) rfl (hK _ O)
        · exact wp_elem_h _ (O.mem List.mem_cons_self) (k * 5) (M.mat 5 s) (ss_at HS.out) (by rw [M.mat_len]; decide) rfl Try.underlying24 rfl (s24 _) (hK _ O)
        · exact wp_row_h O 3 rfl rfl Try.underlying27 rfl (s27 _) (hK _ O)
        · exact wp_row_h O 2 rfl rfl Try.underlying27 rfl (s27 _) (hK _ O)
        · go_simp
          go_at_call 11
          refine (cp _).mono ?_
          rintro e w2 ⟨rfl, hb⟩
          exact hK _ (O.call hb)
        · go_simp
          exact hK _ O
        · go_simp
          exact hK _ O
        · go_simp
          exact hK _ O
        · go_simp
          exact hK _ O
        · go_simp
          exact hK _ O
        · go_simp
          exact hK _ O
        refine wpAny_one (i := 13) (by kernel_rfl) rfl (fun K hK => ?_)
        go_simp
        refine hK _ _ ?_
        clear hK K
        try simp only [Act.put, List.setIfInBounds_toArray, List.set_cons_zero, List.set_cons_succ]
        refine wpAny_done (by kernel_rfl) ?_ _
        go_wp2_with (first | ((with_reducible refine at_build 56 ?_); refine wpList_build_g rfl ([(0, .int .i64 n), (1, .int .i64 d)]) ((D.pr (n, d)).toArray) ?_ (built45 n d) ?_; (focus (simp only [List.map_toArray, List.map_cons, List.map_nil]; rfl))) | ((with_reducible refine at_lit 57 ?_); refine wpList_lit_h rfl O 2 (.agg #[.int .i64 0, .int .i64 0]) info45 Try.underlying43 ([(0, .agg (D.pr (n, d)).toArray)]) (D.pr (n, d)) rfl rfl (by decide) (by decide) (by kernel_rfl) ?_; clear O; intro gl v5 O) | ((with_reducible refine at_app 58 ?_); refine wpList_app_h rfl O (.agg #[.int .i64 0, .int .i64 0]) 16 info45b rfl (Nat.succ_pos _) Try.underlying43 rfl _ (O.mem List.mem_cons_self) rfl rfl (pr_one _) (by dsimp only [cR]; omega) (by decide) ?_; clear O; intro va v6 O; obtain ⟨TA, Tc, hv⟩ := O.row_val; dsimp only at hv; subst hv))
        have O2 := O.pick (es' := [sE lo A c l]) (fun y hy => List.mem_cons_of_mem _ hy)
        clear O
        clear O
        have O3 : Held w v6 ([(g7, 27, M.mat 8 M.zero), (g6, 27, M.mat 8 M.zero), (g4, 27, M.mat 8 b), (g3, 27, M.mat 8 a)] ++ Y) (cR TA Tc (L2 ++ [(n, d)])) [sE lo A c l] := by
          unfold cR at O2 ⊢
          dsimp only at O2
          rw [← cc_end, List.length_append]
          exact O2
        clear O2
        obtain ⟨Z, hZ, O⟩ := O3.swapB HY.out
        clear O3
        go_roundw
        case rel => exact ⟨k + 1, L1, L2 ++ [(n, d)], RA, Rc, TA, Tc, Z, by omega, by go_num, rfl, by simp [cR], D.not3_step H3.out HS.out (by rw [HP.out]; exact (by decide : (2:Int) ≠ 3)), by rw [D.cuts_not HS.out (by rw [HP.out]; exact (by decide : (2:Int) ≠ 1))]; exact HL1.out, by rw [D.cuts_yes HS.out (by rw [HP.out]), HP.out, HL2.out], hZ, O⟩
        case measure => simp [intOf]; omega
      · have HE := Lib.hid (D.trim_out HS.out (by rw [HP.out]))
        go_wp2_with fail
        refine region_T ((fun w2 => Held w w2 ([(g7, 27, M.mat 8 M.zero), (g6, 27, M.mat 8 M.zero), (g4, 27, M.mat 8 b), (g3, 27, M.mat 8 a)] ++ X) (cR RA Rc L1) [sE lo A c l])) [0, 1, 2, 3, 4, 5, 6, 7, 8, 9, 10, 11, 12] 12 [some 32, some 33, some 34, some 35, some 36, some 37, some 38, some 31, some 39, some 40, some 41, some 12, some 13] [.slice A l.length c, .int .i64 k, .pointer (some ((adr A).add (k * 5))), arr 5 s, arr 8 a, arr 8 b, .tuple #[.int .i64 3, .int .i64 n, .int .i64 d], .tuple #[.int .i64 3, .int .i64 n, .int .i64 d], .int .i64 3, .int .i64 n, .int .i64 d, .int .i64 3, .int .i64 n] 1 (by kernel_rfl) (by rfl) (by kernel_rfl) (by rfl) (by rfl) (O.drew) (fun F hF => ?_)
        simp only [fillD, Act.put, List.setIfInBounds_toArray, List.set_cons_zero, List.set_cons_succ] at hF
        subst hF
        refine ⟨⟨does_want rfl (by rfl) (fun w' O K hK => ?_), does_want rfl (by rfl) (fun w' O K hK => ?_), does_want rfl (by rfl) (fun w' O K hK => ?_), does_want rfl (by rfl) (fun w' O K hK => ?_), does_want rfl (by rfl) (fun w' O K hK => ?_), does_want rfl (by rfl) (fun w' O K hK => ?_), does_want rfl (by rfl) (fun w' O K hK => ?_), does_want rfl (by rfl) (fun w' O K hK => ?_), does_want rfl (by rfl) (fun w' O K hK => ?_), does_want rfl (by rfl) (fun w' O K hK => ?_), does_want rfl (by rfl) (fun w' O K hK => ?_), does_want rfl (by rfl) (fun w' O K hK => ?_), does_want rfl (by rfl) (fun w' O K hK => ?_), trivial⟩, fun w' O => ?_⟩
        · go_simp
          exact hK _ O
        · go_simp
          exact hK _ O
        · exact wp_at_h Try.underlying29 sizeOf24 _ (O.mem List.mem_cons_self) rfl (k) rfl rfl (by omega) rfl (hK _ O)
        · exact wp_elem_h _ (O.mem List.mem_cons_self) (k * 5) (M.mat 5 s) (ss_at HS.out) (by rw [M.mat_len]; decide) rfl Try.underlying24 rfl (s24 _) (hK _ O)
        · exact wp_row_h O 3 rfl rfl Try.underlying27 rfl (s27 _) (hK _ O)
        · exact wp_row_h O 2 rfl rfl Try.underlying27 rfl (s27 _) (hK _ O)
        · go_simp
          go_at_call 11
          refine (cp _).mono ?_
          rintro e w2 ⟨rfl, hb⟩
          exact hK _ (O.call hb)
        · go_simp
          exact hK _ O
        · go_simp
          exact hK _ O
        · go_simp
          exact hK _ O
        · go_simp
          exact hK _ O
        · go_simp
          exact hK _ O
        · go_simp
          exact hK _ O
        refine wpAny_one (i := 13) (by kernel_rfl) rfl (fun K hK => ?_)
        go_simp
        refine hK _ _ ?_
        clear hK K
        try simp only [Act.put, List.setIfInBounds_toArray, List.set_cons_zero, List.set_cons_succ]
        refine wpAny_done (by kernel_rfl) ?_ _
        go_wp2_with (first | ((with_reducible refine at_build 61 ?_); refine wpList_build_g rfl ([]) ((M.mat 8 M.zero).toArray) ?_ (built27z) ?_; (focus (simp only [List.map_toArray, List.map_cons, List.map_nil]; rfl))) | ((with_reducible refine at_build 62 ?_); refine wpList_build_g rfl ([]) ((M.mat 8 M.zero).toArray) ?_ (built27z) ?_; (focus (simp only [List.map_toArray, List.map_cons, List.map_nil]; rfl))) | ((with_reducible refine at_store 6 ?_); refine wpList_put_h O 1 (M.mat 8 (M.zero)) rfl rfl rfl (s27 _) (M.mat_len2 _ _ _) (M.mat_one _ _) ?_; clear O; intro v8 O) | ((with_reducible refine at_store 7 ?_); refine wpList_put_h O 0 (M.mat 8 (M.zero)) rfl rfl rfl (s27 _) (M.mat_len2 _ _ _) (M.mat_one _ _) ?_; clear O; intro v9 O))
        exact bodyPost_ret (v := .tuple #[arr 8 M.zero, arr 8 M.zero, .bool false]) (res_h3 rfl O 1 0 rfl rfl rfl rfl Try.underlying27 rfl (s27 _) Try.underlying27 rfl (s27 _) rfl) rfl ⟨by rw [HE.out], O.below⟩
    · have q1 : ¬ (k : Int) < l.length := by omega
      obtain rfl : k = l.length := by omega
      have h3 := H3.out
      have h1 := HL1.out
      have h2 := HL2.out
      rw [List.take_of_length_le (Nat.le_refl _)] at h3 h1 h2
      obtain ⟨A1, c1, hv, O2⟩ := O.done
      dsimp only [cR] at hv O2
      injection hv with e1 e2 e3
      clear e2
      subst e1 e3
      obtain ⟨A2, c2, hv, O3⟩ := (Held.wakeB O2 HX.out).done
      dsimp only [cR] at hv O3
      injection hv with e1 e2 e3
      clear e2
      subst e1 e3
      clear O O2 HX H3 HL1 HL2 HR CP
      have f1 : ∀ x ∈ L1, D.Cut.fair x := fun x hx => D.cuts_fair (.inl rfl) (by rw [h1]; exact hx)
      have f2 : ∀ x ∈ L2, D.Cut.fair x := fun x hx => D.cuts_fair (.inr rfl) (by rw [h2]; exact hx)
      have F1 := Lib.hid f1
      have F2 := Lib.hid f2
      have W1 := Lib.hid (fun x (hx : x ∈ L1) => CL.out 1 x (by rw [h1]; exact hx))
      have W2 := Lib.hid (fun x (hx : x ∈ L2) => CL.out 2 x (by rw [h2]; exact hx))
      have HN := Lib.hid (fun x y (hx : x ∈ L1) (hy : y ∈ L2) (h : D.above x y = true) => D.trim_above (a := a) (b := b) (l := l) (by rw [h1]; exact hx) (by rw [h2]; exact hy) h)
      have HT : Hid ((∀ x ∈ L1, ∀ y ∈ L2, D.above x y = false) → D.trim a b l = (D.stand a b a (D.top L1), D.stand a b b (D.low L2), true)) := Lib.hid (fun h => by
        subst h1 h2
        exact D.trim_left h3 h)
      clear h1 h2 h3 f1 f2 CL
      replace O : Held w wr [(g7, 27, M.mat 8 M.zero), (g6, 27, M.mat 8 M.zero), (g4, 27, M.mat 8 b), (g3, 27, M.mat 8 a)] nilRow [cE w.heap.size SA Sc L2, cE w.heap.size RA Rc L1, sE lo A c l] := O3
      clear O3
      generalize D.trim a b l = R3 at *
      go_wp2_with fail
      go_loopw [15] (fun t wr => ∃ i : Nat, i ≤ L1.length ∧ t = .int .i64 i ∧ (∀ x ∈ L1.take i, ∀ y ∈ L2, D.above x y = false) ∧ Held w wr [(g7, 27, M.mat 8 M.zero), (g6, 27, M.mat 8 M.zero), (g4, 27, M.mat 8 b), (g3, 27, M.mat 8 a)] nilRow [cE w.heap.size SA Sc L2, cE w.heap.size RA Rc L1, sE lo A c l]) (fun t _ => L1.length - (intOf t).toNat)
      case atStart => exact ⟨0, Nat.zero_le _, rfl, fun x hx => absurd hx (by simp), O⟩
      case round =>
        clear O
        obtain ⟨i, hi, rfl, hall, O⟩ := hrel
        have HA := Lib.hid hall
        clear hall
        have q0 : (0 : Int) ≤ i := by omega
        by_cases hilt : i < L1.length
        · have q1 : (i : Int) < L1.length := by omega
          obtain ⟨x, hx⟩ : ∃ x, L1[i]? = some x := ⟨_, List.getElem?_eq_getElem hilt⟩
          have HX := Lib.hid hx
          clear hx
          go_wp2_with fail
          go_loopw [16] (fun t wr => ∃ m : Nat, m ≤ L2.length ∧ t = .int .i64 m ∧ (∀ y ∈ L2.take m, D.above x y = false) ∧ Held w wr [(g7, 27, M.mat 8 M.zero), (g6, 27, M.mat 8 M.zero), (g4, 27, M.mat 8 b), (g3, 27, M.mat 8 a)] nilRow [cE w.heap.size SA Sc L2, cE w.heap.size RA Rc L1, sE lo A c l]) (fun t _ => L2.length - (intOf t).toNat)
          case atStart => exact ⟨0, Nat.zero_le _, rfl, fun x hx => absurd hx (by simp), O⟩
          case round =>
            clear O
            obtain ⟨m, hm, rfl, hall, O⟩ := hrel
            have HB := Lib.hid hall
            clear hall
            have p0 : (0 : Int) ≤ m := by omega
            by_cases hmlt : m < L2.length
            · have p1 : (m : Int) < L2.length := by omega
              obtain ⟨y, hy⟩ : ∃ y, L2[m]? = some y := ⟨_, List.getElem?_eq_getElem hmlt⟩
              have HY := Lib.hid hy
              clear hy
              have cl := fun w => rabove_any x y (W1.out x (List.mem_of_getElem? HX.out)) (W2.out y (List.mem_of_getElem? HY.out)) w
              cases hab : D.above x y
              all_goals
                rw [hab] at cl
                have HAB := Lib.hid hab
                clear hab
              · go_wp2_with fail
                refine region_T ((fun w2 => Held w w2 [(g7, 27, M.mat 8 M.zero), (g6, 27, M.mat 8 M.zero), (g4, 27, M.mat 8 b), (g3, 27, M.mat 8 a)] nilRow [cE w.heap.size SA Sc L2, cE w.heap.size RA Rc L1, sE lo A c l])) [0, 1, 2, 3, 4, 5, 6, 7, 8] 12 [some 75, some 76, some 77, some 78, some 79, some 80, some 81, some 82, some 83] [.slice RA L1.length Rc, .int .i64 i, .pointer (some ((adr RA).add (i * 2))), .agg (D.pr x).toArray, .slice SA L2.length Sc, .int .i64 m, .pointer (some ((adr SA).add (m * 2))), .agg (D.pr y).toArray, .bool false] 0 (by kernel_rfl) (by rfl) (by kernel_rfl) (by rfl) (by rfl) (O.drew) (fun F hF => ?_)
                simp only [fillD, Act.put, List.setIfInBounds_toArray, List.set_cons_zero, List.set_cons_succ] at hF
                subst hF
                refine ⟨⟨does_want rfl (by rfl) (fun w' O K hK => ?_), does_want rfl (by rfl) (fun w' O K hK => ?_), does_want rfl (by rfl) (fun w' O K hK => ?_), does_want rfl (by rfl) (fun w' O K hK => ?_), does_want rfl (by rfl) (fun w' O K hK => ?_), does_want rfl (by rfl) (fun w' O K hK => ?_), does_want rfl (by rfl) (fun w' O K hK => ?_), does_want rfl (by rfl) (fun w' O K hK => ?_), does_want rfl (by rfl) (fun w' O K hK => ?_), trivial⟩, fun w' O => ?_⟩
                · go_simp
                  exact hK _ O
                · go_simp
                  exact hK _ O
                · exact wp_at_h Try.underlying43 sizeOf45 _ (O.mem (List.mem_cons_of_mem _ List.mem_cons_self)) rfl (i) rfl rfl (by omega) rfl (hK _ O)
                · exact wp_elem_h _ (O.mem (List.mem_cons_of_mem _ List.mem_cons_self)) (i * 2) (D.pr x) (cc_at HX.out) (Nat.succ_pos _) rfl Try.underlying45 rfl size45 (hK _ O)
                · go_simp
                  exact hK _ O
                · go_simp
                  exact hK _ O
                · exact wp_at_h Try.underlying43 sizeOf45 _ (O.mem List.mem_cons_self) rfl (m) rfl rfl (by omega) rfl (hK _ O)
                · exact wp_elem_h _ (O.mem List.mem_cons_self) (m * 2) (D.pr y) (cc_at HY.out) (Nat.succ_pos _) rfl Try.underlying45 rfl size45 (hK _ O)
                · go_simp
                  go_at_call 20
                  refine (cl _).mono ?_
                  rintro e w2 ⟨rfl, hb⟩
                  exact hK _ (O.call hb)
                refine wpAny_done (by kernel_rfl) ?_ _
                go_wp2_with fail
                go_roundw
                case rel => exact ⟨m + 1, by omega, by go_num, fun z hz => by
                  rw [List.take_add_one, HY.out] at hz
                  rcases List.mem_append.1 hz with hz | hz
                  · exact HB.out z hz
                  · obtain rfl : z = y := by simpa using hz
                    exact HAB.out, O⟩
                case measure => simp [intOf]; omega
              · have HE := Lib.hid (HN.out x y (List.mem_of_getElem? HX.out) (List.mem_of_getElem? HY.out) HAB.out)
                go_wp2_with fail
                refine region_T ((fun w2 => Held w w2 [(g7, 27, M.mat 8 M.zero), (g6, 27, M.mat 8 M.zero), (g4, 27, M.mat 8 b), (g3, 27, M.mat 8 a)] nilRow [cE w.heap.size SA Sc L2, cE w.heap.size RA Rc L1, sE lo A c l])) [0, 1, 2, 3, 4, 5, 6, 7, 8] 12 [some 75, some 76, some 77, some 78, some 79, some 80, some 81, some 82, some 83] [.slice RA L1.length Rc, .int .i64 i, .pointer (some ((adr RA).add (i * 2))), .agg (D.pr x).toArray, .slice SA L2.length Sc, .int .i64 m, .pointer (some ((adr SA).add (m * 2))), .agg (D.pr y).toArray, .bool true] 0 (by kernel_rfl) (by rfl) (by kernel_rfl) (by rfl) (by rfl) (O.drew) (fun F hF => ?_)
                simp only [fillD, Act.put, List.setIfInBounds_toArray, List.set_cons_zero, List.set_cons_succ] at hF
                subst hF
                refine ⟨⟨does_want rfl (by rfl) (fun w' O K hK => ?_), does_want rfl (by rfl) (fun w' O K hK => ?_), does_want rfl (by rfl) (fun w' O K hK => ?_), does_want rfl (by rfl) (fun w' O K hK => ?_), does_want rfl (by rfl) (fun w' O K hK => ?_), does_want rfl (by rfl) (fun w' O K hK => ?_), does_want rfl (by rfl) (fun w' O K hK => ?_), does_want rfl (by rfl) (fun w' O K hK => ?_), does_want rfl (by rfl) (fun w' O K hK => ?_), trivial⟩, fun w' O => ?_⟩
                · go_simp
                  exact hK _ O
                · go_simp
                  exact hK _ O
                · exact wp_at_h Try.underlying43 sizeOf45 _ (O.mem (List.mem_cons_of_mem _ List.mem_cons_self)) rfl (i) rfl rfl (by omega) rfl (hK _ O)
                · exact wp_elem_h _ (O.mem (List.mem_cons_of_mem _ List.mem_cons_self)) (i * 2) (D.pr x) (cc_at HX.out) (Nat.succ_pos _) rfl Try.underlying45 rfl size45 (hK _ O)
                · go_simp
                  exact hK _ O
                · go_simp
                  exact hK _ O
                · exact wp_at_h Try.underlying43 sizeOf45 _ (O.mem List.mem_cons_self) rfl (m) rfl rfl (by omega) rfl (hK _ O)
                · exact wp_elem_h _ (O.mem List.mem_cons_self) (m * 2) (D.pr y) (cc_at HY.out) (Nat.succ_pos _) rfl Try.underlying45 rfl size45 (hK _ O)
                · go_simp
                  go_at_call 20
                  refine (cl _).mono ?_
                  rintro e w2 ⟨rfl, hb⟩
                  exact hK _ (O.call hb)
                refine wpAny_done (by kernel_rfl) ?_ _
                go_wp2_with (first | ((with_reducible refine at_build 84 ?_); refine wpList_build_g rfl ([]) ((M.mat 8 M.zero).toArray) ?_ (built27z) ?_; (focus (simp only [List.map_toArray, List.map_cons, List.map_nil]; rfl))) | ((with_reducible refine at_build 85 ?_); refine wpList_build_g rfl ([]) ((M.mat 8 M.zero).toArray) ?_ (built27z) ?_; (focus (simp only [List.map_toArray, List.map_cons, List.map_nil]; rfl))) | ((with_reducible refine at_store 6 ?_); refine wpList_put_h O 1 (M.mat 8 (M.zero)) rfl rfl rfl (s27 _) (M.mat_len2 _ _ _) (M.mat_one _ _) ?_; clear O; intro v8 O) | ((with_reducible refine at_store 7 ?_); refine wpList_put_h O 0 (M.mat 8 (M.zero)) rfl rfl rfl (s27 _) (M.mat_len2 _ _ _) (M.mat_one _ _) ?_; clear O; intro v9 O))
                exact bodyPost_ret (v := .tuple #[arr 8 M.zero, arr 8 M.zero, .bool false]) (res_h3 rfl O 1 0 rfl rfl rfl rfl Try.underlying27 rfl (s27 _) Try.underlying27 rfl (s27 _) rfl) rfl ⟨by rw [HE.out], O.below⟩
            · have p1 : ¬ (m : Int) < L2.length := by omega
              obtain rfl : m = L2.length := by omega
              go_wp2_with fail
              go_roundw
              case rel => exact ⟨i + 1, by omega, by go_num, fun z hz => by
                rw [List.take_add_one, HX.out] at hz
                rcases List.mem_append.1 hz with hz | hz
                · exact HA.out z hz
                · obtain rfl : z = x := by simpa using hz
                  have := HB.out
                  rwa [List.take_of_length_le (Nat.le_refl _)] at this, O⟩
              case measure => simp [intOf]; omega
        · have q1 : ¬ (i : Int) < L1.length := by omega
          obtain rfl : i = L1.length := by omega
          have hA := HA.out
          rw [List.take_of_length_le (Nat.le_refl _)] at hA
          have HE := Lib.hid (HT.out hA)
          clear HA hA HT HN
          have b1 := fun u h => D.best_top (a := a) (b := b) (u := u) (l := L1) F1.out h
          have b2 := fun u h => D.best_low (a := a) (b := b) (u := u) (l := L2) F2.out h
          have s1 := fun x (h : D.Top L1 x) => D.stand_top (a := a) (b := b) (v := a) F1.out h
          have s2 := fun x (h : D.Low L2 x) => D.stand_low (a := a) (b := b) (v := b) F2.out h
          generalize D.stand a b a (D.top L1) = f1 at *
          generalize D.stand a b b (D.low L2) = f2 at *
          have E1 := Lib.hid b1
          have E2 := Lib.hid b2
          have S1 := Lib.hid s1
          have S2 := Lib.hid s2
          clear b1 b2 s1 s2
          go_wp2_with fail
          refine region_S (fun st w2 => Nd w [(g7, 27, M.mat 8 M.zero), (g6, 27, M.mat 8 M.zero), (g4, 27, M.mat 8 b), (g3, 27, M.mat 8 a)] (M.mat 8 a) [cE w.heap.size SA Sc L2, cE w.heap.size RA Rc L1, sE lo A c l] (st 2) (st 3) (st 4) w2) [2, 3, 4] 12 5 [some 86, some 87, some 17, some 18, none] (fun g => [arr 8 a, arr 8 b, g 2, g 3, g 4]) 1 (by kernel_rfl) (by kernel_rfl) (by rfl) (by rfl) (fun _ => rfl) (by decide) ?_ (Nd.start O.drew) (fun F hF => ?_)
          · intro i hi
            simp only [List.mem_cons, List.not_mem_nil, or_false] at hi
            rcases hi with rfl | rfl | rfl
            · exact ⟨fun _ => rfl, [0, 1, 3, 4], by kernel_rfl, fun g v => ⟨rfl, rfl, rfl, rfl, trivial⟩⟩
            · exact ⟨fun _ => rfl, [0, 1, 2, 4], by kernel_rfl, fun g v => ⟨rfl, rfl, rfl, rfl, trivial⟩⟩
            · exact ⟨fun _ => rfl, [0, 1, 2, 3], by kernel_rfl, fun g v => ⟨rfl, rfl, rfl, rfl, trivial⟩⟩
          simp only [fillD, Act.put, List.setIfInBounds_toArray, List.set_cons_zero, List.set_cons_succ] at hF
          have hF2 := funext hF
          clear hF
          subst hF2
          refine ⟨⟨doesN_want (by decide) rfl (fun g => rfl) (fun st w' hS hp K hK => ?_), doesN_want (by decide) rfl (fun g => rfl) (fun st w' hS hp K hK => ?_), doesC_want (by decide) rfl (fun g => rfl) (fun st w' hS hn hp K hK => ?_), doesC_want (by decide) rfl (fun g => rfl) (fun st w' hS hn hp K hK => ?_), doesC_want (by decide) rfl (fun g => rfl) (fun st w' hS hn hp K hK => ?_), trivial⟩, fun st w' hS hall => ?_⟩
          · try dsimp only
            exact wp_row_h hS.own 3 rfl rfl Try.underlying27 rfl (s27 _) (hK _ hS)
          · try dsimp only
            exact wp_row_h hS.own 2 rfl rfl Try.underlying27 rfl (s27 _) (hK _ hS)
          · try dsimp only
            rw [hn] at hS
            exact hS.alloc_a hK
          · try dsimp only
            rw [hn] at hS
            exact hS.alloc_b hK
          · try dsimp only
            rw [hn] at hS
            exact hS.put_a (hp 2 (by decide) (by kernel_rfl)) a rfl rfl rfl hK
          try dsimp only
          obtain ⟨g17, g18, e17, e18, O3⟩ := hS.done (hall 2 (by decide)) (hall 3 (by decide)) (hall 4 (by decide))
          clear hS O
          have O := O3
          clear O3
          simp only [seen, e17, e18, Option.getD_some]
          generalize (st 4).getD undef = u4
          clear hall e17 e18
          refine wpAny_want (i := 5) (by kernel_rfl) rfl (by rfl) (fun K hK => ?_)
          refine wp_put_h O 1 (M.mat 8 b) rfl rfl rfl (s27 _) (M.mat_len2 _ _ _) (M.mat_one _ _) fun w9 O9 => hK _ _ ?_
          clear O
          have O := O9
          clear O9
          clear hK K
          try simp only [Act.put, List.setIfInBounds_toArray, List.set_cons_zero, List.set_cons_succ]
          refine wpAny_done (by kernel_rfl) ?_ _
          go_wp2_with fail
          go_loopw [19] (fun t wr => ∃ (i : Nat) (u : Nat → Int), i ≤ L1.length ∧ t = .int .i64 i ∧ D.Best D.Top L1 a f1 i u ∧ Held w wr [(g17, 27, M.mat 8 u), (g18, 27, M.mat 8 b), (g7, 27, M.mat 8 M.zero), (g6, 27, M.mat 8 M.zero), (g4, 27, M.mat 8 b), (g3, 27, M.mat 8 a)] nilRow [cE w.heap.size SA Sc L2, cE w.heap.size RA Rc L1, sE lo A c l]) (fun t _ => L1.length - (intOf t).toNat)
          case atStart => exact ⟨0, a, Nat.zero_le _, rfl, D.Best.start, O⟩
          case round =>
            clear O
            obtain ⟨i, u, hi, rfl, hbest, O⟩ := hrel
            have HB := Lib.hid hbest
            clear hbest
            have q0 : (0 : Int) ≤ i := by omega
            by_cases hilt : i < L1.length
            · have q1 : (i : Int) < L1.length := by omega
              obtain ⟨x, hx⟩ : ∃ x, L1[i]? = some x := ⟨_, List.getElem?_eq_getElem hilt⟩
              have HX := Lib.hid hx
              clear hx
              go_wp2_with fail
              go_loopw [20, 21] (fun bv t wr => ∃ m : Nat, m ≤ L1.length ∧ t = .int .i64 m ∧ bv = .bool (D.noneB (fun y => D.above y x) L1 m) ∧ Held w wr [(g17, 27, M.mat 8 u), (g18, 27, M.mat 8 b), (g7, 27, M.mat 8 M.zero), (g6, 27, M.mat 8 M.zero), (g4, 27, M.mat 8 b), (g3, 27, M.mat 8 a)] nilRow [cE w.heap.size SA Sc L2, cE w.heap.size RA Rc L1, sE lo A c l]) (fun _ t _ => L1.length - (intOf t).toNat)
              case atStart => exact ⟨0, Nat.zero_le _, rfl, rfl, O⟩
              case round =>
                clear O
                obtain ⟨m, hm, rfl, rfl, O⟩ := hrel
                have p0 : (0 : Int) ≤ m := by omega
                by_cases hmlt : m < L1.length
                · have p1 : (m : Int) < L1.length := by omega
                  obtain ⟨y, hy⟩ : ∃ y, L1[m]? = some y := ⟨_, List.getElem?_eq_getElem hmlt⟩
                  have HY := Lib.hid hy
                  clear hy
                  have cl := fun w => rabove_any y x (W1.out y (List.mem_of_getElem? HY.out)) (W1.out x (List.mem_of_getElem? HX.out)) w
                  have hstep : D.noneB (fun y => D.above y x) L1 (m + 1) = (D.noneB (fun y => D.above y x) L1 m && !D.above y x) := D.noneB_step HY.out
                  obtain ⟨z, hz⟩ : ∃ z, D.above y x = z := ⟨_, rfl⟩
                  rw [hz] at cl hstep
                  clear hz
                  have HZ := Lib.hid hstep
                  clear hstep
                  cases hnb : D.noneB (fun y => D.above y x) L1 m
                  all_goals
                    have HNB := Lib.hid hnb
                    clear hnb
                  · go_wp2_with fail
                    refine region_T ((fun w2 => Held w w2 [(g17, 27, M.mat 8 u), (g18, 27, M.mat 8 b), (g7, 27, M.mat 8 M.zero), (g6, 27, M.mat 8 M.zero), (g4, 27, M.mat 8 b), (g3, 27, M.mat 8 a)] nilRow [cE w.heap.size SA Sc L2, cE w.heap.size RA Rc L1, sE lo A c l])) [0, 1, 2, 3, 4, 5, 6, 7, 8, 9, 10, 11, 12] 12 [some 100, some 101, some 102, some 103, some 104, some 105, some 106, some 107, some 108, some 109, some 110, some 111, some 112] [.bool false, .bool false, undef, undef, undef, undef, undef, undef, undef, undef, undef, undef, .bool false] 1 (by kernel_rfl) (by rfl) (by kernel_rfl) (by rfl) (by rfl) (O.drew) (fun F hF => ?_)
                    simp only [fillD, Act.put, List.setIfInBounds_toArray, List.set_cons_zero, List.set_cons_succ] at hF
                    subst hF
                    refine ⟨⟨does_want rfl (by rfl) (fun w' O K hK => ?_), does_want rfl (by rfl) (fun w' O K hK => ?_), does_skip rfl (by rfl), does_skip rfl (by rfl), does_skip rfl (by rfl), does_skip rfl (by rfl), does_skip rfl (by rfl), does_skip rfl (by rfl), does_skip rfl (by rfl), does_skip rfl (by rfl), does_skip rfl (by rfl), does_skip rfl (by rfl), does_want rfl (by rfl) (fun w' O K hK => ?_), trivial⟩, fun w' O => ?_⟩
                    · go_simp
                      exact hK _ O
                    · go_simp
                      exact hK _ O
                    · go_simp
                      exact hK _ O
                    refine wpAny_one (i := 13) (by kernel_rfl) rfl (fun K hK => ?_)
                    go_simp
                    refine hK _ _ ?_
                    clear hK K
                    try simp only [Act.put, List.setIfInBounds_toArray, List.set_cons_zero, List.set_cons_succ]
                    refine wpAny_done (by kernel_rfl) ?_ _
                    go_wp2_with fail
                    go_roundw
                    case rel => exact ⟨m + 1, by omega, by go_num, by rw [HZ.out, HNB.out]; rfl, O⟩
                    case measure => simp [intOf]; omega
                  · go_wp2_with fail
                    refine region_T ((fun w2 => Held w w2 [(g17, 27, M.mat 8 u), (g18, 27, M.mat 8 b), (g7, 27, M.mat 8 M.zero), (g6, 27, M.mat 8 M.zero), (g4, 27, M.mat 8 b), (g3, 27, M.mat 8 a)] nilRow [cE w.heap.size SA Sc L2, cE w.heap.size RA Rc L1, sE lo A c l])) [0, 1, 2, 3, 4, 5, 6, 7, 8, 9, 10, 11, 12] 12 [some 100, some 101, some 102, some 103, some 104, some 105, some 106, some 107, some 108, some 109, some 110, some 111, some 112] [.bool true, .bool true, .slice RA L1.length Rc, .int .i64 m, .pointer (some ((adr RA).add (m * 2))), .agg (D.pr y).toArray, .slice RA L1.length Rc, .int .i64 i, .pointer (some ((adr RA).add (i * 2))), .agg (D.pr x).toArray, .bool z, .bool (!z), .bool (!z)] 1 (by kernel_rfl) (by rfl) (by kernel_rfl) (by rfl) (by rfl) (O.drew) (fun F hF => ?_)
                    simp only [fillD, Act.put, List.setIfInBounds_toArray, List.set_cons_zero, List.set_cons_succ] at hF
                    subst hF
                    refine ⟨⟨does_want rfl (by rfl) (fun w' O K hK => ?_), does_want rfl (by rfl) (fun w' O K hK => ?_), does_want rfl (by rfl) (fun w' O K hK => ?_), does_want rfl (by rfl) (fun w' O K hK => ?_), does_want rfl (by rfl) (fun w' O K hK => ?_), does_want rfl (by rfl) (fun w' O K hK => ?_), does_want rfl (by rfl) (fun w' O K hK => ?_), does_want rfl (by rfl) (fun w' O K hK => ?_), does_want rfl (by rfl) (fun w' O K hK => ?_), does_want rfl (by rfl) (fun w' O K hK => ?_), does_want rfl (by rfl) (fun w' O K hK => ?_), does_want rfl (by rfl) (fun w' O K hK => ?_), does_want rfl (by rfl) (fun w' O K hK => ?_), trivial⟩, fun w' O => ?_⟩
                    · go_simp
                      exact hK _ O
                    · go_simp
                      exact hK _ O
                    · go_simp
                      exact hK _ O
                    · go_simp
                      exact hK _ O
                    · exact wp_at_h Try.underlying43 sizeOf45 _ (O.mem (List.mem_cons_of_mem _ List.mem_cons_self)) rfl (m) rfl rfl (by omega) rfl (hK _ O)
                    · exact wp_elem_h _ (O.mem (List.mem_cons_of_mem _ List.mem_cons_self)) (m * 2) (D.pr y) (cc_at HY.out) (Nat.succ_pos _) rfl Try.underlying45 rfl size45 (hK _ O)
                    · go_simp
                      exact hK _ O
                    · go_simp
                      exact hK _ O
                    · exact wp_at_h Try.underlying43 sizeOf45 _ (O.mem (List.mem_cons_of_mem _ List.mem_cons_self)) rfl (i) rfl rfl (by omega) rfl (hK _ O)
                    · exact wp_elem_h _ (O.mem (List.mem_cons_of_mem _ List.mem_cons_self)) (i * 2) (D.pr x) (cc_at HX.out) (Nat.succ_pos _) rfl Try.underlying45 rfl size45 (hK _ O)
                    · go_simp
                      go_at_call 20
                      refine (cl _).mono ?_
                      rintro e w2 ⟨rfl, hb⟩
                      exact hK _ (O.call hb)
                    · go_simp
                      exact hK _ O
                    · go_simp
                      exact hK _ O
                    refine wpAny_one (i := 13) (by kernel_rfl) rfl (fun K hK => ?_)
                    go_simp
                    refine hK _ _ ?_
                    clear hK K
                    try simp only [Act.put, List.setIfInBounds_toArray, List.set_cons_zero, List.set_cons_succ]
                    refine wpAny_done (by kernel_rfl) ?_ _
                    go_wp2_with fail
                    go_roundw
                    case rel => exact ⟨m + 1, by omega, by go_num, by rw [HZ.out, HNB.out]; rfl, O⟩
                    case measure => simp [intOf]; omega
                · have p1 : ¬ (m : Int) < L1.length := by omega
                  obtain rfl : m = L1.length := by omega
                  have hmem := List.mem_of_getElem? HX.out
                  cases hnb : D.noneB (fun y => D.above y x) L1 L1.length
                  · have HB2 := Lib.hid (D.Best.not HB.out HX.out (fun h => by rw [(D.noneB_top hmem).2 h] at hnb; cases hnb))
                    have HNB := Lib.hid hnb
                    clear hnb hmem
                    go_wp2_with fail
                    go_roundw
                    case rel => exact ⟨i + 1, u, by omega, by go_num, HB2.out, O⟩
                    case measure => simp [intOf]; omega
                  · have hT := (D.noneB_top hmem).1 hnb
                    have hS1 := S1.out x hT
                    have hF := F1.out x hmem
                    have hW := W1.out x hmem
                    clear hnb hmem hT
                    obtain ⟨n, d⟩ := x
                    obtain ⟨x1, x2, x3⟩ := hF
                    obtain ⟨y1, y2, y3, y4⟩ := hW
                    dsimp only at hS1 x1 x2 x3 y1 y2 y3 y4
                    have ca := CA.out n d x1 x2 x3 (by omega)
                    rw [← hS1] at ca
                    unfold RetAt at ca
                    dsimp only at ca
                    clear hS1 x1 x2 x3 y1 y2 y3 y4
                    go_wp2_with fail
                    refine region_S (fun st w2 => Held w w2 [(g17, 27, (if (st 16).isSome then M.mat 8 f1 else M.mat 8 u)), (g18, 27, M.mat 8 b), (g7, 27, M.mat 8 M.zero), (g6, 27, M.mat 8 M.zero), (g4, 27, M.mat 8 b), (g3, 27, M.mat 8 a)] nilRow [cE w.heap.size SA Sc L2, cE w.heap.size RA Rc L1, sE lo A c l]) [16] 12 17 [some 115, some 116, some 117, some 118, some 119, some 120, some 121, some 122, some 123, some 124, some 125, some 126, some 127, some 114, some 128, some 129, none] (fun g => [arr 8 a, arr 8 b, .slice RA L1.length Rc, .int .i64 i, .pointer (some ((adr RA).add (i * 2))), .pointer (some ((adr RA).add (i * 2))), .int .i64 n, .slice RA L1.length Rc, .int .i64 i, .pointer (some ((adr RA).add (i * 2))), .pointer (some ((adr RA).add (i * 2 + 1))), .int .i64 d, .tuple #[arr 8 f1, .int .i64 0], .tuple #[arr 8 f1, .int .i64 0], arr 8 f1, .int .i64 0, g 16]) 0 (by kernel_rfl) (by kernel_rfl) (by rfl) (by rfl) (fun _ => rfl) (by decide) ?_ (O.drew) (fun F hF => ?_)
                    · intro i hi
                      simp only [List.mem_cons, List.not_mem_nil, or_false] at hi
                      rcases hi with rfl
                      · exact ⟨fun _ => rfl, [0, 1, 2, 3, 4, 5, 6, 7, 8, 9, 10, 11, 12, 13, 14, 15], by kernel_rfl, fun g v => ⟨rfl, rfl, rfl, rfl, rfl, rfl, rfl, rfl, rfl, rfl, rfl, rfl, rfl, rfl, rfl, rfl, trivial⟩⟩
                    simp only [fillD, Act.put, List.setIfInBounds_toArray, List.set_cons_zero, List.set_cons_succ] at hF
                    have hF2 := funext hF
                    clear hF
                    subst hF2
                    refine ⟨⟨doesN_want (by decide) rfl (fun g => rfl) (fun st w' hS hp K hK => ?_), doesN_want (by decide) rfl (fun g => rfl) (fun st w' hS hp K hK => ?_), doesN_want (by decide) rfl (fun g => rfl) (fun st w' hS hp K hK => ?_), doesN_want (by decide) rfl (fun g => rfl) (fun st w' hS hp K hK => ?_), doesN_want (by decide) rfl (fun g => rfl) (fun st w' hS hp K hK => ?_), doesN_want (by decide) rfl (fun g => rfl) (fun st w' hS hp K hK => ?_), doesN_want (by decide) rfl (fun g => rfl) (fun st w' hS hp K hK => ?_), doesN_want (by decide) rfl (fun g => rfl) (fun st w' hS hp K hK => ?_), doesN_want (by decide) rfl (fun g => rfl) (fun st w' hS hp K hK => ?_), doesN_want (by decide) rfl (fun g => rfl) (fun st w' hS hp K hK => ?_), doesN_want (by decide) rfl (fun g => rfl) (fun st w' hS hp K hK => ?_), doesN_want (by decide) rfl (fun g => rfl) (fun st w' hS hp K hK => ?_), doesN_want (by decide) rfl (fun g => rfl) (fun st w' hS hp K hK => ?_), doesN_want (by decide) rfl (fun g => rfl) (fun st w' hS hp K hK => ?_), doesN_want (by decide) rfl (fun g => rfl) (fun st w' hS hp K hK => ?_), doesN_want (by decide) rfl (fun g => rfl) (fun st w' hS hp K hK => ?_), doesC_want (by decide) rfl (fun g => rfl) (fun st w' hS hn hp K hK => ?_), trivial⟩, fun st w' hS hall => ?_⟩
                    · try dsimp only
                      exact wp_row_h hS 5 rfl rfl Try.underlying27 rfl (s27 _) (hK _ hS)
                    · try dsimp only
                      exact wp_row_h hS 4 rfl rfl Try.underlying27 rfl (s27 _) (hK _ hS)
                    · try dsimp only
                      go_simp
                      exact hK _ hS
                    · try dsimp only
                      go_simp
                      exact hK _ hS
                    · try dsimp only
                      exact wp_at_h Try.underlying43 sizeOf45 _ (hS.mem (List.mem_cons_of_mem _ List.mem_cons_self)) rfl (i) rfl rfl (by omega) rfl (hK _ hS)
                    · try dsimp only
                      refine wp_fld_h (f45_0 _) rfl ?_
                      rw [add_add']
                      exact hK _ hS
                    · try dsimp only
                      exact wp_ecell_h (cE w.heap.size RA Rc L1) (hS.mem (List.mem_cons_of_mem _ List.mem_cons_self)) (i * 2 + 0) (cc_at HX.out 0 _ rfl) rfl agg3 rfl (hK _ hS)
                    · try dsimp only
                      go_simp
                      exact hK _ hS
                    · try dsimp only
                      go_simp
                      exact hK _ hS
                    · try dsimp only
                      exact wp_at_h Try.underlying43 sizeOf45 _ (hS.mem (List.mem_cons_of_mem _ List.mem_cons_self)) rfl (i) rfl rfl (by omega) rfl (hK _ hS)
                    · try dsimp only
                      refine wp_fld_h (f45_1 _) rfl ?_
                      rw [add_add']
                      exact hK _ hS
                    · try dsimp only
                      exact wp_ecell_h (cE w.heap.size RA Rc L1) (hS.mem (List.mem_cons_of_mem _ List.mem_cons_self)) (i * 2 + 1) (cc_at HX.out 1 _ rfl) rfl agg3 rfl (hK _ hS)
                    · try dsimp only
                      go_simp
                      go_at_call 21
                      refine (ca _).mono ?_
                      rintro e w2 ⟨rfl, hb⟩
                      exact hK _ (hS.call hb)
                    · try dsimp only
                      go_simp
                      exact hK _ hS
                    · try dsimp only
                      go_simp
                      exact hK _ hS
                    · try dsimp only
                      go_simp
                      exact hK _ hS
                    · try dsimp only
                      rw [hn] at hS
                      exact wp_put_h hS 0 (M.mat 8 f1) rfl rfl rfl (s27 _) (M.mat_len2 _ _ _) (M.mat_one _ _) fun w1 O1 => hK _ _ O1
                    try dsimp only
                    have O3 : Held w w' [(g17, 27, M.mat 8 f1), (g18, 27, M.mat 8 b), (g7, 27, M.mat 8 M.zero), (g6, 27, M.mat 8 M.zero), (g4, 27, M.mat 8 b), (g3, 27, M.mat 8 a)] nilRow [cE w.heap.size SA Sc L2, cE w.heap.size RA Rc L1, sE lo A c l] := by
                      have := hall 16 (by decide)
                      rwa [if_pos this] at hS
                    clear hS O
                    have O := O3
                    clear O3
                    try simp only [seen]
                    try generalize (st 16).getD undef = u16
                    clear hall
                    refine wpAny_done (by kernel_rfl) ?_ _
                    go_wp2_with fail
                    go_roundw
                    case rel => exact ⟨i + 1, f1, by omega, by go_num, .inr rfl, O⟩
                    case measure => simp [intOf]; omega
            · have q1 : ¬ (i : Int) < L1.length := by omega
              obtain rfl : i = L1.length := by omega
              obtain rfl : f1 = u := (E1.out _ HB.out).symm
              clear HB
              go_wp2_with fail
              go_loopw [22] (fun t wr => ∃ (i : Nat) (u : Nat → Int), i ≤ L2.length ∧ t = .int .i64 i ∧ D.Best D.Low L2 b f2 i u ∧ Held w wr [(g17, 27, M.mat 8 f1), (g18, 27, M.mat 8 u), (g7, 27, M.mat 8 M.zero), (g6, 27, M.mat 8 M.zero), (g4, 27, M.mat 8 b), (g3, 27, M.mat 8 a)] nilRow [cE w.heap.size SA Sc L2, cE w.heap.size RA Rc L1, sE lo A c l]) (fun t _ => L2.length - (intOf t).toNat)
              case atStart => exact ⟨0, b, Nat.zero_le _, rfl, D.Best.start, O⟩
              case round =>
                clear O
                obtain ⟨i, u, hi, rfl, hbest, O⟩ := hrel
                have HB := Lib.hid hbest
                clear hbest
                have q0 : (0 : Int) ≤ i := by omega
                by_cases hilt : i < L2.length
                · have q1 : (i : Int) < L2.length := by omega
                  obtain ⟨x, hx⟩ : ∃ x, L2[i]? = some x := ⟨_, List.getElem?_eq_getElem hilt⟩
                  have HX := Lib.hid hx
                  clear hx
                  go_wp2_with fail
                  go_loopw [23, 24] (fun bv t wr => ∃ m : Nat, m ≤ L2.length ∧ t = .int .i64 m ∧ bv = .bool (D.noneB (fun y => D.above x y) L2 m) ∧ Held w wr [(g17, 27, M.mat 8 f1), (g18, 27, M.mat 8 u), (g7, 27, M.mat 8 M.zero), (g6, 27, M.mat 8 M.zero), (g4, 27, M.mat 8 b), (g3, 27, M.mat 8 a)] nilRow [cE w.heap.size SA Sc L2, cE w.heap.size RA Rc L1, sE lo A c l]) (fun _ t _ => L2.length - (intOf t).toNat)
                  case atStart => exact ⟨0, Nat.zero_le _, rfl, rfl, O⟩
                  case round =>
                    clear O
                    obtain ⟨m, hm, rfl, rfl, O⟩ := hrel
                    have p0 : (0 : Int) ≤ m := by omega
                    by_cases hmlt : m < L2.length
                    · have p1 : (m : Int) < L2.length := by omega
                      obtain ⟨y, hy⟩ : ∃ y, L2[m]? = some y := ⟨_, List.getElem?_eq_getElem hmlt⟩
                      have HY := Lib.hid hy
                      clear hy
                      have cl := fun w => rabove_any x y (W2.out x (List.mem_of_getElem? HX.out)) (W2.out y (List.mem_of_getElem? HY.out)) w
                      have hstep : D.noneB (fun y => D.above x y) L2 (m + 1) = (D.noneB (fun y => D.above x y) L2 m && !D.above x y) := D.noneB_step HY.out
                      obtain ⟨z, hz⟩ : ∃ z, D.above x y = z := ⟨_, rfl⟩
                      rw [hz] at cl hstep
                      clear hz
                      have HZ := Lib.hid hstep
                      clear hstep
                      cases hnb : D.noneB (fun y => D.above x y) L2 m
                      all_goals
                        have HNB := Lib.hid hnb
                        clear hnb
                      · go_wp2_with fail
                        refine region_T ((fun w2 => Held w w2 [(g17, 27, M.mat 8 f1), (g18, 27, M.mat 8 u), (g7, 27, M.mat 8 M.zero), (g6, 27, M.mat 8 M.zero), (g4, 27, M.mat 8 b), (g3, 27, M.mat 8 a)] nilRow [cE w.heap.size SA Sc L2, cE w.heap.size RA Rc L1, sE lo A c l])) [0, 1, 2, 3, 4, 5, 6, 7, 8, 9, 10, 11, 12] 12 [some 142, some 143, some 144, some 145, some 146, some 147, some 148, some 149, some 150, some 151, some 152, some 153, some 154] [.bool false, .bool false, undef, undef, undef, undef, undef, undef, undef, undef, undef, undef, .bool false] 1 (by kernel_rfl) (by rfl) (by kernel_rfl) (by rfl) (by rfl) (O.drew) (fun F hF => ?_)
                        simp only [fillD, Act.put, List.setIfInBounds_toArray, List.set_cons_zero, List.set_cons_succ] at hF
                        subst hF
                        refine ⟨⟨does_want rfl (by rfl) (fun w' O K hK => ?_), does_want rfl (by rfl) (fun w' O K hK => ?_), does_skip rfl (by rfl), does_skip rfl (by rfl), does_skip rfl (by rfl), does_skip rfl (by rfl), does_skip rfl (by rfl), does_skip rfl (by rfl), does_skip rfl (by rfl), does_skip rfl (by rfl), does_skip rfl (by rfl), does_skip rfl (by rfl), does_want rfl (by rfl) (fun w' O K hK => ?_), trivial⟩, fun w' O => ?_⟩
                        · go_simp
                          exact hK _ O
                        · go_simp
                          exact hK _ O
                        · go_simp
                          exact hK _ O
                        refine wpAny_one (i := 13) (by kernel_rfl) rfl (fun K hK => ?_)
                        go_simp
                        refine hK _ _ ?_
                        clear hK K
                        try simp only [Act.put, List.setIfInBounds_toArray, List.set_cons_zero, List.set_cons_succ]
                        refine wpAny_done (by kernel_rfl) ?_ _
                        go_wp2_with fail
                        go_roundw
                        case rel => exact ⟨m + 1, by omega, by go_num, by rw [HZ.out, HNB.out]; rfl, O⟩
                        case measure => simp [intOf]; omega
                      · go_wp2_with fail
                        refine region_T ((fun w2 => Held w w2 [(g17, 27, M.mat 8 f1), (g18, 27, M.mat 8 u), (g7, 27, M.mat 8 M.zero), (g6, 27, M.mat 8 M.zero), (g4, 27, M.mat 8 b), (g3, 27, M.mat 8 a)] nilRow [cE w.heap.size SA Sc L2, cE w.heap.size RA Rc L1, sE lo A c l])) [0, 1, 2, 3, 4, 5, 6, 7, 8, 9, 10, 11, 12] 12 [some 142, some 143, some 144, some 145, some 146, some 147, some 148, some 149, some 150, some 151, some 152, some 153, some 154] [.bool true, .bool true, .slice SA L2.length Sc, .int .i64 i, .pointer (some ((adr SA).add (i * 2))), .agg (D.pr x).toArray, .slice SA L2.length Sc, .int .i64 m, .pointer (some ((adr SA).add (m * 2))), .agg (D.pr y).toArray, .bool z, .bool (!z), .bool (!z)] 1 (by kernel_rfl) (by rfl) (by kernel_rfl) (by rfl) (by rfl) (O.drew) (fun F hF => ?_)
                        simp only [fillD, Act.put, List.setIfInBounds_toArray, List.set_cons_zero, List.set_cons_succ] at hF
                        subst hF
                        refine ⟨⟨does_want rfl (by rfl) (fun w' O K hK => ?_), does_want rfl (by rfl) (fun w' O K hK => ?_), does_want rfl (by rfl) (fun w' O K hK => ?_), does_want rfl (by rfl) (fun w' O K hK => ?_), does_want rfl (by rfl) (fun w' O K hK => ?_), does_want rfl (by rfl) (fun w' O K hK => ?_), does_want rfl (by rfl) (fun w' O K hK => ?_), does_want rfl (by rfl) (fun w' O K hK => ?_), does_want rfl (by rfl) (fun w' O K hK => ?_), does_want rfl (by rfl) (fun w' O K hK => ?_), does_want rfl (by rfl) (fun w' O K hK => ?_), does_want rfl (by rfl) (fun w' O K hK => ?_), does_want rfl (by rfl) (fun w' O K hK => ?_), trivial⟩, fun w' O => ?_⟩
                        · go_simp
                          exact hK _ O
                        · go_simp
                          exact hK _ O
                        · go_simp
                          exact hK _ O
                        · go_simp
                          exact hK _ O
                        · exact wp_at_h Try.underlying43 sizeOf45 _ (O.mem List.mem_cons_self) rfl (i) rfl rfl (by omega) rfl (hK _ O)
                        · exact wp_elem_h _ (O.mem List.mem_cons_self) (i * 2) (D.pr x) (cc_at HX.out) (Nat.succ_pos _) rfl Try.underlying45 rfl size45 (hK _ O)
                        · go_simp
                          exact hK _ O
                        · go_simp
                          exact hK _ O
                        · exact wp_at_h Try.underlying43 sizeOf45 _ (O.mem List.mem_cons_self) rfl (m) rfl rfl (by omega) rfl (hK _ O)
                        · exact wp_elem_h _ (O.mem List.mem_cons_self) (m * 2) (D.pr y) (cc_at HY.out) (Nat.succ_pos _) rfl Try.underlying45 rfl size45 (hK _ O)
                        · go_simp
                          go_at_call 20
                          refine (cl _).mono ?_
                          rintro e w2 ⟨rfl, hb⟩
                          exact hK _ (O.call hb)
                        · go_simp
                          exact hK _ O
                        · go_simp
                          exact hK _ O
                        refine wpAny_one (i := 13) (by kernel_rfl) rfl (fun K hK => ?_)
                        go_simp
                        refine hK _ _ ?_
                        clear hK K
                        try simp only [Act.put, List.setIfInBounds_toArray, List.set_cons_zero, List.set_cons_succ]
                        refine wpAny_done (by kernel_rfl) ?_ _
                        go_wp2_with fail
                        go_roundw
                        case rel => exact ⟨m + 1, by omega, by go_num, by rw [HZ.out, HNB.out]; rfl, O⟩
                        case measure => simp [intOf]; omega
                    · have p1 : ¬ (m : Int) < L2.length := by omega
                      obtain rfl : m = L2.length := by omega
                      have hmem := List.mem_of_getElem? HX.out
                      cases hnb : D.noneB (fun y => D.above x y) L2 L2.length
                      · have HB2 := Lib.hid (D.Best.not HB.out HX.out (fun h => by rw [(D.noneB_low hmem).2 h] at hnb; cases hnb))
                        have HNB := Lib.hid hnb
                        clear hnb hmem
                        go_wp2_with fail
                        go_roundw
                        case rel => exact ⟨i + 1, u, by omega, by go_num, HB2.out, O⟩
                        case measure => simp [intOf]; omega
                      · have hT := (D.noneB_low hmem).1 hnb
                        have hS1 := S2.out x hT
                        have hF := F2.out x hmem
                        have hW := W2.out x hmem
                        clear hnb hmem hT
                        obtain ⟨n, d⟩ := x
                        obtain ⟨x1, x2, x3⟩ := hF
                        obtain ⟨y1, y2, y3, y4⟩ := hW
                        dsimp only at hS1 x1 x2 x3 y1 y2 y3 y4
                        have ca := CA.out n d x1 x2 x3 (by omega)
                        rw [← hS1] at ca
                        unfold RetAt at ca
                        dsimp only at ca
                        clear hS1 x1 x2 x3 y1 y2 y3 y4
                        go_wp2_with fail
                        refine region_S (fun st w2 => Held w w2 [(g17, 27, M.mat 8 f1), (g18, 27, (if (st 16).isSome then M.mat 8 f2 else M.mat 8 u)), (g7, 27, M.mat 8 M.zero), (g6, 27, M.mat 8 M.zero), (g4, 27, M.mat 8 b), (g3, 27, M.mat 8 a)] nilRow [cE w.heap.size SA Sc L2, cE w.heap.size RA Rc L1, sE lo A c l]) [16] 12 17 [some 157, some 158, some 159, some 160, some 161, some 162, some 163, some 164, some 165, some 166, some 167, some 168, some 169, some 156, some 170, some 171, none] (fun g => [arr 8 a, arr 8 b, .slice SA L2.length Sc, .int .i64 i, .pointer (some ((adr SA).add (i * 2))), .pointer (some ((adr SA).add (i * 2))), .int .i64 n, .slice SA L2.length Sc, .int .i64 i, .pointer (some ((adr SA).add (i * 2))), .pointer (some ((adr SA).add (i * 2 + 1))), .int .i64 d, .tuple #[arr 8 f2, .int .i64 0], .tuple #[arr 8 f2, .int .i64 0], arr 8 f2, .int .i64 0, g 16]) 0 (by kernel_rfl) (by kernel_rfl) (by rfl) (by rfl) (fun _ => rfl) (by decide) ?_ (O.drew) (fun F hF => ?_)
                        · intro i hi
                          simp only [List.mem_cons, List.not_mem_nil, or_false] at hi
                          rcases hi with rfl
                          · exact ⟨fun _ => rfl, [0, 1, 2, 3, 4, 5, 6, 7, 8, 9, 10, 11, 12, 13, 14, 15], by kernel_rfl, fun g v => ⟨rfl, rfl, rfl, rfl, rfl, rfl, rfl, rfl, rfl, rfl, rfl, rfl, rfl, rfl, rfl, rfl, trivial⟩⟩
                        simp only [fillD, Act.put, List.setIfInBounds_toArray, List.set_cons_zero, List.set_cons_succ] at hF
                        have hF2 := funext hF
                        clear hF
                        subst hF2
                        refine ⟨⟨doesN_want (by decide) rfl (fun g => rfl) (fun st w' hS hp K hK => ?_), doesN_want (by decide) rfl (fun g => rfl) (fun st w' hS hp K hK => ?_), doesN_want (by decide) rfl (fun g => rfl) (fun st w' hS hp K hK => ?_), doesN_want (by decide) rfl (fun g => rfl) (fun st w' hS hp K hK => ?_), doesN_want (by decide) rfl (fun g => rfl) (fun st w' hS hp K hK => ?_), doesN_want (by decide) rfl (fun g => rfl) (fun st w' hS hp K hK => ?_), doesN_want (by decide) rfl (fun g => rfl) (fun st w' hS hp K hK => ?_), doesN_want (by decide) rfl (fun g => rfl) (fun st w' hS hp K hK => ?_), doesN_want (by decide) rfl (fun g => rfl) (fun st w' hS hp K hK => ?_), doesN_want (by decide) rfl (fun g => rfl) (fun st w' hS hp K hK => ?_), doesN_want (by decide) rfl (fun g => rfl) (fun st w' hS hp K hK => ?_), doesN_want (by decide) rfl (fun g => rfl) (fun st w' hS hp K hK => ?_), doesN_want (by decide) rfl (fun g => rfl) (fun st w' hS hp K hK => ?_), doesN_want (by decide) rfl (fun g => rfl) (fun st w' hS hp K hK => ?_), doesN_want (by decide) rfl (fun g => rfl) (fun st w' hS hp K hK => ?_), doesN_want (by decide) rfl (fun g => rfl) (fun st w' hS hp K hK => ?_), doesC_want (by decide) rfl (fun g => rfl) (fun st w' hS hn hp K hK => ?_), trivial⟩, fun st w' hS hall => ?_⟩
                        · try dsimp only
                          exact wp_row_h hS 5 rfl rfl Try.underlying27 rfl (s27 _) (hK _ hS)
                        · try dsimp only
                          exact wp_row_h hS 4 rfl rfl Try.underlying27 rfl (s27 _) (hK _ hS)
                        · try dsimp only
                          go_simp
                          exact hK _ hS
                        · try dsimp only
                          go_simp
                          exact hK _ hS
                        · try dsimp only
                          exact wp_at_h Try.underlying43 sizeOf45 _ (hS.mem List.mem_cons_self) rfl (i) rfl rfl (by omega) rfl (hK _ hS)
                        · try dsimp only
                          refine wp_fld_h (f45_0 _) rfl ?_
                          rw [add_add']
                          exact hK _ hS
                        · try dsimp only
                          exact wp_ecell_h (cE w.heap.size SA Sc L2) (hS.mem List.mem_cons_self) (i * 2 + 0) (cc_at HX.out 0 _ rfl) rfl agg3 rfl (hK _ hS)
                        · try dsimp only
                          go_simp
                          exact hK _ hS
                        · try dsimp only
                          go_simp
                          exact hK _ hS
                        · try dsimp only
                          exact wp_at_h Try.underlying43 sizeOf45 _ (hS.mem List.mem_cons_self) rfl (i) rfl rfl (by omega) rfl (hK _ hS)
                        · try dsimp only
                          refine wp_fld_h (f45_1 _) rfl ?_
                          rw [add_add']
                          exact hK _ hS
                        · try dsimp only
                          exact wp_ecell_h (cE w.heap.size SA Sc L2) (hS.mem List.mem_cons_self) (i * 2 + 1) (cc_at HX.out 1 _ rfl) rfl agg3 rfl (hK _ hS)
                        · try dsimp only
                          go_simp
                          go_at_call 21
                          refine (ca _).mono ?_
                          rintro e w2 ⟨rfl, hb⟩
                          exact hK _ (hS.call hb)
                        · try dsimp only
                          go_simp
                          exact hK _ hS
                        · try dsimp only
                          go_simp
                          exact hK _ hS
                        · try dsimp only
                          go_simp
                          exact hK _ hS
                        · try dsimp only
                          rw [hn] at hS
                          exact wp_put_h hS 1 (M.mat 8 f2) rfl rfl rfl (s27 _) (M.mat_len2 _ _ _) (M.mat_one _ _) fun w1 O1 => hK _ _ O1
                        try dsimp only
                        have O3 : Held w w' [(g17, 27, M.mat 8 f1), (g18, 27, M.mat 8 f2), (g7, 27, M.mat 8 M.zero), (g6, 27, M.mat 8 M.zero), (g4, 27, M.mat 8 b), (g3, 27, M.mat 8 a)] nilRow [cE w.heap.size SA Sc L2, cE w.heap.size RA Rc L1, sE lo A c l] := by
                          have := hall 16 (by decide)
                          rwa [if_pos this] at hS
                        clear hS O
                        have O := O3
                        clear O3
                        try simp only [seen]
                        try generalize (st 16).getD undef = u16
                        clear hall
                        refine wpAny_done (by kernel_rfl) ?_ _
                        go_wp2_with fail
                        go_roundw
                        case rel => exact ⟨i + 1, f2, by omega, by go_num, .inr rfl, O⟩
                        case measure => simp [intOf]; omega
                · have q1 : ¬ (i : Int) < L2.length := by omega
                  obtain rfl : i = L2.length := by omega
                  obtain rfl : f2 = u := (E2.out _ HB.out).symm
                  clear HB
                  go_wp2_with fail
                  refine region_S (fun st w2 => Held w w2 [(g17, 27, M.mat 8 f1), (g18, 27, M.mat 8 f2), (g7, 27, M.mat 8 M.zero), (g6, 27, if (st 2).isSome then M.mat 8 f1 else M.mat 8 M.zero), (g4, 27, M.mat 8 b), (g3, 27, M.mat 8 a)] nilRow [cE w.heap.size SA Sc L2, cE w.heap.size RA Rc L1, sE lo A c l]) [2] 12 3 [some 172, some 173, none] (fun g => [arr 8 f1, arr 8 f2, g 2]) 2 (by kernel_rfl) (by kernel_rfl) (by rfl) (by rfl) (fun _ => rfl) (by decide) ?_ (O.drew) (fun F hF => ?_)
                  · intro i hi
                    simp only [List.mem_cons, List.not_mem_nil, or_false] at hi
                    rcases hi with rfl
                    · exact ⟨fun _ => rfl, [0, 1], by kernel_rfl, fun g v => ⟨rfl, rfl, trivial⟩⟩
                  simp only [fillD, Act.put, List.setIfInBounds_toArray, List.set_cons_zero, List.set_cons_succ] at hF
                  have hF2 := funext hF
                  clear hF
                  subst hF2
                  refine ⟨⟨doesN_want (by decide) rfl (fun g => rfl) (fun st w' hS hp K hK => ?_), doesN_want (by decide) rfl (fun g => rfl) (fun st w' hS hp K hK => ?_), doesC_want (by decide) rfl (fun g => rfl) (fun st w' hS hn hp K hK => ?_), trivial⟩, fun st w' hS hall => ?_⟩
                  · try dsimp only
                    exact wp_row_h hS 0 rfl rfl Try.underlying27 rfl (s27 _) (hK _ hS)
                  · try dsimp only
                    exact wp_row_h hS 1 rfl rfl Try.underlying27 rfl (s27 _) (hK _ hS)
                  · try dsimp only
                    rw [hn] at hS
                    exact wp_put_h hS 3 (M.mat 8 f1) rfl rfl rfl (s27 _) (M.mat_len2 _ _ _) (M.mat_one _ _) fun w1 O1 => hK _ _ O1
                  try dsimp only
                  have O3 : Held w w' [(g17, 27, M.mat 8 f1), (g18, 27, M.mat 8 f2), (g7, 27, M.mat 8 M.zero), (g6, 27, M.mat 8 f1), (g4, 27, M.mat 8 b), (g3, 27, M.mat 8 a)] nilRow [cE w.heap.size SA Sc L2, cE w.heap.size RA Rc L1, sE lo A c l] := by
                    have := hall 2 (by decide)
                    rwa [if_pos this] at hS
                  clear hS O
                  have O := O3
                  clear O3
                  try simp only [seen]
                  try generalize (st 2).getD undef = u2
                  clear hall
                  refine wpAny_want (i := 3) (by kernel_rfl) rfl (by rfl) (fun K hK => ?_)
                  refine wp_put_h O 2 (M.mat 8 f2) rfl rfl rfl (s27 _) (M.mat_len2 _ _ _) (M.mat_one _ _) fun w9 O9 => hK _ _ ?_
                  clear O
                  have O := O9
                  clear O9
                  clear hK K
                  try simp only [Act.put, List.setIfInBounds_toArray, List.set_cons_zero, List.set_cons_succ]
                  refine wpAny_one (i := 4) (by kernel_rfl) rfl (fun K hK => ?_)
                  go_simp
                  refine hK _ _ ?_
                  clear hK K
                  try simp only [Act.put, List.setIfInBounds_toArray, List.set_cons_zero, List.set_cons_succ]
                  refine wpAny_done (by kernel_rfl) ?_ _
                  go_wp2_with fail
                  exact bodyPost_ret (v := .tuple #[arr 8 f1, arr 8 f2, .bool true]) (res_h3 rfl O 3 2 rfl rfl rfl rfl Try.underlying27 rfl (s27 _) Try.underlying27 rfl (s27 _) rfl) rfl ⟨by rw [HE.out], O.below⟩
end Go.Proofs.Ytimfdimpifpclaa
