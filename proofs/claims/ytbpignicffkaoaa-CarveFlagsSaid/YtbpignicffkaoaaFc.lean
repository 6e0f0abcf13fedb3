/- Contracts: together, apart. -/
import Derived.Test.YtbpignicffkaoaaFa
import Derived.OwnWalk
namespace Go.Proofs.Ytbpignicffkaoaa
open Go.ChangeShapes Go.WideShapes Go.ChangeAt Go.RowKit
set_option linter.unusedVariables false
set_option linter.unusedSimpArgs false

set_option maxRecDepth 100000 in
set_option maxHeartbeats 8000000 in
theorem ptog_any (l : List (Nat → Int)) (e : List Bool) (hle : l.length = e.length) (h9 : l.length ≤ 200000) {lo lo2 : Nat} {A B : Option Addr} {c d : Nat} (w : World) (hL : Lies w free (vE lo A c l)) (hM : Lies w free (bE lo2 B d e)) :
    Calls Try.prog 18 #[.slice A l.length c, .slice B e.length d] w (RetCn w (l.zip e)) := by
  have O := Held.start w [bE lo2 B d e, vE lo A c l] (by
    intro x hx
    simp only [List.mem_cons, List.not_mem_nil, or_false] at hx
    rcases hx with rfl | rfl
    · exact hM
    · exact hL)
  clear hL hM
  have HLE := Lib.hid hle
  clear hle
  go_enter Try.func18, Try.ntmps18
  go_wp2_with fail
  go_loopw [5, 10] (fun u t wr => ∃ (k : Nat) (L : List C.PV) (RA : Option Addr) (Rc : Nat), k ≤ l.length ∧ t = .int .i64 k ∧ u = .slice RA L.length Rc ∧ (l.zip e).take k = L ∧ Held w wr [] (cnR RA Rc L) [bE lo2 B d e, vE lo A c l]) (fun _ t _ => l.length - (intOf t).toNat)
  case atStart => exact ⟨0, [], none, 0, Nat.zero_le _, rfl, rfl, rfl, O.fresh 52 9⟩
  case round =>
    clear O
    obtain ⟨k, L, RA, Rc, hk, rfl, rfl, hT, O⟩ := hrel
    have n1 : L.length ≤ 200000 := by rw [← hT, List.length_take, List.length_zip]; have := HLE.out; omega
    have HT := Lib.hid hT
    clear hT
    have q0 : (0 : Int) ≤ k := by omega
    by_cases hlt : k < l.length
    · have q1 : (k : Int) < l.length := by omega
      have q2 : k < e.length := by have := HLE.out; omega
      obtain ⟨x, hx⟩ : ∃ x, l[k]? = some x := ⟨_, List.getElem?_eq_getElem hlt⟩
      obtain ⟨y, hy⟩ : ∃ y, e[k]? = some y := ⟨_, List.getElem?_eq_getElem q2⟩
      have HZ := Lib.hid (show (l.zip e)[k]? = some (x, y) by rw [List.getElem?_zip_eq_some]; exact ⟨hx, hy⟩)
      have HX := Lib.hid hx
      have HY := Lib.hid hy
      clear hx hy
      go_wp2_with (first | ((with_reducible refine at_index_ 13 ?_); refine wpList_at_h rfl Try.underlying22 sizeOf27 _ (O.mem (List.mem_cons_of_mem _ List.mem_cons_self)) rfl (k) rfl rfl (by omega) rfl ?_) | ((with_reducible refine at_load 14 ?_); refine wpList_elem_h rfl _ (O.mem (List.mem_cons_of_mem _ List.mem_cons_self)) (k * 8) (M.mat 8 (x)) (vC_at HX.out) (by rw [M.mat_len]; decide) rfl Try.underlying39 rfl (s27 _) ?_) | ((with_reducible refine at_alloc 7 ?_); refine wpList_alloc_h O (M.mat 8 M.zero) zero27 ?_; clear O; intro g7 v1 O) | ((with_reducible refine at_store 7 ?_); refine wpList_put_h O 0 (M.mat 8 (x)) rfl rfl rfl (s27 _) (M.mat_len2 _ _ _) (M.mat_one _ _) ?_; clear O; intro v2 O))
      refine region_S (fun st w2 => LaS w [(g7, 39, M.mat 8 x)] (cnR RA Rc L) 1 (cnC [(x, y)]) [bE lo2 B d e, vE lo A c l] (st 7) (st 8) w2) [7, 8] 12 9 [some 15, some 16, some 17, some 18, some 19, some 20, some 21, some 22, some 23] (fun g => [.slice RA L.length Rc, arr 8 x, .slice B e.length d, .int .i64 k, .pointer (some ((adr B).add k)), .bool y, .agg (cn (x, y)).toArray, g 7, g 8]) 1 (by kernel_rfl) (by kernel_rfl) (by rfl) (by rfl) (fun _ => rfl) (by decide) ?_ (LaS.start O.drew) (fun F hF => ?_)
      · intro i hi
        simp only [List.mem_cons, List.not_mem_nil, or_false] at hi
        rcases hi with rfl | rfl
        · exact ⟨fun _ => rfl, [0, 1, 2, 3, 4, 5, 6, 8], by kernel_rfl, fun g v => ⟨rfl, rfl, rfl, rfl, rfl, rfl, rfl, rfl, trivial⟩⟩
        · exact ⟨fun _ => rfl, [0, 1, 2, 3, 4, 5, 6, 7], by kernel_rfl, fun g v => ⟨rfl, rfl, rfl, rfl, rfl, rfl, rfl, rfl, trivial⟩⟩
      simp only [fillD, Act.put, List.setIfInBounds_toArray, List.set_cons_zero, List.set_cons_succ] at hF
      have hF2 := funext hF
      clear hF
      subst hF2
      refine ⟨⟨doesN_want (by decide) rfl (fun g => rfl) (fun st w' hS hp K hK => ?_), doesN_want (by decide) rfl (fun g => rfl) (fun st w' hS hp K hK => ?_), doesN_want (by decide) rfl (fun g => rfl) (fun st w' hS hp K hK => ?_), doesN_want (by decide) rfl (fun g => rfl) (fun st w' hS hp K hK => ?_), doesN_want (by decide) rfl (fun g => rfl) (fun st w' hS hp K hK => ?_), doesN_want (by decide) rfl (fun g => rfl) (fun st w' hS hp K hK => ?_), doesN_want (by decide) rfl (fun g => rfl) (fun st w' hS hp K hK => ?_), doesC_want (by decide) rfl (fun g => rfl) (fun st w' hS hn hp K hK => ?_), doesC_want (by decide) rfl (fun g => rfl) (fun st w' hS hn hp K hK => ?_), trivial⟩, fun st w' hS hall => ?_⟩
      · try dsimp only
        go_simp
        exact hK _ hS
      · try dsimp only
        obtain ⟨R, O⟩ := hS.held
        exact wp_row_h O 0 rfl rfl Try.underlying39 rfl (s27 _) (hK _ hS)
      · try dsimp only
        go_simp
        exact hK _ hS
      · try dsimp only
        go_simp
        exact hK _ hS
      · try dsimp only
        obtain ⟨R, O⟩ := hS.held
        refine wp_at_h Try.underlying23 sizeOf4 _ (O.mem List.mem_cons_self) rfl (k) rfl rfl (by omega) rfl ?_
        try rw [Nat.mul_one]
        exact hK _ hS
      · try dsimp only
        obtain ⟨R, O⟩ := hS.held
        exact wp_ecell_h _ (O.mem List.mem_cons_self) (k) (bC_at HY.out) rfl agg4 rfl (hK _ hS)
      · try dsimp only
        obtain ⟨R, O⟩ := hS.held
        refine wp_build_own ([(0, arr 8 x), (1, .bool y)]) ((cn (x, y)).toArray) ?_ (built52 x y) (hK _ hS)
        simp only [List.map_toArray, List.map_cons, List.map_nil]
        rfl
      · try dsimp only
        rw [hn] at hS
        exact hS.lit (.agg (cn C.zero).toArray) info52 Try.underlying43 ([(0, .agg (cn ((x, y))).toArray)]) rfl (cnC_len _) (by decide : 0 < 1 * 9) (by decide : 1 * 9 ≤ 1000) (by kernel_rfl) hK
      · try dsimp only
        rw [hn] at hS
        exact hS.app (hp 7 (by decide) (by kernel_rfl)) (.agg (cn C.zero).toArray) 72 info52b rfl (Nat.succ_pos _) Try.underlying43 rfl rfl (cnC_one _) (by dsimp only [cnR]; omega) (by decide) hK
      try dsimp only
      obtain ⟨v7, NA, Nc, e7, e8, O3⟩ := hS.done (hall 7 (by decide)) (hall 8 (by decide))
      clear hS O
      have e9 : st 8 = some (.slice NA (L.length + 1) Nc) := e8
      have O : Held w w' [(g7, 39, M.mat 8 x)] (cnR NA Nc (L ++ [(x, y)])) [bE lo2 B d e, vE lo A c l] := by
        unfold cnR
        rw [cnC_app, List.length_append]
        exact O3
      clear O3 e8
      simp only [seen, e7, e9, Option.getD_some]
      clear hall e7 e9
      refine wpAny_one (i := 9) (by kernel_rfl) rfl (fun K hK => ?_)
      go_simp
      refine hK _ _ ?_
      clear hK K
      try simp only [Act.put, List.setIfInBounds_toArray, List.set_cons_zero, List.set_cons_succ]
      refine wpAny_done (by kernel_rfl) ?_ _
      have O2 := O.tail
      clear O
      go_wp2_with fail
      go_roundw
      case rel => exact ⟨k + 1, L ++ [(x, y)], NA, Nc, by omega, by go_num, by simp, by rw [List.take_add_one, HZ.out, HT.out]; rfl, O2⟩
      case measure => simp [intOf]; omega
    · have q1 : ¬ (k : Int) < l.length := by omega
      obtain rfl : k = l.length := by omega
      have hT := HT.out
      rw [List.take_of_length_le (by rw [List.length_zip]; have := HLE.out; omega)] at hT
      have HE := Lib.hid hT
      clear hT
      go_wp2_with fail
      go_ret
      rw [HE.out]
      exact retCn_done O
theorem vs_end (l : List C.PV) (x : C.PV) : C.vs (l ++ [x]) = C.vs l ++ [x.1] := by simp [C.vs]
theorem fs_end (l : List C.PV) (x : C.PV) : C.fs (l ++ [x]) = C.fs l ++ [x.2] := by simp [C.fs]
theorem vs_len (l : List C.PV) : (C.vs l).length = l.length := by simp [C.vs]
theorem fs_len (l : List C.PV) : (C.fs l).length = l.length := by simp [C.fs]
set_option maxRecDepth 100000 in
set_option maxHeartbeats 8000000 in
theorem papart_any (l : List C.PV) (h9 : l.length ≤ 400000) {lo : Nat} {A : Option Addr} {c : Nat} (w : World) (hL : Lies w free (cnE lo A c l)) :
    Calls Try.prog 20 #[.slice A l.length c] w (RetVF w (C.vs l) (C.fs l)) := by
  have O := Held.start w [cnE lo A c l] (by simpa using hL)
  clear hL
  go_enter Try.func20, Try.ntmps20
  go_wp2_with fail
  go_loopw [4, 5, 10] (fun u v t wr => ∃ (k : Nat) (L : List (Nat → Int)) (N : List Bool) (RA : Option Addr) (Rc : Nat) (SA : Option Addr) (Sc : Nat) (X : List (Nat × TypeId × List Value)), k ≤ l.length ∧ t = .int .i64 k ∧ u = .slice RA L.length Rc ∧ v = .slice SA N.length Sc ∧ C.vs (l.take k) = L ∧ C.fs (l.take k) = N ∧ Rest X (bR SA Sc N) ∧ Held w wr ([] ++ X) (vR RA Rc L) [cnE lo A c l]) (fun _ _ t _ => l.length - (intOf t).toNat)
  case atStart => exact ⟨0, [], [], none, 0, none, 0, [], Nat.zero_le _, rfl, rfl, rfl, rfl, rfl, Rest.nil 4 1, O.fresh 39 8⟩
  case round =>
    clear O
    obtain ⟨k, L, N, RA, Rc, SA, Sc, X, hk, rfl, rfl, rfl, hL1, hM1, hX, O⟩ := hrel
    have n1 : L.length ≤ 400000 := by rw [← hL1, vs_len, List.length_take]; omega
    have n2 : N.length ≤ 400000 := by rw [← hM1, fs_len, List.length_take]; omega
    have HL1 := Lib.hid hL1
    have HM1 := Lib.hid hM1
    have HX := Lib.hid hX
    clear hL1 hM1 hX
    have q0 : (0 : Int) ≤ k := by omega
    by_cases hlt : k < l.length
    · have q1 : (k : Int) < l.length := by omega
      obtain ⟨x, hx⟩ : ∃ x, l[k]? = some x := ⟨_, List.getElem?_eq_getElem hlt⟩
      have HS := Lib.hid hx
      have HT : l.take (k + 1) = l.take k ++ [x] := by rw [List.take_add_one, hx]; rfl
      have HU := Lib.hid HT
      clear hx HT
      go_wp2_with (first | ((with_reducible refine at_index_ 12 ?_); refine wpList_at_h rfl Try.underlying43 sizeOf52 _ (O.mem List.mem_cons_self) rfl (k) rfl rfl (by omega) rfl ?_) | ((with_reducible refine at_load 13 ?_); refine wpList_elem_h rfl _ (O.mem List.mem_cons_self) (k * 9) (cn (x)) (cnC_at HS.out) (by rw [cn_len]; decide) rfl Try.underlying52 rfl (s52 _) ?_) | ((with_reducible refine at_alloc 7 ?_); refine wpList_alloc_h O (cn C.zero) zero52 ?_; clear O; intro g7 v1 O) | ((with_reducible refine at_store 7 ?_); refine wpList_put_h O 0 (cn (x)) rfl rfl rfl (s52 _) (cn_len2 _ _) (cn_one _) ?_; clear O; intro v2 O) | ((with_reducible refine at_load 16 ?_); refine wpList_mid_h rfl O 0 rfl (M.mat 8 (x).1) (cn_mid _) rfl Try.underlying39 rfl (s27 _) ?_) | ((with_reducible refine at_lit 17 ?_); refine wpList_lit_h rfl O 8 (.agg (M.mat 8 M.zero).toArray) info27 Try.underlying22 ([(0, .agg (M.mat 8 (x.1)).toArray)]) (vC [x.1]) rfl (vC_len _) (by decide) (by decide) (by kernel_rfl) ?_; clear O; intro gl u5 O) | ((with_reducible refine at_app 18 ?_); refine wpList_app_big rfl O (.agg (M.mat 8 M.zero).toArray) 64 info27b rfl (Nat.succ_pos _) Try.underlying22 rfl _ (O.mem List.mem_cons_self) rfl rfl (vC_one _) (by dsimp only [vR]; omega) (by decide) ?_; clear O; intro va u6 O; obtain ⟨TA, Tc, e1, O2⟩ := vR_of (O.pick (es' := [cnE lo A c l]) (fun y hy => List.mem_cons_of_mem _ hy)); subst e1; clear O; obtain ⟨Y, hY, O⟩ := Held.swapB (bs := [(g7, 52, cn x)]) (X := X) O2 HX.out; clear O2; have HY := Lib.hid hY; clear hY) | ((with_reducible refine at_load 21 ?_); refine wpList_cell_h (v := .bool (x).2) rfl O 0 (i := 8) rfl (cn_flag _) rfl agg4 rfl ?_) | ((with_reducible refine at_lit 22 ?_); refine wpList_lit_h rfl O 1 (.bool false) info4 Try.underlying23 ([(0, .bool x.2)]) (bC [x.2]) rfl (bC_len _) (by decide) (by decide) (by kernel_rfl) ?_; clear O; intro gl u5 O) | ((with_reducible refine at_app 23 ?_); refine wpList_app_big rfl O (.bool false) 1 info4b rfl (Nat.succ_pos _) Try.underlying23 rfl _ (O.mem List.mem_cons_self) rfl rfl (bC_one _) (by dsimp only [bR]; omega) (by decide) ?_; clear O; intro va u8 O; obtain ⟨UA, Uc, e1, O2⟩ := bR_of (O.pick (es' := [cnE lo A c l]) (fun y hy => List.mem_cons_of_mem _ hy)); subst e1; clear O; obtain ⟨Z, hZ, O⟩ := Held.swapB (bs := [(g7, 52, cn x)]) (X := Y) O2 HY.out; clear O2; have HZ := Lib.hid hZ; clear hZ))
      have O2 : Held w u8 ([] ++ Z) (vR TA Tc (L ++ [x.1])) [cnE lo A c l] := Held.tail O
      clear O
      go_roundw
      case rel => first | exact ⟨k + 1, L ++ [x.1], N ++ [x.2], TA, Tc, UA, Uc, Z, by omega, by go_num, by simp, by simp, by rw [HU.out, vs_end, HL1.out], by rw [HU.out, fs_end, HM1.out], HZ.out, O2⟩ | ((repeat apply Exists.intro); exact ⟨⟨k + 1, L ++ [x.1], N ++ [x.2], TA, Tc, UA, Uc, Z, by omega, by go_num, by simp, by simp, by rw [HU.out, vs_end, HL1.out], by rw [HU.out, fs_end, HM1.out], HZ.out, O2⟩, rfl⟩)
      case measure => simp [intOf]; omega
    · have q1 : ¬ (k : Int) < l.length := by omega
      obtain rfl : k = l.length := by omega
      have h1 := HL1.out
      have h2 := HM1.out
      rw [List.take_of_length_le (Nat.le_refl _)] at h1 h2
      have HE1 := Lib.hid h1
      have HE2 := Lib.hid h2
      clear h1 h2
      go_wp2_with fail
      go_ret2
      rw [HE1.out, HE2.out]
      exact retVF_done O HX.out
end Go.Proofs.Ytbpignicffkaoaa
