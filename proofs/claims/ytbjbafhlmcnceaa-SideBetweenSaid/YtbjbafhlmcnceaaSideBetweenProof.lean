/-
  For every two vertices and two numbers the law SideBetween returns true: what stands on the way is between its ends, at which it begins and ends, and the other way round the same stands there. No condition.
-/
import Derived.Test.YtbjbafhlmcnceaaRow
import Derived.Test.YtbjbafhlmcnceaaNb
import Derived.Test.YtbjbafhlmcnceaaOpen8
import Derived.Test.YtbjbafhlmcnceaaW9
import Derived.Deep.DeepCutAuto
namespace Go.Proofs.Ytbjbafhlmcnceaa.sideBetween
open Go.ChangeShapes Go.WideShapes Go.ChangeAt Go.RowKit
set_option linter.unusedVariables false
set_option linter.unusedSimpArgs false

theorem own : ownKnob Try.prog.godebug = none := by kernel_rfl

set_option maxRecDepth 100000 in
set_option maxHeartbeats 16000000 in
theorem walk (w : World) (a b t : Nat → Int) (ht : ∀ i, i < 2 → -9223372036854775808 ≤ t i ∧ t i < 9223372036854775808) :
    Calls Try.prog 6 #[arr 8 a, arr 8 b, arr 2 t] w fun e w' => e = .returned (.bool true) ∧ Below w.heap.size w w' := by
  have O := Own.start w
  obtain ⟨n, hn⟩ : ∃ n, t 0 = n := ⟨_, rfl⟩
  obtain ⟨d, hd⟩ : ∃ d, t 1 = d := ⟨_, rfl⟩
  have r0 := ht 0 (by omega)
  have r1 := ht 1 (by omega)
  rw [hn] at r0
  rw [hd] at r1
  have HN := Lib.hid hn
  have HD := Lib.hid hd
  clear hn hd ht
  cases h : D.okAt a b n d
  · have ca := fun w => at_no a b n d h w
    rw [D.at_no h] at ca
    unfold RetAt at ca
    dsimp only at ca
    clear h
    go_enter Try.func6, Try.ntmps6
    go_wp2_with (first | ((with_reducible refine at_box 3 ?_); refine wpList_box_own O (M.mat 8 (a)) rfl ?_; clear O; intro g3 w1 O) | ((with_reducible refine at_box 4 ?_); refine wpList_box_own O (M.mat 8 (b)) rfl ?_; clear O; intro g4 w2 O) | ((with_reducible refine at_box 5 ?_); refine wpList_box_own O (M.mat 2 (t)) rfl ?_; clear O; intro g5 w3 O))
    refine region_T ((fun w2 => Own w w2 [(g5, 38, M.mat 2 t), (g4, 27, M.mat 8 b), (g3, 27, M.mat 8 a)])) [0, 1, 2, 3, 4] 12 [some 21, some 22, some 23, some 24, some 7] [.pointer (some ⟨g5, 0, none⟩), .int .i64 n, .pointer (some ⟨g5, 1, none⟩), .int .i64 d, .int .i64 n] 1 (by kernel_rfl) (by rfl) (by kernel_rfl) (by rfl) (by rfl) (O.drew) (fun F hF => ?_)
    simp only [fillD, Act.put, List.setIfInBounds_toArray, List.set_cons_zero, List.set_cons_succ] at hF
    subst hF
    refine ⟨⟨does_want rfl (by rfl) (fun w' O K hK => ?_), does_want rfl (by rfl) (fun w' O K hK => ?_), does_want rfl (by rfl) (fun w' O K hK => ?_), does_want rfl (by rfl) (fun w' O K hK => ?_), does_want rfl (by rfl) (fun w' O K hK => ?_), trivial⟩, fun w' O => ?_⟩
    · go_simp
      exact hK _ O
    · exact wp_cell_h (v := .int .i64 n) O.held 0 rfl (by rw [← HN.out]; exact M.mat_get (by omega)) rfl agg3 rfl (hK _ O)
    · go_simp
      exact hK _ O
    · exact wp_cell_h (v := .int .i64 d) O.held 0 rfl (by rw [← HD.out]; exact M.mat_get (by omega)) rfl agg3 rfl (hK _ O)
    · go_simp
      exact hK _ O
    refine wpAny_one (i := 5) (by kernel_rfl) rfl (fun K hK => ?_)
    go_simp
    refine hK _ _ ?_
    clear hK K
    try simp only [Act.put, List.setIfInBounds_toArray, List.set_cons_zero, List.set_cons_succ]
    refine wpAny_done (by kernel_rfl) ?_ _
    go_wp2_with (first | ((with_reducible refine at_load 26 ?_); refine wpList_whole rfl O 2 rfl rfl Try.underlying27 rfl (s27 _) ?_) | ((with_reducible refine at_load 27 ?_); refine wpList_whole rfl O 1 rfl rfl Try.underlying27 rfl (s27 _) ?_) | (go_at_call 17; refine (ca _).mono ?_; rintro e w4 ⟨rfl, hb⟩; replace O := O.call hb; clear hb) | ((with_reducible refine at_alloc 9 ?_); refine wpList_alloc_own O (M.mat 8 M.zero) zero27 ?_; clear O; intro g9 w5 O) | ((with_reducible refine at_store 9 ?_); refine wpList_put_own O 0 (M.mat 8 (M.zero)) rfl rfl rfl (s27 _) (M.mat_len2 _ _ _) (M.mat_one _ _) ?_; clear O; intro w6 O) | (go_at_call 12; refine (awake_any _).mono ?_; rintro e w7 ⟨rfl, hb⟩; replace O := O.call hb; clear hb) | ((with_reducible refine at_load 37 ?_); refine wpList_whole rfl O 0 rfl rfl Try.underlying27 rfl (s27 _) ?_) | ((with_reducible refine at_build 38 ?_); refine wpList_build_g rfl ([]) ((M.mat 8 M.zero).toArray) ?_ (built27z) ?_; (focus (simp only [List.map_toArray, List.map_cons, List.map_nil]; rfl))) | ((with_reducible refine at_binOp 39 ?_); refine wpList_eq27 rfl (M.zero) (M.zero) rfl rfl ?_; rw [M.eqB_refl]))
    go_ret
    exact ⟨rfl, O.below⟩
  obtain ⟨fa, fb, d1, n0, nd⟩ := D.okAt_iff.1 h
  have ca := fun w => at_is h r1.2 _ rfl w
  have cp := fun w => at_is (D.okAt_iff.2 ⟨fa, fb, d1, Int.le_refl 0, by omega⟩) r1.2 a (way_begin d1) w
  have cq := fun w => at_is (D.okAt_iff.2 ⟨fa, fb, d1, by omega, Int.le_refl d⟩) r1.2 b (way_end d1) w
  have cw := fun w => at_is (a := b) (b := a) (n := d - n) (D.okAt_iff.2 ⟨fb, fa, d1, by omega, by omega⟩) r1.2 _ (way_back a b n d) w
  have WM := Lib.hid (fun i => D.wt_mid (a := a i) (b := b i) (n := n) (d := d) ⟨n0, nd⟩ d1)
  obtain ⟨v, hv⟩ : ∃ v, D.way a b n d = v := ⟨_, rfl⟩
  obtain ⟨r2, r3⟩ := r1
  rw [hv] at ca cw
  replace WM : Hid (∀ i, min (a i) (b i) ≤ v i ∧ v i ≤ max (a i) (b i)) := Lib.hid (fun i => by rw [← hv]; exact WM.out i)
  clear h hv fa fb
  go_enter Try.func6, Try.ntmps6
  go_wp2_with (first | ((with_reducible refine at_box 3 ?_); refine wpList_box_own O (M.mat 8 (a)) rfl ?_; clear O; intro g3 w1 O) | ((with_reducible refine at_box 4 ?_); refine wpList_box_own O (M.mat 8 (b)) rfl ?_; clear O; intro g4 w2 O) | ((with_reducible refine at_box 5 ?_); refine wpList_box_own O (M.mat 2 (t)) rfl ?_; clear O; intro g5 w3 O))
  refine region_T ((fun w2 => Own w w2 [(g5, 38, M.mat 2 t), (g4, 27, M.mat 8 b), (g3, 27, M.mat 8 a)])) [0, 1, 2, 3, 4] 12 [some 21, some 22, some 23, some 24, some 7] [.pointer (some ⟨g5, 0, none⟩), .int .i64 n, .pointer (some ⟨g5, 1, none⟩), .int .i64 d, .int .i64 n] 1 (by kernel_rfl) (by rfl) (by kernel_rfl) (by rfl) (by rfl) (O.drew) (fun F hF => ?_)
  simp only [fillD, Act.put, List.setIfInBounds_toArray, List.set_cons_zero, List.set_cons_succ] at hF
  subst hF
  refine ⟨⟨does_want rfl (by rfl) (fun w' O K hK => ?_), does_want rfl (by rfl) (fun w' O K hK => ?_), does_want rfl (by rfl) (fun w' O K hK => ?_), does_want rfl (by rfl) (fun w' O K hK => ?_), does_want rfl (by rfl) (fun w' O K hK => ?_), trivial⟩, fun w' O => ?_⟩
  · go_simp
    exact hK _ O
  · exact wp_cell_h (v := .int .i64 n) O.held 0 rfl (by rw [← HN.out]; exact M.mat_get (by omega)) rfl agg3 rfl (hK _ O)
  · go_simp
    exact hK _ O
  · exact wp_cell_h (v := .int .i64 d) O.held 0 rfl (by rw [← HD.out]; exact M.mat_get (by omega)) rfl agg3 rfl (hK _ O)
  · go_simp
    exact hK _ O
  refine wpAny_one (i := 5) (by kernel_rfl) rfl (fun K hK => ?_)
  go_simp
  refine hK _ _ ?_
  clear hK K
  try simp only [Act.put, List.setIfInBounds_toArray, List.set_cons_zero, List.set_cons_succ]
  refine wpAny_done (by kernel_rfl) ?_ _
  have tok : True := trivial
  go_wp2_with (first | ((with_reducible refine at_load 26 ?_); refine wpList_whole rfl O 2 rfl rfl Try.underlying27 rfl (s27 _) ?_) | ((with_reducible refine at_load 27 ?_); refine wpList_whole rfl O 1 rfl rfl Try.underlying27 rfl (s27 _) ?_) | (go_at_call 17; clear tok4; refine (cw _).mono ?_; rintro e w13 ⟨rfl, hb⟩; replace O := O.call hb; clear hb cw) | (go_at_call 17; clear tok; have tok2 : True := trivial; refine (ca _).mono ?_; rintro e w4 ⟨rfl, hb⟩; replace O := O.call hb; clear hb ca) | (go_at_call 17; clear tok2; have tok3 : True := trivial; refine (cp _).mono ?_; rintro e w7 ⟨rfl, hb⟩; replace O := O.call hb; clear hb cp) | (go_at_call 17; clear tok3; have tok4 : True := trivial; refine (cq _).mono ?_; rintro e w10 ⟨rfl, hb⟩; replace O := O.call hb; clear hb cq) | ((with_reducible refine at_alloc 9 ?_); refine wpList_alloc_own O (M.mat 8 M.zero) zero27 ?_; clear O; intro g9 w5 O) | ((with_reducible refine at_store 9 ?_); refine wpList_put_own O 0 (M.mat 8 (v)) rfl rfl rfl (s27 _) (M.mat_len2 _ _ _) (M.mat_one _ _) ?_; clear O; intro w6 O) | ((with_reducible refine at_load 42 ?_); refine wpList_whole rfl O 3 rfl rfl Try.underlying27 rfl (s27 _) ?_) | ((with_reducible refine at_load 43 ?_); refine wpList_whole rfl O 2 rfl rfl Try.underlying27 rfl (s27 _) ?_) | ((with_reducible refine at_alloc 11 ?_); refine wpList_alloc_own O (M.mat 8 M.zero) zero27 ?_; clear O; intro g11 w8 O) | ((with_reducible refine at_store 11 ?_); refine wpList_put_own O 0 (M.mat 8 (a)) rfl rfl rfl (s27 _) (M.mat_len2 _ _ _) (M.mat_one _ _) ?_; clear O; intro w9 O) | ((with_reducible refine at_load 49 ?_); refine wpList_whole rfl O 4 rfl rfl Try.underlying27 rfl (s27 _) ?_) | ((with_reducible refine at_load 50 ?_); refine wpList_whole rfl O 3 rfl rfl Try.underlying27 rfl (s27 _) ?_) | ((with_reducible refine at_alloc 13 ?_); refine wpList_alloc_own O (M.mat 8 M.zero) zero27 ?_; clear O; intro g13 w11 O) | ((with_reducible refine at_store 13 ?_); refine wpList_put_own O 0 (M.mat 8 (b)) rfl rfl rfl (s27 _) (M.mat_len2 _ _ _) (M.mat_one _ _) ?_; clear O; intro w12 O) | ((with_reducible refine at_load 57 ?_); refine wpList_whole rfl O 4 rfl rfl Try.underlying27 rfl (s27 _) ?_) | ((with_reducible refine at_load 58 ?_); refine wpList_whole rfl O 5 rfl rfl Try.underlying27 rfl (s27 _) ?_) | ((with_reducible refine at_alloc 15 ?_); refine wpList_alloc_own O (M.mat 8 M.zero) zero27 ?_; clear O; intro g15 w14 O) | ((with_reducible refine at_store 15 ?_); refine wpList_put_own O 0 (M.mat 8 (v)) rfl rfl rfl (s27 _) (M.mat_len2 _ _ _) (M.mat_one _ _) ?_; clear O; intro w15 O) | ((with_reducible refine at_load 77 ?_); refine wpList_whole rfl O 2 rfl rfl Try.underlying27 rfl (s27 _) ?_) | ((with_reducible refine at_load 78 ?_); refine wpList_whole rfl O 6 rfl rfl Try.underlying27 rfl (s27 _) ?_) | ((with_reducible refine at_binOp 79 ?_); refine wpList_neq27 rfl (a) (a) rfl rfl ?_; rw [M.eqB_refl]) | ((with_reducible refine at_load 82 ?_); refine wpList_whole rfl O 1 rfl rfl Try.underlying27 rfl (s27 _) ?_) | ((with_reducible refine at_load 83 ?_); refine wpList_whole rfl O 5 rfl rfl Try.underlying27 rfl (s27 _) ?_) | ((with_reducible refine at_binOp 84 ?_); refine wpList_neq27 rfl (b) (b) rfl rfl ?_; rw [M.eqB_refl]) | ((with_reducible refine at_load 87 ?_); refine wpList_whole rfl O 0 rfl rfl Try.underlying27 rfl (s27 _) ?_) | ((with_reducible refine at_load 88 ?_); refine wpList_whole rfl O 3 rfl rfl Try.underlying27 rfl (s27 _) ?_) | ((with_reducible refine at_binOp 89 ?_); refine wpList_neq27 rfl (v) (v) rfl rfl ?_; rw [M.eqB_refl]))
  refine region_S (fun st w2 => Nb w [(g15, 27, M.mat 8 v), (g13, 27, M.mat 8 b), (g11, 27, M.mat 8 a), (g9, 27, M.mat 8 v), (g5, 38, M.mat 2 t), (g4, 27, M.mat 8 b), (g3, 27, M.mat 8 a)] (M.mat 4 a) (M.mat 4 v) (st 27) (st 28) (st 29) (st 30) (st 31) w2) [27, 28, 29, 30, 31] 12 32 [some 91, some 92, some 93, some 94, some 95, some 96, some 97, some 98, some 99, some 100, some 101, some 102, some 103, some 104, some 105, some 106, some 107, some 108, some 109, some 110, some 111, some 112, some 113, some 114, some 115, some 116, some 117, some 17, some 18, some 19, none, none] (fun g => [.pointer (some ⟨g3, 0, none⟩), .int .i64 (a 0), .pointer (some ⟨g3, 1, none⟩), .int .i64 (a 1), .pointer (some ⟨g3, 2, none⟩), .int .i64 (a 2), .pointer (some ⟨g3, 3, none⟩), .int .i64 (a 3), arr 4 a, .pointer (some ⟨g9, 0, none⟩), .int .i64 (v 0), .pointer (some ⟨g9, 1, none⟩), .int .i64 (v 1), .pointer (some ⟨g9, 2, none⟩), .int .i64 (v 2), .pointer (some ⟨g9, 3, none⟩), .int .i64 (v 3), arr 4 v, .pointer (some ⟨g4, 0, none⟩), .int .i64 (b 0), .pointer (some ⟨g4, 1, none⟩), .int .i64 (b 1), .pointer (some ⟨g4, 2, none⟩), .int .i64 (b 2), .pointer (some ⟨g4, 3, none⟩), .int .i64 (b 3), arr 4 b, g 27, g 28, g 29, g 30, g 31]) 1 (by kernel_rfl) (by kernel_rfl) (by rfl) (by rfl) (fun _ => rfl) (by decide) ?_ (Nb.start O.drew) (fun F hF => ?_)
  · intro i hi
    simp only [List.mem_cons, List.not_mem_nil, or_false] at hi
    rcases hi with rfl | rfl | rfl | rfl | rfl
    · exact ⟨fun _ => rfl, [0, 1, 2, 3, 4, 5, 6, 7, 8, 9, 10, 11, 12, 13, 14, 15, 16, 17, 18, 19, 20, 21, 22, 23, 24, 25, 26, 28, 29, 30, 31], by kernel_rfl, fun g v => ⟨rfl, rfl, rfl, rfl, rfl, rfl, rfl, rfl, rfl, rfl, rfl, rfl, rfl, rfl, rfl, rfl, rfl, rfl, rfl, rfl, rfl, rfl, rfl, rfl, rfl, rfl, rfl, rfl, rfl, rfl, rfl, trivial⟩⟩
    · exact ⟨fun _ => rfl, [0, 1, 2, 3, 4, 5, 6, 7, 8, 9, 10, 11, 12, 13, 14, 15, 16, 17, 18, 19, 20, 21, 22, 23, 24, 25, 26, 27, 29, 30, 31], by kernel_rfl, fun g v => ⟨rfl, rfl, rfl, rfl, rfl, rfl, rfl, rfl, rfl, rfl, rfl, rfl, rfl, rfl, rfl, rfl, rfl, rfl, rfl, rfl, rfl, rfl, rfl, rfl, rfl, rfl, rfl, rfl, rfl, rfl, rfl, trivial⟩⟩
    · exact ⟨fun _ => rfl, [0, 1, 2, 3, 4, 5, 6, 7, 8, 9, 10, 11, 12, 13, 14, 15, 16, 17, 18, 19, 20, 21, 22, 23, 24, 25, 26, 27, 28, 30, 31], by kernel_rfl, fun g v => ⟨rfl, rfl, rfl, rfl, rfl, rfl, rfl, rfl, rfl, rfl, rfl, rfl, rfl, rfl, rfl, rfl, rfl, rfl, rfl, rfl, rfl, rfl, rfl, rfl, rfl, rfl, rfl, rfl, rfl, rfl, rfl, trivial⟩⟩
    · exact ⟨fun _ => rfl, [0, 1, 2, 3, 4, 5, 6, 7, 8, 9, 10, 11, 12, 13, 14, 15, 16, 17, 18, 19, 20, 21, 22, 23, 24, 25, 26, 27, 28, 29, 31], by kernel_rfl, fun g v => ⟨rfl, rfl, rfl, rfl, rfl, rfl, rfl, rfl, rfl, rfl, rfl, rfl, rfl, rfl, rfl, rfl, rfl, rfl, rfl, rfl, rfl, rfl, rfl, rfl, rfl, rfl, rfl, rfl, rfl, rfl, rfl, trivial⟩⟩
    · exact ⟨fun _ => rfl, [0, 1, 2, 3, 4, 5, 6, 7, 8, 9, 10, 11, 12, 13, 14, 15, 16, 17, 18, 19, 20, 21, 22, 23, 24, 25, 26, 27, 28, 29, 30], by kernel_rfl, fun g v => ⟨rfl, rfl, rfl, rfl, rfl, rfl, rfl, rfl, rfl, rfl, rfl, rfl, rfl, rfl, rfl, rfl, rfl, rfl, rfl, rfl, rfl, rfl, rfl, rfl, rfl, rfl, rfl, rfl, rfl, rfl, rfl, trivial⟩⟩
  simp only [fillD, Act.put, List.setIfInBounds_toArray, List.set_cons_zero, List.set_cons_succ] at hF
  have hF2 := funext hF
  clear hF
  subst hF2
  refine ⟨⟨doesN_want (by decide) rfl (fun g => rfl) (fun st w' hS hp K hK => ?_), doesN_want (by decide) rfl (fun g => rfl) (fun st w' hS hp K hK => ?_), doesN_want (by decide) rfl (fun g => rfl) (fun st w' hS hp K hK => ?_), doesN_want (by decide) rfl (fun g => rfl) (fun st w' hS hp K hK => ?_), doesN_want (by decide) rfl (fun g => rfl) (fun st w' hS hp K hK => ?_), doesN_want (by decide) rfl (fun g => rfl) (fun st w' hS hp K hK => ?_), doesN_want (by decide) rfl (fun g => rfl) (fun st w' hS hp K hK => ?_), doesN_want (by decide) rfl (fun g => rfl) (fun st w' hS hp K hK => ?_), doesN_want (by decide) rfl (fun g => rfl) (fun st w' hS hp K hK => ?_), doesN_want (by decide) rfl (fun g => rfl) (fun st w' hS hp K hK => ?_), doesN_want (by decide) rfl (fun g => rfl) (fun st w' hS hp K hK => ?_), doesN_want (by decide) rfl (fun g => rfl) (fun st w' hS hp K hK => ?_), doesN_want (by decide) rfl (fun g => rfl) (fun st w' hS hp K hK => ?_), doesN_want (by decide) rfl (fun g => rfl) (fun st w' hS hp K hK => ?_), doesN_want (by decide) rfl (fun g => rfl) (fun st w' hS hp K hK => ?_), doesN_want (by decide) rfl (fun g => rfl) (fun st w' hS hp K hK => ?_), doesN_want (by decide) rfl (fun g => rfl) (fun st w' hS hp K hK => ?_), doesN_want (by decide) rfl (fun g => rfl) (fun st w' hS hp K hK => ?_), doesN_want (by decide) rfl (fun g => rfl) (fun st w' hS hp K hK => ?_), doesN_want (by decide) rfl (fun g => rfl) (fun st w' hS hp K hK => ?_), doesN_want (by decide) rfl (fun g => rfl) (fun st w' hS hp K hK => ?_), doesN_want (by decide) rfl (fun g => rfl) (fun st w' hS hp K hK => ?_), doesN_want (by decide) rfl (fun g => rfl) (fun st w' hS hp K hK => ?_), doesN_want (by decide) rfl (fun g => rfl) (fun st w' hS hp K hK => ?_), doesN_want (by decide) rfl (fun g => rfl) (fun st w' hS hp K hK => ?_), doesN_want (by decide) rfl (fun g => rfl) (fun st w' hS hp K hK => ?_), doesN_want (by decide) rfl (fun g => rfl) (fun st w' hS hp K hK => ?_), doesC_want (by decide) rfl (fun g => rfl) (fun st w' hS hn hp K hK => ?_), doesC_want (by decide) rfl (fun g => rfl) (fun st w' hS hn hp K hK => ?_), doesC_want (by decide) rfl (fun g => rfl) (fun st w' hS hn hp K hK => ?_), doesC_want (by decide) rfl (fun g => rfl) (fun st w' hS hn hp K hK => ?_), doesC_want (by decide) rfl (fun g => rfl) (fun st w' hS hn hp K hK => ?_), trivial⟩, fun st w' hS hall => ?_⟩
  · try dsimp only
    go_simp
    exact hK _ hS
  · try dsimp only
    exact wp_cell_h (v := .int .i64 (a 0)) hS.own.held 6 rfl (M.mat_get (by omega)) rfl agg3 rfl (hK _ hS)
  · try dsimp only
    go_simp
    exact hK _ hS
  · try dsimp only
    exact wp_cell_h (v := .int .i64 (a 1)) hS.own.held 6 rfl (M.mat_get (by omega)) rfl agg3 rfl (hK _ hS)
  · try dsimp only
    go_simp
    exact hK _ hS
  · try dsimp only
    exact wp_cell_h (v := .int .i64 (a 2)) hS.own.held 6 rfl (M.mat_get (by omega)) rfl agg3 rfl (hK _ hS)
  · try dsimp only
    go_simp
    exact hK _ hS
  · try dsimp only
    exact wp_cell_h (v := .int .i64 (a 3)) hS.own.held 6 rfl (M.mat_get (by omega)) rfl agg3 rfl (hK _ hS)
  · try dsimp only
    refine wp_build_own ([(0, .int .i64 (a 0)), (1, .int .i64 (a 1)), (2, .int .i64 (a 2)), (3, .int .i64 (a 3))]) ((M.mat 4 a).toArray) ?_ (built22 a) (hK _ hS)
    simp only [List.map_toArray, List.map_cons, List.map_nil]
    rfl
  · try dsimp only
    go_simp
    exact hK _ hS
  · try dsimp only
    exact wp_cell_h (v := .int .i64 (v 0)) hS.own.held 3 rfl (M.mat_get (by omega)) rfl agg3 rfl (hK _ hS)
  · try dsimp only
    go_simp
    exact hK _ hS
  · try dsimp only
    exact wp_cell_h (v := .int .i64 (v 1)) hS.own.held 3 rfl (M.mat_get (by omega)) rfl agg3 rfl (hK _ hS)
  · try dsimp only
    go_simp
    exact hK _ hS
  · try dsimp only
    exact wp_cell_h (v := .int .i64 (v 2)) hS.own.held 3 rfl (M.mat_get (by omega)) rfl agg3 rfl (hK _ hS)
  · try dsimp only
    go_simp
    exact hK _ hS
  · try dsimp only
    exact wp_cell_h (v := .int .i64 (v 3)) hS.own.held 3 rfl (M.mat_get (by omega)) rfl agg3 rfl (hK _ hS)
  · try dsimp only
    refine wp_build_own ([(0, .int .i64 (v 0)), (1, .int .i64 (v 1)), (2, .int .i64 (v 2)), (3, .int .i64 (v 3))]) ((M.mat 4 v).toArray) ?_ (built22 v) (hK _ hS)
    simp only [List.map_toArray, List.map_cons, List.map_nil]
    rfl
  · try dsimp only
    go_simp
    exact hK _ hS
  · try dsimp only
    exact wp_cell_h (v := .int .i64 (b 0)) hS.own.held 5 rfl (M.mat_get (by omega)) rfl agg3 rfl (hK _ hS)
  · try dsimp only
    go_simp
    exact hK _ hS
  · try dsimp only
    exact wp_cell_h (v := .int .i64 (b 1)) hS.own.held 5 rfl (M.mat_get (by omega)) rfl agg3 rfl (hK _ hS)
  · try dsimp only
    go_simp
    exact hK _ hS
  · try dsimp only
    exact wp_cell_h (v := .int .i64 (b 2)) hS.own.held 5 rfl (M.mat_get (by omega)) rfl agg3 rfl (hK _ hS)
  · try dsimp only
    go_simp
    exact hK _ hS
  · try dsimp only
    exact wp_cell_h (v := .int .i64 (b 3)) hS.own.held 5 rfl (M.mat_get (by omega)) rfl agg3 rfl (hK _ hS)
  · try dsimp only
    refine wp_build_own ([(0, .int .i64 (b 0)), (1, .int .i64 (b 1)), (2, .int .i64 (b 2)), (3, .int .i64 (b 3))]) ((M.mat 4 b).toArray) ?_ (built22 b) (hK _ hS)
    simp only [List.map_toArray, List.map_cons, List.map_nil]
    rfl
  · try dsimp only
    rw [hn] at hS
    exact hS.alloc_a hK
  · try dsimp only
    rw [hn] at hS
    exact hS.alloc_b hK
  · try dsimp only
    rw [hn] at hS
    exact hS.alloc_c hK
  · try dsimp only
    rw [hn] at hS
    exact hS.put_a (hp 27 (by decide) (by kernel_rfl)) a rfl rfl rfl hK
  · try dsimp only
    rw [hn] at hS
    exact hS.put_b (hp 28 (by decide) (by kernel_rfl)) v rfl rfl rfl hK
  try dsimp only
  obtain ⟨g17, g18, g19, e17, e18, e19, O3⟩ := hS.done (hall 27 (by decide)) (hall 28 (by decide)) (hall 29 (by decide)) (hall 30 (by decide)) (hall 31 (by decide))
  clear hS O
  have O := O3
  clear O3
  simp only [seen, e17, e18, e19, Option.getD_some]
  generalize (st 30).getD undef = u30
  generalize (st 31).getD undef = u31
  clear hall e17 e18 e19
  refine wpAny_want (i := 32) (by kernel_rfl) rfl (by rfl) (fun K hK => ?_)
  refine wp_put_own O 2 (M.mat 4 b) rfl rfl rfl (s22 _) (M.mat_len2 _ _ _) (M.mat_one _ _) fun w9 O9 => hK _ _ ?_
  clear O
  have O := O9
  clear O9
  clear hK K
  try simp only [Act.put, List.setIfInBounds_toArray, List.set_cons_zero, List.set_cons_succ]
  refine wpAny_done (by kernel_rfl) ?_ _
  go_wp2_with fail
  go_loopw [20] (fun t' wr => ∃ k : Nat, k ≤ 4 ∧ t' = .int .i64 k ∧ Own w wr [(g17, 22, M.mat 4 a), (g18, 22, M.mat 4 v), (g19, 22, M.mat 4 b), (g15, 27, M.mat 8 v), (g13, 27, M.mat 8 b), (g11, 27, M.mat 8 a), (g9, 27, M.mat 8 v), (g5, 38, M.mat 2 t), (g4, 27, M.mat 8 b), (g3, 27, M.mat 8 a)]) (fun t' _ => 4 - (intOf t').toNat)
  case atStart => exact ⟨0, by omega, rfl, O⟩
  case round =>
    clear O
    obtain ⟨k, hk, rfl, O⟩ := hrel
    have q4 : (0 : Int) ≤ k := by omega
    by_cases hlt : k < 4
    · have q5 : (k : Int) < 4 := by omega
      have v1 := WM.out k
      have v2 := WM.out (4 + k)
      obtain ⟨m1, hm1⟩ : ∃ m, min (a k) (b k) = m := ⟨_, rfl⟩
      obtain ⟨m2, hm2⟩ : ∃ m, max (a k) (b k) = m := ⟨_, rfl⟩
      obtain ⟨m3, hm3⟩ : ∃ m, min (a (4 + k)) (b (4 + k)) = m := ⟨_, rfl⟩
      obtain ⟨m4, hm4⟩ : ∃ m, max (a (4 + k)) (b (4 + k)) = m := ⟨_, rfl⟩
      rw [hm1, hm2] at v1
      rw [hm3, hm4] at v2
      have F1 : Hid (decide (v k < m1) = false) := Lib.hid (by simp; omega)
      have F2 : Hid (decide (m2 < v k) = false) := Lib.hid (by simp; omega)
      have F3 : Hid (decide (v (4 + k) < m3) = false) := Lib.hid (by simp; omega)
      have F4 : Hid (decide (m4 < v (4 + k)) = false) := Lib.hid (by simp; omega)
      have H1 := Lib.hid hm1
      have G1 := Lib.hid ((min_if (a k) (b k)).trans hm1)
      have H2 := Lib.hid hm2
      have G2 := Lib.hid ((max_if (a k) (b k)).trans hm2)
      have H3 := Lib.hid hm3
      have G3 := Lib.hid ((min_if (a (4 + k)) (b (4 + k))).trans hm3)
      have H4 := Lib.hid hm4
      have G4 := Lib.hid ((max_if (a (4 + k)) (b (4 + k))).trans hm4)
      clear hm1 hm2 hm3 hm4 v1 v2
      go_wp2_with fail
      refine region_T ((fun w2 => Own w w2 [(g17, 22, M.mat 4 a), (g18, 22, M.mat 4 v), (g19, 22, M.mat 4 b), (g15, 27, M.mat 8 v), (g13, 27, M.mat 8 b), (g11, 27, M.mat 8 a), (g9, 27, M.mat 8 v), (g5, 38, M.mat 2 t), (g4, 27, M.mat 8 b), (g3, 27, M.mat 8 a)])) [0, 1, 2, 3, 4, 5, 6, 7, 8, 9, 10, 11, 12, 13, 14, 15, 16, 17, 18, 19, 20, 21, 22, 23, 24, 25, 26, 27, 28, 29, 30, 31, 32, 33, 34, 35, 36, 37, 38, 39, 40, 41, 42, 43, 44, 45, 46, 47, 48, 49, 50, 51, 52, 53, 54, 55] 12 [some 122, some 123, some 124, some 125, some 126, some 127, some 128, some 129, some 130, some 131, some 132, some 133, some 134, some 135, some 136, some 137, some 138, some 139, some 140, some 141, some 142, some 143, some 144, some 145, some 146, some 147, some 148, some 149, some 150, some 151, some 152, some 153, some 154, some 155, some 156, some 157, some 158, some 159, some 160, some 161, some 162, some 163, some 164, some 165, some 166, some 167, some 168, some 169, some 170, some 171, some 172, some 173, some 174, some 175, some 176, some 177] [.int .i64 k, .pointer (some ⟨g18, k, none⟩), .int .i64 (v k), .int .i64 k, .pointer (some ⟨g17, k, none⟩), .int .i64 (a k), .int .i64 k, .pointer (some ⟨g19, k, none⟩), .int .i64 (b k), .int .i64 m1, .bool false, .bool false, .int .i64 k, .pointer (some ⟨g18, k, none⟩), .int .i64 (v k), .int .i64 k, .pointer (some ⟨g17, k, none⟩), .int .i64 (a k), .int .i64 k, .pointer (some ⟨g19, k, none⟩), .int .i64 (b k), .int .i64 m2, .bool false, .bool false, .bool false, .int .i64 k, .pointer (some ⟨g9, 4, none⟩), .pointer (some ⟨g9, 4 + k, none⟩), .int .i64 (v (4 + k)), .int .i64 k, .pointer (some ⟨g3, 4, none⟩), .pointer (some ⟨g3, 4 + k, none⟩), .int .i64 (a (4 + k)), .int .i64 k, .pointer (some ⟨g4, 4, none⟩), .pointer (some ⟨g4, 4 + k, none⟩), .int .i64 (b (4 + k)), .int .i64 m3, .bool false, .bool false, .bool false, .int .i64 k, .pointer (some ⟨g9, 4, none⟩), .pointer (some ⟨g9, 4 + k, none⟩), .int .i64 (v (4 + k)), .int .i64 k, .pointer (some ⟨g3, 4, none⟩), .pointer (some ⟨g3, 4 + k, none⟩), .int .i64 (a (4 + k)), .int .i64 k, .pointer (some ⟨g4, 4, none⟩), .pointer (some ⟨g4, 4 + k, none⟩), .int .i64 (b (4 + k)), .int .i64 m4, .bool false, .bool false] 0 (by kernel_rfl) (by rfl) (by kernel_rfl) (by rfl) (by rfl) (O.drew) (fun F hF => ?_)
      simp only [fillD, Act.put, List.setIfInBounds_toArray, List.set_cons_zero, List.set_cons_succ] at hF
      subst hF
      refine ⟨⟨does_want rfl (by rfl) (fun w' O K hK => ?_), does_want rfl (by rfl) (fun w' O K hK => ?_), does_want rfl (by rfl) (fun w' O K hK => ?_), does_want rfl (by rfl) (fun w' O K hK => ?_), does_want rfl (by rfl) (fun w' O K hK => ?_), does_want rfl (by rfl) (fun w' O K hK => ?_), does_want rfl (by rfl) (fun w' O K hK => ?_), does_want rfl (by rfl) (fun w' O K hK => ?_), does_want rfl (by rfl) (fun w' O K hK => ?_), does_want rfl (by rfl) (fun w' O K hK => ?_), does_want rfl (by rfl) (fun w' O K hK => ?_), does_want rfl (by rfl) (fun w' O K hK => ?_), does_want rfl (by rfl) (fun w' O K hK => ?_), does_want rfl (by rfl) (fun w' O K hK => ?_), does_want rfl (by rfl) (fun w' O K hK => ?_), does_want rfl (by rfl) (fun w' O K hK => ?_), does_want rfl (by rfl) (fun w' O K hK => ?_), does_want rfl (by rfl) (fun w' O K hK => ?_), does_want rfl (by rfl) (fun w' O K hK => ?_), does_want rfl (by rfl) (fun w' O K hK => ?_), does_want rfl (by rfl) (fun w' O K hK => ?_), does_want rfl (by rfl) (fun w' O K hK => ?_), does_want rfl (by rfl) (fun w' O K hK => ?_), does_want rfl (by rfl) (fun w' O K hK => ?_), does_want rfl (by rfl) (fun w' O K hK => ?_), does_want rfl (by rfl) (fun w' O K hK => ?_), does_want rfl (by rfl) (fun w' O K hK => ?_), does_want rfl (by rfl) (fun w' O K hK => ?_), does_want rfl (by rfl) (fun w' O K hK => ?_), does_want rfl (by rfl) (fun w' O K hK => ?_), does_want rfl (by rfl) (fun w' O K hK => ?_), does_want rfl (by rfl) (fun w' O K hK => ?_), does_want rfl (by rfl) (fun w' O K hK => ?_), does_want rfl (by rfl) (fun w' O K hK => ?_), does_want rfl (by rfl) (fun w' O K hK => ?_), does_want rfl (by rfl) (fun w' O K hK => ?_), does_want rfl (by rfl) (fun w' O K hK => ?_), does_want rfl (by rfl) (fun w' O K hK => ?_), does_want rfl (by rfl) (fun w' O K hK => ?_), does_want rfl (by rfl) (fun w' O K hK => ?_), does_want rfl (by rfl) (fun w' O K hK => ?_), does_want rfl (by rfl) (fun w' O K hK => ?_), does_want rfl (by rfl) (fun w' O K hK => ?_), does_want rfl (by rfl) (fun w' O K hK => ?_), does_want rfl (by rfl) (fun w' O K hK => ?_), does_want rfl (by rfl) (fun w' O K hK => ?_), does_want rfl (by rfl) (fun w' O K hK => ?_), does_want rfl (by rfl) (fun w' O K hK => ?_), does_want rfl (by rfl) (fun w' O K hK => ?_), does_want rfl (by rfl) (fun w' O K hK => ?_), does_want rfl (by rfl) (fun w' O K hK => ?_), does_want rfl (by rfl) (fun w' O K hK => ?_), does_want rfl (by rfl) (fun w' O K hK => ?_), does_want rfl (by rfl) (fun w' O K hK => ?_), does_want rfl (by rfl) (fun w' O K hK => ?_), does_want rfl (by rfl) (fun w' O K hK => ?_), trivial⟩, fun w' O => ?_⟩
      · go_simp
        exact hK _ O
      · go_simp
        exact hK _ O
      · exact wp_cell_h (v := .int .i64 ((v) (k))) O.held 1 rfl (M.mat_get (by omega)) rfl agg3 rfl (hK _ O)
      · go_simp
        exact hK _ O
      · go_simp
        exact hK _ O
      · exact wp_cell_h (v := .int .i64 ((a) (k))) O.held 0 rfl (M.mat_get (by omega)) rfl agg3 rfl (hK _ O)
      · go_simp
        exact hK _ O
      · go_simp
        exact hK _ O
      · exact wp_cell_h (v := .int .i64 ((b) (k))) O.held 2 rfl (M.mat_get (by omega)) rfl agg3 rfl (hK _ O)
      · have e := G1.out
        have e2 := H1.out
        go_simp
        exact hK _ O
      · have e := F1.out
        go_simp
        exact hK _ O
      · go_simp
        exact hK _ O
      · go_simp
        exact hK _ O
      · go_simp
        exact hK _ O
      · exact wp_cell_h (v := .int .i64 ((v) (k))) O.held 1 rfl (M.mat_get (by omega)) rfl agg3 rfl (hK _ O)
      · go_simp
        exact hK _ O
      · go_simp
        exact hK _ O
      · exact wp_cell_h (v := .int .i64 ((a) (k))) O.held 0 rfl (M.mat_get (by omega)) rfl agg3 rfl (hK _ O)
      · go_simp
        exact hK _ O
      · go_simp
        exact hK _ O
      · exact wp_cell_h (v := .int .i64 ((b) (k))) O.held 2 rfl (M.mat_get (by omega)) rfl agg3 rfl (hK _ O)
      · have e := G2.out
        have e2 := H2.out
        go_simp
        exact hK _ O
      · have e := F2.out
        go_simp
        exact hK _ O
      · go_simp
        exact hK _ O
      · go_simp
        exact hK _ O
      · go_simp
        exact hK _ O
      · go_simp
        exact hK _ O
      · exact wp_ino Try.underlying25 sizeOf3 (by decide) (k) rfl rfl (by omega) (by omega) (hK _ O)
      · exact wp_cell_h (v := .int .i64 ((v) (4 + k))) O.held 6 rfl (M.mat_get (by omega)) rfl agg3 rfl (hK _ O)
      · go_simp
        exact hK _ O
      · go_simp
        exact hK _ O
      · exact wp_ino Try.underlying25 sizeOf3 (by decide) (k) rfl rfl (by omega) (by omega) (hK _ O)
      · exact wp_cell_h (v := .int .i64 ((a) (4 + k))) O.held 9 rfl (M.mat_get (by omega)) rfl agg3 rfl (hK _ O)
      · go_simp
        exact hK _ O
      · go_simp
        exact hK _ O
      · exact wp_ino Try.underlying25 sizeOf3 (by decide) (k) rfl rfl (by omega) (by omega) (hK _ O)
      · exact wp_cell_h (v := .int .i64 ((b) (4 + k))) O.held 8 rfl (M.mat_get (by omega)) rfl agg3 rfl (hK _ O)
      · have e := G3.out
        have e2 := H3.out
        go_simp
        exact hK _ O
      · have e := F3.out
        go_simp
        exact hK _ O
      · go_simp
        exact hK _ O
      · go_simp
        exact hK _ O
      · go_simp
        exact hK _ O
      · go_simp
        exact hK _ O
      · exact wp_ino Try.underlying25 sizeOf3 (by decide) (k) rfl rfl (by omega) (by omega) (hK _ O)
      · exact wp_cell_h (v := .int .i64 ((v) (4 + k))) O.held 6 rfl (M.mat_get (by omega)) rfl agg3 rfl (hK _ O)
      · go_simp
        exact hK _ O
      · go_simp
        exact hK _ O
      · exact wp_ino Try.underlying25 sizeOf3 (by decide) (k) rfl rfl (by omega) (by omega) (hK _ O)
      · exact wp_cell_h (v := .int .i64 ((a) (4 + k))) O.held 9 rfl (M.mat_get (by omega)) rfl agg3 rfl (hK _ O)
      · go_simp
        exact hK _ O
      · go_simp
        exact hK _ O
      · exact wp_ino Try.underlying25 sizeOf3 (by decide) (k) rfl rfl (by omega) (by omega) (hK _ O)
      · exact wp_cell_h (v := .int .i64 ((b) (4 + k))) O.held 8 rfl (M.mat_get (by omega)) rfl agg3 rfl (hK _ O)
      · have e := G4.out
        have e2 := H4.out
        go_simp
        exact hK _ O
      · have e := F4.out
        go_simp
        exact hK _ O
      · go_simp
        exact hK _ O
      refine wpAny_done (by kernel_rfl) ?_ _
      go_wp2_with fail
      go_roundw
      case rel => exact ⟨k + 1, by omega, by go_num, O⟩
      case measure => simp [intOf]; omega
    · have q5 : ¬ (k : Int) < 4 := by omega
      obtain rfl : k = 4 := by omega
      go_wp2_with (go_at_call 12; refine (awake_any _).mono ?_; rintro e w20 ⟨rfl, hb⟩; replace O := O.call hb; clear hb)
      go_ret
      exact ⟨rfl, O.below⟩
theorem readable : ∀ t ∈ Try.f6.params.toList, Try.prog.readableRec t = true ∧ t < Try.prog.types.size := by
  intro t ht
  rw [Try.params6] at ht
  simp only [List.mem_cons, List.not_mem_nil, or_false] at ht
  repeat (first | (rcases ht with rfl | ht; exact ⟨by kernel_rfl, of_decide_eq_true (by kernel_rfl)⟩) | (subst ht; exact ⟨by kernel_rfl, of_decide_eq_true (by kernel_rfl)⟩))
set_option maxRecDepth 100000 in
theorem lifted (os : Os) (started : os.Started) (H : Type) (enc : TypeId × Value → H) :
    ReturnsInHanded {} Try.checked os 6 .any (Rows.sideBetweenSpec.pre6 enc Try.prog Try.f6 Rows.sideBetweenRow.domain false) (Rows.sideBetweenSpec.post enc Try.prog Try.f6 false true false false) := by
  refine returnsInHanded_of_change (C := Try.checked) own started (by kernel_rfl) Try.func6
    (ChangeSpec.witness6 (enc := enc) (C := Try.checked) false ⟨#[], #[.agg #[.int .i64 0, .int .i64 0, .int .i64 0, .int .i64 0, .int .i64 0, .int .i64 0, .int .i64 0, .int .i64 0], .agg #[.int .i64 0, .int .i64 0, .int .i64 0, .int .i64 0, .int .i64 0, .int .i64 0, .int .i64 0, .int .i64 0], .agg #[.int .i64 0, .int .i64 0]], []⟩ 8 (by kernel_rfl) (by kernel_rfl) (by kernel_rfl) (by kernel_rfl)) ?_
  intro W base args ds gs before hval0 hW hcnd _
  have hval : ∀ (j : Nat) t v, Try.f6.params[j]? = some t → args[j]? = some v → Value.okWide Try.prog W .any base t v := hval0
  have hW' := hW
  obtain ⟨p, q, hA0, hV, rfl, hfz, hnd⟩ := hW
  have hA : DataW.TrodAll enc Try.prog W 0 (fun _ => true) true Try.f6.params.toList args.toList ds p := hA0
  rw [Try.params6] at hA hval
  have hlt : ∀ x ∈ p ++ q, x.block < W.heap.size := fun x hx => hW'.lt x hx
  obtain ⟨v0, vs0, d0, ds0, p0, q0, hargs, rfl, rfl, h0, rr0⟩ := trodAll_cons hA
  obtain ⟨v1, vs1, d1, ds1, p1, q1, rfl, rfl, rfl, h1, rr1⟩ := trodAll_cons rr0
  obtain ⟨v2, vs2, d2, ds2, p2, q2, rfl, rfl, rfl, h2, rr2⟩ := trodAll_cons rr1
  obtain ⟨rfl, rfl, rfl⟩ := trodAll_nil rr2
  obtain rfl : args = #[v0, v1, v2] := by cases args; simp_all
  obtain ⟨rfl, rfl⟩ := trodVars_none hV
  obtain ⟨a0, rfl⟩ := openVert (hval 0 27 v0 rfl rfl) h0
  obtain ⟨a1, rfl⟩ := openVert (hval 1 27 v1 rfl rfl) h1
  obtain ⟨a2, rfl, x2⟩ := openTwo (hval 2 38 v2 rfl rfl) h2
  clear hA0 hval0
  refine (walk W a0 a1 a2 x2).mono fun e W' ⟨he, hg⟩ => ?_
  subst he
  exact ⟨_, rfl, post_true (tb := 4) laid readable (by kernel_rfl) Try.underlying4 rfl (fun l hl => by
    match l, hl with
    | [_, _, _], _ => exact ⟨rfl, rfl, rfl⟩) hW' hg⟩

theorem over : Rows.sideBetweenRow.holds Try.pinned (OpenSpec.ofChange Rows.sideBetweenSpec) :=
  OpenClaim.holds_of_wide 6 Try.f6 rfl rfl rfl rfl rfl rfl rfl ⟨rfl, rfl, rfl, rfl, rfl⟩ rfl rfl rfl rfl rfl (by kernel_rfl) Try.func6 (by kernel_rfl)
    (of_decide_eq_true (by kernel_rfl)) (by unfold Func.isWrapper; first | (rw [if_pos (by decide +kernel)]; kernel_rfl) | (rw [if_neg (by decide +kernel)]; exact ⟨rfl, rfl⟩))
    (fun os started H enc _ => lifted os started H enc)

theorem proved : Rows.SideBetweenSaid :=
  over
#print axioms proved
end Go.Proofs.Ytbjbafhlmcnceaa.sideBetween
