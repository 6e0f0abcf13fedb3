/-
  WalkMoves: every line that is moved by whole pixels has the same pixels, moved; in a rectangle of twenty by twenty there are twenty at most.
-/
import Derived.Test.YtheolajpjpnfjaaXq
import Derived.Deep.DeepCutAuto
namespace Go.Proofs.Ytheolajpjpnfjaa.walkMoves
open Go.ChangeShapes Go.WideShapes Go.ChangeAt Go.RowKit
set_option linter.unusedVariables false
set_option linter.unusedSimpArgs false

theorem own : ownKnob Try.prog.godebug = none := by kernel_rfl

set_option maxRecDepth 100000 in
set_option maxHeartbeats 16000000 in
theorem walk (w : World) (a b : Nat → Int) (u v : Int) (huv : (-128 ≤ u ∧ u ≤ 127) ∧ (-128 ≤ v ∧ v ≤ 127)) :
    Calls Try.prog 7 #[arr 2 a, arr 2 b, .agg (two .i8 u v).toArray] w fun e w' => e = .returned (.bool true) ∧ Below w.heap.size w w' := by
  have O := Held.start w [] (by simp)
  obtain ⟨a0, ea0⟩ : ∃ z, a 0 = z := ⟨_, rfl⟩
  have Ca0 := cell_is (n := 2) ea0 (by decide)
  obtain ⟨a1, ea1⟩ : ∃ z, a 1 = z := ⟨_, rfl⟩
  have Ca1 := cell_is (n := 2) ea1 (by decide)
  obtain ⟨b0, eb0⟩ : ∃ z, b 0 = z := ⟨_, rfl⟩
  have Cb0 := cell_is (n := 2) eb0 (by decide)
  obtain ⟨b1, eb1⟩ : ∃ z, b 1 = z := ⟨_, rfl⟩
  have Cb1 := cell_is (n := 2) eb1 (by decide)
  have EA := Lib.hid (And.intro (And.intro ea0 ea1) (And.intro eb0 eb1))
  clear ea0 ea1 eb0 eb1
  have HUV := Lib.hid huv
  clear huv
  cases k0 : decide (a0 < -268435456)
  · cases k1 : decide (268435456 < a0)
    · cases k2 : decide (a1 < -268435456)
      · cases k3 : decide (268435456 < a1)
        · cases k4 : decide (b0 < -268435456)
          · cases k5 : decide (268435456 < b0)
            · cases k6 : decide (b1 < -268435456)
              · cases k7 : decide (268435456 < b1)
                · have lim : ((-268435456 ≤ a0 ∧ a0 ≤ 268435456) ∧ (-268435456 ≤ a1 ∧ a1 ≤ 268435456)) ∧ ((-268435456 ≤ b0 ∧ b0 ≤ 268435456) ∧ (-268435456 ≤ b1 ∧ b1 ≤ 268435456)) := by
                    have := of_decide_eq_false k0
                    have := of_decide_eq_false k1
                    have := of_decide_eq_false k2
                    have := of_decide_eq_false k3
                    have := of_decide_eq_false k4
                    have := of_decide_eq_false k5
                    have := of_decide_eq_false k6
                    have := of_decide_eq_false k7
                    omega
                  obtain ⟨⟨u1, u2⟩, v1, v2⟩ := HUV.out
                  obtain ⟨⟨ea0, ea1⟩, eb0, eb1⟩ := EA.out
                  have ra : DM.Rg a := by unfold DM.Rg; rw [ea0, ea1]; omega
                  have rb : DM.Rg b := by unfold DM.Rg; rw [eb0, eb1]; omega
                  have ra2 : DM.Rg (DM.t2 (a0 + 256 * u) (a1 + 256 * v)) := by unfold DM.Rg; show (-536870912 ≤ a0 + 256 * u ∧ a0 + 256 * u ≤ 536870912) ∧ (-536870912 ≤ a1 + 256 * v ∧ a1 + 256 * v ≤ 536870912); omega
                  have rb2 : DM.Rg (DM.t2 (b0 + 256 * u) (b1 + 256 * v)) := by unfold DM.Rg; show (-536870912 ≤ b0 + 256 * u ∧ b0 + 256 * u ≤ 536870912) ∧ (-536870912 ≤ b1 + 256 * v ∧ b1 + 256 * v ≤ 536870912); omega
                  have CP := fun w => within_any a b (RC.mk (-6) (-5) 14 15) ra rb (fun _ => by unfold RC.mk; decide) w
                  have CQ := fun w => within_any (DM.t2 (a0 + 256 * u) (a1 + 256 * v)) (DM.t2 (b0 + 256 * u) (b1 + 256 * v)) (RC.mk (u - 6) (v - 5) (u + 14) (v + 15)) ra2 rb2 (fun _ => by
                    show u + 14 - (u - 6) ≤ 1000 ∧ v + 15 - (v - 5) ≤ 1000
                    omega) w
                  rw [show RC.right (RC.mk (-6) (-5) 14 15) = true by decide, if_pos rfl, ea0, ea1, eb0, eb1] at CP
                  rw [show RC.right (RC.mk (u - 6) (v - 5) (u + 14) (v + 15)) = true from RC.right_iff.2 (by
                    show ((-4194304 ≤ u - 6 ∧ u - 6 ≤ 4194304) ∧ (-4194304 ≤ v - 5 ∧ v - 5 ≤ 4194304) ∧ (-4194304 ≤ u + 14 ∧ u + 14 ≤ 4194304) ∧ (-4194304 ≤ v + 15 ∧ v + 15 ≤ 4194304)) ∧ u - 6 < u + 14 ∧ v - 5 < v + 15
                    omega), if_pos rfl] at CQ
                  have mv : DM.wth (a0 + 256 * u) (a1 + 256 * v) (b0 + 256 * u) (b1 + 256 * v) (RC.mk (u - 6) (v - 5) (u + 14) (v + 15)) = (DM.wth a0 a1 b0 b1 (RC.mk (-6) (-5) 14 15)).map fun s => (s.1, s.2.1 + u, s.2.2 + v) := DM.wth_moved (show u - 6 = -6 + u by omega) (show v - 5 = -5 + v by omega) (show u + 14 = 14 + u by omega) (show v + 15 = 15 + v by omega)
                  have CQ2 : ∀ w, Calls Try.prog 12 #[arr 2 (DM.t2 (a0 + 256 * u) (a1 + 256 * v)), arr 2 (DM.t2 (b0 + 256 * u) (b1 + 256 * v)), arr 4 (RC.mk (u - 6) (v - 5) (u + 14) (v + 15))] w (RetT w ((DM.wth a0 a1 b0 b1 (RC.mk (-6) (-5) 14 15)).map fun s => (s.1, s.2.1 + u, s.2.2 + v))) := fun w => by
                    rw [← mv]
                    exact CQ w
                  clear CQ mv
                  have most : (DM.wth a0 a1 b0 b1 (RC.mk (-6) (-5) 14 15)).length ≤ 20 := DM.wth_most (by unfold RC.mk; decide)
                  have hin : ∀ s ∈ DM.wth a0 a1 b0 b1 (RC.mk (-6) (-5) 14 15), (-6 ≤ s.2.1 ∧ s.2.1 < 14) ∧ (-5 ≤ s.2.2 ∧ s.2.2 < 15) := by
                    intro s hm
                    unfold DM.wth at hm
                    have := (List.mem_filter.1 hm).2
                    unfold DM.inR4 at this
                    simp only [Bool.and_eq_true, decide_eq_true_eq] at this
                    exact this
                  have hris : (DM.wth a0 a1 b0 b1 (RC.mk (-6) (-5) 14 15)).Pairwise (fun p q => p.1 < q.1) := (DM.steps_rising a0 a1 b0 b1).filter _
                  generalize DM.wth a0 a1 b0 b1 (RC.mk (-6) (-5) 14 15) = l at *
                  obtain ⟨m, hm⟩ : ∃ m, (l.map fun s => (s.1, s.2.1 + u, s.2.2 + v)) = m := ⟨_, rfl⟩
                  have hml : m.length = l.length := by rw [← hm, List.length_map]
                  have hmat : ∀ (i : Nat) (s : Int × Int × Int), l[i]? = some s → m[i]? = some (s.1, s.2.1 + u, s.2.2 + v) := by
                    intro i s h
                    rw [← hm, List.getElem?_map, h]
                    rfl
                  rw [hm] at CQ2
                  unfold RetT tE at CP CQ2
                  rw [hml] at CQ2
                  have HIN := Lib.hid hin
                  have HRIS := Lib.hid hris
                  have HMAT := Lib.hid hmat
                  have HMOST := Lib.hid most
                  clear hin hris hmat hm hml ra rb ra2 rb2 ea0 ea1 eb0 eb1 EA most
                  have Hu : Hid (IntKind.i64.wrap u = u) := Lib.hid (IntWalk.i64_in _ (by omega))
                  have Hv : Hid (IntKind.i64.wrap v = v) := Lib.hid (IntWalk.i64_in _ (by omega))
                  have W1 : wrap64 (u - 6) = u - 6 := IntWalk.wrap64_in _ (by omega)
                  have W2 : wrap64 (v - 5) = v - 5 := IntWalk.wrap64_in _ (by omega)
                  have W3 : wrap64 (u + 14) = u + 14 := IntWalk.wrap64_in _ (by omega)
                  have W4 : wrap64 (v + 15) = v + 15 := IntWalk.wrap64_in _ (by omega)
                  have W5 : wrap64 (256 * u) = 256 * u := IntWalk.wrap64_in _ (by omega)
                  have W6 : wrap64 (256 * v) = 256 * v := IntWalk.wrap64_in _ (by omega)
                  have W7 : wrap64 (a0 + 256 * u) = a0 + 256 * u := IntWalk.wrap64_in _ (by omega)
                  have W8 : wrap64 (a1 + 256 * v) = a1 + 256 * v := IntWalk.wrap64_in _ (by omega)
                  have W9 : wrap64 (b0 + 256 * u) = b0 + 256 * u := IntWalk.wrap64_in _ (by omega)
                  have W10 : wrap64 (b1 + 256 * v) = b1 + 256 * v := IntWalk.wrap64_in _ (by omega)
                  have FW := Lib.hid (And.intro W1 (And.intro W2 (And.intro W3 (And.intro W4 (And.intro W5 (And.intro W6 (And.intro W7 (And.intro W8 (And.intro W9 (W10))))))))))
                  clear lim u1 u2 v1 v2 W1 W2 W3 W4 W5 W6 W7 W8 W9 W10
                  go_enter Try.func7, Try.ntmps7
                  go_wp2_with (first | ((with_reducible refine at_box 3 ?_); refine wpList_box_h O (M.mat 2 (a)) rfl ?_; clear O; intro g3 w1 O) | ((with_reducible refine at_box 4 ?_); refine wpList_box_h O (M.mat 2 (b)) rfl ?_; clear O; intro g4 w2 O) | ((with_reducible refine at_box 5 ?_); refine wpList_box_h O (two .i8 u v) rfl ?_; clear O; intro g5 w3 O) | ((with_reducible refine at_load 15 ?_); refine wpList_cell_h (v := .int .i64 (a0)) rfl O 2 rfl Ca0.out rfl agg3 rfl ?_) | ((with_reducible refine at_load 19 ?_); refine wpList_cell_h (v := .int .i64 (a0)) rfl O 2 rfl Ca0.out rfl agg3 rfl ?_) | ((with_reducible refine at_load 24 ?_); refine wpList_cell_h (v := .int .i64 (a1)) rfl O 2 rfl Ca1.out rfl agg3 rfl ?_) | ((with_reducible refine at_load 29 ?_); refine wpList_cell_h (v := .int .i64 (a1)) rfl O 2 rfl Ca1.out rfl agg3 rfl ?_) | ((with_reducible refine at_load 34 ?_); refine wpList_cell_h (v := .int .i64 (b0)) rfl O 1 rfl Cb0.out rfl agg3 rfl ?_) | ((with_reducible refine at_load 39 ?_); refine wpList_cell_h (v := .int .i64 (b0)) rfl O 1 rfl Cb0.out rfl agg3 rfl ?_) | ((with_reducible refine at_load 44 ?_); refine wpList_cell_h (v := .int .i64 (b1)) rfl O 1 rfl Cb1.out rfl agg3 rfl ?_) | ((with_reducible refine at_load 49 ?_); refine wpList_cell_h (v := .int .i64 (b1)) rfl O 1 rfl Cb1.out rfl agg3 rfl ?_))
                  have OO : Held w w3 [(g5, 47, two .i8 u v), (g4, 23, M.mat 2 b), (g3, 23, M.mat 2 a)] nilRow [] := O
                  clear O k0 k1 k2 k3 k4 k5 k6 k7
                  have O := OO
                  clear OO
                  refine region_T ((fun w2 => Held w w2 [(g5, 47, two .i8 u v), (g4, 23, M.mat 2 b), (g3, 23, M.mat 2 a)] nilRow [])) [0, 1, 2, 3, 4, 5, 6] 12 [some 53, some 54, some 55, some 56, some 57, some 58, some 7] [.pointer (some ⟨g5, 0, none⟩), .int .i8 u, .int .i64 u, .pointer (some ⟨g5, 1, none⟩), .int .i8 v, .int .i64 v, .int .i64 u] 1 (by kernel_rfl) (by rfl) (by kernel_rfl) (by rfl) (by rfl) (O.drew) (fun F hF => ?_)
                  simp only [fillD, Act.put, List.setIfInBounds_toArray, List.set_cons_zero, List.set_cons_succ] at hF
                  subst hF
                  refine ⟨⟨does_want rfl (by rfl) (fun w' O K hK => ?_), does_want rfl (by rfl) (fun w' O K hK => ?_), does_want rfl (by rfl) (fun w' O K hK => ?_), does_want rfl (by rfl) (fun w' O K hK => ?_), does_want rfl (by rfl) (fun w' O K hK => ?_), does_want rfl (by rfl) (fun w' O K hK => ?_), does_want rfl (by rfl) (fun w' O K hK => ?_), trivial⟩, fun w' O => ?_⟩
                  · first | (go_simp; exact hK _ O) | exact wp_ino Try.underlying47 sizeOf46 (by decide) 0 rfl rfl (by omega) (by omega) (hK _ O)
                  · exact wp_cell_h (v := .int .i8 u) O 0 (i := 0) rfl rfl rfl agg46 rfl (hK _ O)
                  · have e1 := Hu.out
                    go_simp
                    first | exact hK _ O | (rw [e1]; exact hK _ O)
                  · first | (go_simp; exact hK _ O) | exact wp_ino Try.underlying47 sizeOf46 (by decide) 1 rfl rfl (by omega) (by omega) (hK _ O)
                  · exact wp_cell_h (v := .int .i8 v) O 0 (i := 1) rfl rfl rfl agg46 rfl (hK _ O)
                  · have e1 := Hv.out
                    go_simp
                    first | exact hK _ O | (rw [e1]; exact hK _ O)
                  · go_simp
                    exact hK _ O
                  refine wpAny_one (i := 7) (by kernel_rfl) rfl (fun K hK => ?_)
                  go_simp
                  refine hK _ _ ?_
                  clear hK K
                  try simp only [Act.put, List.setIfInBounds_toArray, List.set_cons_zero, List.set_cons_succ]
                  refine wpAny_done (by kernel_rfl) ?_ _
                  clear Hu Hv
                  have W1 := FW.out.1
                  have W2 := FW.out.2.1
                  have W3 := FW.out.2.2.1
                  have W4 := FW.out.2.2.2.1
                  have W5 := FW.out.2.2.2.2.1
                  have W6 := FW.out.2.2.2.2.2.1
                  have W7 := FW.out.2.2.2.2.2.2.1
                  have W8 := FW.out.2.2.2.2.2.2.2.1
                  have W9 := FW.out.2.2.2.2.2.2.2.2.1
                  have W10 := FW.out.2.2.2.2.2.2.2.2.2
                  have tk0 : True := trivial
                  have most := HMOST.out
                  have lb : ((l.length : Int) != (l.length : Int)) = false := by simp
                  have lm : ¬ (20 : Int) < l.length := by omega
                  clear most
                  go_wp2_with (first | ((with_reducible refine at_build 59 ?_); refine wpList_build_g rfl ([(0, .int .i64 (-6)), (1, .int .i64 (-5)), (2, .int .i64 14), (3, .int .i64 15)]) ((M.mat 4 (RC.mk (-6) (-5) 14 15)).toArray) ?_ (builtR _ _ _ _) ?_; (focus (simp only [List.map_toArray, List.map_cons, List.map_nil]; rfl))) | ((with_reducible refine at_alloc 9 ?_); refine wpList_alloc_h O (M.mat 4 M.zero) zeroR ?_; clear O; intro g9 w4 O) | ((with_reducible refine at_store 9 ?_); refine wpList_put_h O 0 (M.mat 4 (RC.mk (-6) (-5) 14 15)) rfl rfl rfl (sR _) (M.mat_len2 _ _ _) (M.mat_one _ _) ?_; clear O; intro w5 O) | ((with_reducible refine at_build 68 ?_); refine wpList_build_g rfl ([(0, .int .i64 (u - 6)), (1, .int .i64 (v - 5)), (2, .int .i64 (u + 14)), (3, .int .i64 (v + 15))]) ((M.mat 4 (RC.mk (u - 6) (v - 5) (u + 14) (v + 15))).toArray) ?_ (builtR _ _ _ _) ?_; (focus (simp only [List.map_toArray, List.map_cons, List.map_nil]; rfl))) | ((with_reducible refine at_alloc 10 ?_); refine wpList_alloc_h O (M.mat 4 M.zero) zeroR ?_; clear O; intro g10 w6 O) | ((with_reducible refine at_store 10 ?_); refine wpList_put_h O 0 (M.mat 4 (RC.mk (u - 6) (v - 5) (u + 14) (v + 15))) rfl rfl rfl (sR _) (M.mat_len2 _ _ _) (M.mat_one _ _) ?_; clear O; intro w7 O) | ((with_reducible refine at_load 69 ?_); refine wpList_rowg_h rfl O 4 rfl rfl Try.underlying23 rfl (sP _) ?_) | ((with_reducible refine at_load 70 ?_); refine wpList_rowg_h rfl O 3 rfl rfl Try.underlying23 rfl (sP _) ?_) | ((with_reducible refine at_load 71 ?_); refine wpList_rowg_h rfl O 1 rfl rfl Try.underlying25 rfl (sR _) ?_) | (go_at_call 12; clear tk0; have tk1 : True := trivial; refine (CP _).mono ?_; rintro e w8 ⟨A, c, rfl, hV, hb⟩; have O2 := O.gain hb hV; clear O hb hV; have O := O2; clear O2) | ((with_reducible refine at_load 74 ?_); refine wpList_cell_h (v := .int .i64 (a0)) rfl O 4 rfl Ca0.out rfl agg3 rfl ?_) | ((with_reducible refine at_load 79 ?_); refine wpList_cell_h (v := .int .i64 (a1)) rfl O 4 rfl Ca1.out rfl agg3 rfl ?_) | ((with_reducible refine at_build 83 ?_); refine wpList_build_g rfl ([(0, .int .i64 (a0 + 256 * u)), (1, .int .i64 (a1 + 256 * v))]) ((M.mat 2 (DM.t2 (a0 + 256 * u) (a1 + 256 * v))).toArray) ?_ (builtP _ _) ?_; (focus (simp only [List.map_toArray, List.map_cons, List.map_nil]; rfl))) | ((with_reducible refine at_load 85 ?_); refine wpList_cell_h (v := .int .i64 (b0)) rfl O 3 rfl Cb0.out rfl agg3 rfl ?_) | ((with_reducible refine at_load 90 ?_); refine wpList_cell_h (v := .int .i64 (b1)) rfl O 3 rfl Cb1.out rfl agg3 rfl ?_) | ((with_reducible refine at_build 94 ?_); refine wpList_build_g rfl ([(0, .int .i64 (b0 + 256 * u)), (1, .int .i64 (b1 + 256 * v))]) ((M.mat 2 (DM.t2 (b0 + 256 * u) (b1 + 256 * v))).toArray) ?_ (builtP _ _) ?_; (focus (simp only [List.map_toArray, List.map_cons, List.map_nil]; rfl))) | ((with_reducible refine at_load 95 ?_); refine wpList_rowg_h rfl O 0 rfl rfl Try.underlying25 rfl (sR _) ?_) | (go_at_call 12; clear tk1; refine (CQ2 _).mono ?_; rintro e w9 ⟨B, d, rfl, hV, hb⟩; have O2 := O.gain hb hV; clear O hb hV; have O := O2; clear O2))
                  clear lb lm W1 W2 W3 W4 W5 W6 W7 W8 W9 W10 FW CP CQ2
                  have O2 := O.pick (es' := [tE w.heap.size A c l, ⟨w.heap.size, B, l.length, d, 3, tC m⟩]) (by
                    intro x hx
                    simp only [List.mem_cons, List.not_mem_nil, or_false] at hx
                    rcases hx with rfl | rfl
                    · exact List.mem_cons_of_mem _ List.mem_cons_self
                    · exact List.mem_cons_self)
                  have OO : Held w w9 [(g10, 25, M.mat 4 (RC.mk (u - 6) (v - 5) (u + 14) (v + 15))), (g9, 25, M.mat 4 (RC.mk (-6) (-5) 14 15)), (g5, 47, two .i8 u v), (g4, 23, M.mat 2 b), (g3, 23, M.mat 2 a)] nilRow [tE w.heap.size A c l, ⟨w.heap.size, B, l.length, d, 3, tC m⟩] := O2
                  clear O O2 Ca0 Ca1 Cb0 Cb1
                  have O := OO
                  clear OO
                  go_loopw [13] (fun t_ wr => ∃ k : Nat, k ≤ l.length ∧ t_ = .int .i64 k ∧ Held w wr [(g10, 25, M.mat 4 (RC.mk (u - 6) (v - 5) (u + 14) (v + 15))), (g9, 25, M.mat 4 (RC.mk (-6) (-5) 14 15)), (g5, 47, two .i8 u v), (g4, 23, M.mat 2 b), (g3, 23, M.mat 2 a)] nilRow [tE w.heap.size A c l, ⟨w.heap.size, B, l.length, d, 3, tC m⟩]) (fun t_ _ => l.length - (intOf t_).toNat)
                  case atStart => exact ⟨0, Nat.zero_le _, rfl, O⟩
                  case round =>
                    clear O
                    obtain ⟨k, hk, rfl, O⟩ := hrel
                    have q0 : (0 : Int) ≤ k := by omega
                    by_cases hlt : k < l.length
                    · have q1 : (k : Int) < l.length := by omega
                      obtain ⟨s, hx⟩ : ∃ s, l[k]? = some s := ⟨_, List.getElem?_eq_getElem hlt⟩
                      have hy := HMAT.out k s hx
                      have hb := HIN.out s (List.mem_of_getElem? hx)
                      have hb2 := HUV.out
                      obtain ⟨sk, sx, sy⟩ := s
                      simp only at hy hb
                      obtain ⟨qx, hqx⟩ : ∃ z, sx + u = z := ⟨_, rfl⟩
                      obtain ⟨qy, hqy⟩ : ∃ z, sy + v = z := ⟨_, rfl⟩
                      rw [hqx, hqy] at hy
                      have Hqx : Hid (sx + u = qx ∧ IntKind.i64.wrap qx = qx) := Lib.hid ⟨hqx, IntWalk.i64_in _ (by omega)⟩
                      have Hqy : Hid (sy + v = qy ∧ IntKind.i64.wrap qy = qy) := Lib.hid ⟨hqy, IntWalk.i64_in _ (by omega)⟩
                      have cA := fun j v_ h => tC_at hx j v_ h
                      have cB := fun j v_ h => tC_at hy j v_ h
                      have A0_ := Lib.hid (cA 0 (.int .i64 sk) rfl)
                      have A1_ := Lib.hid (cA 1 (.int .i64 sx) rfl)
                      have A2_ := Lib.hid (cA 2 (.int .i64 sy) rfl)
                      have B0_ := Lib.hid (cB 0 (.int .i64 sk) rfl)
                      have B1_ := Lib.hid (cB 1 (.int .i64 qx) rfl)
                      have B2_ := Lib.hid (cB 2 (.int .i64 qy) rfl)
                      have HX := Lib.hid hx
                      clear hx hy hb hb2 hqx hqy cA cB
                      by_cases hk0 : k = 0
                      · have kb : decide (0 < k) = false := decide_eq_false (by omega)
                        clear hk0 q0
                        go_wp2_with fail
                        have OO := O
                        clear O
                        have O := OO
                        clear OO
                        clear q1
                        refine region_T ((fun w2 => Held w w2 [(g10, 25, M.mat 4 (RC.mk (u - 6) (v - 5) (u + 14) (v + 15))), (g9, 25, M.mat 4 (RC.mk (-6) (-5) 14 15)), (g5, 47, two .i8 u v), (g4, 23, M.mat 2 b), (g3, 23, M.mat 2 a)] nilRow [tE w.heap.size A c l, ⟨w.heap.size, B, l.length, d, 3, tC m⟩])) [0, 1, 2, 3, 4, 5, 6, 7, 8, 9, 10, 11, 12, 13, 14, 15, 16, 17, 18, 19, 20, 21, 22, 23, 24, 25, 26, 27, 28, 29, 30, 31, 32, 33, 34, 35, 36, 37, 38, 39, 40, 41, 42, 43, 44, 45, 46, 47, 48, 49, 50, 51, 52, 53, 54, 55, 56, 57, 58] 12 [some 113, some 114, some 115, some 116, some 117, some 118, some 119, some 120, some 121, some 122, some 123, some 124, some 125, some 126, some 127, some 128, some 129, some 130, some 131, some 132, some 133, some 134, some 135, some 136, some 137, some 138, some 139, some 140, some 141, some 142, some 143, some 144, some 145, some 146, some 147, some 148, some 149, some 150, some 151, some 152, some 153, some 154, some 155, some 156, some 157, some 158, some 159, some 160, some 161, some 162, some 163, some 164, some 165, some 166, some 167, some 168, some 169, some 170, some 171] [.slice B l.length d, .int .i64 k, .pointer (some ((adr B).add (k * 3))), .pointer (some ⟨((adr B).add (k * 3)).block, ((adr B).add (k * 3)).off + 1, none⟩), .int .i64 qx, .slice A l.length c, .int .i64 k, .pointer (some ((adr A).add (k * 3))), .pointer (some ⟨((adr A).add (k * 3)).block, ((adr A).add (k * 3)).off + 1, none⟩), .int .i64 sx, .int .i64 u, .int .i64 qx, .bool false, .bool false, .slice B l.length d, .int .i64 k, .pointer (some ((adr B).add (k * 3))), .pointer (some ⟨((adr B).add (k * 3)).block, ((adr B).add (k * 3)).off + 2, none⟩), .int .i64 qy, .slice A l.length c, .int .i64 k, .pointer (some ((adr A).add (k * 3))), .pointer (some ⟨((adr A).add (k * 3)).block, ((adr A).add (k * 3)).off + 2, none⟩), .int .i64 sy, .int .i64 v, .int .i64 qy, .bool false, .bool false, .bool false, .slice B l.length d, .int .i64 k, .pointer (some ((adr B).add (k * 3))), .pointer (some ((adr B).add (k * 3))), .int .i64 sk, .slice A l.length c, .int .i64 k, .pointer (some ((adr A).add (k * 3))), .pointer (some ((adr A).add (k * 3))), .int .i64 sk, .bool false, .bool false, .bool false, .int .i64 k, .bool false, .bool false, undef, undef, undef, undef, undef, undef, undef, undef, undef, undef, undef, undef, .bool false, .bool false] 0 (by kernel_rfl) (by rfl) (by kernel_rfl) (by rfl) (by rfl) (O.drew) (fun F hF => ?_)
                        simp only [fillD, Act.put, List.setIfInBounds_toArray, List.set_cons_zero, List.set_cons_succ] at hF
                        subst hF
                        refine ⟨⟨does_want rfl (by rfl) (fun w' O K hK => ?_), does_want rfl (by rfl) (fun w' O K hK => ?_), does_want rfl (by rfl) (fun w' O K hK => ?_), does_want rfl (by rfl) (fun w' O K hK => ?_), does_want rfl (by rfl) (fun w' O K hK => ?_), does_want rfl (by rfl) (fun w' O K hK => ?_), does_want rfl (by rfl) (fun w' O K hK => ?_), does_want rfl (by rfl) (fun w' O K hK => ?_), does_want rfl (by rfl) (fun w' O K hK => ?_), does_want rfl (by rfl) (fun w' O K hK => ?_), does_want rfl (by rfl) (fun w' O K hK => ?_), does_want rfl (by rfl) (fun w' O K hK => ?_), does_want rfl (by rfl) (fun w' O K hK => ?_), does_want rfl (by rfl) (fun w' O K hK => ?_), does_want rfl (by rfl) (fun w' O K hK => ?_), does_want rfl (by rfl) (fun w' O K hK => ?_), does_want rfl (by rfl) (fun w' O K hK => ?_), does_want rfl (by rfl) (fun w' O K hK => ?_), does_want rfl (by rfl) (fun w' O K hK => ?_), does_want rfl (by rfl) (fun w' O K hK => ?_), does_want rfl (by rfl) (fun w' O K hK => ?_), does_want rfl (by rfl) (fun w' O K hK => ?_), does_want rfl (by rfl) (fun w' O K hK => ?_), does_want rfl (by rfl) (fun w' O K hK => ?_), does_want rfl (by rfl) (fun w' O K hK => ?_), does_want rfl (by rfl) (fun w' O K hK => ?_), does_want rfl (by rfl) (fun w' O K hK => ?_), does_want rfl (by rfl) (fun w' O K hK => ?_), does_want rfl (by rfl) (fun w' O K hK => ?_), does_want rfl (by rfl) (fun w' O K hK => ?_), does_want rfl (by rfl) (fun w' O K hK => ?_), does_want rfl (by rfl) (fun w' O K hK => ?_), does_want rfl (by rfl) (fun w' O K hK => ?_), does_want rfl (by rfl) (fun w' O K hK => ?_), does_want rfl (by rfl) (fun w' O K hK => ?_), does_want rfl (by rfl) (fun w' O K hK => ?_), does_want rfl (by rfl) (fun w' O K hK => ?_), does_want rfl (by rfl) (fun w' O K hK => ?_), does_want rfl (by rfl) (fun w' O K hK => ?_), does_want rfl (by rfl) (fun w' O K hK => ?_), does_want rfl (by rfl) (fun w' O K hK => ?_), does_want rfl (by rfl) (fun w' O K hK => ?_), does_want rfl (by rfl) (fun w' O K hK => ?_), does_want rfl (by rfl) (fun w' O K hK => ?_), does_want rfl (by rfl) (fun w' O K hK => ?_), does_skip rfl (by rfl), does_skip rfl (by rfl), does_skip rfl (by rfl), does_skip rfl (by rfl), does_skip rfl (by rfl), does_skip rfl (by rfl), does_skip rfl (by rfl), does_skip rfl (by rfl), does_skip rfl (by rfl), does_skip rfl (by rfl), does_skip rfl (by rfl), does_skip rfl (by rfl), does_want rfl (by rfl) (fun w' O K hK => ?_), does_want rfl (by rfl) (fun w' O K hK => ?_), trivial⟩, fun w' O => ?_⟩
                        · go_simp
                          exact hK _ O
                        · go_simp
                          exact hK _ O
                        · exact wp_at_h Try.underlying30 sizeOfT ⟨w.heap.size, B, l.length, d, 3, tC m⟩ (O.mem (List.mem_cons_of_mem _ List.mem_cons_self)) rfl k rfl rfl (by omega) rfl (hK _ O)
                        · go_simp
                          exact hK _ O
                        · exact wp_ecell_h ⟨w.heap.size, B, l.length, d, 3, tC m⟩ (O.mem (List.mem_cons_of_mem _ List.mem_cons_self)) (k * 3 + 1) (v := .int .i64 qx) B1_.out (congrArg (fun z => Value.pointer (some z)) (add_fld _ (k * 3) 1 (by decide))) agg3 rfl (hK _ O)
                        · go_simp
                          exact hK _ O
                        · go_simp
                          exact hK _ O
                        · exact wp_at_h Try.underlying30 sizeOfT (tE w.heap.size A c l) (O.mem List.mem_cons_self) rfl k rfl rfl (by omega) rfl (hK _ O)
                        · go_simp
                          exact hK _ O
                        · exact wp_ecell_h (tE w.heap.size A c l) (O.mem List.mem_cons_self) (k * 3 + 1) (v := .int .i64 sx) A1_.out (congrArg (fun z => Value.pointer (some z)) (add_fld _ (k * 3) 1 (by decide))) agg3 rfl (hK _ O)
                        · go_simp
                          exact hK _ O
                        · obtain ⟨e1, e2⟩ := Hqx.out
                          go_simp
                          first | exact hK _ O | (rw [e1, e2]; exact hK _ O) | (simp only [e1, e2]; exact hK _ O)
                        · go_simp
                          exact hK _ O
                        · go_simp
                          exact hK _ O
                        · go_simp
                          exact hK _ O
                        · go_simp
                          exact hK _ O
                        · exact wp_at_h Try.underlying30 sizeOfT ⟨w.heap.size, B, l.length, d, 3, tC m⟩ (O.mem (List.mem_cons_of_mem _ List.mem_cons_self)) rfl k rfl rfl (by omega) rfl (hK _ O)
                        · go_simp
                          exact hK _ O
                        · exact wp_ecell_h ⟨w.heap.size, B, l.length, d, 3, tC m⟩ (O.mem (List.mem_cons_of_mem _ List.mem_cons_self)) (k * 3 + 2) (v := .int .i64 qy) B2_.out (congrArg (fun z => Value.pointer (some z)) (add_fld _ (k * 3) 2 (by decide))) agg3 rfl (hK _ O)
                        · go_simp
                          exact hK _ O
                        · go_simp
                          exact hK _ O
                        · exact wp_at_h Try.underlying30 sizeOfT (tE w.heap.size A c l) (O.mem List.mem_cons_self) rfl k rfl rfl (by omega) rfl (hK _ O)
                        · go_simp
                          exact hK _ O
                        · exact wp_ecell_h (tE w.heap.size A c l) (O.mem List.mem_cons_self) (k * 3 + 2) (v := .int .i64 sy) A2_.out (congrArg (fun z => Value.pointer (some z)) (add_fld _ (k * 3) 2 (by decide))) agg3 rfl (hK _ O)
                        · go_simp
                          exact hK _ O
                        · obtain ⟨e1, e2⟩ := Hqy.out
                          go_simp
                          first | exact hK _ O | (rw [e1, e2]; exact hK _ O) | (simp only [e1, e2]; exact hK _ O)
                        · go_simp
                          exact hK _ O
                        · go_simp
                          exact hK _ O
                        · go_simp
                          exact hK _ O
                        · go_simp
                          exact hK _ O
                        · go_simp
                          exact hK _ O
                        · exact wp_at_h Try.underlying30 sizeOfT ⟨w.heap.size, B, l.length, d, 3, tC m⟩ (O.mem (List.mem_cons_of_mem _ List.mem_cons_self)) rfl k rfl rfl (by omega) rfl (hK _ O)
                        · go_simp
                          exact hK _ O
                        · exact wp_ecell_h ⟨w.heap.size, B, l.length, d, 3, tC m⟩ (O.mem (List.mem_cons_of_mem _ List.mem_cons_self)) (k * 3) (v := .int .i64 sk) B0_.out rfl agg3 rfl (hK _ O)
                        · go_simp
                          exact hK _ O
                        · go_simp
                          exact hK _ O
                        · exact wp_at_h Try.underlying30 sizeOfT (tE w.heap.size A c l) (O.mem List.mem_cons_self) rfl k rfl rfl (by omega) rfl (hK _ O)
                        · go_simp
                          exact hK _ O
                        · exact wp_ecell_h (tE w.heap.size A c l) (O.mem List.mem_cons_self) (k * 3) (v := .int .i64 sk) A0_.out rfl agg3 rfl (hK _ O)
                        · go_simp
                          exact hK _ O
                        · go_simp
                          exact hK _ O
                        · go_simp
                          exact hK _ O
                        · go_simp
                          exact hK _ O
                        · go_simp
                          exact hK _ O
                        · go_simp
                          exact hK _ O
                        · go_simp
                          exact hK _ O
                        · go_simp
                          exact hK _ O
                        refine wpAny_done (by kernel_rfl) ?_ _
                        go_wp2_with fail
                        go_roundw
                        case rel => exact ⟨k + 1, by omega, by go_num, O⟩
                        case measure => simp [intOf]; omega
                      · have kb : decide (0 < k) = true := decide_eq_true (by omega)
                        obtain ⟨j, hj⟩ : ∃ j, k - 1 = j := ⟨_, rfl⟩
                        have hjl : j < l.length := by omega
                        obtain ⟨p_, hp_⟩ : ∃ p_, l[j]? = some p_ := ⟨_, List.getElem?_eq_getElem hjl⟩
                        have hlt2 := List.pairwise_iff_getElem.1 HRIS.out j k hjl hlt (by omega)
                        rw [(List.getElem?_eq_some_iff.1 hp_).2, (List.getElem?_eq_some_iff.1 HX.out).2] at hlt2
                        obtain ⟨pk, px, py⟩ := p_
                        have P0_ := Lib.hid (tC_at hp_ 0 (.int .i64 pk) rfl)
                        have pb : decide (sk ≤ pk) = false := decide_eq_false (by simp only at hlt2; omega)
                        have HJ : Hid ((k : Int) - 1 = (j : Int) ∧ IntKind.i64.wrap (j : Int) = (j : Int)) := Lib.hid ⟨by omega, IntWalk.i64_in _ (by have := HMOST.out; omega)⟩
                        clear hp_ hlt2 hj
                        clear hk0 q0
                        go_wp2_with fail
                        have OO := O
                        clear O
                        have O := OO
                        clear OO
                        clear q1
                        refine region_T ((fun w2 => Held w w2 [(g10, 25, M.mat 4 (RC.mk (u - 6) (v - 5) (u + 14) (v + 15))), (g9, 25, M.mat 4 (RC.mk (-6) (-5) 14 15)), (g5, 47, two .i8 u v), (g4, 23, M.mat 2 b), (g3, 23, M.mat 2 a)] nilRow [tE w.heap.size A c l, ⟨w.heap.size, B, l.length, d, 3, tC m⟩])) [0, 1, 2, 3, 4, 5, 6, 7, 8, 9, 10, 11, 12, 13, 14, 15, 16, 17, 18, 19, 20, 21, 22, 23, 24, 25, 26, 27, 28, 29, 30, 31, 32, 33, 34, 35, 36, 37, 38, 39, 40, 41, 42, 43, 44, 45, 46, 47, 48, 49, 50, 51, 52, 53, 54, 55, 56, 57, 58] 12 [some 113, some 114, some 115, some 116, some 117, some 118, some 119, some 120, some 121, some 122, some 123, some 124, some 125, some 126, some 127, some 128, some 129, some 130, some 131, some 132, some 133, some 134, some 135, some 136, some 137, some 138, some 139, some 140, some 141, some 142, some 143, some 144, some 145, some 146, some 147, some 148, some 149, some 150, some 151, some 152, some 153, some 154, some 155, some 156, some 157, some 158, some 159, some 160, some 161, some 162, some 163, some 164, some 165, some 166, some 167, some 168, some 169, some 170, some 171] [.slice B l.length d, .int .i64 k, .pointer (some ((adr B).add (k * 3))), .pointer (some ⟨((adr B).add (k * 3)).block, ((adr B).add (k * 3)).off + 1, none⟩), .int .i64 qx, .slice A l.length c, .int .i64 k, .pointer (some ((adr A).add (k * 3))), .pointer (some ⟨((adr A).add (k * 3)).block, ((adr A).add (k * 3)).off + 1, none⟩), .int .i64 sx, .int .i64 u, .int .i64 qx, .bool false, .bool false, .slice B l.length d, .int .i64 k, .pointer (some ((adr B).add (k * 3))), .pointer (some ⟨((adr B).add (k * 3)).block, ((adr B).add (k * 3)).off + 2, none⟩), .int .i64 qy, .slice A l.length c, .int .i64 k, .pointer (some ((adr A).add (k * 3))), .pointer (some ⟨((adr A).add (k * 3)).block, ((adr A).add (k * 3)).off + 2, none⟩), .int .i64 sy, .int .i64 v, .int .i64 qy, .bool false, .bool false, .bool false, .slice B l.length d, .int .i64 k, .pointer (some ((adr B).add (k * 3))), .pointer (some ((adr B).add (k * 3))), .int .i64 sk, .slice A l.length c, .int .i64 k, .pointer (some ((adr A).add (k * 3))), .pointer (some ((adr A).add (k * 3))), .int .i64 sk, .bool false, .bool false, .bool false, .int .i64 k, .bool true, .bool true, .slice A l.length c, .int .i64 k, .pointer (some ((adr A).add (k * 3))), .pointer (some ((adr A).add (k * 3))), .int .i64 sk, .slice A l.length c, .int .i64 k, .int .i64 (j : Int), .pointer (some ((adr A).add (j * 3))), .pointer (some ((adr A).add (j * 3))), .int .i64 pk, .bool false, .bool false, .bool false] 0 (by kernel_rfl) (by rfl) (by kernel_rfl) (by rfl) (by rfl) (O.drew) (fun F hF => ?_)
                        simp only [fillD, Act.put, List.setIfInBounds_toArray, List.set_cons_zero, List.set_cons_succ] at hF
                        subst hF
                        refine ⟨⟨does_want rfl (by rfl) (fun w' O K hK => ?_), does_want rfl (by rfl) (fun w' O K hK => ?_), does_want rfl (by rfl) (fun w' O K hK => ?_), does_want rfl (by rfl) (fun w' O K hK => ?_), does_want rfl (by rfl) (fun w' O K hK => ?_), does_want rfl (by rfl) (fun w' O K hK => ?_), does_want rfl (by rfl) (fun w' O K hK => ?_), does_want rfl (by rfl) (fun w' O K hK => ?_), does_want rfl (by rfl) (fun w' O K hK => ?_), does_want rfl (by rfl) (fun w' O K hK => ?_), does_want rfl (by rfl) (fun w' O K hK => ?_), does_want rfl (by rfl) (fun w' O K hK => ?_), does_want rfl (by rfl) (fun w' O K hK => ?_), does_want rfl (by rfl) (fun w' O K hK => ?_), does_want rfl (by rfl) (fun w' O K hK => ?_), does_want rfl (by rfl) (fun w' O K hK => ?_), does_want rfl (by rfl) (fun w' O K hK => ?_), does_want rfl (by rfl) (fun w' O K hK => ?_), does_want rfl (by rfl) (fun w' O K hK => ?_), does_want rfl (by rfl) (fun w' O K hK => ?_), does_want rfl (by rfl) (fun w' O K hK => ?_), does_want rfl (by rfl) (fun w' O K hK => ?_), does_want rfl (by rfl) (fun w' O K hK => ?_), does_want rfl (by rfl) (fun w' O K hK => ?_), does_want rfl (by rfl) (fun w' O K hK => ?_), does_want rfl (by rfl) (fun w' O K hK => ?_), does_want rfl (by rfl) (fun w' O K hK => ?_), does_want rfl (by rfl) (fun w' O K hK => ?_), does_want rfl (by rfl) (fun w' O K hK => ?_), does_want rfl (by rfl) (fun w' O K hK => ?_), does_want rfl (by rfl) (fun w' O K hK => ?_), does_want rfl (by rfl) (fun w' O K hK => ?_), does_want rfl (by rfl) (fun w' O K hK => ?_), does_want rfl (by rfl) (fun w' O K hK => ?_), does_want rfl (by rfl) (fun w' O K hK => ?_), does_want rfl (by rfl) (fun w' O K hK => ?_), does_want rfl (by rfl) (fun w' O K hK => ?_), does_want rfl (by rfl) (fun w' O K hK => ?_), does_want rfl (by rfl) (fun w' O K hK => ?_), does_want rfl (by rfl) (fun w' O K hK => ?_), does_want rfl (by rfl) (fun w' O K hK => ?_), does_want rfl (by rfl) (fun w' O K hK => ?_), does_want rfl (by rfl) (fun w' O K hK => ?_), does_want rfl (by rfl) (fun w' O K hK => ?_), does_want rfl (by rfl) (fun w' O K hK => ?_), does_want rfl (by rfl) (fun w' O K hK => ?_), does_want rfl (by rfl) (fun w' O K hK => ?_), does_want rfl (by rfl) (fun w' O K hK => ?_), does_want rfl (by rfl) (fun w' O K hK => ?_), does_want rfl (by rfl) (fun w' O K hK => ?_), does_want rfl (by rfl) (fun w' O K hK => ?_), does_want rfl (by rfl) (fun w' O K hK => ?_), does_want rfl (by rfl) (fun w' O K hK => ?_), does_want rfl (by rfl) (fun w' O K hK => ?_), does_want rfl (by rfl) (fun w' O K hK => ?_), does_want rfl (by rfl) (fun w' O K hK => ?_), does_want rfl (by rfl) (fun w' O K hK => ?_), does_want rfl (by rfl) (fun w' O K hK => ?_), does_want rfl (by rfl) (fun w' O K hK => ?_), trivial⟩, fun w' O => ?_⟩
                        · go_simp
                          exact hK _ O
                        · go_simp
                          exact hK _ O
                        · exact wp_at_h Try.underlying30 sizeOfT ⟨w.heap.size, B, l.length, d, 3, tC m⟩ (O.mem (List.mem_cons_of_mem _ List.mem_cons_self)) rfl k rfl rfl (by omega) rfl (hK _ O)
                        · go_simp
                          exact hK _ O
                        · exact wp_ecell_h ⟨w.heap.size, B, l.length, d, 3, tC m⟩ (O.mem (List.mem_cons_of_mem _ List.mem_cons_self)) (k * 3 + 1) (v := .int .i64 qx) B1_.out (congrArg (fun z => Value.pointer (some z)) (add_fld _ (k * 3) 1 (by decide))) agg3 rfl (hK _ O)
                        · go_simp
                          exact hK _ O
                        · go_simp
                          exact hK _ O
                        · exact wp_at_h Try.underlying30 sizeOfT (tE w.heap.size A c l) (O.mem List.mem_cons_self) rfl k rfl rfl (by omega) rfl (hK _ O)
                        · go_simp
                          exact hK _ O
                        · exact wp_ecell_h (tE w.heap.size A c l) (O.mem List.mem_cons_self) (k * 3 + 1) (v := .int .i64 sx) A1_.out (congrArg (fun z => Value.pointer (some z)) (add_fld _ (k * 3) 1 (by decide))) agg3 rfl (hK _ O)
                        · go_simp
                          exact hK _ O
                        · obtain ⟨e1, e2⟩ := Hqx.out
                          go_simp
                          first | exact hK _ O | (rw [e1, e2]; exact hK _ O) | (simp only [e1, e2]; exact hK _ O)
                        · go_simp
                          exact hK _ O
                        · go_simp
                          exact hK _ O
                        · go_simp
                          exact hK _ O
                        · go_simp
                          exact hK _ O
                        · exact wp_at_h Try.underlying30 sizeOfT ⟨w.heap.size, B, l.length, d, 3, tC m⟩ (O.mem (List.mem_cons_of_mem _ List.mem_cons_self)) rfl k rfl rfl (by omega) rfl (hK _ O)
                        · go_simp
                          exact hK _ O
                        · exact wp_ecell_h ⟨w.heap.size, B, l.length, d, 3, tC m⟩ (O.mem (List.mem_cons_of_mem _ List.mem_cons_self)) (k * 3 + 2) (v := .int .i64 qy) B2_.out (congrArg (fun z => Value.pointer (some z)) (add_fld _ (k * 3) 2 (by decide))) agg3 rfl (hK _ O)
                        · go_simp
                          exact hK _ O
                        · go_simp
                          exact hK _ O
                        · exact wp_at_h Try.underlying30 sizeOfT (tE w.heap.size A c l) (O.mem List.mem_cons_self) rfl k rfl rfl (by omega) rfl (hK _ O)
                        · go_simp
                          exact hK _ O
                        · exact wp_ecell_h (tE w.heap.size A c l) (O.mem List.mem_cons_self) (k * 3 + 2) (v := .int .i64 sy) A2_.out (congrArg (fun z => Value.pointer (some z)) (add_fld _ (k * 3) 2 (by decide))) agg3 rfl (hK _ O)
                        · go_simp
                          exact hK _ O
                        · obtain ⟨e1, e2⟩ := Hqy.out
                          go_simp
                          first | exact hK _ O | (rw [e1, e2]; exact hK _ O) | (simp only [e1, e2]; exact hK _ O)
                        · go_simp
                          exact hK _ O
                        · go_simp
                          exact hK _ O
                        · go_simp
                          exact hK _ O
                        · go_simp
                          exact hK _ O
                        · go_simp
                          exact hK _ O
                        · exact wp_at_h Try.underlying30 sizeOfT ⟨w.heap.size, B, l.length, d, 3, tC m⟩ (O.mem (List.mem_cons_of_mem _ List.mem_cons_self)) rfl k rfl rfl (by omega) rfl (hK _ O)
                        · go_simp
                          exact hK _ O
                        · exact wp_ecell_h ⟨w.heap.size, B, l.length, d, 3, tC m⟩ (O.mem (List.mem_cons_of_mem _ List.mem_cons_self)) (k * 3) (v := .int .i64 sk) B0_.out rfl agg3 rfl (hK _ O)
                        · go_simp
                          exact hK _ O
                        · go_simp
                          exact hK _ O
                        · exact wp_at_h Try.underlying30 sizeOfT (tE w.heap.size A c l) (O.mem List.mem_cons_self) rfl k rfl rfl (by omega) rfl (hK _ O)
                        · go_simp
                          exact hK _ O
                        · exact wp_ecell_h (tE w.heap.size A c l) (O.mem List.mem_cons_self) (k * 3) (v := .int .i64 sk) A0_.out rfl agg3 rfl (hK _ O)
                        · go_simp
                          exact hK _ O
                        · go_simp
                          exact hK _ O
                        · go_simp
                          exact hK _ O
                        · go_simp
                          exact hK _ O
                        · go_simp
                          exact hK _ O
                        · go_simp
                          exact hK _ O
                        · go_simp
                          exact hK _ O
                        · go_simp
                          exact hK _ O
                        · exact wp_at_h Try.underlying30 sizeOfT (tE w.heap.size A c l) (O.mem List.mem_cons_self) rfl k rfl rfl (by omega) rfl (hK _ O)
                        · go_simp
                          exact hK _ O
                        · exact wp_ecell_h (tE w.heap.size A c l) (O.mem List.mem_cons_self) (k * 3) (v := .int .i64 sk) A0_.out rfl agg3 rfl (hK _ O)
                        · go_simp
                          exact hK _ O
                        · go_simp
                          exact hK _ O
                        · obtain ⟨e1, e2⟩ := HJ.out
                          go_simp
                          first | exact hK _ O | (rw [e1, e2]; exact hK _ O) | (simp only [e1, e2]; exact hK _ O) | (rw [e1]; exact hK _ O) | (rw [e2]; exact hK _ O)
                        · exact wp_at_h Try.underlying30 sizeOfT (tE w.heap.size A c l) (O.mem List.mem_cons_self) rfl j rfl rfl (by omega) rfl (hK _ O)
                        · go_simp
                          exact hK _ O
                        · exact wp_ecell_h (tE w.heap.size A c l) (O.mem List.mem_cons_self) (j * 3) (v := .int .i64 pk) P0_.out rfl agg3 rfl (hK _ O)
                        · go_simp
                          exact hK _ O
                        · go_simp
                          exact hK _ O
                        · go_simp
                          exact hK _ O
                        refine wpAny_done (by kernel_rfl) ?_ _
                        go_wp2_with fail
                        go_roundw
                        case rel => exact ⟨k + 1, by omega, by go_num, O⟩
                        case measure => simp [intOf]; omega
                    · have q1 : ¬ (k : Int) < l.length := by omega
                      go_wp2_with (go_at_call 10; refine (awake_any _).mono ?_; rintro e w20 ⟨rfl, hb⟩; replace O := O.call hb; clear hb)
                      go_ret
                      exact ⟨rfl, O.below⟩
                · clear EA HUV
                  go_enter Try.func7, Try.ntmps7
                  go_wp2_with (first | ((with_reducible refine at_box 3 ?_); refine wpList_box_h O (M.mat 2 (a)) rfl ?_; clear O; intro g3 w1 O) | ((with_reducible refine at_box 4 ?_); refine wpList_box_h O (M.mat 2 (b)) rfl ?_; clear O; intro g4 w2 O) | ((with_reducible refine at_box 5 ?_); refine wpList_box_h O (two .i8 u v) rfl ?_; clear O; intro g5 w3 O) | ((with_reducible refine at_load 15 ?_); refine wpList_cell_h (v := .int .i64 (a0)) rfl O 2 rfl Ca0.out rfl agg3 rfl ?_) | ((with_reducible refine at_load 19 ?_); refine wpList_cell_h (v := .int .i64 (a0)) rfl O 2 rfl Ca0.out rfl agg3 rfl ?_) | ((with_reducible refine at_load 24 ?_); refine wpList_cell_h (v := .int .i64 (a1)) rfl O 2 rfl Ca1.out rfl agg3 rfl ?_) | ((with_reducible refine at_load 29 ?_); refine wpList_cell_h (v := .int .i64 (a1)) rfl O 2 rfl Ca1.out rfl agg3 rfl ?_) | ((with_reducible refine at_load 34 ?_); refine wpList_cell_h (v := .int .i64 (b0)) rfl O 1 rfl Cb0.out rfl agg3 rfl ?_) | ((with_reducible refine at_load 39 ?_); refine wpList_cell_h (v := .int .i64 (b0)) rfl O 1 rfl Cb0.out rfl agg3 rfl ?_) | ((with_reducible refine at_load 44 ?_); refine wpList_cell_h (v := .int .i64 (b1)) rfl O 1 rfl Cb1.out rfl agg3 rfl ?_) | ((with_reducible refine at_load 49 ?_); refine wpList_cell_h (v := .int .i64 (b1)) rfl O 1 rfl Cb1.out rfl agg3 rfl ?_) | (go_at_call 10; refine (awake_any _).mono ?_; rintro e w20 ⟨rfl, hb⟩; replace O := O.call hb; clear hb))
                  go_ret
                  exact ⟨rfl, O.below⟩
              · clear EA HUV
                go_enter Try.func7, Try.ntmps7
                go_wp2_with (first | ((with_reducible refine at_box 3 ?_); refine wpList_box_h O (M.mat 2 (a)) rfl ?_; clear O; intro g3 w1 O) | ((with_reducible refine at_box 4 ?_); refine wpList_box_h O (M.mat 2 (b)) rfl ?_; clear O; intro g4 w2 O) | ((with_reducible refine at_box 5 ?_); refine wpList_box_h O (two .i8 u v) rfl ?_; clear O; intro g5 w3 O) | ((with_reducible refine at_load 15 ?_); refine wpList_cell_h (v := .int .i64 (a0)) rfl O 2 rfl Ca0.out rfl agg3 rfl ?_) | ((with_reducible refine at_load 19 ?_); refine wpList_cell_h (v := .int .i64 (a0)) rfl O 2 rfl Ca0.out rfl agg3 rfl ?_) | ((with_reducible refine at_load 24 ?_); refine wpList_cell_h (v := .int .i64 (a1)) rfl O 2 rfl Ca1.out rfl agg3 rfl ?_) | ((with_reducible refine at_load 29 ?_); refine wpList_cell_h (v := .int .i64 (a1)) rfl O 2 rfl Ca1.out rfl agg3 rfl ?_) | ((with_reducible refine at_load 34 ?_); refine wpList_cell_h (v := .int .i64 (b0)) rfl O 1 rfl Cb0.out rfl agg3 rfl ?_) | ((with_reducible refine at_load 39 ?_); refine wpList_cell_h (v := .int .i64 (b0)) rfl O 1 rfl Cb0.out rfl agg3 rfl ?_) | ((with_reducible refine at_load 44 ?_); refine wpList_cell_h (v := .int .i64 (b1)) rfl O 1 rfl Cb1.out rfl agg3 rfl ?_) | ((with_reducible refine at_load 49 ?_); refine wpList_cell_h (v := .int .i64 (b1)) rfl O 1 rfl Cb1.out rfl agg3 rfl ?_) | (go_at_call 10; refine (awake_any _).mono ?_; rintro e w20 ⟨rfl, hb⟩; replace O := O.call hb; clear hb))
                go_ret
                exact ⟨rfl, O.below⟩
            · clear EA HUV
              go_enter Try.func7, Try.ntmps7
              go_wp2_with (first | ((with_reducible refine at_box 3 ?_); refine wpList_box_h O (M.mat 2 (a)) rfl ?_; clear O; intro g3 w1 O) | ((with_reducible refine at_box 4 ?_); refine wpList_box_h O (M.mat 2 (b)) rfl ?_; clear O; intro g4 w2 O) | ((with_reducible refine at_box 5 ?_); refine wpList_box_h O (two .i8 u v) rfl ?_; clear O; intro g5 w3 O) | ((with_reducible refine at_load 15 ?_); refine wpList_cell_h (v := .int .i64 (a0)) rfl O 2 rfl Ca0.out rfl agg3 rfl ?_) | ((with_reducible refine at_load 19 ?_); refine wpList_cell_h (v := .int .i64 (a0)) rfl O 2 rfl Ca0.out rfl agg3 rfl ?_) | ((with_reducible refine at_load 24 ?_); refine wpList_cell_h (v := .int .i64 (a1)) rfl O 2 rfl Ca1.out rfl agg3 rfl ?_) | ((with_reducible refine at_load 29 ?_); refine wpList_cell_h (v := .int .i64 (a1)) rfl O 2 rfl Ca1.out rfl agg3 rfl ?_) | ((with_reducible refine at_load 34 ?_); refine wpList_cell_h (v := .int .i64 (b0)) rfl O 1 rfl Cb0.out rfl agg3 rfl ?_) | ((with_reducible refine at_load 39 ?_); refine wpList_cell_h (v := .int .i64 (b0)) rfl O 1 rfl Cb0.out rfl agg3 rfl ?_) | ((with_reducible refine at_load 44 ?_); refine wpList_cell_h (v := .int .i64 (b1)) rfl O 1 rfl Cb1.out rfl agg3 rfl ?_) | ((with_reducible refine at_load 49 ?_); refine wpList_cell_h (v := .int .i64 (b1)) rfl O 1 rfl Cb1.out rfl agg3 rfl ?_) | (go_at_call 10; refine (awake_any _).mono ?_; rintro e w20 ⟨rfl, hb⟩; replace O := O.call hb; clear hb))
              go_ret
              exact ⟨rfl, O.below⟩
          · clear EA HUV
            go_enter Try.func7, Try.ntmps7
            go_wp2_with (first | ((with_reducible refine at_box 3 ?_); refine wpList_box_h O (M.mat 2 (a)) rfl ?_; clear O; intro g3 w1 O) | ((with_reducible refine at_box 4 ?_); refine wpList_box_h O (M.mat 2 (b)) rfl ?_; clear O; intro g4 w2 O) | ((with_reducible refine at_box 5 ?_); refine wpList_box_h O (two .i8 u v) rfl ?_; clear O; intro g5 w3 O) | ((with_reducible refine at_load 15 ?_); refine wpList_cell_h (v := .int .i64 (a0)) rfl O 2 rfl Ca0.out rfl agg3 rfl ?_) | ((with_reducible refine at_load 19 ?_); refine wpList_cell_h (v := .int .i64 (a0)) rfl O 2 rfl Ca0.out rfl agg3 rfl ?_) | ((with_reducible refine at_load 24 ?_); refine wpList_cell_h (v := .int .i64 (a1)) rfl O 2 rfl Ca1.out rfl agg3 rfl ?_) | ((with_reducible refine at_load 29 ?_); refine wpList_cell_h (v := .int .i64 (a1)) rfl O 2 rfl Ca1.out rfl agg3 rfl ?_) | ((with_reducible refine at_load 34 ?_); refine wpList_cell_h (v := .int .i64 (b0)) rfl O 1 rfl Cb0.out rfl agg3 rfl ?_) | ((with_reducible refine at_load 39 ?_); refine wpList_cell_h (v := .int .i64 (b0)) rfl O 1 rfl Cb0.out rfl agg3 rfl ?_) | ((with_reducible refine at_load 44 ?_); refine wpList_cell_h (v := .int .i64 (b1)) rfl O 1 rfl Cb1.out rfl agg3 rfl ?_) | ((with_reducible refine at_load 49 ?_); refine wpList_cell_h (v := .int .i64 (b1)) rfl O 1 rfl Cb1.out rfl agg3 rfl ?_) | (go_at_call 10; refine (awake_any _).mono ?_; rintro e w20 ⟨rfl, hb⟩; replace O := O.call hb; clear hb))
            go_ret
            exact ⟨rfl, O.below⟩
        · clear EA HUV
          go_enter Try.func7, Try.ntmps7
          go_wp2_with (first | ((with_reducible refine at_box 3 ?_); refine wpList_box_h O (M.mat 2 (a)) rfl ?_; clear O; intro g3 w1 O) | ((with_reducible refine at_box 4 ?_); refine wpList_box_h O (M.mat 2 (b)) rfl ?_; clear O; intro g4 w2 O) | ((with_reducible refine at_box 5 ?_); refine wpList_box_h O (two .i8 u v) rfl ?_; clear O; intro g5 w3 O) | ((with_reducible refine at_load 15 ?_); refine wpList_cell_h (v := .int .i64 (a0)) rfl O 2 rfl Ca0.out rfl agg3 rfl ?_) | ((with_reducible refine at_load 19 ?_); refine wpList_cell_h (v := .int .i64 (a0)) rfl O 2 rfl Ca0.out rfl agg3 rfl ?_) | ((with_reducible refine at_load 24 ?_); refine wpList_cell_h (v := .int .i64 (a1)) rfl O 2 rfl Ca1.out rfl agg3 rfl ?_) | ((with_reducible refine at_load 29 ?_); refine wpList_cell_h (v := .int .i64 (a1)) rfl O 2 rfl Ca1.out rfl agg3 rfl ?_) | ((with_reducible refine at_load 34 ?_); refine wpList_cell_h (v := .int .i64 (b0)) rfl O 1 rfl Cb0.out rfl agg3 rfl ?_) | ((with_reducible refine at_load 39 ?_); refine wpList_cell_h (v := .int .i64 (b0)) rfl O 1 rfl Cb0.out rfl agg3 rfl ?_) | ((with_reducible refine at_load 44 ?_); refine wpList_cell_h (v := .int .i64 (b1)) rfl O 1 rfl Cb1.out rfl agg3 rfl ?_) | ((with_reducible refine at_load 49 ?_); refine wpList_cell_h (v := .int .i64 (b1)) rfl O 1 rfl Cb1.out rfl agg3 rfl ?_) | (go_at_call 10; refine (awake_any _).mono ?_; rintro e w20 ⟨rfl, hb⟩; replace O := O.call hb; clear hb))
          go_ret
          exact ⟨rfl, O.below⟩
      · clear EA HUV
        go_enter Try.func7, Try.ntmps7
        go_wp2_with (first | ((with_reducible refine at_box 3 ?_); refine wpList_box_h O (M.mat 2 (a)) rfl ?_; clear O; intro g3 w1 O) | ((with_reducible refine at_box 4 ?_); refine wpList_box_h O (M.mat 2 (b)) rfl ?_; clear O; intro g4 w2 O) | ((with_reducible refine at_box 5 ?_); refine wpList_box_h O (two .i8 u v) rfl ?_; clear O; intro g5 w3 O) | ((with_reducible refine at_load 15 ?_); refine wpList_cell_h (v := .int .i64 (a0)) rfl O 2 rfl Ca0.out rfl agg3 rfl ?_) | ((with_reducible refine at_load 19 ?_); refine wpList_cell_h (v := .int .i64 (a0)) rfl O 2 rfl Ca0.out rfl agg3 rfl ?_) | ((with_reducible refine at_load 24 ?_); refine wpList_cell_h (v := .int .i64 (a1)) rfl O 2 rfl Ca1.out rfl agg3 rfl ?_) | ((with_reducible refine at_load 29 ?_); refine wpList_cell_h (v := .int .i64 (a1)) rfl O 2 rfl Ca1.out rfl agg3 rfl ?_) | ((with_reducible refine at_load 34 ?_); refine wpList_cell_h (v := .int .i64 (b0)) rfl O 1 rfl Cb0.out rfl agg3 rfl ?_) | ((with_reducible refine at_load 39 ?_); refine wpList_cell_h (v := .int .i64 (b0)) rfl O 1 rfl Cb0.out rfl agg3 rfl ?_) | ((with_reducible refine at_load 44 ?_); refine wpList_cell_h (v := .int .i64 (b1)) rfl O 1 rfl Cb1.out rfl agg3 rfl ?_) | ((with_reducible refine at_load 49 ?_); refine wpList_cell_h (v := .int .i64 (b1)) rfl O 1 rfl Cb1.out rfl agg3 rfl ?_) | (go_at_call 10; refine (awake_any _).mono ?_; rintro e w20 ⟨rfl, hb⟩; replace O := O.call hb; clear hb))
        go_ret
        exact ⟨rfl, O.below⟩
    · clear EA HUV
      go_enter Try.func7, Try.ntmps7
      go_wp2_with (first | ((with_reducible refine at_box 3 ?_); refine wpList_box_h O (M.mat 2 (a)) rfl ?_; clear O; intro g3 w1 O) | ((with_reducible refine at_box 4 ?_); refine wpList_box_h O (M.mat 2 (b)) rfl ?_; clear O; intro g4 w2 O) | ((with_reducible refine at_box 5 ?_); refine wpList_box_h O (two .i8 u v) rfl ?_; clear O; intro g5 w3 O) | ((with_reducible refine at_load 15 ?_); refine wpList_cell_h (v := .int .i64 (a0)) rfl O 2 rfl Ca0.out rfl agg3 rfl ?_) | ((with_reducible refine at_load 19 ?_); refine wpList_cell_h (v := .int .i64 (a0)) rfl O 2 rfl Ca0.out rfl agg3 rfl ?_) | ((with_reducible refine at_load 24 ?_); refine wpList_cell_h (v := .int .i64 (a1)) rfl O 2 rfl Ca1.out rfl agg3 rfl ?_) | ((with_reducible refine at_load 29 ?_); refine wpList_cell_h (v := .int .i64 (a1)) rfl O 2 rfl Ca1.out rfl agg3 rfl ?_) | ((with_reducible refine at_load 34 ?_); refine wpList_cell_h (v := .int .i64 (b0)) rfl O 1 rfl Cb0.out rfl agg3 rfl ?_) | ((with_reducible refine at_load 39 ?_); refine wpList_cell_h (v := .int .i64 (b0)) rfl O 1 rfl Cb0.out rfl agg3 rfl ?_) | ((with_reducible refine at_load 44 ?_); refine wpList_cell_h (v := .int .i64 (b1)) rfl O 1 rfl Cb1.out rfl agg3 rfl ?_) | ((with_reducible refine at_load 49 ?_); refine wpList_cell_h (v := .int .i64 (b1)) rfl O 1 rfl Cb1.out rfl agg3 rfl ?_) | (go_at_call 10; refine (awake_any _).mono ?_; rintro e w20 ⟨rfl, hb⟩; replace O := O.call hb; clear hb))
      go_ret
      exact ⟨rfl, O.below⟩
  · clear EA HUV
    go_enter Try.func7, Try.ntmps7
    go_wp2_with (first | ((with_reducible refine at_box 3 ?_); refine wpList_box_h O (M.mat 2 (a)) rfl ?_; clear O; intro g3 w1 O) | ((with_reducible refine at_box 4 ?_); refine wpList_box_h O (M.mat 2 (b)) rfl ?_; clear O; intro g4 w2 O) | ((with_reducible refine at_box 5 ?_); refine wpList_box_h O (two .i8 u v) rfl ?_; clear O; intro g5 w3 O) | ((with_reducible refine at_load 15 ?_); refine wpList_cell_h (v := .int .i64 (a0)) rfl O 2 rfl Ca0.out rfl agg3 rfl ?_) | ((with_reducible refine at_load 19 ?_); refine wpList_cell_h (v := .int .i64 (a0)) rfl O 2 rfl Ca0.out rfl agg3 rfl ?_) | ((with_reducible refine at_load 24 ?_); refine wpList_cell_h (v := .int .i64 (a1)) rfl O 2 rfl Ca1.out rfl agg3 rfl ?_) | ((with_reducible refine at_load 29 ?_); refine wpList_cell_h (v := .int .i64 (a1)) rfl O 2 rfl Ca1.out rfl agg3 rfl ?_) | ((with_reducible refine at_load 34 ?_); refine wpList_cell_h (v := .int .i64 (b0)) rfl O 1 rfl Cb0.out rfl agg3 rfl ?_) | ((with_reducible refine at_load 39 ?_); refine wpList_cell_h (v := .int .i64 (b0)) rfl O 1 rfl Cb0.out rfl agg3 rfl ?_) | ((with_reducible refine at_load 44 ?_); refine wpList_cell_h (v := .int .i64 (b1)) rfl O 1 rfl Cb1.out rfl agg3 rfl ?_) | ((with_reducible refine at_load 49 ?_); refine wpList_cell_h (v := .int .i64 (b1)) rfl O 1 rfl Cb1.out rfl agg3 rfl ?_) | (go_at_call 10; refine (awake_any _).mono ?_; rintro e w20 ⟨rfl, hb⟩; replace O := O.call hb; clear hb))
    go_ret
    exact ⟨rfl, O.below⟩

theorem readable : ∀ t ∈ Try.f7.params.toList, Try.prog.readableRec t = true ∧ t < Try.prog.types.size := by
  intro t ht
  rw [Try.params7] at ht
  simp only [List.mem_cons, List.not_mem_nil, or_false] at ht
  repeat (first | (rcases ht with rfl | ht; exact ⟨by kernel_rfl, of_decide_eq_true (by kernel_rfl)⟩) | (subst ht; exact ⟨by kernel_rfl, of_decide_eq_true (by kernel_rfl)⟩))
set_option maxRecDepth 100000 in
theorem lifted (os : Os) (started : os.Started) (H : Type) (enc : TypeId × Value → H) :
    ReturnsInHanded {} Try.checked os 7 .any (Rows.walkMovesSpec.pre6 enc Try.prog Try.f7 Rows.walkMovesRow.domain false) (Rows.walkMovesSpec.post enc Try.prog Try.f7 false true false false) := by
  refine returnsInHanded_of_change (C := Try.checked) own started (by kernel_rfl) Try.func7
    (ChangeSpec.witness6 (enc := enc) (C := Try.checked) false ⟨#[], #[.agg #[.int .i64 0, .int .i64 0], .agg #[.int .i64 0, .int .i64 0], .agg #[.int .i8 0, .int .i8 0]], []⟩ 8 (by kernel_rfl) (by kernel_rfl) (by kernel_rfl) (by kernel_rfl)) ?_
  intro W base args ds gs before hval0 hW hcnd _
  have hval : ∀ (j : Nat) t v, Try.f7.params[j]? = some t → args[j]? = some v → Value.okWide Try.prog W .any base t v := hval0
  have hW' := hW
  obtain ⟨p, q, hA0, hV, rfl, hfz, hnd⟩ := hW
  have hA : DataW.TrodAll enc Try.prog W 0 (fun _ => true) true Try.f7.params.toList args.toList ds p := hA0
  rw [Try.params7] at hA hval
  have hlt : ∀ x ∈ p ++ q, x.block < W.heap.size := fun x hx => hW'.lt x hx
  obtain ⟨v0, vs0, d0, ds0, p0, q0, hargs, rfl, rfl, h0, rr0⟩ := trodAll_cons hA
  obtain ⟨v1, vs1, d1, ds1, p1, q1, rfl, rfl, rfl, h1, rr1⟩ := trodAll_cons rr0
  obtain ⟨v2, vs2, d2, ds2, p2, q2, rfl, rfl, rfl, h2, rr2⟩ := trodAll_cons rr1
  obtain ⟨rfl, rfl, rfl⟩ := trodAll_nil rr2
  obtain rfl : args = #[v0, v1, v2] := by cases args; simp_all
  obtain ⟨rfl, rfl⟩ := trodVars_none hV
  obtain ⟨a0, rfl⟩ := openPoint (hval 0 23 v0 rfl rfl) h0
  obtain ⟨a1, rfl⟩ := openPoint (hval 1 23 v1 rfl rfl) h1
  obtain ⟨u2, v2_, rfl, x2⟩ := openI8 (hval 2 47 v2 rfl rfl) h2
  clear hA0 hval0
  refine (walk W a0 a1 u2 v2_ x2).mono fun e W' ⟨he, hg⟩ => ?_
  subst he
  exact ⟨_, rfl, post_true (tb := 4) laid readable (by kernel_rfl) Try.underlying4 rfl (fun l hl => by
    match l, hl with
    | [_, _, _], _ => exact ⟨rfl, rfl, rfl⟩) hW' hg⟩

theorem over : Rows.walkMovesRow.holds Try.pinned (OpenSpec.ofChange Rows.walkMovesSpec) :=
  OpenClaim.holds_of_wide 7 Try.f7 rfl rfl rfl rfl rfl rfl rfl ⟨rfl, rfl, rfl, rfl, rfl⟩ rfl rfl rfl rfl rfl (by kernel_rfl) Try.func7 (by kernel_rfl)
    (of_decide_eq_true (by kernel_rfl)) (by unfold Func.isWrapper; first | (rw [if_pos (by decide +kernel)]; kernel_rfl) | (rw [if_neg (by decide +kernel)]; exact ⟨rfl, rfl⟩))
    (fun os started H enc _ => lifted os started H enc)

theorem proved : Rows.WalkMovesSaid :=
  over
#print axioms proved
end Go.Proofs.Ytheolajpjpnfjaa.walkMoves
