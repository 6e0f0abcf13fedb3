/- Contract of the program's Spans. -/
import Derived.Test.YtndaijcgjhmiaaaJu
import Derived.Test.YtndaijcgjhmiaaaSv
namespace Go.Proofs.Ytndaijcgjhmiaaa
open Go.ChangeShapes Go.WideShapes Go.ChangeAt Go.RowKit
set_option linter.unusedVariables false
set_option linter.unusedSimpArgs false

theorem TR.cutL_step {l : List (Nat → Int)} {k : Nat} {s : Nat → Int} (h : l[k]? = some s) (t : Nat → Int) : TR.cutL (l.take (k + 1)) t = TR.cutS s (TR.cutL (l.take k) t) := by
  have e : l.take (k + 1) = l.take k ++ [s] := by rw [List.take_add_one, h]; rfl
  rw [e]
  unfold TR.cutL
  rw [List.foldl_append]
  rfl
theorem TR.cutL_sp (l : List (Nat → Int)) (y u v : Int) : ∃ u' v', TR.cutL l (TR.sp y u v) = TR.sp y u' v' := by
  induction l generalizing u v with
  | nil => exact ⟨u, v, rfl⟩
  | cons s l ih => exact ih _ _
theorem TR.sds_pos {a b c : Nat → Int} (h : TR.ar a b c ≠ 0) : (TR.sds a b c).length = 3 := by
  unfold TR.sds
  split
  · rfl
  · rfl
theorem TR.sds_flat {a b c : Nat → Int} (h : TR.ar a b c = 0) : TR.sds a b c = [] := by
  unfold TR.sds
  rw [if_neg (by omega), if_pos h]
set_option maxRecDepth 100000 in
set_option maxHeartbeats 64000000 in
theorem pspans20_any (a b c r : Nat → Int) (ha : TR.May a) (hb : TR.May b) (hc : TR.May c) (hs : RC.area r ≤ 100000) (w : World) : Calls Try.prog 13 #[arr 7 a, arr 7 b, arr 7 c, arr 4 r] w (RetS w (TR.spans a b c r)) := by
  have O := Held.start w [] (by simp)
  have CS := fun w => psides20 a b c ha hb hc w
  by_cases hA : TR.ar a b c = 0
  · rw [TR.way_flat hA]
    rw [TR.sds_flat hA] at CS
    clear ha hb hc hs hA
    obtain ⟨l, hl⟩ : ∃ l : List (Nat → Int), [] = l := ⟨_, rfl⟩
    rw [hl] at CS
    have K1 : ((l.length : Int) == 0) = true := by rw [← hl]; rfl
    clear hl
    go_enter Try.func13, Try.ntmps13
    go_wp2_with (first | ((with_reducible refine at_box 4 ?_); refine wpList_box_h O (M.mat 7 (a)) rfl ?_; clear O; intro g4 w1 O) | ((with_reducible refine at_box 5 ?_); refine wpList_box_h O (M.mat 7 (b)) rfl ?_; clear O; intro g5 w2 O) | ((with_reducible refine at_box 6 ?_); refine wpList_box_h O (M.mat 7 (c)) rfl ?_; clear O; intro g6 w3 O) | ((with_reducible refine at_box 7 ?_); refine wpList_box_h O (M.mat 4 (r)) rfl ?_; clear O; intro g7 w4 O) | ((with_reducible refine at_load 15 ?_); refine wpList_rowg_h rfl O 3 rfl rfl Try.underlying34 rfl (sW _) ?_) | ((with_reducible refine at_load 16 ?_); refine wpList_rowg_h rfl O 2 rfl rfl Try.underlying34 rfl (sW _) ?_) | ((with_reducible refine at_load 17 ?_); refine wpList_rowg_h rfl O 1 rfl rfl Try.underlying34 rfl (sW _) ?_) | (go_at_call 22; refine (CS _).mono ?_; rintro e w5 ⟨A, cc, rfl, hL, hb⟩; have O2 : Held w w5 [(g7, 27, M.mat 4 r), (g6, 34, M.mat 7 c), (g5, 34, M.mat 7 b), (g4, 34, M.mat 7 a)] nilRow [dE_ w.heap.size A cc l] := O.gain hb hL; clear O hL hb; have O := O2; clear O2))
    go_ret
    exact retS_nil O.below
  have CB := fun w => pbox20 a b c ha hb hc w
  have CN := fun w => prand18 r (TR.bx a b c) w
  have CC := Lib.hid (fun s (hs : s ∈ TR.sds a b c) y p q (hy : -4194304 ≤ y ∧ y ≤ 4194304) w => pcut20 s y p q (TR.sds_sd ha hb hc s hs) hy w)
  have HL3 := TR.sds_pos hA
  cases hr : RC.right (RC.both r (TR.bx a b c))
  · rw [TR.way_none ha hb hc hr]
    rw [TR.both_not hr] at CN
    clear ha hb hc hs hA hr CC
    generalize TR.bx a b c = bx at *
    generalize TR.sds a b c = l at *
    have K1 : ((l.length : Int) == 0) = false := by rw [HL3]; rfl
    clear HL3
    obtain ⟨rr, hrr⟩ : ∃ rr, M.zero = rr := ⟨_, rfl⟩
    rw [hrr] at CN
    have Cr1 := cell_is (n := 4) (a := rr) (i := 1) (z := 0) (by rw [← hrr]; rfl) (by decide)
    have Cr3 := cell_is (n := 4) (a := rr) (i := 3) (z := 0) (by rw [← hrr]; rfl) (by decide)
    clear hrr
    go_enter Try.func13, Try.ntmps13
    go_wp2_with (first | ((with_reducible refine at_box 4 ?_); refine wpList_box_h O (M.mat 7 (a)) rfl ?_; clear O; intro g4 w1 O) | ((with_reducible refine at_box 5 ?_); refine wpList_box_h O (M.mat 7 (b)) rfl ?_; clear O; intro g5 w2 O) | ((with_reducible refine at_box 6 ?_); refine wpList_box_h O (M.mat 7 (c)) rfl ?_; clear O; intro g6 w3 O) | ((with_reducible refine at_box 7 ?_); refine wpList_box_h O (M.mat 4 (r)) rfl ?_; clear O; intro g7 w4 O) | ((with_reducible refine at_load 15 ?_); refine wpList_rowg_h rfl O 3 rfl rfl Try.underlying34 rfl (sW _) ?_) | ((with_reducible refine at_load 16 ?_); refine wpList_rowg_h rfl O 2 rfl rfl Try.underlying34 rfl (sW _) ?_) | ((with_reducible refine at_load 17 ?_); refine wpList_rowg_h rfl O 1 rfl rfl Try.underlying34 rfl (sW _) ?_) | (go_at_call 22; refine (CS _).mono ?_; rintro e w5 ⟨A, cc, rfl, hL, hb⟩; have O2 : Held w w5 [(g7, 27, M.mat 4 r), (g6, 34, M.mat 7 c), (g5, 34, M.mat 7 b), (g4, 34, M.mat 7 a)] nilRow [dE_ w.heap.size A cc l] := O.gain hb hL; clear O hL hb; have O := O2; clear O2))
    refine region_T (fun w2 => Held w w2 [(g7, 27, M.mat 4 r), (g6, 34, M.mat 7 c), (g5, 34, M.mat 7 b), (g4, 34, M.mat 7 a)] nilRow [dE_ w.heap.size A cc l]) [0, 1, 2, 3, 4, 5] 12 [some 22, some 23, some 24, some 25, some 26, some 27] [arr 4 r, arr 7 a, arr 7 b, arr 7 c, arr 4 bx, arr 4 rr] 1 (by kernel_rfl) (by rfl) (by kernel_rfl) (by rfl) (by rfl) (O.drew) (fun F hF => ?_)
    simp only [fillD, Act.put, List.setIfInBounds_toArray, List.set_cons_zero, List.set_cons_succ] at hF
    subst hF
    refine ⟨⟨does_want rfl (by rfl) (fun w' O K hK => ?_), does_want rfl (by rfl) (fun w' O K hK => ?_), does_want rfl (by rfl) (fun w' O K hK => ?_), does_want rfl (by rfl) (fun w' O K hK => ?_), does_want rfl (by rfl) (fun w' O K hK => ?_), does_want rfl (by rfl) (fun w' O K hK => ?_), trivial⟩, fun w' O => ?_⟩
    · exact wp_row_h O 0 rfl rfl Try.underlying27 rfl (sR _) (hK _ O)
    · exact wp_row_h O 3 rfl rfl Try.underlying34 rfl (sW _) (hK _ O)
    · exact wp_row_h O 2 rfl rfl Try.underlying34 rfl (sW _) (hK _ O)
    · exact wp_row_h O 1 rfl rfl Try.underlying34 rfl (sW _) (hK _ O)
    · go_simp
      go_at_call 24
      refine (CB _).mono ?_
      rintro e w2 ⟨rfl, hb⟩
      exact hK _ (O.call hb)
    · go_simp
      go_at_call 23
      refine (CN _).mono ?_
      rintro e w2 ⟨rfl, hb⟩
      exact hK _ (O.call hb)
    refine wpAny_want (i := 6) (by kernel_rfl) rfl (by rfl) (fun K hK => ?_)
    refine wp_put_h O 0 (M.mat 4 rr) rfl rfl rfl (sR _) (M.mat_len2 _ _ _) (M.mat_one _ _) fun w9 O9 => hK _ _ ?_
    clear O
    have O := O9
    clear O9
    clear hK K
    try simp only [Act.put, List.setIfInBounds_toArray, List.set_cons_zero, List.set_cons_succ]
    refine wpAny_done (by kernel_rfl) ?_ _
    go_wp2_with ((with_reducible refine at_load 29 ?_); refine wpList_cell_h (v := .int .i64 (0)) rfl O 0 rfl Cr1.out rfl agg3 rfl ?_)
    go_loopw [10, 11] (fun u t_ wr => u = .slice none 0 0 ∧ t_ = .int .i64 0 ∧ Held w wr [(g7, 27, M.mat 4 rr), (g6, 34, M.mat 7 c), (g5, 34, M.mat 7 b), (g4, 34, M.mat 7 a)] nilRow [dE_ w.heap.size A cc l]) (fun _ _ _ => 0)
    case atStart => exact ⟨rfl, rfl, O⟩
    case round =>
      clear O
      obtain ⟨rfl, rfl, O⟩ := hrel
      go_wp2_with ((with_reducible refine at_load 32 ?_); refine wpList_cell_h (v := .int .i64 (0)) rfl O 0 rfl Cr3.out rfl agg3 rfl ?_)
      go_ret
      exact retS_nil O.below
  obtain ⟨HW1, HW2, HW3⟩ := TR.way ha hb hc hA hr
  obtain ⟨hr1, hr2, hr3⟩ := RC.right_iff.1 hr
  have HQL := fun y => TR.spk_len a b c r y
  have HRL : RC.right r = true := (TR.both_right hr).1
  obtain ⟨hq1, hq2, hq3⟩ := RC.right_iff.1 HRL
  have hle : ∀ y, y < RC.both r (TR.bx a b c) 3 → (TR.spk a b c r y).length ≤ 9000000 := fun y hy => Nat.le_trans (HQL y) (by
    have e := (TR.both_right hr).2.2
    rw [e] at hy
    have hy2 : y < min (r 3) (TR.bx a b c 3) := hy
    omega)
  clear HQL HRL hq1 hq2 hq3 hs
  rw [← HW2]
  unfold TR.rowP at HW3
  generalize TR.spk a b c r = PT at *
  clear HW2 ha hb hc hA hr
  generalize TR.bx a b c = bx at *
  generalize RC.both r bx = rr at *
  generalize TR.sds a b c = l at *
  have K1 : ((l.length : Int) == 0) = false := by rw [HL3]; rfl
  obtain ⟨r0, er0⟩ : ∃ z, rr 0 = z := ⟨_, rfl⟩
  have Cr0 := cell_is (n := 4) er0 (by decide)
  obtain ⟨r1, er1⟩ : ∃ z, rr 1 = z := ⟨_, rfl⟩
  have Cr1 := cell_is (n := 4) er1 (by decide)
  obtain ⟨r2, er2⟩ : ∃ z, rr 2 = z := ⟨_, rfl⟩
  have Cr2 := cell_is (n := 4) er2 (by decide)
  obtain ⟨r3, er3⟩ : ∃ z, rr 3 = z := ⟨_, rfl⟩
  have Cr3 := cell_is (n := 4) er3 (by decide)
  simp only [er0, er1, er2, er3] at HW1 HW3 hle hr1 hr2 hr3 ⊢
  clear er0 er1 er2 er3
  have H0 := Lib.hid HW1
  have HP := Lib.hid HW3
  have HLE := Lib.hid hle
  have HRL := Lib.hid (And.intro hr1 (And.intro hr2 hr3))
  have HLL := Lib.hid HL3
  clear HW1 HW3 hle hr1 hr2 hr3 HL3
  go_enter Try.func13, Try.ntmps13
  go_wp2_with (first | ((with_reducible refine at_box 4 ?_); refine wpList_box_h O (M.mat 7 (a)) rfl ?_; clear O; intro g4 w1 O) | ((with_reducible refine at_box 5 ?_); refine wpList_box_h O (M.mat 7 (b)) rfl ?_; clear O; intro g5 w2 O) | ((with_reducible refine at_box 6 ?_); refine wpList_box_h O (M.mat 7 (c)) rfl ?_; clear O; intro g6 w3 O) | ((with_reducible refine at_box 7 ?_); refine wpList_box_h O (M.mat 4 (r)) rfl ?_; clear O; intro g7 w4 O) | ((with_reducible refine at_load 15 ?_); refine wpList_rowg_h rfl O 3 rfl rfl Try.underlying34 rfl (sW _) ?_) | ((with_reducible refine at_load 16 ?_); refine wpList_rowg_h rfl O 2 rfl rfl Try.underlying34 rfl (sW _) ?_) | ((with_reducible refine at_load 17 ?_); refine wpList_rowg_h rfl O 1 rfl rfl Try.underlying34 rfl (sW _) ?_) | (go_at_call 22; refine (CS _).mono ?_; rintro e w5 ⟨A, cc, rfl, hL, hb⟩; have O2 : Held w w5 [(g7, 27, M.mat 4 r), (g6, 34, M.mat 7 c), (g5, 34, M.mat 7 b), (g4, 34, M.mat 7 a)] nilRow [dE_ w.heap.size A cc l] := O.gain hb hL; clear O hL hb; have O := O2; clear O2))
  refine region_T (fun w2 => Held w w2 [(g7, 27, M.mat 4 r), (g6, 34, M.mat 7 c), (g5, 34, M.mat 7 b), (g4, 34, M.mat 7 a)] nilRow [dE_ w.heap.size A cc l]) [0, 1, 2, 3, 4, 5] 12 [some 22, some 23, some 24, some 25, some 26, some 27] [arr 4 r, arr 7 a, arr 7 b, arr 7 c, arr 4 bx, arr 4 rr] 1 (by kernel_rfl) (by rfl) (by kernel_rfl) (by rfl) (by rfl) (O.drew) (fun F hF => ?_)
  simp only [fillD, Act.put, List.setIfInBounds_toArray, List.set_cons_zero, List.set_cons_succ] at hF
  subst hF
  refine ⟨⟨does_want rfl (by rfl) (fun w' O K hK => ?_), does_want rfl (by rfl) (fun w' O K hK => ?_), does_want rfl (by rfl) (fun w' O K hK => ?_), does_want rfl (by rfl) (fun w' O K hK => ?_), does_want rfl (by rfl) (fun w' O K hK => ?_), does_want rfl (by rfl) (fun w' O K hK => ?_), trivial⟩, fun w' O => ?_⟩
  · exact wp_row_h O 0 rfl rfl Try.underlying27 rfl (sR _) (hK _ O)
  · exact wp_row_h O 3 rfl rfl Try.underlying34 rfl (sW _) (hK _ O)
  · exact wp_row_h O 2 rfl rfl Try.underlying34 rfl (sW _) (hK _ O)
  · exact wp_row_h O 1 rfl rfl Try.underlying34 rfl (sW _) (hK _ O)
  · go_simp
    go_at_call 24
    refine (CB _).mono ?_
    rintro e w2 ⟨rfl, hb⟩
    exact hK _ (O.call hb)
  · go_simp
    go_at_call 23
    refine (CN _).mono ?_
    rintro e w2 ⟨rfl, hb⟩
    exact hK _ (O.call hb)
  refine wpAny_want (i := 6) (by kernel_rfl) rfl (by rfl) (fun K hK => ?_)
  refine wp_put_h O 0 (M.mat 4 rr) rfl rfl rfl (sR _) (M.mat_len2 _ _ _) (M.mat_one _ _) fun w9 O9 => hK _ _ ?_
  clear O
  have O := O9
  clear O9
  clear hK K
  try simp only [Act.put, List.setIfInBounds_toArray, List.set_cons_zero, List.set_cons_succ]
  refine wpAny_done (by kernel_rfl) ?_ _
  go_wp2_with ((with_reducible refine at_load 29 ?_); refine wpList_cell_h (v := .int .i64 (r1)) rfl O 0 rfl Cr1.out rfl agg3 rfl ?_)
  have OX : Held w w9 [(g7, 27, M.mat 4 rr), (g6, 34, M.mat 7 c), (g5, 34, M.mat 7 b), (g4, 34, M.mat 7 a)] nilRow [dE_ w.heap.size A cc l] := O
  have OO : Held w w9 [(g7, 27, M.mat 4 rr), (g6, 34, M.mat 7 c), (g5, 34, M.mat 7 b), (g4, 34, M.mat 7 a)] (sR_ none 0 []) [dE_ w.heap.size A cc l] := OX.fresh 52 3
  clear O OX
  have O := OO
  clear OO CS CB CN
  go_loopw [10, 11] (fun u t_ wr => ∃ (y : Int) (A2 : Option Addr) (c2 : Nat), r1 ≤ y ∧ y ≤ r3 ∧ u = .slice A2 (PT y).length c2 ∧ t_ = .int .i64 y ∧ Held w wr [(g7, 27, M.mat 4 rr), (g6, 34, M.mat 7 c), (g5, 34, M.mat 7 b), (g4, 34, M.mat 7 a)] (sR_ A2 c2 (PT y)) [dE_ w.heap.size A cc l]) (fun _ t_ _ => (r3 - intOf t_).toNat)
  case atStart => exact ⟨r1, none, 0, Int.le_refl _, by have := HRL.out.2.2; omega, by rw [H0.out]; rfl, rfl, by rw [H0.out]; exact O⟩
  case round =>
    clear O
    obtain ⟨y, A0, c0, y0, y1, rfl, rfl, O⟩ := hrel
    by_cases hly : y < r3
    · have b1 := HRL.out
      have Wy : wrap64 (y + 1) = y + 1 := IntWalk.wrap64_in _ (by omega)
      have hyb : -4194304 ≤ y ∧ y ≤ 4194304 := by omega
      have hlen := HLE.out y hly
      have HPy := HP.out y y0 hly
      obtain ⟨LL, hLL⟩ : ∃ LL, PT y = LL := ⟨_, rfl⟩
      rw [hLL] at O hlen HPy ⊢
      have HLk : Hid (LL.length + 1 ≤ 1000000000) := Lib.hid (by omega)
      have HY := Lib.hid hyb
      have HPY := Lib.hid HPy
      have HYR := Lib.hid (And.intro y0 hly)
      clear b1 hLL hlen hyb HPy y0 y1
      go_wp2_with (first | ((with_reducible refine at_load 32 ?_); refine wpList_cell_h (v := .int .i64 (r3)) rfl O 0 rfl Cr3.out rfl agg3 rfl ?_) | ((with_reducible refine at_load 38 ?_); refine wpList_cell_h (v := .int .i64 (r0)) rfl O 0 rfl Cr0.out rfl agg3 rfl ?_) | ((with_reducible refine at_load 40 ?_); refine wpList_cell_h (v := .int .i64 (r2)) rfl O 0 rfl Cr2.out rfl agg3 rfl ?_) | ((with_reducible refine at_build 41 ?_); refine wpList_build_g rfl ([(0, .int .i64 y), (1, .int .i64 r0), (2, .int .i64 r2)]) ((M.mat 3 (TR.sp y r0 r2)).toArray) ?_ (builtS20 _ _ _) ?_; (focus (simp only [List.map_toArray, List.map_cons, List.map_nil]; rfl))) | ((with_reducible refine at_alloc 12 ?_); refine wpList_alloc_h O (M.mat 3 M.zero) zeroS20 ?_; clear O; intro g12 w7 O) | ((with_reducible refine at_store 12 ?_); refine wpList_put_h O 0 (M.mat 3 (TR.sp y r0 r2)) rfl rfl rfl (sS20 _) (M.mat_len2 _ _ _) (M.mat_one _ _) ?_; clear O; intro w8 O))
      go_loopw [44] (fun u wr => ∃ (k : Nat) (I P Q : Int), k ≤ l.length ∧ (k : Int) = I ∧ TR.cutL (l.take k) (TR.sp y r0 r2) = TR.sp y P Q ∧ u = .int .i64 I ∧ Held w wr ((g12, 52, M.mat 3 (TR.sp y P Q)) :: [(g7, 27, M.mat 4 rr), (g6, 34, M.mat 7 c), (g5, 34, M.mat 7 b), (g4, 34, M.mat 7 a)]) (sR_ A0 c0 LL) [dE_ w.heap.size A cc l]) (fun u _ => ((l.length : Int) - intOf u).toNat)
      case atStart => exact ⟨0, 0, r0, r2, Nat.zero_le _, rfl, rfl, rfl, O⟩
      case round =>
        clear O
        obtain ⟨k, I, P, Q, hk, hI, hcut, rfl, O⟩ := hrel
        by_cases hlt : k < l.length
        · have q0 : (0 : Int) ≤ I := by omega
          have q1 : I < l.length := by omega
          have WI_ : wrap64 (I + 1) = I + 1 := IntWalk.wrap64_in _ (by have := HLL.out; omega)
          obtain ⟨s, hs⟩ : ∃ s, l[k]? = some s := ⟨_, List.getElem?_eq_getElem hlt⟩
          have CCs := CC.out s (List.mem_of_getElem? hs) y P Q HY.out
          have hstep := TR.cutL_step hs (TR.sp y r0 r2)
          rw [hcut] at hstep
          have HX := Lib.hid hs
          have HK := Lib.hid (And.intro hlt hI)
          obtain ⟨P', Q', hpq⟩ : ∃ P' Q', TR.cutS s (TR.sp y P Q) = TR.sp y P' Q' := ⟨_, _, rfl⟩
          rw [hpq] at CCs hstep
          have HS := Lib.hid hstep
          clear hs hcut hstep hpq hlt hk
          go_wp2_with (first | ((with_reducible refine at_index_ 46 ?_); refine wpList_at_h rfl Try.underlying55 sizeOfD20 _ (O.mem List.mem_cons_self) rfl k rfl (HK.out.2.symm) (HK.out.1) rfl ?_) | ((with_reducible refine at_load 47 ?_); refine wpList_elem_h rfl _ (O.mem List.mem_cons_self) (k * 4) (M.mat 4 s) (dC_at HX.out) (by rw [M.mat_len]; decide) rfl Try.underlying60 rfl (sD20 _) ?_) | ((with_reducible refine at_alloc 14 ?_); refine wpList_alloc_h O (M.mat 4 M.zero) zeroD20 ?_; clear O; intro g14 w10 O) | ((with_reducible refine at_store 14 ?_); refine wpList_put_h O 0 (M.mat 4 (s)) rfl rfl rfl (sD20 _) (M.mat_len2 _ _ _) (M.mat_one _ _) ?_; clear O; intro w11 O) | ((with_reducible refine at_load 48 ?_); refine wpList_rowg_h rfl O 0 rfl rfl Try.underlying60 rfl (sD20 _) ?_) | ((with_reducible refine at_load 49 ?_); refine wpList_rowg_h rfl O 1 rfl rfl Try.underlying52 rfl (sS20 _) ?_) | (go_at_call 25; refine (CCs _).mono ?_; rintro e w12 ⟨rfl, hb⟩; replace O := O.call hb; clear hb) | ((with_reducible refine at_store 12 ?_); refine wpList_put_h O 1 (M.mat 3 (TR.sp y P' Q')) rfl rfl rfl (sS20 _) (M.mat_len2 _ _ _) (M.mat_one _ _) ?_; clear O; intro w13 O))
          go_roundw
          case rel => first | exact ⟨k + 1, I + 1, P', Q', HK.out.1, by have := HK.out.2; omega, HS.out, by first | rfl | exact congrArg (Value.int IntKind.i64) WI_, O.tail⟩ | ((repeat apply Exists.intro); exact ⟨⟨k + 1, I + 1, P', Q', HK.out.1, by have := HK.out.2; omega, HS.out, by first | rfl | exact congrArg (Value.int IntKind.i64) WI_, O.tail⟩, rfl⟩)
          case measure => first | (rw [WI_]; simp only [intOf]; omega) | (simp only [intOf]; omega)
        · obtain rfl : k = l.length := by omega
          have q1 : ¬ I < l.length := by omega
          rw [List.take_length] at hcut
          have HPy := HPY.out
          rw [hcut] at HPy
          have HPz : PT (y + 1) = LL ++ (if P < Q then [TR.sp y P Q] else []) := HPy
          clear HPy hcut
          have CP := cell_is (n := 3) (a := TR.sp y P Q) (i := 1) (z := P) rfl (by decide)
          have CQ := cell_is (n := 3) (a := TR.sp y P Q) (i := 2) (z := Q) rfl (by decide)
          by_cases hpq : P < Q
          · rw [if_pos hpq] at HPz
            have HR := Lib.hid HPz
            have KN : decide (P < Q) = true := decide_eq_true hpq
            clear HPz hk hpq HPY
            go_wp2_with (first | ((with_reducible refine at_load 53 ?_); refine wpList_cell_h (v := .int .i64 (P)) rfl O 0 rfl CP.out rfl agg3 rfl ?_) | ((with_reducible refine at_load 55 ?_); refine wpList_cell_h (v := .int .i64 (Q)) rfl O 0 rfl CQ.out rfl agg3 rfl ?_) | ((with_reducible refine at_load 58 ?_); refine wpList_rowg_h rfl O 0 rfl rfl Try.underlying52 rfl (sS20 _) ?_) | ((with_reducible refine at_lit 59 ?_); refine wpList_lit_h rfl O 3 (.agg (M.mat 3 M.zero).toArray) infoS20 Try.underlying37 [(0, arr 3 (TR.sp y P Q))] (sC_ [TR.sp y P Q]) rfl (sC_len _) (by decide) (by decide) (by kernel_rfl) ?_; clear O; intro g89 u5 O) | ((with_reducible refine at_app 60 ?_); refine wpList_app_huge rfl O (.agg (M.mat 3 M.zero).toArray) 24 infoS20b rfl (Nat.succ_pos _) Try.underlying37 rfl (sE_ w.heap.size (some ⟨g89, 0, none⟩) 1 [TR.sp y P Q]) (O.mem List.mem_cons_self) rfl rfl (sC_one _) (HLk.out) (by decide) ?_; clear O; intro va u6 O; obtain ⟨TA, Tc, e1, O2⟩ := sR_of (l := LL) (m := [TR.sp y P Q]) rfl (O.pick (es' := [dE_ w.heap.size A cc l]) (fun y hy => List.mem_cons_of_mem _ hy)); subst e1; clear O; have O := O2; clear O2))
            go_roundw
            case rel => first | exact ⟨y + 1, TA, Tc, by have := HYR.out; omega, by have := HYR.out; omega, by rw [HR.out]; first | done | rfl | simp, by first | rfl | exact congrArg (Value.int IntKind.i64) Wy, by rw [HR.out]; exact O.tail⟩ | exact ⟨y + 1, by have := HYR.out; omega, by have := HYR.out; omega, TA, Tc, ⟨rfl, by rw [HR.out]; simp, rfl⟩, by first | rfl | exact Wy, by rw [HR.out]; exact O.tail⟩
            case measure => first | (rw [Wy]; simp only [intOf]; omega) | (simp only [intOf]; omega)
          · rw [if_neg hpq, List.append_nil] at HPz
            have HR := Lib.hid HPz
            have KN : decide (P < Q) = false := decide_eq_false hpq
            clear HPz hk hpq HPY
            go_wp2_with (first | ((with_reducible refine at_load 53 ?_); refine wpList_cell_h (v := .int .i64 (P)) rfl O 0 rfl CP.out rfl agg3 rfl ?_) | ((with_reducible refine at_load 55 ?_); refine wpList_cell_h (v := .int .i64 (Q)) rfl O 0 rfl CQ.out rfl agg3 rfl ?_))
            go_roundw
            case rel => first | exact ⟨y + 1, A0, c0, by have := HYR.out; omega, by have := HYR.out; omega, by rw [HR.out], by first | rfl | exact congrArg (Value.int IntKind.i64) Wy, by rw [HR.out]; exact O.tail⟩ | exact ⟨y + 1, by have := HYR.out; omega, by have := HYR.out; omega, A0, c0, ⟨rfl, by rw [HR.out], rfl⟩, by first | rfl | exact Wy, by rw [HR.out]; exact O.tail⟩
            case measure => first | (rw [Wy]; simp only [intOf]; omega) | (simp only [intOf]; omega)
    · have hye : y = r3 := by omega
      subst hye
      go_wp2_with ((with_reducible refine at_load 32 ?_); refine wpList_cell_h (v := .int .i64 (y)) rfl O 0 rfl Cr3.out rfl agg3 rfl ?_)
      obtain ⟨A2, c2, hv, OD⟩ := O.done
      dsimp only [sR_] at hv OD
      injection hv with e1 e2 e3
      subst e1 e3
      go_ret
      exact ⟨A0, c0, rfl, OD.arg List.mem_cons_self, O.below⟩
end Go.Proofs.Ytndaijcgjhmiaaa
