/- Contracts: a row of samples. -/
import Derived.Test.YtdkppkdoconfhaaSh
namespace Go.Proofs.Ytdkppkdoconfhaa
open Go.ChangeShapes Go.WideShapes Go.ChangeAt Go.RowKit
set_option linter.unusedVariables false
set_option linter.unusedSimpArgs false

theorem SP.inc_wrap {k : Nat} {I : Int} (h : k < 1000) (e : (k : Int) = I) : wrap64 (I + 1) = I + 1 := IntWalk.wrap64_in _ (by omega)
theorem SP.meas8 {I : Int} (W : wrap64 (I + 1) = I + 1) (h : I < 8) : (8 - intOf (Value.int IntKind.i64 (wrap64 (I + 1)))).toNat < (8 - intOf (Value.int IntKind.i64 I)).toNat := by
  rw [W]
  simp only [intOf]
  omega
theorem SP.meas8' {I : Int} (h : I < 8) : (8 - intOf (Value.int IntKind.i64 (I + 1))).toNat < (8 - intOf (Value.int IntKind.i64 I)).toNat := by
  simp only [intOf]
  omega
theorem SP.place {y ay I : Int} {i : Nat} (hy : -4194304 ≤ y ∧ y ≤ 4194304) (ha : -268435456 ≤ ay ∧ ay ≤ 268435456) (hi : i < 8) (e : (i : Int) = I) : ∃ y1 j1 v1 v2 v3, wrap64 (256 * y) = y1 ∧ wrap64 (32 * I) = j1 ∧ wrap64 (y1 + j1) = v1 ∧ wrap64 (v1 + 16) = v2 ∧ wrap64 (v2 - ay) = v3 ∧ 256 * y + 32 * (i : Int) + 16 - ay = v3 ∧ (-2147483648 ≤ v3 ∧ v3 ≤ 2147483648) :=
  ⟨256 * y, 32 * I, 256 * y + 32 * I, 256 * y + 32 * I + 16, 256 * y + 32 * I + 16 - ay, IntWalk.wrap64_in _ (by omega), IntWalk.wrap64_in _ (by omega), IntWalk.wrap64_in _ (by omega), IntWalk.wrap64_in _ (by omega), IntWalk.wrap64_in _ (by omega), by omega, by omega⟩
set_option maxRecDepth 100000 in
set_option maxHeartbeats 16000000 in
theorem prow18 (s a : Nat → Int) (y : Int) (h : SP.Ok s) (ha : (-268435456 ≤ a 0 ∧ a 0 ≤ 268435456) ∧ (-268435456 ≤ a 1 ∧ a 1 ≤ 268435456)) (hy : -4194304 ≤ y ∧ y ≤ 4194304) (w : World) : Calls Try.prog 28 #[arr 5 s, arr 7 a, .int .i64 y] w fun e w' => e = .returned (arr 16 (SP.rowf s (a 0) (a 1) y)) ∧ Below w.heap.size w w' := by
  have O := Own.start w
  have CW := Lib.hid (fun c hc w => pwit18 s c h hc w)
  have CS := Lib.hid (fun c (hc : SP.In 2147483648 c) w => psam18 (SP.within s c) (a 0) (SP.within_lim h hc) (by omega) w)
  have HR := Lib.hid (fun j => SP.rowf_at s (a 0) (a 1) y j)
  obtain ⟨ha0, ha1⟩ := ha
  obtain ⟨ax, eax⟩ : ∃ z, a 0 = z := ⟨_, rfl⟩
  have Cax := cell_is (n := 7) eax (by decide)
  obtain ⟨ay, eay⟩ : ∃ z, a 1 = z := ⟨_, rfl⟩
  have Cay := cell_is (n := 7) eay (by decide)
  rw [eax] at CS HR
  rw [eay] at HR ha1
  simp only [eax, eay]
  have H0 := Lib.hid (row_start (SP.rowf s ax ay y))
  have H8 := Lib.hid (row_end (SP.rowf s ax ay y))
  have HP := Lib.hid (fun k sv hk h0 h1 => @row_put (SP.rowf s ax ay y) sv k hk h0 h1)
  have HX := Lib.hid (fun I i hi e => @SP.place y ay I i hy ha1 hi e)
  have HV : Hid (∀ (j : Nat) v, 256 * y + 32 * (j : Int) + 16 - ay = v → SP.spn s ax ay y j = SP.samples (SP.within s (SP.mk v v)) ax) := Lib.hid (by rintro j v rfl; rfl)
  generalize SP.rowf s ax ay y = rf at *
  generalize SP.spn s ax ay y = sp at *
  clear h ha0 ha1 hy eax eay
  go_enter Try.func28, Try.ntmps28
  go_wp2_with (first | ((with_reducible refine at_box 3 ?_); refine wpList_box_own O (M.mat 5 (s)) rfl ?_; clear O; intro g3 w1 O) | ((with_reducible refine at_box 4 ?_); refine wpList_box_own O (M.mat 7 (a)) rfl ?_; clear O; intro g4 w2 O) | ((with_reducible refine at_alloc 6 ?_); refine wpList_alloc_own O (M.mat 16 M.zero) zeroV18 ?_; clear O; intro g6 w3 O) | ((with_reducible refine at_alloc 7 ?_); refine wpList_alloc_own O (M.mat 16 M.zero) zeroV18 ?_; clear O; intro g7 w4 O))
  have O9 := Own.as O (l' := [(g7, 65, M.mat 16 (SP.rowk rf 0)), (g6, 65, M.mat 16 M.zero), (g4, 25, M.mat 7 a), (g3, 59, M.mat 5 s)]) (by rw [← H0.out])
  clear O H0
  have O := O9
  clear O9
  go_loopw [10] (fun t_ wr => ∃ (i : Nat) (I : Int), i ≤ 8 ∧ (i : Int) = I ∧ t_ = .int .i64 I ∧ Own w wr [(g7, 65, M.mat 16 (SP.rowk rf i)), (g6, 65, M.mat 16 M.zero), (g4, 25, M.mat 7 a), (g3, 59, M.mat 5 s)]) (fun t_ _ => (8 - intOf t_).toNat)
  case atStart => exact ⟨0, 0, by decide, rfl, rfl, O⟩
  case round =>
    clear O
    obtain ⟨i, I, hi, hI, rfl, O⟩ := hrel
    by_cases hli : i < 8
    · have q1 : I < 8 := by omega
      have q0 : Hid ((0 : Int) ≤ I) := Lib.hid (by omega)
      have Wi : wrap64 (I + 1) = I + 1 := SP.inc_wrap (Nat.lt_of_lt_of_le hli (by decide)) hI
      obtain ⟨y1, j1, v1, v2, v3, U1, U2, U3, U4, U5, hv3, bv3⟩ := HX.out I i hli hI
      have C1 := CW.out (SP.mk v3 v3) ⟨bv3, bv3⟩
      have C2 := CS.out (SP.mk v3 v3) ⟨bv3, bv3⟩
      obtain ⟨r0, r1⟩ := HR.out i
      rw [HV.out i v3 hv3] at r0 r1
      generalize SP.within s (SP.mk v3 v3) = wv at C1 C2 r0 r1
      generalize SP.samples wv ax = sv at C2 r0 r1
      have HRP := Lib.hid (HP.out i sv hli r0.symm r1.symm)
      have HI := Lib.hid (And.intro hli hI.symm)
      clear r0 r1 hv3 bv3 hi
      clear hli hI
      go_wp2_with ((with_reducible refine at_load 20 ?_); refine wpList_cell_h (v := .int .i64 (ay)) rfl O.held 2 rfl Cay.out rfl agg3 rfl ?_)
      simp only [U5]
      refine region_T (fun w2 => Own w w2 [(g7, 65, M.mat 16 (SP.rowk rf i)), (g6, 65, M.mat 16 M.zero), (g4, 25, M.mat 7 a), (g3, 59, M.mat 5 s)]) [0, 1, 2, 3, 4, 5, 6, 7, 8, 9] 12 [some 22, some 23, some 24, some 25, some 26, some 27, some 28, some 29, some 30, some 31] [.int .i64 (I), arr 5 s, .int .i64 (v3), .int .i64 (v3), arr 2 (SP.mk (v3) (v3)), arr 2 wv, .pointer (some ⟨g4, 0, none⟩), .int .i64 (ax), arr 2 sv, .pointer (some ⟨g7, i * 2, none⟩)] 1 (by kernel_rfl) (by rfl) (by kernel_rfl) (by rfl) (by rfl) (O.drew) (fun F hF => ?_)
      simp only [fillD, Act.put, List.setIfInBounds_toArray, List.set_cons_zero, List.set_cons_succ] at hF
      subst hF
      refine ⟨⟨does_want rfl (by rfl) (fun w' O K hK => ?_), does_want rfl (by rfl) (fun w' O K hK => ?_), does_want rfl (by rfl) (fun w' O K hK => ?_), does_want rfl (by rfl) (fun w' O K hK => ?_), does_want rfl (by rfl) (fun w' O K hK => ?_), does_want rfl (by rfl) (fun w' O K hK => ?_), does_want rfl (by rfl) (fun w' O K hK => ?_), does_want rfl (by rfl) (fun w' O K hK => ?_), does_want rfl (by rfl) (fun w' O K hK => ?_), does_want rfl (by rfl) (fun w' O K hK => ?_), trivial⟩, fun w' O => ?_⟩
      · go_simp
        exact hK _ O
      · exact wp_whole O 3 rfl rfl Try.underlying59 rfl (sY18 _) (hK _ O)
      · go_simp
        exact hK _ O
      · go_simp
        exact hK _ O
      · refine wp_build_own ([(0, .int .i64 (v3)), (1, .int .i64 (v3))]) ((M.mat 2 (SP.mk (v3) (v3))).toArray) ?_ (builtN18 _ _) (hK _ O)
        simp only [List.map_toArray, List.map_cons, List.map_nil]
        rfl
      · go_simp
        go_at_call 46
        refine (C1 _).mono ?_
        rintro e w2 ⟨rfl, hb⟩
        exact hK _ (O.call hb)
      · go_simp
        exact hK _ O
      · exact wp_cell_h (v := .int .i64 (ax)) O.held 2 rfl Cax.out rfl agg3 rfl (hK _ O)
      · go_simp
        go_at_call 47
        refine (C2 _).mono ?_
        rintro e w2 ⟨rfl, hb⟩
        exact hK _ (O.call hb)
      · exact wp_ino2 Try.underlying65 sizeOfN18 (by decide) i rfl rfl HI.out.2 HI.out.1 (hK _ O)
      refine wpAny_want (i := 10) (by kernel_rfl) rfl (by rfl) (fun K hK => ?_)
      refine wp_putmid_own O 0 (M.mat 2 sv) (M.mat 16 (SP.rowk rf (i + 1))) rfl rfl rfl (sN18 _) (by rw [M.mat_len, M.mat_len]; have := HI.out.1; omega) (M.mat_one _ _) HRP.out fun w9 O9 => hK _ _ ?_
      clear O
      have O := O9
      clear O9
      clear hK K
      try simp only [Act.put, List.setIfInBounds_toArray, List.set_cons_zero, List.set_cons_succ]
      refine wpAny_done (by kernel_rfl) ?_ _
      go_wp2_with fail
      go_roundw
      case rel => exact ⟨i + 1, I + 1, by have := HI.out.1; omega, by have := HI.out.2; omega, by first | rfl | exact congrArg (Value.int IntKind.i64) Wi, O⟩
      case measure => first | exact SP.meas8 Wi q1 | exact SP.meas8' q1
    · obtain rfl : i = 8 := by omega
      obtain rfl : I = 8 := by omega
      have q1 : ¬ (8 : Int) < 8 := by decide
      clear hI hi hli
      have O9 := Own.as O (l' := [(g7, 65, M.mat 16 rf), (g6, 65, M.mat 16 M.zero), (g4, 25, M.mat 7 a), (g3, 59, M.mat 5 s)]) (by rw [← H8.out])
      clear O
      have O := O9
      clear O9
      go_wp2_with (first | ((with_reducible refine at_load 33 ?_); refine wpList_whole rfl O 0 rfl rfl Try.underlying65 rfl (sV18 _) ?_) | ((with_reducible refine at_store 6 ?_); refine wpList_put_own O 1 (M.mat 16 (rf)) rfl rfl rfl (sV18 _) (M.mat_len2 _ _ _) (M.mat_one _ _) ?_; clear O; intro w9 O))
      exact bodyPost_ret (v := arr 16 rf) (res_h rfl O.held 1 rfl rfl Try.underlying65 rfl (sV18 _)) rfl ⟨rfl, O.below⟩
end Go.Proofs.Ytdkppkdoconfhaa
