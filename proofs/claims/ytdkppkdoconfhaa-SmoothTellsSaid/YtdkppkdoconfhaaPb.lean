/- Contracts: Mid; a depth and a color. -/
import Derived.Test.YtdkppkdoconfhaaPa
namespace Go.Proofs.Ytdkppkdoconfhaa
open Go.ChangeShapes Go.WideShapes Go.ChangeAt Go.RowKit
set_option linter.unusedVariables false
set_option linter.unusedSimpArgs false

theorem at_lo {n d : Int} (h : d < 1) (w : World) : Calls Try.prog 51 #[.int .i64 n, .int .i64 d] w fun e w' => e = .returned (.func (.func 64) #[] #[]) ∧ Below w.heap.size w w' := by
  refine (at_any n d w).mono ?_
  rintro e w1 ⟨v, rfl, hT, hb⟩
  rcases hT with ⟨-, rfl⟩ | ⟨h1, -⟩
  · exact ⟨rfl, hb⟩
  · omega
theorem at_hi {n d : Int} (h : 1 ≤ d) (w : World) : Calls Try.prog 51 #[.int .i64 n, .int .i64 d] w fun e w' => ∃ gd gn, e = .returned (.func (.func 65) #[] #[.pointer (some ⟨gd, 0, none⟩), .pointer (some ⟨gn, 0, none⟩)]) ∧ Cap n d gd gn w' ∧ Below w.heap.size w w' := by
  refine (at_any n d w).mono ?_
  rintro e w1 ⟨v, rfl, hT, hb⟩
  rcases hT with ⟨h1, -⟩ | ⟨-, gd, gn, rfl, hC⟩
  · omega
  · exact ⟨gd, gn, rfl, hC, hb⟩
/-- What tells the weighted middle, within what it has captured. -/
theorem told_part (p q : Int) {n d : Int} (hp : -1099511627776 ≤ p ∧ p ≤ 1099511627776) (hq : -1099511627776 ≤ q ∧ q ≤ 1099511627776) (h1 : 1 ≤ d) (h3 : d < 9223372036854775808) (gd gn : Nat) (w : World) (hC : Cap n d gd gn w) :
    Calls Try.prog 65 #[.int .i64 p, .int .i64 q, .pointer (some ⟨gd, 0, none⟩), .pointer (some ⟨gn, 0, none⟩)] w fun e w' => e = .returned (.int .i64 (VM.mid p q n d)) ∧ Below w.heap.size w w' := by
  rw [VM.mid_wt h1]
  exact part_any p q (VM.cl n d) d hp hq (VM.cl_lim (by omega)).1 (VM.cl_lim (by omega)).2 h1 h3 gd gn w hC.1 hC.2
theorem told_same (p q : Int) {n d : Int} (h1 : d < 1) (w : World) : Calls Try.prog 64 #[.int .i64 p, .int .i64 q] w fun e w' => e = .returned (.int .i64 (VM.mid p q n d)) ∧ Below w.heap.size w w' := by
  rw [show VM.mid p q n d = p from if_pos h1]
  exact same_any p q w
set_option maxRecDepth 100000 in
set_option maxHeartbeats 8000000 in
theorem told_lo (a b : Nat → Int) {n d : Int} (ha : VM.Lim a) (hb : VM.Lim b) (h1 : d < 1) (w : World) :
    Calls Try.prog 50 #[arr 7 a, arr 7 b, .func (.func 64) #[] #[]] w (RetZ w (VM.mid (a 2) (b 2) n d) (VM.col a b n d)) := by
  have O := Own.start w
  have CM := Lib.hid (fun i (hi : i < 7) w => told_same (a i) (b i) (n := n) h1 w)
  clear ha hb
  have hcf23 : ∀ args w, (callFunc 64 args).run Try.prog w = .ok (.enter 64 args) w := enters_of Try.func64 (by kernel_rfl) rfl
  go_enter Try.func50, Try.ntmps50
  go_wp2_with (first | ((with_reducible refine at_box 3 ?_); refine wpList_box_own O (M.mat 7 (a)) rfl ?_; clear O; intro g3 w1 O) | ((with_reducible refine at_box 4 ?_); refine wpList_box_own O (M.mat 7 (b)) rfl ?_; clear O; intro g4 w2 O) | ((with_reducible refine at_alloc 7 ?_); refine wpList_alloc_own O (M.mat 4 M.zero) zeroC ?_; clear O; intro g7 w3 O) | ((with_reducible refine at_alloc 8 ?_); refine wpList_alloc_own O (M.mat 4 M.zero) zeroC ?_; clear O; intro g8 w4 O))
  go_loopw [10] (fun u wr => ∃ k : Nat, k ≤ 4 ∧ u = .int .i64 k ∧ Own w wr [(g8, 23, M.mat 4 (VM.colk a b n d k)), (g7, 23, M.mat 4 M.zero), (g4, 25, M.mat 7 b), (g3, 25, M.mat 7 a)]) (fun t _ => 4 - (intOf t).toNat)
  case atStart => exact ⟨0, by omega, rfl, O.as (by rw [VM.colk_zero])⟩
  case round =>
    clear O
    obtain ⟨k, hk, rfl, O⟩ := hrel
    have q0 : (0 : Int) ≤ k := by omega
    by_cases hlt : k < 4
    · have q1 : (k : Int) < 4 := by omega
      obtain ⟨x, hx⟩ : ∃ z, a (3 + k) = z := ⟨_, rfl⟩
      obtain ⟨y, hy⟩ : ∃ z, b (3 + k) = z := ⟨_, rfl⟩
      have CX := cell_is (n := 7) hx (by omega)
      have CY := cell_is (n := 7) hy (by omega)
      have CK := CM.out (3 + k) (by omega)
      rw [hx, hy] at CK
      obtain ⟨m, hm⟩ : ∃ z, VM.mid x y n d = z := ⟨_, rfl⟩
      rw [hm] at CK
      have HM := Lib.hid (VM.colk_step (a := a) (b := b) (n := n) (d := d) hlt (m := m) (by rw [VM.col, hx, hy, hm]))
      have HK := Lib.hid CK
      clear hx hy hm CK
      go_wp2_with fail
      refine region_T ((fun w2 => Own w w2 [(g8, 23, M.mat 4 (VM.colk a b n d k)), (g7, 23, M.mat 4 M.zero), (g4, 25, M.mat 7 b), (g3, 25, M.mat 7 a)])) [0, 1, 2, 3, 4, 5, 6, 7, 8, 9, 10, 11] 12 [some 13, some 14, some 15, some 16, some 17, some 18, some 19, some 20, some 21, some 22, some 23, some 24] [.int .i64 k, .func (.func 64) #[] #[], .int .i64 k, .pointer (some ⟨g3, 3, none⟩), .pointer (some ⟨g3, 3 + k, none⟩), .int .i64 x, .int .i64 k, .pointer (some ⟨g4, 3, none⟩), .pointer (some ⟨g4, 3 + k, none⟩), .int .i64 y, .int .i64 m, .pointer (some ⟨g8, k, none⟩)] 1 (by kernel_rfl) (by rfl) (by kernel_rfl) (by rfl) (by rfl) (O.drew) (fun F hF => ?_)
      simp only [fillD, Act.put, List.setIfInBounds_toArray, List.set_cons_zero, List.set_cons_succ] at hF
      subst hF
      refine ⟨⟨does_want rfl (by rfl) (fun w' O K hK => ?_), does_want rfl (by rfl) (fun w' O K hK => ?_), does_want rfl (by rfl) (fun w' O K hK => ?_), does_want rfl (by rfl) (fun w' O K hK => ?_), does_want rfl (by rfl) (fun w' O K hK => ?_), does_want rfl (by rfl) (fun w' O K hK => ?_), does_want rfl (by rfl) (fun w' O K hK => ?_), does_want rfl (by rfl) (fun w' O K hK => ?_), does_want rfl (by rfl) (fun w' O K hK => ?_), does_want rfl (by rfl) (fun w' O K hK => ?_), does_want rfl (by rfl) (fun w' O K hK => ?_), does_want rfl (by rfl) (fun w' O K hK => ?_), trivial⟩, fun w' O => ?_⟩
      · go_simp
        exact hK _ O
      · go_simp
        exact hK _ O
      · go_simp
        exact hK _ O
      · go_simp
        exact hK _ O
      · exact wp_ino Try.underlying23 sizeOf3 (by decide) k rfl rfl rfl hlt (hK _ O)
      · exact wp_cell_h (v := .int .i64 (x)) O.held 3 rfl CX.out rfl agg3 rfl (hK _ O)
      · go_simp
        exact hK _ O
      · go_simp
        exact hK _ O
      · exact wp_ino Try.underlying23 sizeOf3 (by decide) k rfl rfl rfl hlt (hK _ O)
      · exact wp_cell_h (v := .int .i64 (y)) O.held 2 rfl CY.out rfl agg3 rfl (hK _ O)
      · go_simp
        go_at_call 64
        refine (HK.out _ ).mono ?_
        rintro e w2 ⟨rfl, hb⟩
        exact hK _ (O.call hb)
      · refine wp_ino Try.underlying23 sizeOf3 (by decide) k rfl rfl rfl hlt ?_
        rw [Nat.zero_add]
        exact hK _ O
      refine wpAny_want (i := 12) (by kernel_rfl) rfl (by rfl) (fun K hK => ?_)
      refine wp_set_own O 0 (.int .i64 (m)) rfl (by rw [M.mat_len]; omega) rfl rfl size3 rfl rfl fun w9 O9 => hK _ _ ?_
      clear O
      have O := O9
      clear O9
      clear hK K
      try simp only [Act.put, List.setIfInBounds_toArray, List.set_cons_zero, List.set_cons_succ]
      refine wpAny_done (by kernel_rfl) ?_ _
      have O2 : Own w w9 [(g8, 23, M.mat 4 (VM.colk a b n d (k + 1))), (g7, 23, M.mat 4 M.zero), (g4, 25, M.mat 7 b), (g3, 25, M.mat 7 a)] := O.as (by rw [← HM.out] <;> rfl)
      clear O
      have O := O2
      clear O2
      go_wp2_with fail
      go_roundw
      case rel => exact ⟨k + 1, by omega, by go_num, O⟩
      case measure => simp [intOf]; omega
    · have q1 : ¬ (k : Int) < 4 := by omega
      obtain rfl : k = 4 := by omega
      replace O := O.as (l' := [(g8, 23, M.mat 4 (VM.col a b n d)), (g7, 23, M.mat 4 M.zero), (g4, 25, M.mat 7 b), (g3, 25, M.mat 7 a)]) (by rw [VM.colk_end])
      have CK := CM.out 2 (by omega)
      obtain ⟨x, hx⟩ : ∃ z, a 2 = z := ⟨_, rfl⟩
      obtain ⟨y, hy⟩ : ∃ z, b 2 = z := ⟨_, rfl⟩
      have CX := cell_is (n := 7) hx (by omega)
      have CY := cell_is (n := 7) hy (by omega)
      rw [hx, hy] at CK
      obtain ⟨m, hm⟩ : ∃ z, VM.mid x y n d = z := ⟨_, rfl⟩
      rw [hm] at CK
      have HE : Hid (VM.mid (a 2) (b 2) n d = m) := Lib.hid (by rw [hx, hy, hm])
      have HK := Lib.hid CK
      clear hx hy hm CK CM
      go_wp2_with fail
      refine region_T ((fun w2 => Own w w2 [(g8, 23, M.mat 4 (VM.col a b n d)), (g7, 23, M.mat 4 M.zero), (g4, 25, M.mat 7 b), (g3, 25, M.mat 7 a)])) [0, 1, 2, 3, 4, 5, 6, 7] 12 [some 26, some 27, some 28, some 29, some 30, some 31, some 32, some 6] [.func (.func 64) #[] #[], .pointer (some ⟨g3, 2, none⟩), .int .i64 x, .pointer (some ⟨g4, 2, none⟩), .int .i64 y, .int .i64 m, arr 4 (VM.col a b n d), .int .i64 m] 1 (by kernel_rfl) (by rfl) (by kernel_rfl) (by rfl) (by rfl) (O.drew) (fun F hF => ?_)
      simp only [fillD, Act.put, List.setIfInBounds_toArray, List.set_cons_zero, List.set_cons_succ] at hF
      subst hF
      refine ⟨⟨does_want rfl (by rfl) (fun w' O K hK => ?_), does_want rfl (by rfl) (fun w' O K hK => ?_), does_want rfl (by rfl) (fun w' O K hK => ?_), does_want rfl (by rfl) (fun w' O K hK => ?_), does_want rfl (by rfl) (fun w' O K hK => ?_), does_want rfl (by rfl) (fun w' O K hK => ?_), does_want rfl (by rfl) (fun w' O K hK => ?_), does_want rfl (by rfl) (fun w' O K hK => ?_), trivial⟩, fun w' O => ?_⟩
      · go_simp
        exact hK _ O
      · go_simp
        exact hK _ O
      · exact wp_cell_h (v := .int .i64 (x)) O.held 3 rfl CX.out rfl agg3 rfl (hK _ O)
      · go_simp
        exact hK _ O
      · exact wp_cell_h (v := .int .i64 (y)) O.held 2 rfl CY.out rfl agg3 rfl (hK _ O)
      · go_simp
        go_at_call 64
        refine (HK.out _ ).mono ?_
        rintro e w2 ⟨rfl, hb⟩
        exact hK _ (O.call hb)
      · exact wp_whole O 0 rfl rfl Try.underlying23 rfl (sC _) (hK _ O)
      · go_simp
        exact hK _ O
      refine wpAny_want (i := 8) (by kernel_rfl) rfl (by rfl) (fun K hK => ?_)
      refine wp_put_own O 1 (M.mat 4 (VM.col a b n d)) rfl rfl rfl (sC _) (M.mat_len2 _ _ _) (M.mat_one _ _) fun w9 O9 => hK _ _ ?_
      clear O
      have O := O9
      clear O9
      clear hK K
      try simp only [Act.put, List.setIfInBounds_toArray, List.set_cons_zero, List.set_cons_succ]
      refine wpAny_done (by kernel_rfl) ?_ _
      go_wp2_with fail
      exact bodyPost_ret (v := .tuple #[.int .i64 m, arr 4 (VM.col a b n d)]) (res_t2 rfl O 1 rfl rfl Try.underlying23 rfl (sC _) rfl) rfl ⟨by rw [HE.out], O.below⟩
set_option maxRecDepth 100000 in
set_option maxHeartbeats 8000000 in
theorem told_hi (a b : Nat → Int) {n d : Int} (ha : VM.Lim a) (hb : VM.Lim b) (h1 : 1 ≤ d) (h3 : d < 9223372036854775808) (gd gn : Nat) (w : World) (hC : Cap n d gd gn w) :
    Calls Try.prog 50 #[arr 7 a, arr 7 b, .func (.func 65) #[] #[.pointer (some ⟨gd, 0, none⟩), .pointer (some ⟨gn, 0, none⟩)]] w (RetZ w (VM.mid (a 2) (b 2) n d) (VM.col a b n d)) := by
  have O := Own.start w
  have CM := Lib.hid (fun i (hi : i < 7) w hC => told_part (a i) (b i) (n := n) (d := d) (ha i hi) (hb i hi) h1 h3 gd gn w hC)
  clear ha hb
  have hcf24 : ∀ args w, (callFunc 65 args).run Try.prog w = .ok (.enter 65 args) w := enters_of Try.func65 (by kernel_rfl) rfl
  go_enter Try.func50, Try.ntmps50
  go_wp2_with (first | ((with_reducible refine at_box 3 ?_); refine wpList_box_own O (M.mat 7 (a)) rfl ?_; clear O; intro g3 w1 O) | ((with_reducible refine at_box 4 ?_); refine wpList_box_own O (M.mat 7 (b)) rfl ?_; clear O; intro g4 w2 O) | ((with_reducible refine at_alloc 7 ?_); refine wpList_alloc_own O (M.mat 4 M.zero) zeroC ?_; clear O; intro g7 w3 O) | ((with_reducible refine at_alloc 8 ?_); refine wpList_alloc_own O (M.mat 4 M.zero) zeroC ?_; clear O; intro g8 w4 O))
  go_loopw [10] (fun u wr => ∃ k : Nat, k ≤ 4 ∧ u = .int .i64 k ∧ Own w wr [(g8, 23, M.mat 4 (VM.colk a b n d k)), (g7, 23, M.mat 4 M.zero), (g4, 25, M.mat 7 b), (g3, 25, M.mat 7 a)]) (fun t _ => 4 - (intOf t).toNat)
  case atStart => exact ⟨0, by omega, rfl, O.as (by rw [VM.colk_zero])⟩
  case round =>
    clear O
    obtain ⟨k, hk, rfl, O⟩ := hrel
    have q0 : (0 : Int) ≤ k := by omega
    by_cases hlt : k < 4
    · have q1 : (k : Int) < 4 := by omega
      obtain ⟨x, hx⟩ : ∃ z, a (3 + k) = z := ⟨_, rfl⟩
      obtain ⟨y, hy⟩ : ∃ z, b (3 + k) = z := ⟨_, rfl⟩
      have CX := cell_is (n := 7) hx (by omega)
      have CY := cell_is (n := 7) hy (by omega)
      have CK := CM.out (3 + k) (by omega)
      rw [hx, hy] at CK
      obtain ⟨m, hm⟩ : ∃ z, VM.mid x y n d = z := ⟨_, rfl⟩
      rw [hm] at CK
      have HM := Lib.hid (VM.colk_step (a := a) (b := b) (n := n) (d := d) hlt (m := m) (by rw [VM.col, hx, hy, hm]))
      have HK := Lib.hid CK
      clear hx hy hm CK
      go_wp2_with fail
      refine region_T ((fun w2 => Own w w2 [(g8, 23, M.mat 4 (VM.colk a b n d k)), (g7, 23, M.mat 4 M.zero), (g4, 25, M.mat 7 b), (g3, 25, M.mat 7 a)])) [0, 1, 2, 3, 4, 5, 6, 7, 8, 9, 10, 11] 12 [some 13, some 14, some 15, some 16, some 17, some 18, some 19, some 20, some 21, some 22, some 23, some 24] [.int .i64 k, .func (.func 65) #[] #[.pointer (some ⟨gd, 0, none⟩), .pointer (some ⟨gn, 0, none⟩)], .int .i64 k, .pointer (some ⟨g3, 3, none⟩), .pointer (some ⟨g3, 3 + k, none⟩), .int .i64 x, .int .i64 k, .pointer (some ⟨g4, 3, none⟩), .pointer (some ⟨g4, 3 + k, none⟩), .int .i64 y, .int .i64 m, .pointer (some ⟨g8, k, none⟩)] 1 (by kernel_rfl) (by rfl) (by kernel_rfl) (by rfl) (by rfl) (O.drew) (fun F hF => ?_)
      simp only [fillD, Act.put, List.setIfInBounds_toArray, List.set_cons_zero, List.set_cons_succ] at hF
      subst hF
      refine ⟨⟨does_want rfl (by rfl) (fun w' O K hK => ?_), does_want rfl (by rfl) (fun w' O K hK => ?_), does_want rfl (by rfl) (fun w' O K hK => ?_), does_want rfl (by rfl) (fun w' O K hK => ?_), does_want rfl (by rfl) (fun w' O K hK => ?_), does_want rfl (by rfl) (fun w' O K hK => ?_), does_want rfl (by rfl) (fun w' O K hK => ?_), does_want rfl (by rfl) (fun w' O K hK => ?_), does_want rfl (by rfl) (fun w' O K hK => ?_), does_want rfl (by rfl) (fun w' O K hK => ?_), does_want rfl (by rfl) (fun w' O K hK => ?_), does_want rfl (by rfl) (fun w' O K hK => ?_), trivial⟩, fun w' O => ?_⟩
      · go_simp
        exact hK _ O
      · go_simp
        exact hK _ O
      · go_simp
        exact hK _ O
      · go_simp
        exact hK _ O
      · exact wp_ino Try.underlying23 sizeOf3 (by decide) k rfl rfl rfl hlt (hK _ O)
      · exact wp_cell_h (v := .int .i64 (x)) O.held 3 rfl CX.out rfl agg3 rfl (hK _ O)
      · go_simp
        exact hK _ O
      · go_simp
        exact hK _ O
      · exact wp_ino Try.underlying23 sizeOf3 (by decide) k rfl rfl rfl hlt (hK _ O)
      · exact wp_cell_h (v := .int .i64 (y)) O.held 2 rfl CY.out rfl agg3 rfl (hK _ O)
      · go_simp
        go_at_call 65
        refine (HK.out _ (hC.kept O.below)).mono ?_
        rintro e w2 ⟨rfl, hb⟩
        exact hK _ (O.call hb)
      · refine wp_ino Try.underlying23 sizeOf3 (by decide) k rfl rfl rfl hlt ?_
        rw [Nat.zero_add]
        exact hK _ O
      refine wpAny_want (i := 12) (by kernel_rfl) rfl (by rfl) (fun K hK => ?_)
      refine wp_set_own O 0 (.int .i64 (m)) rfl (by rw [M.mat_len]; omega) rfl rfl size3 rfl rfl fun w9 O9 => hK _ _ ?_
      clear O
      have O := O9
      clear O9
      clear hK K
      try simp only [Act.put, List.setIfInBounds_toArray, List.set_cons_zero, List.set_cons_succ]
      refine wpAny_done (by kernel_rfl) ?_ _
      have O2 : Own w w9 [(g8, 23, M.mat 4 (VM.colk a b n d (k + 1))), (g7, 23, M.mat 4 M.zero), (g4, 25, M.mat 7 b), (g3, 25, M.mat 7 a)] := O.as (by rw [← HM.out] <;> rfl)
      clear O
      have O := O2
      clear O2
      go_wp2_with fail
      go_roundw
      case rel => exact ⟨k + 1, by omega, by go_num, O⟩
      case measure => simp [intOf]; omega
    · have q1 : ¬ (k : Int) < 4 := by omega
      obtain rfl : k = 4 := by omega
      replace O := O.as (l' := [(g8, 23, M.mat 4 (VM.col a b n d)), (g7, 23, M.mat 4 M.zero), (g4, 25, M.mat 7 b), (g3, 25, M.mat 7 a)]) (by rw [VM.colk_end])
      have CK := CM.out 2 (by omega)
      obtain ⟨x, hx⟩ : ∃ z, a 2 = z := ⟨_, rfl⟩
      obtain ⟨y, hy⟩ : ∃ z, b 2 = z := ⟨_, rfl⟩
      have CX := cell_is (n := 7) hx (by omega)
      have CY := cell_is (n := 7) hy (by omega)
      rw [hx, hy] at CK
      obtain ⟨m, hm⟩ : ∃ z, VM.mid x y n d = z := ⟨_, rfl⟩
      rw [hm] at CK
      have HE : Hid (VM.mid (a 2) (b 2) n d = m) := Lib.hid (by rw [hx, hy, hm])
      have HK := Lib.hid CK
      clear hx hy hm CK CM
      go_wp2_with fail
      refine region_T ((fun w2 => Own w w2 [(g8, 23, M.mat 4 (VM.col a b n d)), (g7, 23, M.mat 4 M.zero), (g4, 25, M.mat 7 b), (g3, 25, M.mat 7 a)])) [0, 1, 2, 3, 4, 5, 6, 7] 12 [some 26, some 27, some 28, some 29, some 30, some 31, some 32, some 6] [.func (.func 65) #[] #[.pointer (some ⟨gd, 0, none⟩), .pointer (some ⟨gn, 0, none⟩)], .pointer (some ⟨g3, 2, none⟩), .int .i64 x, .pointer (some ⟨g4, 2, none⟩), .int .i64 y, .int .i64 m, arr 4 (VM.col a b n d), .int .i64 m] 1 (by kernel_rfl) (by rfl) (by kernel_rfl) (by rfl) (by rfl) (O.drew) (fun F hF => ?_)
      simp only [fillD, Act.put, List.setIfInBounds_toArray, List.set_cons_zero, List.set_cons_succ] at hF
      subst hF
      refine ⟨⟨does_want rfl (by rfl) (fun w' O K hK => ?_), does_want rfl (by rfl) (fun w' O K hK => ?_), does_want rfl (by rfl) (fun w' O K hK => ?_), does_want rfl (by rfl) (fun w' O K hK => ?_), does_want rfl (by rfl) (fun w' O K hK => ?_), does_want rfl (by rfl) (fun w' O K hK => ?_), does_want rfl (by rfl) (fun w' O K hK => ?_), does_want rfl (by rfl) (fun w' O K hK => ?_), trivial⟩, fun w' O => ?_⟩
      · go_simp
        exact hK _ O
      · go_simp
        exact hK _ O
      · exact wp_cell_h (v := .int .i64 (x)) O.held 3 rfl CX.out rfl agg3 rfl (hK _ O)
      · go_simp
        exact hK _ O
      · exact wp_cell_h (v := .int .i64 (y)) O.held 2 rfl CY.out rfl agg3 rfl (hK _ O)
      · go_simp
        go_at_call 65
        refine (HK.out _ (hC.kept O.below)).mono ?_
        rintro e w2 ⟨rfl, hb⟩
        exact hK _ (O.call hb)
      · exact wp_whole O 0 rfl rfl Try.underlying23 rfl (sC _) (hK _ O)
      · go_simp
        exact hK _ O
      refine wpAny_want (i := 8) (by kernel_rfl) rfl (by rfl) (fun K hK => ?_)
      refine wp_put_own O 1 (M.mat 4 (VM.col a b n d)) rfl rfl rfl (sC _) (M.mat_len2 _ _ _) (M.mat_one _ _) fun w9 O9 => hK _ _ ?_
      clear O
      have O := O9
      clear O9
      clear hK K
      try simp only [Act.put, List.setIfInBounds_toArray, List.set_cons_zero, List.set_cons_succ]
      refine wpAny_done (by kernel_rfl) ?_ _
      go_wp2_with fail
      exact bodyPost_ret (v := .tuple #[.int .i64 m, arr 4 (VM.col a b n d)]) (res_t2 rfl O 1 rfl rfl Try.underlying23 rfl (sC _) rfl) rfl ⟨by rw [HE.out], O.below⟩
theorem told_any (a b : Nat → Int) {n d : Int} (v : Value) (ha : VM.Lim a) (hb : VM.Lim b) (h3 : d < 9223372036854775808) (w : World) (hT : Tell n d v w) :
    Calls Try.prog 50 #[arr 7 a, arr 7 b, v] w (RetZ w (VM.mid (a 2) (b 2) n d) (VM.col a b n d)) := by
  rcases hT with ⟨h1, rfl⟩ | ⟨h1, gd, gn, rfl, hC⟩
  · exact told_lo a b ha hb h1 w
  · exact told_hi a b ha hb h1 h3 gd gn w hC
end Go.Proofs.Ytdkppkdoconfhaa
