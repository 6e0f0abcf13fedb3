/- Contracts: the program's down, holding, along, across, longer, reached. -/
import Derived.Test.YtpfhaocmcfnhnaaGreatDs
import Derived.Test.YtpfhaocmcfnhnaaGreatXa
import Derived.Test.YtpfhaocmcfnhnaaGreatXu
namespace Go.Proofs.YtpfhaocmcfnhnaaGreat
open Go.ChangeShapes Go.WideShapes Go.ChangeAt Go.RowKit
set_option linter.unusedVariables false
set_option linter.unusedSimpArgs false

/-- A line in memory. -/
def wl (a0 a1 b0 b1 t f s n : Int) : List Value := [.int .i64 a0, .int .i64 a1, .int .i64 b0, .int .i64 b1, .int .i64 t, .int .i64 f, .int .i64 s, .int .i64 n]
theorem sWl (a0 a1 b0 b1 t f s n : Int) : (Tryz.prog.info? 78).map (·.size) = some (wl a0 a1 b0 b1 t f s n).length := by kernel_rfl
theorem zeroWl : (Tryz.prog.info? 78).map (·.zero) = some (some (.agg (wl 0 0 0 0 0 0 0 0).toArray)) := by kernel_rfl
theorem wl_one (a0 a1 b0 b1 t f s n : Int) : ∀ v ∈ wl a0 a1 b0 b1 t f s n, v.oneCell' = true := by
 intro v hv
 simp only [wl, List.mem_cons, List.not_mem_nil, or_false] at hv
 rcases hv with rfl | rfl | rfl | rfl | rfl | rfl | rfl | rfl <;> rfl
theorem builtWl (a b : Nat → Int) (t : Int) : Tryz.prog.built 78 [(0, arr 2 a), (1, arr 2 b), (2, .int .i64 t), (4, .int .i64 1)] = some (wl (a 0) (a 1) (b 0) (b 1) t 0 1 0).toArray := by kernel_rfl
theorem wl_a (a0 a1 b0 b1 t f s n : Int) : ∀ j v, (M.mat 2 (DM.t2 a0 a1))[j]? = some v → (wl a0 a1 b0 b1 t f s n)[0 + j]? = some v := by
 intro j v h
 match j, h with
 | 0, h => exact h
 | 1, h => exact h
 | j + 2, h => exact absurd ((List.getElem?_eq_some_iff.1 h).1) (by rw [M.mat_len]; omega)
theorem wl_b (a0 a1 b0 b1 t f s n : Int) : ∀ j v, (M.mat 2 (DM.t2 b0 b1))[j]? = some v → (wl a0 a1 b0 b1 t f s n)[2 + j]? = some v := by
 intro j v h
 match j, h with
 | 0, h => exact h
 | 1, h => exact h
 | j + 2, h => exact absurd ((List.getElem?_eq_some_iff.1 h).1) (by rw [M.mat_len]; omega)
theorem agg50 (w : World) : (isAgg 76).run Tryz.prog w = .ok false w := by kernel_rfl
namespace DM
/-- A way as a number. -/
def wv (t : Bool) : Int := if t then 1 else 0
theorem wv_f : wv false = 0 := rfl
theorem wv_t : wv true = 1 := rfl
theorem tdiv_fl {n d q r : Int} (hd : 0 < d) (hq : n.tdiv d = q) (hr : n.tmod d = r) : (r < 0 → n / d = q - 1) ∧ (¬ r < 0 → n / d = q) := by
 have e := Int.mul_tdiv_add_tmod n d
 rw [hq, hr] at e
 have key : ∀ {x p : Int}, 0 ≤ x → x < d → n = d * p + x → n / d = p := fun {x p} h0 h1 h2 => by
  rw [h2, Int.mul_add_ediv_left _ _ (by omega), Int.ediv_eq_zero_of_lt h0 h1, Int.add_zero]
 rcases (by omega : 0 ≤ n ∨ n < 0) with h | h
 ·
  have h1 := Int.tmod_lt_of_pos n hd
  have h2 := Int.tmod_nonneg (a := n) d h
  exact ⟨fun h3 => by omega, fun _ => key (x := r) (by omega) (by omega) e.symm⟩
 ·
  have h1 := Int.tmod_lt_of_pos (-n) hd
  have h2 := Int.tmod_nonneg (a := -n) d (by omega)
  rw [Int.neg_tmod] at h1 h2
  exact ⟨fun h3 => key (x := r + d) (by omega) (by omega) (by rw [Int.mul_sub]; omega), fun h3 => key (x := r) (by omega) (by omega) e.symm⟩
theorem tdiv_lim2 {n d : Int} (hd : 0 < d) (h1 : -4611686018427387904 ≤ n) (h2 : n ≤ 4611686018427387904) : -4611686018427387904 ≤ n.tdiv d ∧ n.tdiv d ≤ 4611686018427387904 := by
 have key : ∀ m : Int, 0 ≤ m → 0 ≤ m.tdiv d ∧ m.tdiv d ≤ m := fun m hm => by
  rw [Int.tdiv_eq_ediv_of_nonneg hm]
  exact ⟨Int.ediv_nonneg hm (by omega), Int.ediv_le_self d hm⟩
 rcases (by omega : 0 ≤ n ∨ n < 0) with h | h
 · have := key n h; omega
 ·
  have := key (-n) (by omega)
  rw [Int.neg_tdiv] at this
  omega
end DM
set_option maxHeartbeats 2000000 in
theorem down_any (n d : Int) (hd : 0 < d) (h1 : -4611686018427387904 ≤ n) (h2 : n ≤ 4611686018427387904) (w : World) : Calls Tryz.prog 76 #[.int .i64 n, .int .i64 d] w fun e w' => e = .returned (.int .i64 (n / d)) ∧ w' = w := by
 obtain ⟨q, hq⟩ : ∃ z, n.tdiv d = z := ⟨_, rfl⟩
 obtain ⟨r, hr⟩ : ∃ z, n.tmod d = z := ⟨_, rfl⟩
 obtain ⟨k1, k2⟩ := DM.tdiv_fl hd hq hr
 have lq := DM.tdiv_lim2 hd h1 h2
 rw [hq] at lq
 obtain ⟨lq1, lq2⟩ := lq
 have W1 : wrap64 q = q := IntWalk.wrap64_in _ (by omega)
 have W2 : wrap64 (q - 1) = q - 1 := IntWalk.wrap64_in _ (by omega)
 have n0 : ¬ d = 0 := by omega
 by_cases hlt : r < 0
 ·
  have HE := Lib.hid (k1 hlt)
  clear k1 k2 h1 h2 lq1 lq2 hd
  go_enter Tryz.func76, Tryz.ntmps76
  go_wp2_with fail
  go_ret
  exact ⟨by rw [HE.out]; exact congrArg (fun z => Ending.returned (Value.int IntKind.i64 z)) W2, rfl⟩
 ·
  have HE := Lib.hid (k2 hlt)
  clear k1 k2 h1 h2 lq1 lq2 hd
  go_enter Tryz.func76, Tryz.ntmps76
  go_wp2_with fail
  go_ret
  exact ⟨by rw [HE.out]; rfl, rfl⟩
set_option maxHeartbeats 2000000 in
theorem hold_any (u : Int) (h1 : -536870912 ≤ u) (h2 : u ≤ 536870912) (w : World) : Calls Tryz.prog 56 #[.int .i64 u] w fun e w' => e = .returned (.int .i64 (DM.hold u)) ∧ w' = w := by
 have C := fun w => down_any (u - 1) 256 (by omega) (by omega) (by omega) w
 have W1 : wrap64 (u - 1) = u - 1 := IntWalk.wrap64_in _ (by omega)
 unfold DM.hold
 obtain ⟨q, hq⟩ : ∃ z, (u - 1) / 256 = z := ⟨_, rfl⟩
 rw [hq] at C ⊢
 clear hq h1 h2
 go_enter Tryz.func56, Tryz.ntmps56
 go_wp2_with (go_at_call 76; refine (C _).mono ?_; rintro e w' ⟨rfl, rfl⟩)
 go_ret
 exact ⟨rfl, rfl⟩
set_option maxHeartbeats 2000000 in
theorem along_any (t : Bool) (p : Nat → Int) (w : World) : Calls Tryz.prog 57 #[.int .i64 (DM.wv t), arr 2 p] w fun e w' => e = .returned (.int .i64 (DM.mn t (p 0) (p 1))) ∧ Below w.heap.size w w' := by
 have O := Own.start w
 obtain ⟨p0, ep0⟩ : ∃ z, p 0 = z := ⟨_, rfl⟩
 have Cp0 := cell_is (n := 2) ep0 (by decide)
 obtain ⟨p1, ep1⟩ : ∃ z, p 1 = z := ⟨_, rfl⟩
 have Cp1 := cell_is (n := 2) ep1 (by decide)
 rw [ep0, ep1]
 clear ep0 ep1
 cases t
 ·
  rw [DM.wv_f]
  go_enter Tryz.func57, Tryz.ntmps57
  go_wp2_with (first | ((with_reducible refine at_box 3 ?_); refine wpList_box_own O (M.mat 2 (p)) rfl ?_; clear O; intro g1 w1 O) | ((with_reducible refine at_load 8 ?_); refine wpList_cell_h (v := .int .i64 (p0)) rfl O.held 0 rfl Cp0.out rfl agg3 rfl ?_))
  go_ret
  exact ⟨rfl, O.below⟩
 ·
  rw [DM.wv_t]
  go_enter Tryz.func57, Tryz.ntmps57
  go_wp2_with (first | ((with_reducible refine at_box 3 ?_); refine wpList_box_own O (M.mat 2 (p)) rfl ?_; clear O; intro g1 w1 O) | ((with_reducible refine at_load 10 ?_); refine wpList_cell_h (v := .int .i64 (p1)) rfl O.held 0 rfl Cp1.out rfl agg3 rfl ?_))
  go_ret
  exact ⟨rfl, O.below⟩
set_option maxHeartbeats 2000000 in
theorem across_any (t : Bool) (p : Nat → Int) (w : World) : Calls Tryz.prog 87 #[.int .i64 (DM.wv t), arr 2 p] w fun e w' => e = .returned (.int .i64 (DM.cr t (p 0) (p 1))) ∧ Below w.heap.size w w' := by
 have O := Own.start w
 obtain ⟨p0, ep0⟩ : ∃ z, p 0 = z := ⟨_, rfl⟩
 have Cp0 := cell_is (n := 2) ep0 (by decide)
 obtain ⟨p1, ep1⟩ : ∃ z, p 1 = z := ⟨_, rfl⟩
 have Cp1 := cell_is (n := 2) ep1 (by decide)
 rw [ep0, ep1]
 clear ep0 ep1
 cases t
 ·
  rw [DM.wv_f]
  go_enter Tryz.func87, Tryz.ntmps87
  go_wp2_with (first | ((with_reducible refine at_box 3 ?_); refine wpList_box_own O (M.mat 2 (p)) rfl ?_; clear O; intro g1 w1 O) | ((with_reducible refine at_load 8 ?_); refine wpList_cell_h (v := .int .i64 (p1)) rfl O.held 0 rfl Cp1.out rfl agg3 rfl ?_))
  go_ret
  exact ⟨rfl, O.below⟩
 ·
  rw [DM.wv_t]
  go_enter Tryz.func87, Tryz.ntmps87
  go_wp2_with (first | ((with_reducible refine at_box 3 ?_); refine wpList_box_own O (M.mat 2 (p)) rfl ?_; clear O; intro g1 w1 O) | ((with_reducible refine at_load 10 ?_); refine wpList_cell_h (v := .int .i64 (p0)) rfl O.held 0 rfl Cp0.out rfl agg3 rfl ?_))
  go_ret
  exact ⟨rfl, O.below⟩
set_option maxRecDepth 100000 in
set_option maxHeartbeats 4000000 in
theorem longer_any (a b : Nat → Int) (ha : DM.Rg a) (hb : DM.Rg b) (w_ : World) : Calls Tryz.prog 55 #[arr 2 a, arr 2 b] w_ fun e w' => e = .returned (.int .i64 (DM.wv (DM.tall (b 0 - a 0) (b 1 - a 1)))) ∧ Below w_.heap.size w_ w' := by
 have O := Own.start w_
 unfold DM.Rg at ha hb
 obtain ⟨a0, ea0⟩ : ∃ z, a 0 = z := ⟨_, rfl⟩
 have Ca0 := cell_is (n := 2) ea0 (by decide)
 obtain ⟨a1, ea1⟩ : ∃ z, a 1 = z := ⟨_, rfl⟩
 have Ca1 := cell_is (n := 2) ea1 (by decide)
 obtain ⟨b0, eb0⟩ : ∃ z, b 0 = z := ⟨_, rfl⟩
 have Cb0 := cell_is (n := 2) eb0 (by decide)
 obtain ⟨b1, eb1⟩ : ∃ z, b 1 = z := ⟨_, rfl⟩
 have Cb1 := cell_is (n := 2) eb1 (by decide)
 rw [ea0, ea1] at ha ⊢
 rw [eb0, eb1] at hb ⊢
 clear ea0 ea1 eb0 eb1
 obtain ⟨w, hw⟩ : ∃ z, b0 - a0 = z := ⟨_, rfl⟩
 obtain ⟨h, hh⟩ : ∃ z, b1 - a1 = z := ⟨_, rfl⟩
 have rw_ : -1073741824 ≤ w ∧ w ≤ 1073741824 := by omega
 have rh_ : -1073741824 ≤ h ∧ h ≤ 1073741824 := by omega
 have Hw : Hid (b0 - a0 = w ∧ IntKind.i64.wrap w = w) := Lib.hid ⟨hw, IntWalk.i64_in _ (by omega)⟩
 have Hh : Hid (b1 - a1 = h ∧ IntKind.i64.wrap h = h) := Lib.hid ⟨hh, IntWalk.i64_in _ (by omega)⟩
 have HE := Lib.hid (DM.tall_abs w h)
 rw [hw, hh]
 obtain ⟨nw, hnw⟩ : ∃ z, 0 - w = z := ⟨_, rfl⟩
 obtain ⟨nh, hnh⟩ : ∃ z, 0 - h = z := ⟨_, rfl⟩
 have W1 : wrap64 (0 - w) = nw := by rw [hnw]; exact IntWalk.wrap64_in _ (by omega)
 have W2 : wrap64 (0 - h) = nh := by rw [hnh]; exact IntWalk.wrap64_in _ (by omega)
 have W1' : wrap64 (-w) = nw := by rw [← W1, Int.zero_sub]
 have W2' : wrap64 (-h) = nh := by rw [← W2, Int.zero_sub]
 rw [hnw, hnh] at HE
 obtain ⟨k1, hk1⟩ : ∃ z, max w nw = z := ⟨_, rfl⟩
 obtain ⟨k2, hk2⟩ : ∃ z, max h nh = z := ⟨_, rfl⟩
 rw [hk1, hk2] at HE
 have FM := Lib.hid (And.intro (congrArg (Value.int IntKind.i64) hk1) (And.intro (congrArg (Value.int IntKind.i64) hk2) (And.intro (congrArg (Value.int IntKind.i64) ((max_if w nw).trans hk1)) (congrArg (Value.int IntKind.i64) ((max_if h nh).trans hk2)))))
 have FW := Lib.hid (And.intro W1 (And.intro W2 (And.intro W1' W2')))
 obtain ⟨z, hz⟩ : ∃ z, DM.tall w h = z := ⟨_, rfl⟩
 rw [hz] at HE ⊢
 clear ha hb hw hh rw_ rh_ hnw hnh W1 W2 W1' W2' hk1 hk2 hz
 go_enter Tryz.func55, Tryz.ntmps55
 go_wp2_with (first | ((with_reducible refine at_box 2 ?_); refine wpList_box_own O (M.mat 2 (a)) rfl ?_; clear O; intro g2 w1 O) | ((with_reducible refine at_box 3 ?_); refine wpList_box_own O (M.mat 2 (b)) rfl ?_; clear O; intro g3 w2 O))
 have OO := O
 clear O
 have O := OO
 clear OO
 refine region_T ((fun w2 => Own w_ w2 [(g3, 44, M.mat 2 b), (g2, 44, M.mat 2 a)])) [0, 1, 2, 3, 4, 5, 6, 7, 8, 9, 10] 12 [some 7, some 8, some 9, some 10, some 11, some 12, some 13, some 14, some 15, some 16, some 5] [.pointer (some ⟨g3, 0, none⟩), .int .i64 b0, .pointer (some ⟨g2, 0, none⟩), .int .i64 a0, .int .i64 w, .pointer (some ⟨g3, 1, none⟩), .int .i64 b1, .pointer (some ⟨g2, 1, none⟩), .int .i64 a1, .int .i64 h, .int .i64 w] 1 (by kernel_rfl) (by rfl) (by kernel_rfl) (by rfl) (by rfl) (O.drew) (fun F hF => ?_)
 simp only [fillD, Act.put, List.setIfInBounds_toArray, List.set_cons_zero, List.set_cons_succ] at hF
 subst hF
 refine ⟨⟨does_want rfl (by rfl) (fun w' O K hK => ?_), does_want rfl (by rfl) (fun w' O K hK => ?_), does_want rfl (by rfl) (fun w' O K hK => ?_), does_want rfl (by rfl) (fun w' O K hK => ?_), does_want rfl (by rfl) (fun w' O K hK => ?_), does_want rfl (by rfl) (fun w' O K hK => ?_), does_want rfl (by rfl) (fun w' O K hK => ?_), does_want rfl (by rfl) (fun w' O K hK => ?_), does_want rfl (by rfl) (fun w' O K hK => ?_), does_want rfl (by rfl) (fun w' O K hK => ?_), does_want rfl (by rfl) (fun w' O K hK => ?_), trivial⟩, fun w' O => ?_⟩
 ·
  go_simp
  exact hK _ O
 · exact wp_cell_h (v := .int .i64 (b0)) O.held 0 rfl Cb0.out rfl agg3 rfl (hK _ O)
 ·
  go_simp
  exact hK _ O
 · exact wp_cell_h (v := .int .i64 (a0)) O.held 1 rfl Ca0.out rfl agg3 rfl (hK _ O)
 ·
  obtain ⟨e1, e2⟩ := Hw.out
  go_simp
  first | exact hK _ O | (rw [e1, e2]; exact hK _ O) | (simp only [e1, e2]; exact hK _ O)
 ·
  go_simp
  exact hK _ O
 · exact wp_cell_h (v := .int .i64 (b1)) O.held 0 rfl Cb1.out rfl agg3 rfl (hK _ O)
 ·
  go_simp
  exact hK _ O
 · exact wp_cell_h (v := .int .i64 (a1)) O.held 1 rfl Ca1.out rfl agg3 rfl (hK _ O)
 ·
  obtain ⟨e1, e2⟩ := Hh.out
  go_simp
  first | exact hK _ O | (rw [e1, e2]; exact hK _ O) | (simp only [e1, e2]; exact hK _ O)
 ·
  go_simp
  exact hK _ O
 refine wpAny_one (i := 11) (by kernel_rfl) rfl (fun K hK => ?_)
 go_simp
 refine hK _ _ ?_
 clear hK K
 try simp only [Act.put, List.setIfInBounds_toArray, List.set_cons_zero, List.set_cons_succ]
 refine wpAny_done (by kernel_rfl) ?_ _
 clear Hw Hh
 have W1 := FW.out.1
 have W2 := FW.out.2.1
 have W1' := FW.out.2.2.1
 have W2' := FW.out.2.2.2
 obtain ⟨m1, m2, G1, G2⟩ := FM.out
 clear FM
 cases z
 ·
  have c1 := HE.out
  go_wp2_with fail
  go_ret
  exact ⟨rfl, O.below⟩
 ·
  have c1 := HE.out
  go_wp2_with fail
  go_ret
  exact ⟨rfl, O.below⟩
namespace DM
def reached (d x l h : Int) : Bool := if d < 0 then decide (x < h) else decide (l ≤ x)
end DM
set_option maxHeartbeats 2000000 in
theorem reached_any (d x l h : Int) (w : World) : Calls Tryz.prog 63 #[.int .i64 d, .int .i64 x, .int .i64 l, .int .i64 h] w fun e w' => e = .returned (.bool (DM.reached d x l h)) ∧ w' = w := by
 unfold DM.reached
 by_cases hd : d < 0
 ·
  rw [if_pos hd]
  go_enter Tryz.func63, Tryz.ntmps63
  go_wp2_with fail
  go_ret
  exact ⟨rfl, rfl⟩
 ·
  rw [if_neg hd]
  go_enter Tryz.func63, Tryz.ntmps63
  go_wp2_with fail
  go_ret
  exact ⟨rfl, rfl⟩
end Go.Proofs.YtpfhaocmcfnhnaaGreat
