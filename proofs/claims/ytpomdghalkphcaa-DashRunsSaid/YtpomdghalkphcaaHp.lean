/- Contracts: the program's isFrom, Right, isAsked, isLit, Lit, Next. -/
import Derived.Test.YtpomdghalkphcaaHd
import Derived.Test.YtpomdghalkphcaaHs
namespace Go.Proofs.Ytpomdghalkphcaa
open Go.ChangeShapes Go.WideShapes Go.ChangeAt Go.RowKit
set_option linter.unusedVariables false
set_option linter.unusedSimpArgs false

theorem from_any (a b n : Int) (w : World) : Calls Try.prog 18 #[.int .i64 a, .int .i64 b, .int .i64 n] w fun e w' => e = .returned (.bool (decide (a ≤ n) && decide (n ≤ b))) ∧ w' = w := by
  have HE : Hid ((decide (a ≤ n) && decide (n ≤ b)) = (decide (a ≤ n) && decide (n ≤ b))) := Lib.hid rfl
  obtain ⟨z, hz⟩ : ∃ z, (decide (a ≤ n) && decide (n ≤ b)) = z := ⟨_, rfl⟩
  rw [hz]
  have HZ := Lib.hid hz
  clear hz HE
  cases h0 : decide (a ≤ n)
  · rw [h0] at HZ
    go_enter Try.func18, Try.ntmps18
    go_wp2_with fail
    go_ret
    exact ⟨by rw [← HZ.out]; rfl, rfl⟩
  · cases h1 : decide (n ≤ b)
    all_goals
      rw [h0, h1] at HZ
      go_enter Try.func18, Try.ntmps18
      go_wp2_with fail
      go_ret
      exact ⟨by rw [← HZ.out]; rfl, rfl⟩
theorem from_is {a b n : Int} {z : Bool} (h : (decide (a ≤ n) && decide (n ≤ b)) = z) (w : World) : Calls Try.prog 18 #[.int .i64 a, .int .i64 b, .int .i64 n] w fun e w' => e = .returned (.bool z) ∧ w' = w := by
  subst h
  exact from_any a b n w
namespace HM
theorem right_three {d : Nat → Int} {p r c : Int} {z0 z1 z2 : Bool} (h0 : d 0 = p) (h1 : d 1 = r) (h2 : d 2 = c) (e0 : (decide (0 ≤ p) && decide (p ≤ 65535)) = z0) (e1 : (decide (1 ≤ r) && decide (r ≤ 256)) = z1) (e2 : (decide (0 ≤ c) && decide (c ≤ 1099511627776)) = z2) : right d = (z0 && (z1 && z2)) := by
  rw [right_is h0 h1 h2, ← e0, ← e1, ← e2]
  simp only [Bool.and_assoc]
end HM
set_option maxHeartbeats 8000000 in
theorem pright_any (d : Nat → Int) (w : World) : Calls Try.prog 7 #[arr 3 d] w fun e w' => e = .returned (.bool (HM.right d)) ∧ Below w.heap.size w w' := by
  have O := Own.start w
  obtain ⟨p, ep⟩ : ∃ z, d 0 = z := ⟨_, rfl⟩
  have Cp := cell_is (n := 3) ep (by decide)
  obtain ⟨r, er⟩ : ∃ z, d 1 = z := ⟨_, rfl⟩
  have Cr := cell_is (n := 3) er (by decide)
  obtain ⟨c, ec⟩ : ∃ z, d 2 = z := ⟨_, rfl⟩
  have Cc := cell_is (n := 3) ec (by decide)
  obtain ⟨z0, f0⟩ : ∃ z, (decide (0 ≤ p) && decide (p ≤ 65535)) = z := ⟨_, rfl⟩
  obtain ⟨z1, f1⟩ : ∃ z, (decide (1 ≤ r) && decide (r ≤ 256)) = z := ⟨_, rfl⟩
  obtain ⟨z2, f2⟩ : ∃ z, (decide (0 ≤ c) && decide (c ≤ 1099511627776)) = z := ⟨_, rfl⟩
  have HE := Lib.hid (HM.right_three ep er ec f0 f1 f2)
  clear ep er ec
  have C0 := fun w => from_is f0 w
  have C1 := fun w => from_is f1 w
  have C2 := fun w => from_is f2 w
  clear f0 f1 f2
  have tok0 : True := trivial
  cases z0
  · go_enter Try.func7, Try.ntmps7
    go_wp2_with (first | ((with_reducible refine at_box 1 ?_); refine wpList_box_own O (M.mat 3 (d)) rfl ?_; clear O; intro g1 w1 O) | ((with_reducible refine at_load 4 ?_); refine wpList_cell_h (v := .int .i64 (p)) rfl O.held 0 rfl Cp.out rfl agg3 rfl ?_) | (go_at_call 18; clear tok0; have tok1 : True := trivial; refine (C0 _).mono ?_; rintro e w' ⟨rfl, rfl⟩))
    go_ret
    exact ⟨by rw [HE.out]; rfl, O.below⟩
  · cases z1
    · go_enter Try.func7, Try.ntmps7
      go_wp2_with (first | ((with_reducible refine at_box 1 ?_); refine wpList_box_own O (M.mat 3 (d)) rfl ?_; clear O; intro g1 w1 O) | ((with_reducible refine at_load 4 ?_); refine wpList_cell_h (v := .int .i64 (p)) rfl O.held 0 rfl Cp.out rfl agg3 rfl ?_) | (go_at_call 18; clear tok0; have tok1 : True := trivial; refine (C0 _).mono ?_; rintro e w' ⟨rfl, rfl⟩) | ((with_reducible refine at_load 8 ?_); refine wpList_cell_h (v := .int .i64 (r)) rfl O.held 0 rfl Cr.out rfl agg3 rfl ?_) | (go_at_call 18; clear tok1; have tok2 : True := trivial; refine (C1 _).mono ?_; rintro e w' ⟨rfl, rfl⟩))
      go_ret
      exact ⟨by rw [HE.out]; rfl, O.below⟩
    · cases z2
      all_goals
        go_enter Try.func7, Try.ntmps7
        go_wp2_with (first | ((with_reducible refine at_box 1 ?_); refine wpList_box_own O (M.mat 3 (d)) rfl ?_; clear O; intro g1 w1 O) | ((with_reducible refine at_load 4 ?_); refine wpList_cell_h (v := .int .i64 (p)) rfl O.held 0 rfl Cp.out rfl agg3 rfl ?_) | (go_at_call 18; clear tok0; have tok1 : True := trivial; refine (C0 _).mono ?_; rintro e w' ⟨rfl, rfl⟩) | ((with_reducible refine at_load 8 ?_); refine wpList_cell_h (v := .int .i64 (r)) rfl O.held 0 rfl Cr.out rfl agg3 rfl ?_) | (go_at_call 18; clear tok1; have tok2 : True := trivial; refine (C1 _).mono ?_; rintro e w' ⟨rfl, rfl⟩) | ((with_reducible refine at_load 13 ?_); refine wpList_cell_h (v := .int .i64 (c)) rfl O.held 0 rfl Cc.out rfl agg3 rfl ?_) | (go_at_call 18; clear tok2; have tok3 : True := trivial; refine (C2 _).mono ?_; rintro e w' ⟨rfl, rfl⟩))
        go_ret
        exact ⟨by rw [HE.out]; rfl, O.below⟩
namespace HM
def near (n : Int) : Bool := decide (0 ≤ n) && decide (n ≤ 1099511627776)
theorem near_of {n : Int} (h : 0 ≤ n ∧ n ≤ 1099511627776) : near n = true := by simp [near, h.1, h.2]
end HM
set_option maxHeartbeats 4000000 in
theorem asked_any (d : Nat → Int) (n : Int) (hr : HM.right d = true) (hn : 0 ≤ n ∧ n ≤ 1099511627776) (w : World) : Calls Try.prog 19 #[arr 3 d, .int .i64 n] w fun e w' => e = .returned (.bool true) ∧ Below w.heap.size w w' := by
  have O := Own.start w
  have CR := fun w => pright_any d w
  rw [hr] at CR
  have CF := fun w => from_is (HM.near_of hn) w
  clear hn hr
  go_enter Try.func19, Try.ntmps19
  go_wp2_with (first | ((with_reducible refine at_box 2 ?_); refine wpList_box_own O (M.mat 3 (d)) rfl ?_; clear O; intro g2 w1 O) | ((with_reducible refine at_load 5 ?_); refine wpList_whole rfl O 0 rfl rfl Try.underlying23 rfl (sH _) ?_) | (go_at_call 7; refine (CR _).mono ?_; rintro e w3 ⟨rfl, hb⟩; replace O := O.call hb; clear hb) | (go_at_call 18; refine (CF _).mono ?_; rintro e w' ⟨rfl, rfl⟩))
  go_ret
  exact ⟨rfl, O.below⟩
theorem and_one {x : Int} (h0 : 0 ≤ x) (h1 : x < 9223372036854775808) : bits BinOp.and IntKind.i64 x 1 = x % 2 := by
  obtain ⟨n, rfl⟩ : ∃ n : Nat, x = n := ⟨x.toNat, by omega⟩
  have e1 : (BitVec.ofInt 64 (n : Int)).toNat = n := by
    rw [BitVec.ofInt_natCast, BitVec.toNat_ofNat]
    exact Nat.mod_eq_of_lt (by omega)
  have e2 : (BitVec.ofInt 64 (1 : Int)).toNat = 1 := by decide
  show IntKind.i64.wrap ((BitVec.ofInt 64 (n : Int) &&& BitVec.ofInt 64 (1 : Int)).toNat : Int) = _
  rw [BitVec.toNat_and, e1, e2, Nat.and_one_is_mod, IntWalk.i64_in _ (by omega)]
  omega
set_option maxHeartbeats 4000000 in
theorem plitin_any (d : Nat → Int) (k : Int) (hr : HM.right d = true) (hn : 0 ≤ k ∧ k ≤ 1099511627776) (w : World) : Calls Try.prog 20 #[arr 3 d, .int .i64 k] w fun e w' => e = .returned (.bool (HM.litF d k)) ∧ Below w.heap.size w w' := by
  have O := Own.start w
  rw [HM.right_iff] at hr
  unfold HM.litF
  obtain ⟨p, ep⟩ : ∃ z, d 0 = z := ⟨_, rfl⟩
  have Cp := cell_is (n := 3) ep (by decide)
  obtain ⟨r, er⟩ : ∃ z, d 1 = z := ⟨_, rfl⟩
  have Cr := cell_is (n := 3) er (by decide)
  obtain ⟨c, ec⟩ : ∃ z, d 2 = z := ⟨_, rfl⟩
  have Cc := cell_is (n := 3) ec (by decide)
  rw [ep, er, ec] at hr ⊢
  clear ep er ec
  obtain ⟨⟨p0, p1⟩, ⟨r0, r1⟩, c0, c1⟩ := hr
  obtain ⟨b0, b1⟩ := @HM.bit_lim r c k
  have hd := Int.ediv_nonneg (show 0 ≤ c + k by omega) (show 0 ≤ r by omega)
  have hd2 := Int.ediv_le_self r (show 0 ≤ c + k by omega)
  have W1 : wrap64 (c + k) = c + k := IntWalk.wrap64_in _ (by omega)
  have e1 : (c + k).tdiv r = (c + k) / r := Int.tdiv_eq_ediv_of_nonneg (by omega)
  have e2 : ((c + k) / r).tmod 16 = HM.bit r c k := Int.tmod_eq_emod_of_nonneg hd
  have W3 : wrap64 ((c + k) / r) = (c + k) / r := IntWalk.wrap64_in _ (by omega)
  have HE : Hid (HM.lit p r c k = (HM.half p (HM.bit r c k).toNat % 2 == 1)) := Lib.hid rfl
  have hh := HM.half_lim p0 p1 (HM.bit r c k).toNat
  have hp := HM.half_pow p (HM.bit r c k).toNat
  generalize HM.lit p r c k = z at *
  generalize HM.bit r c k = B at *
  generalize HM.half p B.toNat = y at *
  have EA := and_one hh.1 (by omega)
  have n1 : ¬ r = 0 := by omega
  obtain ⟨q, hq⟩ : ∃ q, (c + k) / r = q := ⟨_, rfl⟩
  obtain ⟨s, hs⟩ : ∃ s, c + k = s := ⟨_, rfl⟩
  rw [hq] at e1 e2 W3
  rw [hs] at W1 e1
  obtain ⟨v, hv⟩ : ∃ v, y % 2 = v := ⟨_, rfl⟩
  rw [hv] at EA HE
  have EP : p / 2 ^ B.toNat = y := hp.symm
  clear hp hq hv p0 p1 r0 r1 c0 c1 hn hd hd2 hh
  go_enter Try.func20, Try.ntmps20
  cases hz : v == 1
  all_goals
    rw [hz] at HE
    go_wp2_with (first | ((with_reducible refine at_box 2 ?_); refine wpList_box_own O (M.mat 3 (d)) rfl ?_; clear O; intro g2 w1 O) | ((with_reducible refine at_load 7 ?_); refine wpList_cell_h (v := .int .i64 (c)) rfl O.held 0 rfl Cc.out rfl agg3 rfl ?_) | ((with_reducible refine at_load 11 ?_); refine wpList_cell_h (v := .int .i64 (r)) rfl O.held 0 rfl Cr.out rfl agg3 rfl ?_) | ((with_reducible refine at_load 15 ?_); refine wpList_cell_h (v := .int .i64 (p)) rfl O.held 0 rfl Cp.out rfl agg3 rfl ?_))
    go_ret
    exact ⟨by rw [HE.out]; rfl, O.below⟩
set_option maxHeartbeats 4000000 in
theorem plit_any (d : Nat → Int) (k : Int) (hr : HM.right d = true) (hn : 0 ≤ k ∧ k ≤ 1099511627776) (w : World) : Calls Try.prog 11 #[arr 3 d, .int .i64 k] w fun e w' => e = .returned (.bool (HM.litF d k)) ∧ Below w.heap.size w w' := by
  have O := Own.start w
  have CA := fun w => asked_any d k hr hn w
  have CL := fun w => plitin_any d k hr hn w
  generalize HM.litF d k = z at *
  clear hr hn
  cases z
  all_goals
    go_enter Try.func11, Try.ntmps11
    go_wp2_with (first | ((with_reducible refine at_box 2 ?_); refine wpList_box_own O (M.mat 3 (d)) rfl ?_; clear O; intro g2 w1 O) | ((with_reducible refine at_load 5 ?_); refine wpList_whole rfl O 0 rfl rfl Try.underlying23 rfl (sH _) ?_) | (go_at_call 19; refine (CA _).mono ?_; rintro e w3 ⟨rfl, hb⟩; replace O := O.call hb; clear hb) | ((with_reducible refine at_load 9 ?_); refine wpList_whole rfl O 0 rfl rfl Try.underlying23 rfl (sH _) ?_) | (go_at_call 20; refine (CL _).mono ?_; rintro e w4 ⟨rfl, hb⟩; replace O := O.call hb; clear hb))
    go_ret
    exact ⟨rfl, O.below⟩
set_option maxHeartbeats 4000000 in
theorem pnext_any (d : Nat → Int) (n : Int) (hr : HM.right d = true) (hn : 0 ≤ n ∧ n ≤ 1099511627776) (w : World) : Calls Try.prog 13 #[arr 3 d, .int .i64 n] w fun e w' => e = .returned (arr 3 (HM.nextF d n)) ∧ Below w.heap.size w w' := by
  have O := Own.start w
  have CA := fun w => asked_any d n hr hn w
  rw [HM.right_iff] at hr
  unfold HM.nextF
  obtain ⟨p, ep⟩ : ∃ z, d 0 = z := ⟨_, rfl⟩
  have Cp := cell_is (n := 3) ep (by decide)
  obtain ⟨r, er⟩ : ∃ z, d 1 = z := ⟨_, rfl⟩
  have Cr := cell_is (n := 3) er (by decide)
  obtain ⟨c, ec⟩ : ∃ z, d 2 = z := ⟨_, rfl⟩
  have Cc := cell_is (n := 3) ec (by decide)
  have HS : Hid (∀ z, d 2 = c → (M.mat 3 d).set 2 (.int .i64 z) = M.mat 3 (HM.t3 p r z)) := Lib.hid (fun z _ => by rw [← ep, ← er]; rfl)
  have HC := Lib.hid ec
  rw [ep, er, ec] at hr ⊢
  clear ep er ec
  obtain ⟨⟨p0, p1⟩, ⟨r0, r1⟩, c0, c1⟩ := hr
  have hl := @HM.later_lim r c n r0 r1
  have W1 : wrap64 (c + n) = c + n := IntWalk.wrap64_in _ (by omega)
  have W2 : wrap64 (16 * r) = 16 * r := IntWalk.wrap64_in _ (by omega)
  have e1 : (c + n).tmod (16 * r) = HM.later r c n := Int.tmod_eq_emod_of_nonneg (by omega)
  generalize HM.later r c n = z at *
  have n0 : ¬ 16 * r = 0 := by omega
  obtain ⟨m, hm⟩ : ∃ m, 16 * r = m := ⟨_, rfl⟩
  obtain ⟨s, hs⟩ : ∃ s, c + n = s := ⟨_, rfl⟩
  rw [hm] at W2 e1 n0
  rw [hs] at W1 e1
  have n1 : ¬ m = 0 := n0
  clear p0 p1 r0 r1 c0 c1 hn n0 hl
  go_enter Try.func13, Try.ntmps13
  go_wp2_with (first | ((with_reducible refine at_box 2 ?_); refine wpList_box_own O (M.mat 3 (d)) rfl ?_; clear O; intro g2 w1 O) | ((with_reducible refine at_alloc 4 ?_); refine wpList_alloc_own O (M.mat 3 M.zero) zeroH ?_; clear O; intro g4 w2 O) | ((with_reducible refine at_load 5 ?_); refine wpList_whole rfl O 1 rfl rfl Try.underlying23 rfl (sH _) ?_) | (go_at_call 19; refine (CA _).mono ?_; rintro e w5 ⟨rfl, hb⟩; replace O := O.call hb; clear hb) | ((with_reducible refine at_load 11 ?_); refine wpList_cell_h (v := .int .i64 (c)) rfl O.held 1 rfl Cc.out rfl agg3 rfl ?_) | ((with_reducible refine at_load 15 ?_); refine wpList_cell_h (v := .int .i64 (r)) rfl O.held 1 rfl Cr.out rfl agg3 rfl ?_) | ((with_reducible refine at_store 18 ?_); refine wpList_set_own O 1 (i := 2) (.int .i64 z) rfl (by rw [M.mat_len]; omega) rfl (by first | rfl | exact congrArg (Value.int IntKind.i64) e1) size3 rfl rfl ?_; clear O; intro w3 O; have O9 := Own.as O (l' := [(g4, 23, M.mat 3 M.zero), (g2, 23, M.mat 3 (HM.t3 p r z))]) (by rw [← HS.out z HC.out]; rfl); clear O; have O := O9; clear O9) | ((with_reducible refine at_load 19 ?_); refine wpList_whole rfl O 1 rfl rfl Try.underlying23 rfl (sH _) ?_) | ((with_reducible refine at_store 4 ?_); refine wpList_put_own O 0 (M.mat 3 (HM.t3 p r z)) rfl rfl rfl (sH _) (M.mat_len2 _ _ _) (M.mat_one _ _) ?_; clear O; intro w4 O))
  exact bodyPost_ret (v := arr 3 (HM.t3 p r z)) (res_h rfl O.held 0 rfl rfl Try.underlying23 rfl (sH _)) rfl ⟨rfl, O.below⟩
end Go.Proofs.Ytpomdghalkphcaa
