/- Contract: the document's Count. -/
import Derived.Test.YtpfhaocmcfnhnaaGreatXb
import Derived.Test.YtpfhaocmcfnhnaaGreatXd
namespace Go.Proofs.YtpfhaocmcfnhnaaGreat
open Go.ChangeShapes Go.WideShapes Go.ChangeAt Go.RowKit
set_option linter.unusedVariables false
set_option linter.unusedSimpArgs false

namespace DM
theorem cnt_pack {am bm ac bc : Int} (h : way am ac bm bc) : max (ahd am) (ahd bm) - min (ahd am) (ahd bm) = nl am bm ∧ (0 < nl am bm → (ahd bm < ahd am → pl am bm (ahd bm) = nl am bm - 1) ∧ (¬ ahd bm < ahd am → pl am bm (ahd bm - 1) = nl am bm - 1)) := by
 have hN := nl_pos h
 unfold pl
 unfold nl at hN ⊢
 split
 ·
  rename_i hc
  rw [if_pos hc] at hN
  omega
 ·
  rename_i hc
  rw [if_neg hc] at hN
  omega
end DM
/-- What Of answers of two points that differ. -/
theorem of_ne (a b : Nat → Int) (ha : DM.Rg a) (hb : DM.Rg b) (hn : ¬ (a 0 = b 0 ∧ a 1 = b 1)) (w : World) : Calls Tryz.prog 44 #[arr 2 a, arr 2 b] w fun e w' => ∃ x y, e = .returned (.agg (ln (DM.ahd (DM.mn (DM.tall (b 0 - a 0) (b 1 - a 1)) (a 0) (a 1))) (DM.ahd (DM.mn (DM.tall (b 0 - a 0) (b 1 - a 1)) (b 0) (b 1))) x y (DM.exT (a 0) (a 1) (b 0) (b 1))).toArray) ∧ ((DM.exT (a 0) (a 1) (b 0) (b 1) = true → DM.inside (DM.rel (a 0) x) (DM.rel (a 1) y) = true) ∧ DM.Rx x y) ∧ Below w.heap.size w w' := by
 refine (of_any a b ha hb w).mono ?_
 rintro e w' ⟨x, y, E, rfl, hO, hb⟩
 obtain rfl := hO.2.1 hn
 exact ⟨x, y, rfl, ⟨hO.2.2.1, hO.2.2.2⟩, hb⟩
theorem mid_lim {a : Nat → Int} (ha : DM.Rg a) (t : Bool) : -2097152 ≤ DM.ahd (DM.mn t (a 0) (a 1)) ∧ DM.ahd (DM.mn t (a 0) (a 1)) ≤ 2097153 := by
 unfold DM.Rg at ha
 cases t
 · exact DM.ahd_lim ha.1.1 ha.1.2
 · exact DM.ahd_lim ha.2.1 ha.2.2
set_option maxRecDepth 100000 in
set_option maxHeartbeats 16000000 in
theorem count_any (a b : Nat → Int) (ha : DM.Rg a) (hb : DM.Rg b) (w_ : World) : Calls Tryz.prog 23 #[arr 2 a, arr 2 b] w_ fun e w' => e = .returned (.int .i64 (DM.cnt14 (a 0) (a 1) (b 0) (b 1))) ∧ Below w_.heap.size w_ w' := by
 have O := Own.start w_
 have QE : M.eqB 2 a b = true ↔ (a 0 = b 0 ∧ a 1 = b 1) := by
  rw [M.eqB_iff]
  exact ⟨fun h => ⟨h 0 (by omega), h 1 (by omega)⟩, fun ⟨h0, h1⟩ i hi => by
   rcases (by omega : i = 0 ∨ i = 1) with rfl | rfl
   · exact h0
   · exact h1⟩
 by_cases hn : a 0 = b 0 ∧ a 1 = b 1
 ·
  have HQ := Lib.hid (QE.2 hn)
  have HE : Hid (DM.cnt14 (a 0) (a 1) (b 0) (b 1) = 0) := Lib.hid (by rw [hn.1, hn.2]; exact DM.cnt14_same _ _)
  clear QE hn ha hb
  go_enter Tryz.func23, Tryz.ntmps23
  go_wp2_with (first | ((with_reducible refine at_box 2 ?_); refine wpList_box_own O (M.mat 2 (a)) rfl ?_; clear O; intro g2 w1 O) | ((with_reducible refine at_box 3 ?_); refine wpList_box_own O (M.mat 2 (b)) rfl ?_; clear O; intro g3 w2 O) | ((with_reducible refine at_load 11 ?_); refine wpList_whole rfl O 1 rfl rfl Tryz.underlying44 rfl (sP _) ?_) | ((with_reducible refine at_load 12 ?_); refine wpList_whole rfl O 0 rfl rfl Tryz.underlying44 rfl (sP _) ?_) | ((with_reducible refine at_binOp 13 ?_); refine wpList_eqP rfl (a) (b) rfl rfl ?_; rw [HQ.out]))
  go_ret
  exact ⟨by rw [HE.out]; rfl, O.below⟩
 ·
  have HQ := Lib.hid (show M.eqB 2 a b = false by rw [← Bool.not_eq_true, QE]; exact hn)
  have CO := fun w => of_ne a b ha hb hn w
  have CC := fun u h0 h1 w => column_any a b u ha hb hn h0 h1 w
  have WY := DM.way_of hn
  have HE := DM.cnt14_is hn
  have LA := mid_lim ha (DM.tall (b 0 - a 0) (b 1 - a 1))
  have LB := mid_lim hb (DM.tall (b 0 - a 0) (b 1 - a 1))
  obtain ⟨K1, K2⟩ := DM.cnt_pack WY
  have hN := DM.nl_pos WY
  unfold RetZ14 DM.colZ DM.colR at CC
  unfold DM.cntG DM.e1 DM.l1 at HE
  unfold DM.exT at CO
  have hli := @DM.lastIn_iff (DM.tall (b 0 - a 0) (b 1 - a 1)) (DM.mn (DM.tall (b 0 - a 0) (b 1 - a 1)) (a 0) (a 1)) (DM.cr (DM.tall (b 0 - a 0) (b 1 - a 1)) (a 0) (a 1)) (DM.mn (DM.tall (b 0 - a 0) (b 1 - a 1)) (b 0) (b 1)) (DM.cr (DM.tall (b 0 - a 0) (b 1 - a 1)) (b 0) (b 1))
  clear QE ha hb WY hn
  generalize DM.cnt14 (a 0) (a 1) (b 0) (b 1) = res at *
  generalize (DM.tall (b 0 - a 0) (b 1 - a 1)) = t at *
  generalize DM.mn t (a 0) (a 1) = am at *
  generalize DM.cr t (a 0) (a 1) = ac at *
  generalize DM.mn t (b 0) (b 1) = bm at *
  generalize DM.cr t (b 0) (b 1) = bc at *
  generalize DM.extra t am ac bm bc = E at *
  obtain ⟨N, hNe⟩ : ∃ z, DM.nl am bm = z := ⟨_, rfl⟩
  rw [hNe] at CC HE K1 K2 hN hli
  clear hNe
  generalize DM.lastIn t am ac bm bc = li at *
  obtain ⟨f, hf⟩ : ∃ z, DM.ahd am = z := ⟨_, rfl⟩
  obtain ⟨g, hg⟩ : ∃ z, DM.ahd bm = z := ⟨_, rfl⟩
  rw [hf] at CO K1 K2 LA
  rw [hg] at CO K1 K2 LB
  clear hf hg
  have hli0 : N ≤ 0 → li = false := fun h => by
   rw [← Bool.not_eq_true, hli]
   intro h2
   omega
  clear hli
  -- the column of the last middle
  have CL : ∀ u, 0 < N → DM.pl am bm u = N - 1 → ∃ X Y, ∀ w, Calls Tryz.prog 45 #[arr 2 a, arr 2 b, .int .i64 u] w fun e w' => e = .returned (.tuple #[.int .i64 X, .int .i64 Y, .bool (!li)]) ∧ Below w.heap.size w w' := by
   intro u h0 h1
   have C := CC u (by omega) (by omega)
   rw [decide_eq_true h1, Bool.true_and] at C
   cases li
   · exact ⟨_, _, C⟩
   · exact ⟨_, _, C⟩
  clear CC
  obtain ⟨LA1, LA2⟩ := LA
  obtain ⟨LB1, LB2⟩ := LB
  have Wg : wrap64 (g - 1) = g - 1 := IntWalk.wrap64_in _ (by omega)
  have WN : wrap64 (N - 1) = N - 1 := IntWalk.wrap64_in _ (by omega)
  have WN2 : wrap64 (N + 1) = N + 1 := IntWalk.wrap64_in _ (by omega)
  have WN3 : wrap64 (N - 1 + 1) = N - 1 + 1 := IntWalk.wrap64_in _ (by omega)
  have WNN : wrap64 N = N := IntWalk.wrap64_in _ (by omega)
  replace HE := Lib.hid HE
  clear LA1 LA2 LB1 LB2 hN
  rcases (by omega : g < f ∨ f < g ∨ f = g) with hlt | hlt | hlt
  ·
   have hpos : 0 < N := by omega
   have hge : ¬ f < g := by omega
   have WK : wrap64 (f - g) = N := by rw [show f - g = N by omega]; exact WNN
   obtain ⟨X, Y, CZ⟩ := CL g hpos ((K2 hpos).1 hlt)
   clear CL K1 K2 hli0
   cases li
   ·
    simp only [Bool.not_false] at CZ
    cases E
    ·
     go_enter Tryz.func23, Tryz.ntmps23
     go_wp2_with (first | ((with_reducible refine at_box 2 ?_); refine wpList_box_own O (M.mat 2 (a)) rfl ?_; clear O; intro g2 w1 O) | ((with_reducible refine at_box 3 ?_); refine wpList_box_own O (M.mat 2 (b)) rfl ?_; clear O; intro g3 w2 O) | ((with_reducible first | refine at_load 11 ?_ | refine at_load 14 ?_ | refine at_load 42 ?_); refine wpList_whole rfl O 1 rfl rfl Tryz.underlying44 rfl (sP _) ?_) | ((with_reducible first | refine at_load 12 ?_ | refine at_load 15 ?_); refine wpList_whole rfl O 0 rfl rfl Tryz.underlying44 rfl (sP _) ?_) | ((with_reducible refine at_binOp 13 ?_); refine wpList_eqP rfl (a) (b) rfl rfl ?_; rw [HQ.out]) | (go_at_call 44; refine (CO _).mono ?_; rintro e w5 ⟨x, y, rfl, hO, hb⟩; clear hO; replace O := O.call hb; clear hb) | ((with_reducible refine at_alloc 5 ?_); refine wpList_alloc_own O (ln 0 0 0 0 false) zeroL ?_; clear O; intro g5 w6 O) | ((with_reducible refine at_store 5 ?_); refine wpList_put_own O 0 (ln f g x y false) rfl rfl rfl (sL f g x y false) rfl (ln_one f g x y false) ?_; clear O; intro w7 O) | ((with_reducible first | refine at_load 18 ?_ | refine at_load 23 ?_ | refine at_load 36 ?_); refine wpList_cell_h (v := .int .i64 f) rfl O.held 0 rfl (i := 0) rfl rfl agg3 rfl ?_) | ((with_reducible first | refine at_load 20 ?_ | refine at_load 25 ?_ | refine at_load 31 ?_ | refine at_load 34 ?_ | refine at_load 39 ?_); refine wpList_cell_h (v := .int .i64 g) rfl O.held 0 rfl (i := 1) rfl rfl agg3 rfl ?_) | ((with_reducible refine at_load 41 ?_); refine wpList_whole rfl O 2 rfl rfl Tryz.underlying44 rfl (sP _) ?_) | (go_at_call 45; refine (CZ _).mono ?_; rintro e w8 ⟨rfl, hb⟩; replace O := O.call hb; clear hb) | ((with_reducible refine at_load 53 ?_); refine wpList_cell_h (v := .bool false) rfl O.held 0 rfl (i := 4) rfl rfl agg4 rfl ?_))
     go_ret
     exact ⟨by rw [HE.out]; first | rfl | (exact congrArg (fun z => Ending.returned (Value.int IntKind.i64 z)) (by simp only [Bool.false_eq_true, if_false, if_true]; omega)), O.below⟩
    ·
     go_enter Tryz.func23, Tryz.ntmps23
     go_wp2_with (first | ((with_reducible refine at_box 2 ?_); refine wpList_box_own O (M.mat 2 (a)) rfl ?_; clear O; intro g2 w1 O) | ((with_reducible refine at_box 3 ?_); refine wpList_box_own O (M.mat 2 (b)) rfl ?_; clear O; intro g3 w2 O) | ((with_reducible first | refine at_load 11 ?_ | refine at_load 14 ?_ | refine at_load 42 ?_); refine wpList_whole rfl O 1 rfl rfl Tryz.underlying44 rfl (sP _) ?_) | ((with_reducible first | refine at_load 12 ?_ | refine at_load 15 ?_); refine wpList_whole rfl O 0 rfl rfl Tryz.underlying44 rfl (sP _) ?_) | ((with_reducible refine at_binOp 13 ?_); refine wpList_eqP rfl (a) (b) rfl rfl ?_; rw [HQ.out]) | (go_at_call 44; refine (CO _).mono ?_; rintro e w5 ⟨x, y, rfl, hO, hb⟩; clear hO; replace O := O.call hb; clear hb) | ((with_reducible refine at_alloc 5 ?_); refine wpList_alloc_own O (ln 0 0 0 0 false) zeroL ?_; clear O; intro g5 w6 O) | ((with_reducible refine at_store 5 ?_); refine wpList_put_own O 0 (ln f g x y true) rfl rfl rfl (sL f g x y true) rfl (ln_one f g x y true) ?_; clear O; intro w7 O) | ((with_reducible first | refine at_load 18 ?_ | refine at_load 23 ?_ | refine at_load 36 ?_); refine wpList_cell_h (v := .int .i64 f) rfl O.held 0 rfl (i := 0) rfl rfl agg3 rfl ?_) | ((with_reducible first | refine at_load 20 ?_ | refine at_load 25 ?_ | refine at_load 31 ?_ | refine at_load 34 ?_ | refine at_load 39 ?_); refine wpList_cell_h (v := .int .i64 g) rfl O.held 0 rfl (i := 1) rfl rfl agg3 rfl ?_) | ((with_reducible refine at_load 41 ?_); refine wpList_whole rfl O 2 rfl rfl Tryz.underlying44 rfl (sP _) ?_) | (go_at_call 45; refine (CZ _).mono ?_; rintro e w8 ⟨rfl, hb⟩; replace O := O.call hb; clear hb) | ((with_reducible refine at_load 53 ?_); refine wpList_cell_h (v := .bool true) rfl O.held 0 rfl (i := 4) rfl rfl agg4 rfl ?_))
     go_ret
     exact ⟨by rw [HE.out]; first | rfl | (exact congrArg (fun z => Ending.returned (Value.int IntKind.i64 z)) (by simp only [Bool.false_eq_true, if_false, if_true]; omega)), O.below⟩
   ·
    simp only [Bool.not_true] at CZ
    cases E
    ·
     go_enter Tryz.func23, Tryz.ntmps23
     go_wp2_with (first | ((with_reducible refine at_box 2 ?_); refine wpList_box_own O (M.mat 2 (a)) rfl ?_; clear O; intro g2 w1 O) | ((with_reducible refine at_box 3 ?_); refine wpList_box_own O (M.mat 2 (b)) rfl ?_; clear O; intro g3 w2 O) | ((with_reducible first | refine at_load 11 ?_ | refine at_load 14 ?_ | refine at_load 42 ?_); refine wpList_whole rfl O 1 rfl rfl Tryz.underlying44 rfl (sP _) ?_) | ((with_reducible first | refine at_load 12 ?_ | refine at_load 15 ?_); refine wpList_whole rfl O 0 rfl rfl Tryz.underlying44 rfl (sP _) ?_) | ((with_reducible refine at_binOp 13 ?_); refine wpList_eqP rfl (a) (b) rfl rfl ?_; rw [HQ.out]) | (go_at_call 44; refine (CO _).mono ?_; rintro e w5 ⟨x, y, rfl, hO, hb⟩; clear hO; replace O := O.call hb; clear hb) | ((with_reducible refine at_alloc 5 ?_); refine wpList_alloc_own O (ln 0 0 0 0 false) zeroL ?_; clear O; intro g5 w6 O) | ((with_reducible refine at_store 5 ?_); refine wpList_put_own O 0 (ln f g x y false) rfl rfl rfl (sL f g x y false) rfl (ln_one f g x y false) ?_; clear O; intro w7 O) | ((with_reducible first | refine at_load 18 ?_ | refine at_load 23 ?_ | refine at_load 36 ?_); refine wpList_cell_h (v := .int .i64 f) rfl O.held 0 rfl (i := 0) rfl rfl agg3 rfl ?_) | ((with_reducible first | refine at_load 20 ?_ | refine at_load 25 ?_ | refine at_load 31 ?_ | refine at_load 34 ?_ | refine at_load 39 ?_); refine wpList_cell_h (v := .int .i64 g) rfl O.held 0 rfl (i := 1) rfl rfl agg3 rfl ?_) | ((with_reducible refine at_load 41 ?_); refine wpList_whole rfl O 2 rfl rfl Tryz.underlying44 rfl (sP _) ?_) | (go_at_call 45; refine (CZ _).mono ?_; rintro e w8 ⟨rfl, hb⟩; replace O := O.call hb; clear hb) | ((with_reducible refine at_load 53 ?_); refine wpList_cell_h (v := .bool false) rfl O.held 0 rfl (i := 4) rfl rfl agg4 rfl ?_))
     go_ret
     exact ⟨by rw [HE.out]; first | rfl | (exact congrArg (fun z => Ending.returned (Value.int IntKind.i64 z)) (by simp only [Bool.false_eq_true, if_false, if_true]; omega)), O.below⟩
    ·
     go_enter Tryz.func23, Tryz.ntmps23
     go_wp2_with (first | ((with_reducible refine at_box 2 ?_); refine wpList_box_own O (M.mat 2 (a)) rfl ?_; clear O; intro g2 w1 O) | ((with_reducible refine at_box 3 ?_); refine wpList_box_own O (M.mat 2 (b)) rfl ?_; clear O; intro g3 w2 O) | ((with_reducible first | refine at_load 11 ?_ | refine at_load 14 ?_ | refine at_load 42 ?_); refine wpList_whole rfl O 1 rfl rfl Tryz.underlying44 rfl (sP _) ?_) | ((with_reducible first | refine at_load 12 ?_ | refine at_load 15 ?_); refine wpList_whole rfl O 0 rfl rfl Tryz.underlying44 rfl (sP _) ?_) | ((with_reducible refine at_binOp 13 ?_); refine wpList_eqP rfl (a) (b) rfl rfl ?_; rw [HQ.out]) | (go_at_call 44; refine (CO _).mono ?_; rintro e w5 ⟨x, y, rfl, hO, hb⟩; clear hO; replace O := O.call hb; clear hb) | ((with_reducible refine at_alloc 5 ?_); refine wpList_alloc_own O (ln 0 0 0 0 false) zeroL ?_; clear O; intro g5 w6 O) | ((with_reducible refine at_store 5 ?_); refine wpList_put_own O 0 (ln f g x y true) rfl rfl rfl (sL f g x y true) rfl (ln_one f g x y true) ?_; clear O; intro w7 O) | ((with_reducible first | refine at_load 18 ?_ | refine at_load 23 ?_ | refine at_load 36 ?_); refine wpList_cell_h (v := .int .i64 f) rfl O.held 0 rfl (i := 0) rfl rfl agg3 rfl ?_) | ((with_reducible first | refine at_load 20 ?_ | refine at_load 25 ?_ | refine at_load 31 ?_ | refine at_load 34 ?_ | refine at_load 39 ?_); refine wpList_cell_h (v := .int .i64 g) rfl O.held 0 rfl (i := 1) rfl rfl agg3 rfl ?_) | ((with_reducible refine at_load 41 ?_); refine wpList_whole rfl O 2 rfl rfl Tryz.underlying44 rfl (sP _) ?_) | (go_at_call 45; refine (CZ _).mono ?_; rintro e w8 ⟨rfl, hb⟩; replace O := O.call hb; clear hb) | ((with_reducible refine at_load 53 ?_); refine wpList_cell_h (v := .bool true) rfl O.held 0 rfl (i := 4) rfl rfl agg4 rfl ?_))
     go_ret
     exact ⟨by rw [HE.out]; first | rfl | (exact congrArg (fun z => Ending.returned (Value.int IntKind.i64 z)) (by simp only [Bool.false_eq_true, if_false, if_true]; omega)), O.below⟩
  ·
   have hpos : 0 < N := by omega
   have hge : ¬ g < f := by omega
   have WK : wrap64 (g - f) = N := by rw [show g - f = N by omega]; exact WNN
   obtain ⟨X, Y, CZ⟩ := CL (g - 1) hpos ((K2 hpos).2 hge)
   clear CL K1 K2 hli0
   cases li
   ·
    simp only [Bool.not_false] at CZ
    cases E
    ·
     go_enter Tryz.func23, Tryz.ntmps23
     go_wp2_with (first | ((with_reducible refine at_box 2 ?_); refine wpList_box_own O (M.mat 2 (a)) rfl ?_; clear O; intro g2 w1 O) | ((with_reducible refine at_box 3 ?_); refine wpList_box_own O (M.mat 2 (b)) rfl ?_; clear O; intro g3 w2 O) | ((with_reducible first | refine at_load 11 ?_ | refine at_load 14 ?_ | refine at_load 42 ?_); refine wpList_whole rfl O 1 rfl rfl Tryz.underlying44 rfl (sP _) ?_) | ((with_reducible first | refine at_load 12 ?_ | refine at_load 15 ?_); refine wpList_whole rfl O 0 rfl rfl Tryz.underlying44 rfl (sP _) ?_) | ((with_reducible refine at_binOp 13 ?_); refine wpList_eqP rfl (a) (b) rfl rfl ?_; rw [HQ.out]) | (go_at_call 44; refine (CO _).mono ?_; rintro e w5 ⟨x, y, rfl, hO, hb⟩; clear hO; replace O := O.call hb; clear hb) | ((with_reducible refine at_alloc 5 ?_); refine wpList_alloc_own O (ln 0 0 0 0 false) zeroL ?_; clear O; intro g5 w6 O) | ((with_reducible refine at_store 5 ?_); refine wpList_put_own O 0 (ln f g x y false) rfl rfl rfl (sL f g x y false) rfl (ln_one f g x y false) ?_; clear O; intro w7 O) | ((with_reducible first | refine at_load 18 ?_ | refine at_load 23 ?_ | refine at_load 36 ?_); refine wpList_cell_h (v := .int .i64 f) rfl O.held 0 rfl (i := 0) rfl rfl agg3 rfl ?_) | ((with_reducible first | refine at_load 20 ?_ | refine at_load 25 ?_ | refine at_load 31 ?_ | refine at_load 34 ?_ | refine at_load 39 ?_); refine wpList_cell_h (v := .int .i64 g) rfl O.held 0 rfl (i := 1) rfl rfl agg3 rfl ?_) | ((with_reducible refine at_load 41 ?_); refine wpList_whole rfl O 2 rfl rfl Tryz.underlying44 rfl (sP _) ?_) | (go_at_call 45; refine (CZ _).mono ?_; rintro e w8 ⟨rfl, hb⟩; replace O := O.call hb; clear hb) | ((with_reducible refine at_load 53 ?_); refine wpList_cell_h (v := .bool false) rfl O.held 0 rfl (i := 4) rfl rfl agg4 rfl ?_))
     go_ret
     exact ⟨by rw [HE.out]; first | rfl | (exact congrArg (fun z => Ending.returned (Value.int IntKind.i64 z)) (by simp only [Bool.false_eq_true, if_false, if_true]; omega)), O.below⟩
    ·
     go_enter Tryz.func23, Tryz.ntmps23
     go_wp2_with (first | ((with_reducible refine at_box 2 ?_); refine wpList_box_own O (M.mat 2 (a)) rfl ?_; clear O; intro g2 w1 O) | ((with_reducible refine at_box 3 ?_); refine wpList_box_own O (M.mat 2 (b)) rfl ?_; clear O; intro g3 w2 O) | ((with_reducible first | refine at_load 11 ?_ | refine at_load 14 ?_ | refine at_load 42 ?_); refine wpList_whole rfl O 1 rfl rfl Tryz.underlying44 rfl (sP _) ?_) | ((with_reducible first | refine at_load 12 ?_ | refine at_load 15 ?_); refine wpList_whole rfl O 0 rfl rfl Tryz.underlying44 rfl (sP _) ?_) | ((with_reducible refine at_binOp 13 ?_); refine wpList_eqP rfl (a) (b) rfl rfl ?_; rw [HQ.out]) | (go_at_call 44; refine (CO _).mono ?_; rintro e w5 ⟨x, y, rfl, hO, hb⟩; clear hO; replace O := O.call hb; clear hb) | ((with_reducible refine at_alloc 5 ?_); refine wpList_alloc_own O (ln 0 0 0 0 false) zeroL ?_; clear O; intro g5 w6 O) | ((with_reducible refine at_store 5 ?_); refine wpList_put_own O 0 (ln f g x y true) rfl rfl rfl (sL f g x y true) rfl (ln_one f g x y true) ?_; clear O; intro w7 O) | ((with_reducible first | refine at_load 18 ?_ | refine at_load 23 ?_ | refine at_load 36 ?_); refine wpList_cell_h (v := .int .i64 f) rfl O.held 0 rfl (i := 0) rfl rfl agg3 rfl ?_) | ((with_reducible first | refine at_load 20 ?_ | refine at_load 25 ?_ | refine at_load 31 ?_ | refine at_load 34 ?_ | refine at_load 39 ?_); refine wpList_cell_h (v := .int .i64 g) rfl O.held 0 rfl (i := 1) rfl rfl agg3 rfl ?_) | ((with_reducible refine at_load 41 ?_); refine wpList_whole rfl O 2 rfl rfl Tryz.underlying44 rfl (sP _) ?_) | (go_at_call 45; refine (CZ _).mono ?_; rintro e w8 ⟨rfl, hb⟩; replace O := O.call hb; clear hb) | ((with_reducible refine at_load 53 ?_); refine wpList_cell_h (v := .bool true) rfl O.held 0 rfl (i := 4) rfl rfl agg4 rfl ?_))
     go_ret
     exact ⟨by rw [HE.out]; first | rfl | (exact congrArg (fun z => Ending.returned (Value.int IntKind.i64 z)) (by simp only [Bool.false_eq_true, if_false, if_true]; omega)), O.below⟩
   ·
    simp only [Bool.not_true] at CZ
    cases E
    ·
     go_enter Tryz.func23, Tryz.ntmps23
     go_wp2_with (first | ((with_reducible refine at_box 2 ?_); refine wpList_box_own O (M.mat 2 (a)) rfl ?_; clear O; intro g2 w1 O) | ((with_reducible refine at_box 3 ?_); refine wpList_box_own O (M.mat 2 (b)) rfl ?_; clear O; intro g3 w2 O) | ((with_reducible first | refine at_load 11 ?_ | refine at_load 14 ?_ | refine at_load 42 ?_); refine wpList_whole rfl O 1 rfl rfl Tryz.underlying44 rfl (sP _) ?_) | ((with_reducible first | refine at_load 12 ?_ | refine at_load 15 ?_); refine wpList_whole rfl O 0 rfl rfl Tryz.underlying44 rfl (sP _) ?_) | ((with_reducible refine at_binOp 13 ?_); refine wpList_eqP rfl (a) (b) rfl rfl ?_; rw [HQ.out]) | (go_at_call 44; refine (CO _).mono ?_; rintro e w5 ⟨x, y, rfl, hO, hb⟩; clear hO; replace O := O.call hb; clear hb) | ((with_reducible refine at_alloc 5 ?_); refine wpList_alloc_own O (ln 0 0 0 0 false) zeroL ?_; clear O; intro g5 w6 O) | ((with_reducible refine at_store 5 ?_); refine wpList_put_own O 0 (ln f g x y false) rfl rfl rfl (sL f g x y false) rfl (ln_one f g x y false) ?_; clear O; intro w7 O) | ((with_reducible first | refine at_load 18 ?_ | refine at_load 23 ?_ | refine at_load 36 ?_); refine wpList_cell_h (v := .int .i64 f) rfl O.held 0 rfl (i := 0) rfl rfl agg3 rfl ?_) | ((with_reducible first | refine at_load 20 ?_ | refine at_load 25 ?_ | refine at_load 31 ?_ | refine at_load 34 ?_ | refine at_load 39 ?_); refine wpList_cell_h (v := .int .i64 g) rfl O.held 0 rfl (i := 1) rfl rfl agg3 rfl ?_) | ((with_reducible refine at_load 41 ?_); refine wpList_whole rfl O 2 rfl rfl Tryz.underlying44 rfl (sP _) ?_) | (go_at_call 45; refine (CZ _).mono ?_; rintro e w8 ⟨rfl, hb⟩; replace O := O.call hb; clear hb) | ((with_reducible refine at_load 53 ?_); refine wpList_cell_h (v := .bool false) rfl O.held 0 rfl (i := 4) rfl rfl agg4 rfl ?_))
     go_ret
     exact ⟨by rw [HE.out]; first | rfl | (exact congrArg (fun z => Ending.returned (Value.int IntKind.i64 z)) (by simp only [Bool.false_eq_true, if_false, if_true]; omega)), O.below⟩
    ·
     go_enter Tryz.func23, Tryz.ntmps23
     go_wp2_with (first | ((with_reducible refine at_box 2 ?_); refine wpList_box_own O (M.mat 2 (a)) rfl ?_; clear O; intro g2 w1 O) | ((with_reducible refine at_box 3 ?_); refine wpList_box_own O (M.mat 2 (b)) rfl ?_; clear O; intro g3 w2 O) | ((with_reducible first | refine at_load 11 ?_ | refine at_load 14 ?_ | refine at_load 42 ?_); refine wpList_whole rfl O 1 rfl rfl Tryz.underlying44 rfl (sP _) ?_) | ((with_reducible first | refine at_load 12 ?_ | refine at_load 15 ?_); refine wpList_whole rfl O 0 rfl rfl Tryz.underlying44 rfl (sP _) ?_) | ((with_reducible refine at_binOp 13 ?_); refine wpList_eqP rfl (a) (b) rfl rfl ?_; rw [HQ.out]) | (go_at_call 44; refine (CO _).mono ?_; rintro e w5 ⟨x, y, rfl, hO, hb⟩; clear hO; replace O := O.call hb; clear hb) | ((with_reducible refine at_alloc 5 ?_); refine wpList_alloc_own O (ln 0 0 0 0 false) zeroL ?_; clear O; intro g5 w6 O) | ((with_reducible refine at_store 5 ?_); refine wpList_put_own O 0 (ln f g x y true) rfl rfl rfl (sL f g x y true) rfl (ln_one f g x y true) ?_; clear O; intro w7 O) | ((with_reducible first | refine at_load 18 ?_ | refine at_load 23 ?_ | refine at_load 36 ?_); refine wpList_cell_h (v := .int .i64 f) rfl O.held 0 rfl (i := 0) rfl rfl agg3 rfl ?_) | ((with_reducible first | refine at_load 20 ?_ | refine at_load 25 ?_ | refine at_load 31 ?_ | refine at_load 34 ?_ | refine at_load 39 ?_); refine wpList_cell_h (v := .int .i64 g) rfl O.held 0 rfl (i := 1) rfl rfl agg3 rfl ?_) | ((with_reducible refine at_load 41 ?_); refine wpList_whole rfl O 2 rfl rfl Tryz.underlying44 rfl (sP _) ?_) | (go_at_call 45; refine (CZ _).mono ?_; rintro e w8 ⟨rfl, hb⟩; replace O := O.call hb; clear hb) | ((with_reducible refine at_load 53 ?_); refine wpList_cell_h (v := .bool true) rfl O.held 0 rfl (i := 4) rfl rfl agg4 rfl ?_))
     go_ret
     exact ⟨by rw [HE.out]; first | rfl | (exact congrArg (fun z => Ending.returned (Value.int IntKind.i64 z)) (by simp only [Bool.false_eq_true, if_false, if_true]; omega)), O.below⟩
  ·
   have hN0 : N = 0 := by omega
   obtain rfl := hli0 (by omega)
   subst hN0
   have hge : ¬ f < g := by omega
   have hlt2 : ¬ g < f := by omega
   have WK : wrap64 (f - f) = 0 := by rw [Int.sub_self]; exact WNN
   clear CL K1 K2 hli0
   subst hlt
   cases E
   ·
    go_enter Tryz.func23, Tryz.ntmps23
    go_wp2_with (first | ((with_reducible refine at_box 2 ?_); refine wpList_box_own O (M.mat 2 (a)) rfl ?_; clear O; intro g2 w1 O) | ((with_reducible refine at_box 3 ?_); refine wpList_box_own O (M.mat 2 (b)) rfl ?_; clear O; intro g3 w2 O) | ((with_reducible first | refine at_load 11 ?_ | refine at_load 14 ?_ | refine at_load 42 ?_); refine wpList_whole rfl O 1 rfl rfl Tryz.underlying44 rfl (sP _) ?_) | ((with_reducible first | refine at_load 12 ?_ | refine at_load 15 ?_); refine wpList_whole rfl O 0 rfl rfl Tryz.underlying44 rfl (sP _) ?_) | ((with_reducible refine at_binOp 13 ?_); refine wpList_eqP rfl (a) (b) rfl rfl ?_; rw [HQ.out]) | (go_at_call 44; refine (CO _).mono ?_; rintro e w5 ⟨x, y, rfl, hO, hb⟩; clear hO; replace O := O.call hb; clear hb) | ((with_reducible refine at_alloc 5 ?_); refine wpList_alloc_own O (ln 0 0 0 0 false) zeroL ?_; clear O; intro g5 w6 O) | ((with_reducible refine at_store 5 ?_); refine wpList_put_own O 0 (ln f f x y false) rfl rfl rfl (sL f f x y false) rfl (ln_one f f x y false) ?_; clear O; intro w7 O) | ((with_reducible first | refine at_load 18 ?_ | refine at_load 23 ?_ | refine at_load 36 ?_); refine wpList_cell_h (v := .int .i64 f) rfl O.held 0 rfl (i := 0) rfl rfl agg3 rfl ?_) | ((with_reducible first | refine at_load 20 ?_ | refine at_load 25 ?_ | refine at_load 31 ?_ | refine at_load 34 ?_ | refine at_load 39 ?_); refine wpList_cell_h (v := .int .i64 f) rfl O.held 0 rfl (i := 1) rfl rfl agg3 rfl ?_) | ((with_reducible refine at_load 41 ?_); refine wpList_whole rfl O 2 rfl rfl Tryz.underlying44 rfl (sP _) ?_) | ((with_reducible refine at_load 53 ?_); refine wpList_cell_h (v := .bool false) rfl O.held 0 rfl (i := 4) rfl rfl agg4 rfl ?_))
    go_ret
    exact ⟨by rw [HE.out]; first | rfl | (exact congrArg (fun z => Ending.returned (Value.int IntKind.i64 z)) (by simp only [Bool.false_eq_true, if_false, if_true]; omega)), O.below⟩
   ·
    go_enter Tryz.func23, Tryz.ntmps23
    go_wp2_with (first | ((with_reducible refine at_box 2 ?_); refine wpList_box_own O (M.mat 2 (a)) rfl ?_; clear O; intro g2 w1 O) | ((with_reducible refine at_box 3 ?_); refine wpList_box_own O (M.mat 2 (b)) rfl ?_; clear O; intro g3 w2 O) | ((with_reducible first | refine at_load 11 ?_ | refine at_load 14 ?_ | refine at_load 42 ?_); refine wpList_whole rfl O 1 rfl rfl Tryz.underlying44 rfl (sP _) ?_) | ((with_reducible first | refine at_load 12 ?_ | refine at_load 15 ?_); refine wpList_whole rfl O 0 rfl rfl Tryz.underlying44 rfl (sP _) ?_) | ((with_reducible refine at_binOp 13 ?_); refine wpList_eqP rfl (a) (b) rfl rfl ?_; rw [HQ.out]) | (go_at_call 44; refine (CO _).mono ?_; rintro e w5 ⟨x, y, rfl, hO, hb⟩; clear hO; replace O := O.call hb; clear hb) | ((with_reducible refine at_alloc 5 ?_); refine wpList_alloc_own O (ln 0 0 0 0 false) zeroL ?_; clear O; intro g5 w6 O) | ((with_reducible refine at_store 5 ?_); refine wpList_put_own O 0 (ln f f x y true) rfl rfl rfl (sL f f x y true) rfl (ln_one f f x y true) ?_; clear O; intro w7 O) | ((with_reducible first | refine at_load 18 ?_ | refine at_load 23 ?_ | refine at_load 36 ?_); refine wpList_cell_h (v := .int .i64 f) rfl O.held 0 rfl (i := 0) rfl rfl agg3 rfl ?_) | ((with_reducible first | refine at_load 20 ?_ | refine at_load 25 ?_ | refine at_load 31 ?_ | refine at_load 34 ?_ | refine at_load 39 ?_); refine wpList_cell_h (v := .int .i64 f) rfl O.held 0 rfl (i := 1) rfl rfl agg3 rfl ?_) | ((with_reducible refine at_load 41 ?_); refine wpList_whole rfl O 2 rfl rfl Tryz.underlying44 rfl (sP _) ?_) | ((with_reducible refine at_load 53 ?_); refine wpList_cell_h (v := .bool true) rfl O.held 0 rfl (i := 4) rfl rfl agg4 rfl ?_))
    go_ret
    exact ⟨by rw [HE.out]; first | rfl | (exact congrArg (fun z => Ending.returned (Value.int IntKind.i64 z)) (by simp only [Bool.false_eq_true, if_false, if_true]; omega)), O.below⟩
end Go.Proofs.YtpfhaocmcfnhnaaGreat
