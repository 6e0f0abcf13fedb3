/- Contract: the document's At. -/
import Derived.Test.YtheolajpjpnfjaaXe
namespace Go.Proofs.Ytheolajpjpnfjaa
open Go.ChangeShapes Go.WideShapes Go.ChangeAt Go.RowKit
set_option linter.unusedVariables false
set_option linter.unusedSimpArgs false

namespace DM
section
variable {ax ay bx by_ : Int}
theorem at_extra {X Y : Int} (hn : ¬ (ax = bx ∧ ay = by_)) (hx : exT ax ay bx by_ = true) (hi : inside (rel ax X) (rel ay Y) = true) : at14 ax ay bx by_ 0 = ((0, X, Y), true) := by
  have W := way_of hn
  unfold exT at hx
  rw [← aG_inside (tall (bx - ax) (by_ - ay))] at hi
  obtain ⟨hp, he⟩ := extra_at W hx hi
  have h1 := (exits_iff W).1 he
  have he1 := @e1_is (tall (bx - ax) (by_ - ay)) (mn (tall (bx - ax) (by_ - ay)) ax ay) (cr (tall (bx - ax) (by_ - ay)) ax ay) (mn (tall (bx - ax) (by_ - ay)) bx by_) (cr (tall (bx - ax) (by_ - ay)) bx by_)
  have hc := cnt14_is hn
  rw [at14_in hn (Int.le_refl 0) (by rw [hc]; unfold cntG; omega)]
  have e1_ : e1 (tall (bx - ax) (by_ - ay)) (mn (tall (bx - ax) (by_ - ay)) ax ay) (cr (tall (bx - ax) (by_ - ay)) ax ay) (mn (tall (bx - ax) (by_ - ay)) bx by_) (cr (tall (bx - ax) (by_ - ay)) bx by_) = 1 := by
    rcases he1 with ⟨_, h⟩ | ⟨h, _⟩
    · exact h
    · rw [hx] at h
      cases h
  rw [pixG_pl (k := 0) W (Int.le_refl 0) (u := mn (tall (bx - ax) (by_ - ay)) X Y) (by rw [hp, e1_]; rfl), ← h1.2, (mn_cr _ _ _).1, (mn_cr _ _ _).2]
theorem at_col {n u k : Int} (hn : ¬ (ax = bx ∧ ay = by_)) (h0 : 0 ≤ n)
    (hk : k = n + e1 (tall (bx - ax) (by_ - ay)) (mn (tall (bx - ax) (by_ - ay)) ax ay) (cr (tall (bx - ax) (by_ - ay)) ax ay) (mn (tall (bx - ax) (by_ - ay)) bx by_) (cr (tall (bx - ax) (by_ - ay)) bx by_))
    (hu : pl (mn (tall (bx - ax) (by_ - ay)) ax ay) (mn (tall (bx - ax) (by_ - ay)) bx by_) u = n) (h1 : n < nl (mn (tall (bx - ax) (by_ - ay)) ax ay) (mn (tall (bx - ax) (by_ - ay)) bx by_)) {z : Int × Int × Bool}
    (hz : colZ (tall (bx - ax) (by_ - ay)) (mn (tall (bx - ax) (by_ - ay)) ax ay) (cr (tall (bx - ax) (by_ - ay)) ax ay) (mn (tall (bx - ax) (by_ - ay)) bx by_) (cr (tall (bx - ax) (by_ - ay)) bx by_) u = z) :
    at14 ax ay bx by_ k = if z.2.2 then ((k, z.1, z.2.1), true) else ((0, 0, 0), false) := by
  have W := way_of hn
  have hc := cnt14_is hn
  have he1 := @e1_is (tall (bx - ax) (by_ - ay)) (mn (tall (bx - ax) (by_ - ay)) ax ay) (cr (tall (bx - ax) (by_ - ay)) ax ay) (mn (tall (bx - ax) (by_ - ay)) bx by_) (cr (tall (bx - ax) (by_ - ay)) bx by_)
  have hl1 := @l1_is (tall (bx - ax) (by_ - ay)) (mn (tall (bx - ax) (by_ - ay)) ax ay) (cr (tall (bx - ax) (by_ - ay)) ax ay) (mn (tall (bx - ax) (by_ - ay)) bx by_) (cr (tall (bx - ax) (by_ - ay)) bx by_)
  unfold cntG at hc
  unfold colZ colR at hz
  rw [hu] at hz
  by_cases hr : n = nl (mn (tall (bx - ax) (by_ - ay)) ax ay) (mn (tall (bx - ax) (by_ - ay)) bx by_) - 1 ∧ lastIn (tall (bx - ax) (by_ - ay)) (mn (tall (bx - ax) (by_ - ay)) ax ay) (cr (tall (bx - ax) (by_ - ay)) ax ay) (mn (tall (bx - ax) (by_ - ay)) bx by_) (cr (tall (bx - ax) (by_ - ay)) bx by_) = true
  · rw [decide_eq_true hr.1, hr.2] at hz
    subst hz
    have hl : l1 (tall (bx - ax) (by_ - ay)) (mn (tall (bx - ax) (by_ - ay)) ax ay) (cr (tall (bx - ax) (by_ - ay)) ax ay) (mn (tall (bx - ax) (by_ - ay)) bx by_) (cr (tall (bx - ax) (by_ - ay)) bx by_) = 1 := by
      rcases hl1 with ⟨_, h⟩ | ⟨h, _⟩
      · exact h
      · rw [hr.2] at h
        cases h
    rw [at14_over (by rw [hc]; omega)]
    rfl
  · have hb : (!(decide (n = nl (mn (tall (bx - ax) (by_ - ay)) ax ay) (mn (tall (bx - ax) (by_ - ay)) bx by_) - 1) && lastIn (tall (bx - ax) (by_ - ay)) (mn (tall (bx - ax) (by_ - ay)) ax ay) (cr (tall (bx - ax) (by_ - ay)) ax ay) (mn (tall (bx - ax) (by_ - ay)) bx by_) (cr (tall (bx - ax) (by_ - ay)) bx by_))) = true := by
      rw [Bool.not_eq_true', ← Bool.not_eq_true, Bool.and_eq_true, decide_eq_true_iff]
      exact hr
    rw [hb, if_pos rfl] at hz
    subst hz
    have hlt : n < nl (mn (tall (bx - ax) (by_ - ay)) ax ay) (mn (tall (bx - ax) (by_ - ay)) bx by_) - l1 (tall (bx - ax) (by_ - ay)) (mn (tall (bx - ax) (by_ - ay)) ax ay) (cr (tall (bx - ax) (by_ - ay)) ax ay) (mn (tall (bx - ax) (by_ - ay)) bx by_) (cr (tall (bx - ax) (by_ - ay)) bx by_) := by
      rcases hl1 with ⟨g, h⟩ | ⟨_, h⟩
      · have : ¬ n = nl (mn (tall (bx - ax) (by_ - ay)) ax ay) (mn (tall (bx - ax) (by_ - ay)) bx by_) - 1 := fun e => hr ⟨e, g⟩
        omega
      · omega
    rw [at14_in hn (by rcases he1 with ⟨_, h⟩ | ⟨_, h⟩ <;> omega) (by rw [hc]; omega), pixG_pl W (by rcases he1 with ⟨_, h⟩ | ⟨_, h⟩ <;> omega) (u := u) (by omega)]
    have ey : yy (tall (bx - ax) (by_ - ay)) (mn (tall (bx - ax) (by_ - ay)) ax ay) (cr (tall (bx - ax) (by_ - ay)) ax ay) (mn (tall (bx - ax) (by_ - ay)) bx by_) (cr (tall (bx - ax) (by_ - ay)) bx by_) u = colV (tall (bx - ax) (by_ - ay)) (mn (tall (bx - ax) (by_ - ay)) ax ay) (cr (tall (bx - ax) (by_ - ay)) ax ay) (mn (tall (bx - ax) (by_ - ay)) bx by_) (cr (tall (bx - ax) (by_ - ay)) bx by_) u := by
      unfold yy
      rw [if_pos ⟨by omega, by omega⟩]
    rw [ey]
    rfl
theorem at_over {n k : Int} (hn : ¬ (ax = bx ∧ ay = by_))
    (hk : k = n + e1 (tall (bx - ax) (by_ - ay)) (mn (tall (bx - ax) (by_ - ay)) ax ay) (cr (tall (bx - ax) (by_ - ay)) ax ay) (mn (tall (bx - ax) (by_ - ay)) bx by_) (cr (tall (bx - ax) (by_ - ay)) bx by_))
    (h1 : nl (mn (tall (bx - ax) (by_ - ay)) ax ay) (mn (tall (bx - ax) (by_ - ay)) bx by_) ≤ n) : at14 ax ay bx by_ k = ((0, 0, 0), false) := by
  have hc := cnt14_is hn
  have hl1 := @l1_is (tall (bx - ax) (by_ - ay)) (mn (tall (bx - ax) (by_ - ay)) ax ay) (cr (tall (bx - ax) (by_ - ay)) ax ay) (mn (tall (bx - ax) (by_ - ay)) bx by_) (cr (tall (bx - ax) (by_ - ay)) bx by_)
  unfold cntG at hc
  exact at14_over (by rw [hc]; rcases hl1 with ⟨_, h⟩ | ⟨_, h⟩ <;> omega)
theorem pl_at {am bm ac bc n : Int} (h : way am ac bm bc) : (ahd bm < ahd am → pl am bm (ahd am - 1 - n) = n) ∧ (ahd am < ahd bm → pl am bm (ahd am + n) = n) ∧ (ahd am = ahd bm → nl am bm = 0) ∧ (ahd bm < ahd am → nl am bm = ahd am - ahd bm) ∧ (ahd am < ahd bm → nl am bm = ahd bm - ahd am) := by
  have hN := nl_pos h
  unfold pl
  unfold nl at hN ⊢
  split
  · rename_i hc
    rw [if_pos hc] at hN
    omega
  · rename_i hc
    rw [if_neg hc] at hN
    omega
end
end DM
/-- How a step, and whether there is one, are handed back. -/
def RetS (w : World) (r : (Int × Int × Int) × Bool) (e : Ending) (w' : World) : Prop := e = .returned (.tuple #[arr 3 (sF r.1), .bool r.2]) ∧ Below w.heap.size w w'
set_option maxRecDepth 100000 in
set_option maxHeartbeats 16000000 in
theorem at_any (a b : Nat → Int) (k : Int) (ha : DM.Rg a) (hb : DM.Rg b) (hk : k < 9223372036854775808) (w_ : World) : Calls Try.prog 15 #[arr 2 a, arr 2 b, .int .i64 k] w_ (RetS w_ (DM.at14 (a 0) (a 1) (b 0) (b 1) k)) := by
  have O := Own.start w_
  unfold RetS
  have QE : M.eqB 2 a b = true ↔ (a 0 = b 0 ∧ a 1 = b 1) := by
    rw [M.eqB_iff]
    exact ⟨fun h => ⟨h 0 (by omega), h 1 (by omega)⟩, fun ⟨h0, h1⟩ i hi => by
      rcases (by omega : i = 0 ∨ i = 1) with rfl | rfl
      · exact h0
      · exact h1⟩
  have CO0 : ∃ f g, ∀ w, Calls Try.prog 25 #[arr 2 a, arr 2 b] w fun e w' => ∃ x y E, e = .returned (.agg (ln f g x y E).toArray) ∧ Below w.heap.size w w' :=
    ⟨_, _, fun w => (of_any a b ha hb w).mono (by rintro e w' ⟨x, y, E, he, _, hb⟩; exact ⟨x, y, E, he, hb⟩)⟩
  by_cases hk0 : k < 0
  · have HE : Hid (DM.at14 (a 0) (a 1) (b 0) (b 1) k = ((0, 0, 0), false)) := Lib.hid (DM.at14_neg hk0)
    obtain ⟨f, g, CO⟩ := CO0
    clear QE ha hb hk
    go_enter Try.func15, Try.ntmps15
    go_wp2_with (first | ((with_reducible refine at_box 3 ?_); refine wpList_box_own O (M.mat 2 (a)) rfl ?_; clear O; intro g3 w1 O) | ((with_reducible refine at_box 4 ?_); refine wpList_box_own O (M.mat 2 (b)) rfl ?_; clear O; intro g4 w2 O) | ((with_reducible refine at_alloc 6 ?_); refine wpList_alloc_own O (M.mat 3 M.zero) zeroT ?_; clear O; intro g6 w3 O) | ((with_reducible refine at_load 14 ?_); refine wpList_whole rfl O 2 rfl rfl Try.underlying23 rfl (sP _) ?_) | ((with_reducible refine at_load 15 ?_); refine wpList_whole rfl O 1 rfl rfl Try.underlying23 rfl (sP _) ?_) | (go_at_call 25; refine (CO _).mono ?_; rintro e w5 ⟨x, y, E, rfl, hb⟩; replace O := O.call hb; clear hb) | ((with_reducible refine at_alloc 8 ?_); refine wpList_alloc_own O (ln 0 0 0 0 false) zeroL ?_; clear O; intro g8 w6 O) | ((with_reducible refine at_store 8 ?_); refine wpList_put_own O 0 (ln f g x y E) rfl rfl rfl (sL f g x y E) rfl (ln_one f g x y E) ?_; clear O; intro w7 O) | ((with_reducible refine at_build 24 ?_); refine wpList_build_g rfl ([]) ((M.mat 3 M.zero).toArray) ?_ (builtTz) ?_; (focus (simp only [List.map_toArray, List.map_cons, List.map_nil]; rfl))) | ((with_reducible refine at_store 6 ?_); refine wpList_put_own O 1 (M.mat 3 (M.zero)) rfl rfl rfl (sT _) (M.mat_len2 _ _ _) (M.mat_one _ _) ?_; clear O; intro w9 O))
    refine bodyPost_ret (v := .tuple #[arr 3 M.zero, .bool false]) ?_ rfl ?_
    · exact res_h2 rfl O.held 1 rfl rfl Try.underlying34 rfl (sT _) rfl
    · exact ⟨by rw [HE.out]; rfl, O.below⟩
  have kb : decide (k < 0) = false := decide_eq_false hk0
  by_cases hn : a 0 = b 0 ∧ a 1 = b 1
  · have HQ := Lib.hid (QE.2 hn)
    have HE : Hid (DM.at14 (a 0) (a 1) (b 0) (b 1) k = ((0, 0, 0), false)) := Lib.hid (by rw [hn.1, hn.2]; exact DM.at14_same)
    obtain ⟨f, g, CO⟩ := CO0
    clear QE hn ha hb hk
    go_enter Try.func15, Try.ntmps15
    go_wp2_with (first | ((with_reducible refine at_box 3 ?_); refine wpList_box_own O (M.mat 2 (a)) rfl ?_; clear O; intro g3 w1 O) | ((with_reducible refine at_box 4 ?_); refine wpList_box_own O (M.mat 2 (b)) rfl ?_; clear O; intro g4 w2 O) | ((with_reducible refine at_alloc 6 ?_); refine wpList_alloc_own O (M.mat 3 M.zero) zeroT ?_; clear O; intro g6 w3 O) | ((with_reducible refine at_load 14 ?_); refine wpList_whole rfl O 2 rfl rfl Try.underlying23 rfl (sP _) ?_) | ((with_reducible refine at_load 15 ?_); refine wpList_whole rfl O 1 rfl rfl Try.underlying23 rfl (sP _) ?_) | (go_at_call 25; refine (CO _).mono ?_; rintro e w5 ⟨x, y, E, rfl, hb⟩; replace O := O.call hb; clear hb) | ((with_reducible refine at_alloc 8 ?_); refine wpList_alloc_own O (ln 0 0 0 0 false) zeroL ?_; clear O; intro g8 w6 O) | ((with_reducible refine at_store 8 ?_); refine wpList_put_own O 0 (ln f g x y E) rfl rfl rfl (sL f g x y E) rfl (ln_one f g x y E) ?_; clear O; intro w7 O) | ((with_reducible refine at_load 20 ?_); refine wpList_whole rfl O 3 rfl rfl Try.underlying23 rfl (sP _) ?_) | ((with_reducible refine at_load 21 ?_); refine wpList_whole rfl O 2 rfl rfl Try.underlying23 rfl (sP _) ?_) | ((with_reducible refine at_binOp 22 ?_); refine wpList_eqP rfl (a) (b) rfl rfl ?_; rw [HQ.out]) | ((with_reducible refine at_build 24 ?_); refine wpList_build_g rfl ([]) ((M.mat 3 M.zero).toArray) ?_ (builtTz) ?_; (focus (simp only [List.map_toArray, List.map_cons, List.map_nil]; rfl))) | ((with_reducible refine at_store 6 ?_); refine wpList_put_own O 1 (M.mat 3 (M.zero)) rfl rfl rfl (sT _) (M.mat_len2 _ _ _) (M.mat_one _ _) ?_; clear O; intro w9 O))
    refine bodyPost_ret (v := .tuple #[arr 3 M.zero, .bool false]) ?_ rfl ?_
    · exact res_h2 rfl O.held 1 rfl rfl Try.underlying34 rfl (sT _) rfl
    · exact ⟨by rw [HE.out]; rfl, O.below⟩
  · have HQ := Lib.hid (show M.eqB 2 a b = false by rw [← Bool.not_eq_true, QE]; exact hn)
    have CO := fun w => of_ne a b ha hb hn w
    have CC := fun u h0 h1 w => column_any a b u ha hb hn h0 h1 w
    have WY := DM.way_of hn
    have LA := mid_lim ha (DM.tall (b 0 - a 0) (b 1 - a 1))
    have LB := mid_lim hb (DM.tall (b 0 - a 0) (b 1 - a 1))
    have PA := fun n => DM.pl_at (n := n) WY
    have AX := fun X Y hx hi => @DM.at_extra (a 0) (a 1) (b 0) (b 1) X Y hn hx hi
    have AC_ := fun n u k h0 hk hu h1 z hz => @DM.at_col (a 0) (a 1) (b 0) (b 1) n u k hn h0 hk hu h1 z hz
    have AO := fun n k hk h1 => @DM.at_over (a 0) (a 1) (b 0) (b 1) n k hn hk h1
    have HE1 := @DM.e1_is (DM.tall (b 0 - a 0) (b 1 - a 1)) (DM.mn (DM.tall (b 0 - a 0) (b 1 - a 1)) (a 0) (a 1)) (DM.cr (DM.tall (b 0 - a 0) (b 1 - a 1)) (a 0) (a 1)) (DM.mn (DM.tall (b 0 - a 0) (b 1 - a 1)) (b 0) (b 1)) (DM.cr (DM.tall (b 0 - a 0) (b 1 - a 1)) (b 0) (b 1))
    have hN := DM.nl_pos WY
    unfold RetZ at CC
    unfold DM.exT at CO AX
    clear QE ha hb WY hn CO0
    generalize DM.at14 (a 0) (a 1) (b 0) (b 1) = AT at *
    generalize (DM.tall (b 0 - a 0) (b 1 - a 1)) = t at *
    generalize DM.mn t (a 0) (a 1) = am at *
    generalize DM.cr t (a 0) (a 1) = ac at *
    generalize DM.mn t (b 0) (b 1) = bm at *
    generalize DM.cr t (b 0) (b 1) = bc at *
    generalize DM.extra t am ac bm bc = E at *
    generalize DM.e1 t am ac bm bc = E1 at *
    generalize DM.colZ t am ac bm bc = CZ0 at *
    obtain ⟨N, hNe⟩ : ∃ z, DM.nl am bm = z := ⟨_, rfl⟩
    rw [hNe] at CC AC_ AO PA hN
    clear hNe
    obtain ⟨f, hf⟩ : ∃ z, DM.ahd am = z := ⟨_, rfl⟩
    obtain ⟨g, hg⟩ : ∃ z, DM.ahd bm = z := ⟨_, rfl⟩
    rw [hf] at CO PA LA
    rw [hg] at CO PA LB
    clear hf hg
    -- what comes of a place behind the first one
    have BIG : ∀ n, 0 ≤ n → k = n + E1 → (N ≤ n ∧ AT k = ((0, 0, 0), false)) ∨ (n < N ∧ ∃ u X Y R, ((g < f ∧ u = f - 1 - n) ∨ (f < g ∧ u = f + n)) ∧ (AT k = if R then ((k, X, Y), true) else ((0, 0, 0), false)) ∧ ∀ w, Calls Try.prog 29 #[arr 2 a, arr 2 b, .int .i64 u] w fun e w' => e = .returned (.tuple #[.int .i64 X, .int .i64 Y, .bool R]) ∧ Below w.heap.size w w') := by
      intro n h0 hkn
      rcases (by omega : N ≤ n ∨ n < N) with h1 | h1
      · exact .inl ⟨h1, AO n k hkn h1⟩
      · refine .inr ⟨h1, ?_⟩
        have P := PA n
        have hu : ∃ u, ((g < f ∧ u = f - 1 - n) ∨ (f < g ∧ u = f + n)) ∧ DM.pl am bm u = n := by
          rcases (by omega : g < f ∨ f < g ∨ f = g) with c | c | c
          · exact ⟨_, .inl ⟨c, rfl⟩, P.1 c⟩
          · exact ⟨_, .inr ⟨c, rfl⟩, P.2.1 c⟩
          · have := P.2.2.1 c
            omega
        obtain ⟨u, hu1, hu2⟩ := hu
        obtain ⟨⟨X, Y, R⟩, hz⟩ : ∃ z, CZ0 u = z := ⟨_, rfl⟩
        have hA := AC_ n u k h0 hkn hu2 h1 (X, Y, R) hz
        have hC := CC u (by omega) (by omega)
        rw [hz] at hC
        exact ⟨u, X, Y, R, hu1, hA, hC⟩
    have PN := fun c => (PA 0).2.2.1 c
    have PG := (PA 0).2.2.2.1
    have PF := (PA 0).2.2.2.2
    clear AC_ AO CC PA CZ0
    obtain ⟨LA1, LA2⟩ := LA
    obtain ⟨LB1, LB2⟩ := LB
    have WNN : wrap64 N = N := IntWalk.wrap64_in _ (by omega)
    have q0 : (k == 0) = decide (k = 0) := rfl
    clear q0
    cases E
    · obtain rfl : E1 = 0 := by
        rcases HE1 with ⟨h, _⟩ | ⟨_, h⟩
        · cases h
        · exact h
      have HB := BIG k (by omega) (by omega)
      rcases (by omega : g < f ∨ f < g ∨ f = g) with hlt | hlt | hlt
      · have hNN := PG hlt
        have hge : ¬ f < g := by omega
        have WK : wrap64 (f - g) = N := by rw [show f - g = N by omega]; exact WNN
        rcases HB with ⟨h1, hA⟩ | ⟨h1, u, X, Y, R, hu, hA, CZ⟩
        · have HE := Lib.hid hA
          have h1b : f - g ≤ k := by omega
          clear hA hNN PN PG PF BIG AX HE1 hk LA1 LA2 LB1 LB2 hN
          go_enter Try.func15, Try.ntmps15
          go_wp2_with (first | ((with_reducible refine at_box 3 ?_); refine wpList_box_own O (M.mat 2 (a)) rfl ?_; clear O; intro g3 w1 O) | ((with_reducible refine at_box 4 ?_); refine wpList_box_own O (M.mat 2 (b)) rfl ?_; clear O; intro g4 w2 O) | ((with_reducible refine at_alloc 6 ?_); refine wpList_alloc_own O (M.mat 3 M.zero) zeroT ?_; clear O; intro g6 w3 O) | ((with_reducible refine at_load 14 ?_); refine wpList_whole rfl O 2 rfl rfl Try.underlying23 rfl (sP _) ?_) | ((with_reducible refine at_load 15 ?_); refine wpList_whole rfl O 1 rfl rfl Try.underlying23 rfl (sP _) ?_) | (go_at_call 25; refine (CO _).mono ?_; rintro e w5 ⟨x, y, rfl, hO, hb⟩; have HO := Lib.hid hO; clear hO; replace O := O.call hb; clear hb) | ((with_reducible refine at_alloc 8 ?_); refine wpList_alloc_own O (ln 0 0 0 0 false) zeroL ?_; clear O; intro g8 w6 O) | ((with_reducible refine at_store 8 ?_); refine wpList_put_own O 0 (ln f g x y false) rfl rfl rfl (sL f g x y false) rfl (ln_one f g x y false) ?_; clear O; intro w7 O) | ((with_reducible refine at_load 20 ?_); refine wpList_whole rfl O 3 rfl rfl Try.underlying23 rfl (sP _) ?_) | ((with_reducible refine at_load 21 ?_); refine wpList_whole rfl O 2 rfl rfl Try.underlying23 rfl (sP _) ?_) | ((with_reducible refine at_binOp 22 ?_); refine wpList_eqP rfl (a) (b) rfl rfl ?_; rw [HQ.out]) | ((with_reducible refine at_load 27 ?_); refine wpList_cell_h (v := .bool false) rfl O.held 0 rfl (i := 4) rfl rfl agg4 rfl ?_) | ((with_reducible refine at_load 31 ?_); refine wpList_cell_h (v := .int .i64 x) rfl O.held 0 rfl (i := 2) rfl rfl agg3 rfl ?_) | ((with_reducible refine at_load 33 ?_); refine wpList_cell_h (v := .int .i64 y) rfl O.held 0 rfl (i := 3) rfl rfl agg3 rfl ?_) | ((with_reducible refine at_load 39 ?_); refine wpList_cell_h (v := .int .i64 f) rfl O.held 0 rfl (i := 0) rfl rfl agg3 rfl ?_) | ((with_reducible refine at_load 41 ?_); refine wpList_cell_h (v := .int .i64 g) rfl O.held 0 rfl (i := 1) rfl rfl agg3 rfl ?_) | ((with_reducible refine at_load 44 ?_); refine wpList_cell_h (v := .int .i64 f) rfl O.held 0 rfl (i := 0) rfl rfl agg3 rfl ?_) | ((with_reducible refine at_load 46 ?_); refine wpList_cell_h (v := .int .i64 g) rfl O.held 0 rfl (i := 1) rfl rfl agg3 rfl ?_) | ((with_reducible refine at_load 52 ?_); refine wpList_cell_h (v := .int .i64 f) rfl O.held 0 rfl (i := 0) rfl rfl agg3 rfl ?_) | ((with_reducible refine at_load 56 ?_); refine wpList_cell_h (v := .int .i64 g) rfl O.held 0 rfl (i := 1) rfl rfl agg3 rfl ?_) | ((with_reducible refine at_load 58 ?_); refine wpList_cell_h (v := .int .i64 f) rfl O.held 0 rfl (i := 0) rfl rfl agg3 rfl ?_) | ((with_reducible refine at_load 61 ?_); refine wpList_cell_h (v := .int .i64 f) rfl O.held 0 rfl (i := 0) rfl rfl agg3 rfl ?_) | ((with_reducible refine at_build 50 ?_); refine wpList_build_g rfl ([]) ((M.mat 3 M.zero).toArray) ?_ (builtTz) ?_; (focus (simp only [List.map_toArray, List.map_cons, List.map_nil]; rfl))) | ((with_reducible refine at_store 6 ?_); refine wpList_put_own O 1 (M.mat 3 (M.zero)) rfl rfl rfl (sT _) (M.mat_len2 _ _ _) (M.mat_one _ _) ?_; clear O; intro w9 O))
          refine bodyPost_ret (v := .tuple #[arr 3 M.zero, .bool false]) ?_ rfl ?_
          · exact res_h2 rfl O.held 1 rfl rfl Try.underlying34 rfl (sT _) rfl
          · exact ⟨by rw [HE.out]; rfl, O.below⟩
        · have h1' : ¬ N ≤ k := by omega
          have eu : u = f - 1 - k := by omega
          subst eu
          clear hu PN PG PF BIG AX HE1
          have Wf : wrap64 (f - 1) = f - 1 := IntWalk.wrap64_in _ (by omega)
          have Wu : wrap64 (f - 1 - k) = f - 1 - k := IntWalk.wrap64_in _ (by omega)
          have Wu2 : wrap64 (f + k) = f + k := IntWalk.wrap64_in _ (by omega)
          clear hNN LA1 LA2 LB1 LB2 hN hk
          cases R
          · have HE := Lib.hid (show AT k = ((0, 0, 0), false) from hA)
            clear hA
            go_enter Try.func15, Try.ntmps15
            go_wp2_with (first | ((with_reducible refine at_box 3 ?_); refine wpList_box_own O (M.mat 2 (a)) rfl ?_; clear O; intro g3 w1 O) | ((with_reducible refine at_box 4 ?_); refine wpList_box_own O (M.mat 2 (b)) rfl ?_; clear O; intro g4 w2 O) | ((with_reducible refine at_alloc 6 ?_); refine wpList_alloc_own O (M.mat 3 M.zero) zeroT ?_; clear O; intro g6 w3 O) | ((with_reducible refine at_load 14 ?_); refine wpList_whole rfl O 2 rfl rfl Try.underlying23 rfl (sP _) ?_) | ((with_reducible refine at_load 15 ?_); refine wpList_whole rfl O 1 rfl rfl Try.underlying23 rfl (sP _) ?_) | (go_at_call 25; refine (CO _).mono ?_; rintro e w5 ⟨x, y, rfl, hO, hb⟩; have HO := Lib.hid hO; clear hO; replace O := O.call hb; clear hb) | ((with_reducible refine at_alloc 8 ?_); refine wpList_alloc_own O (ln 0 0 0 0 false) zeroL ?_; clear O; intro g8 w6 O) | ((with_reducible refine at_store 8 ?_); refine wpList_put_own O 0 (ln f g x y false) rfl rfl rfl (sL f g x y false) rfl (ln_one f g x y false) ?_; clear O; intro w7 O) | ((with_reducible refine at_load 20 ?_); refine wpList_whole rfl O 3 rfl rfl Try.underlying23 rfl (sP _) ?_) | ((with_reducible refine at_load 21 ?_); refine wpList_whole rfl O 2 rfl rfl Try.underlying23 rfl (sP _) ?_) | ((with_reducible refine at_binOp 22 ?_); refine wpList_eqP rfl (a) (b) rfl rfl ?_; rw [HQ.out]) | ((with_reducible refine at_load 27 ?_); refine wpList_cell_h (v := .bool false) rfl O.held 0 rfl (i := 4) rfl rfl agg4 rfl ?_) | ((with_reducible refine at_load 31 ?_); refine wpList_cell_h (v := .int .i64 x) rfl O.held 0 rfl (i := 2) rfl rfl agg3 rfl ?_) | ((with_reducible refine at_load 33 ?_); refine wpList_cell_h (v := .int .i64 y) rfl O.held 0 rfl (i := 3) rfl rfl agg3 rfl ?_) | ((with_reducible refine at_load 39 ?_); refine wpList_cell_h (v := .int .i64 f) rfl O.held 0 rfl (i := 0) rfl rfl agg3 rfl ?_) | ((with_reducible refine at_load 41 ?_); refine wpList_cell_h (v := .int .i64 g) rfl O.held 0 rfl (i := 1) rfl rfl agg3 rfl ?_) | ((with_reducible refine at_load 44 ?_); refine wpList_cell_h (v := .int .i64 f) rfl O.held 0 rfl (i := 0) rfl rfl agg3 rfl ?_) | ((with_reducible refine at_load 46 ?_); refine wpList_cell_h (v := .int .i64 g) rfl O.held 0 rfl (i := 1) rfl rfl agg3 rfl ?_) | ((with_reducible refine at_load 52 ?_); refine wpList_cell_h (v := .int .i64 f) rfl O.held 0 rfl (i := 0) rfl rfl agg3 rfl ?_) | ((with_reducible refine at_load 56 ?_); refine wpList_cell_h (v := .int .i64 g) rfl O.held 0 rfl (i := 1) rfl rfl agg3 rfl ?_) | ((with_reducible refine at_load 58 ?_); refine wpList_cell_h (v := .int .i64 f) rfl O.held 0 rfl (i := 0) rfl rfl agg3 rfl ?_) | ((with_reducible refine at_load 61 ?_); refine wpList_cell_h (v := .int .i64 f) rfl O.held 0 rfl (i := 0) rfl rfl agg3 rfl ?_) | ((with_reducible refine at_load 66 ?_); refine wpList_whole rfl O 3 rfl rfl Try.underlying23 rfl (sP _) ?_) | ((with_reducible refine at_load 67 ?_); refine wpList_whole rfl O 2 rfl rfl Try.underlying23 rfl (sP _) ?_) | (go_at_call 29; refine (CZ _).mono ?_; rintro e w8 ⟨rfl, hb⟩; replace O := O.call hb; clear hb) | ((with_reducible refine at_build 75 ?_); refine wpList_build_g rfl ([]) ((M.mat 3 M.zero).toArray) ?_ (builtTz) ?_; (focus (simp only [List.map_toArray, List.map_cons, List.map_nil]; rfl))) | ((with_reducible refine at_store 6 ?_); refine wpList_put_own O 1 (M.mat 3 (M.zero)) rfl rfl rfl (sT _) (M.mat_len2 _ _ _) (M.mat_one _ _) ?_; clear O; intro w9 O))
            refine bodyPost_ret (v := .tuple #[arr 3 M.zero, .bool false]) ?_ rfl ?_
            · exact res_h2 rfl O.held 1 rfl rfl Try.underlying34 rfl (sT _) rfl
            · exact ⟨by rw [HE.out]; rfl, O.below⟩
          · have HE := Lib.hid (show AT k = ((k, X, Y), true) from hA)
            clear hA
            go_enter Try.func15, Try.ntmps15
            go_wp2_with (first | ((with_reducible refine at_box 3 ?_); refine wpList_box_own O (M.mat 2 (a)) rfl ?_; clear O; intro g3 w1 O) | ((with_reducible refine at_box 4 ?_); refine wpList_box_own O (M.mat 2 (b)) rfl ?_; clear O; intro g4 w2 O) | ((with_reducible refine at_alloc 6 ?_); refine wpList_alloc_own O (M.mat 3 M.zero) zeroT ?_; clear O; intro g6 w3 O) | ((with_reducible refine at_load 14 ?_); refine wpList_whole rfl O 2 rfl rfl Try.underlying23 rfl (sP _) ?_) | ((with_reducible refine at_load 15 ?_); refine wpList_whole rfl O 1 rfl rfl Try.underlying23 rfl (sP _) ?_) | (go_at_call 25; refine (CO _).mono ?_; rintro e w5 ⟨x, y, rfl, hO, hb⟩; have HO := Lib.hid hO; clear hO; replace O := O.call hb; clear hb) | ((with_reducible refine at_alloc 8 ?_); refine wpList_alloc_own O (ln 0 0 0 0 false) zeroL ?_; clear O; intro g8 w6 O) | ((with_reducible refine at_store 8 ?_); refine wpList_put_own O 0 (ln f g x y false) rfl rfl rfl (sL f g x y false) rfl (ln_one f g x y false) ?_; clear O; intro w7 O) | ((with_reducible refine at_load 20 ?_); refine wpList_whole rfl O 3 rfl rfl Try.underlying23 rfl (sP _) ?_) | ((with_reducible refine at_load 21 ?_); refine wpList_whole rfl O 2 rfl rfl Try.underlying23 rfl (sP _) ?_) | ((with_reducible refine at_binOp 22 ?_); refine wpList_eqP rfl (a) (b) rfl rfl ?_; rw [HQ.out]) | ((with_reducible refine at_load 27 ?_); refine wpList_cell_h (v := .bool false) rfl O.held 0 rfl (i := 4) rfl rfl agg4 rfl ?_) | ((with_reducible refine at_load 31 ?_); refine wpList_cell_h (v := .int .i64 x) rfl O.held 0 rfl (i := 2) rfl rfl agg3 rfl ?_) | ((with_reducible refine at_load 33 ?_); refine wpList_cell_h (v := .int .i64 y) rfl O.held 0 rfl (i := 3) rfl rfl agg3 rfl ?_) | ((with_reducible refine at_load 39 ?_); refine wpList_cell_h (v := .int .i64 f) rfl O.held 0 rfl (i := 0) rfl rfl agg3 rfl ?_) | ((with_reducible refine at_load 41 ?_); refine wpList_cell_h (v := .int .i64 g) rfl O.held 0 rfl (i := 1) rfl rfl agg3 rfl ?_) | ((with_reducible refine at_load 44 ?_); refine wpList_cell_h (v := .int .i64 f) rfl O.held 0 rfl (i := 0) rfl rfl agg3 rfl ?_) | ((with_reducible refine at_load 46 ?_); refine wpList_cell_h (v := .int .i64 g) rfl O.held 0 rfl (i := 1) rfl rfl agg3 rfl ?_) | ((with_reducible refine at_load 52 ?_); refine wpList_cell_h (v := .int .i64 f) rfl O.held 0 rfl (i := 0) rfl rfl agg3 rfl ?_) | ((with_reducible refine at_load 56 ?_); refine wpList_cell_h (v := .int .i64 g) rfl O.held 0 rfl (i := 1) rfl rfl agg3 rfl ?_) | ((with_reducible refine at_load 58 ?_); refine wpList_cell_h (v := .int .i64 f) rfl O.held 0 rfl (i := 0) rfl rfl agg3 rfl ?_) | ((with_reducible refine at_load 61 ?_); refine wpList_cell_h (v := .int .i64 f) rfl O.held 0 rfl (i := 0) rfl rfl agg3 rfl ?_) | ((with_reducible refine at_load 66 ?_); refine wpList_whole rfl O 3 rfl rfl Try.underlying23 rfl (sP _) ?_) | ((with_reducible refine at_load 67 ?_); refine wpList_whole rfl O 2 rfl rfl Try.underlying23 rfl (sP _) ?_) | (go_at_call 29; refine (CZ _).mono ?_; rintro e w8 ⟨rfl, hb⟩; replace O := O.call hb; clear hb) | ((with_reducible refine at_build 79 ?_); refine wpList_build_g rfl ([(0, .int .i64 k), (1, .int .i64 X), (2, .int .i64 Y)]) ((M.mat 3 (DM.t3 k X Y)).toArray) ?_ (builtT _ _ _) ?_; (focus (simp only [List.map_toArray, List.map_cons, List.map_nil]; rfl))) | ((with_reducible refine at_store 6 ?_); refine wpList_put_own O 1 (M.mat 3 (DM.t3 k X Y)) rfl rfl rfl (sT _) (M.mat_len2 _ _ _) (M.mat_one _ _) ?_; clear O; intro w9 O))
            refine bodyPost_ret (v := .tuple #[arr 3 (DM.t3 k X Y), .bool true]) ?_ rfl ?_
            · exact res_h2 rfl O.held 1 rfl rfl Try.underlying34 rfl (sT _) rfl
            · exact ⟨by rw [HE.out]; rfl, O.below⟩
      · have hNN := PF hlt
        have hge : ¬ g < f := by omega
        have WK : wrap64 (g - f) = N := by rw [show g - f = N by omega]; exact WNN
        rcases HB with ⟨h1, hA⟩ | ⟨h1, u, X, Y, R, hu, hA, CZ⟩
        · have HE := Lib.hid hA
          have h1b : g - f ≤ k := by omega
          clear hA hNN PN PG PF BIG AX HE1 hk LA1 LA2 LB1 LB2 hN
          go_enter Try.func15, Try.ntmps15
          go_wp2_with (first | ((with_reducible refine at_box 3 ?_); refine wpList_box_own O (M.mat 2 (a)) rfl ?_; clear O; intro g3 w1 O) | ((with_reducible refine at_box 4 ?_); refine wpList_box_own O (M.mat 2 (b)) rfl ?_; clear O; intro g4 w2 O) | ((with_reducible refine at_alloc 6 ?_); refine wpList_alloc_own O (M.mat 3 M.zero) zeroT ?_; clear O; intro g6 w3 O) | ((with_reducible refine at_load 14 ?_); refine wpList_whole rfl O 2 rfl rfl Try.underlying23 rfl (sP _) ?_) | ((with_reducible refine at_load 15 ?_); refine wpList_whole rfl O 1 rfl rfl Try.underlying23 rfl (sP _) ?_) | (go_at_call 25; refine (CO _).mono ?_; rintro e w5 ⟨x, y, rfl, hO, hb⟩; have HO := Lib.hid hO; clear hO; replace O := O.call hb; clear hb) | ((with_reducible refine at_alloc 8 ?_); refine wpList_alloc_own O (ln 0 0 0 0 false) zeroL ?_; clear O; intro g8 w6 O) | ((with_reducible refine at_store 8 ?_); refine wpList_put_own O 0 (ln f g x y false) rfl rfl rfl (sL f g x y false) rfl (ln_one f g x y false) ?_; clear O; intro w7 O) | ((with_reducible refine at_load 20 ?_); refine wpList_whole rfl O 3 rfl rfl Try.underlying23 rfl (sP _) ?_) | ((with_reducible refine at_load 21 ?_); refine wpList_whole rfl O 2 rfl rfl Try.underlying23 rfl (sP _) ?_) | ((with_reducible refine at_binOp 22 ?_); refine wpList_eqP rfl (a) (b) rfl rfl ?_; rw [HQ.out]) | ((with_reducible refine at_load 27 ?_); refine wpList_cell_h (v := .bool false) rfl O.held 0 rfl (i := 4) rfl rfl agg4 rfl ?_) | ((with_reducible refine at_load 31 ?_); refine wpList_cell_h (v := .int .i64 x) rfl O.held 0 rfl (i := 2) rfl rfl agg3 rfl ?_) | ((with_reducible refine at_load 33 ?_); refine wpList_cell_h (v := .int .i64 y) rfl O.held 0 rfl (i := 3) rfl rfl agg3 rfl ?_) | ((with_reducible refine at_load 39 ?_); refine wpList_cell_h (v := .int .i64 f) rfl O.held 0 rfl (i := 0) rfl rfl agg3 rfl ?_) | ((with_reducible refine at_load 41 ?_); refine wpList_cell_h (v := .int .i64 g) rfl O.held 0 rfl (i := 1) rfl rfl agg3 rfl ?_) | ((with_reducible refine at_load 44 ?_); refine wpList_cell_h (v := .int .i64 f) rfl O.held 0 rfl (i := 0) rfl rfl agg3 rfl ?_) | ((with_reducible refine at_load 46 ?_); refine wpList_cell_h (v := .int .i64 g) rfl O.held 0 rfl (i := 1) rfl rfl agg3 rfl ?_) | ((with_reducible refine at_load 52 ?_); refine wpList_cell_h (v := .int .i64 f) rfl O.held 0 rfl (i := 0) rfl rfl agg3 rfl ?_) | ((with_reducible refine at_load 56 ?_); refine wpList_cell_h (v := .int .i64 g) rfl O.held 0 rfl (i := 1) rfl rfl agg3 rfl ?_) | ((with_reducible refine at_load 58 ?_); refine wpList_cell_h (v := .int .i64 f) rfl O.held 0 rfl (i := 0) rfl rfl agg3 rfl ?_) | ((with_reducible refine at_load 61 ?_); refine wpList_cell_h (v := .int .i64 f) rfl O.held 0 rfl (i := 0) rfl rfl agg3 rfl ?_) | ((with_reducible refine at_build 50 ?_); refine wpList_build_g rfl ([]) ((M.mat 3 M.zero).toArray) ?_ (builtTz) ?_; (focus (simp only [List.map_toArray, List.map_cons, List.map_nil]; rfl))) | ((with_reducible refine at_store 6 ?_); refine wpList_put_own O 1 (M.mat 3 (M.zero)) rfl rfl rfl (sT _) (M.mat_len2 _ _ _) (M.mat_one _ _) ?_; clear O; intro w9 O))
          refine bodyPost_ret (v := .tuple #[arr 3 M.zero, .bool false]) ?_ rfl ?_
          · exact res_h2 rfl O.held 1 rfl rfl Try.underlying34 rfl (sT _) rfl
          · exact ⟨by rw [HE.out]; rfl, O.below⟩
        · have h1' : ¬ N ≤ k := by omega
          have eu : u = f + k := by omega
          subst eu
          clear hu PN PG PF BIG AX HE1
          have Wu : wrap64 (f + k) = f + k := IntWalk.wrap64_in _ (by omega)
          have Wu2 : wrap64 (f + k) = f + k := IntWalk.wrap64_in _ (by omega)
          clear hNN LA1 LA2 LB1 LB2 hN hk
          cases R
          · have HE := Lib.hid (show AT k = ((0, 0, 0), false) from hA)
            clear hA
            go_enter Try.func15, Try.ntmps15
            go_wp2_with (first | ((with_reducible refine at_box 3 ?_); refine wpList_box_own O (M.mat 2 (a)) rfl ?_; clear O; intro g3 w1 O) | ((with_reducible refine at_box 4 ?_); refine wpList_box_own O (M.mat 2 (b)) rfl ?_; clear O; intro g4 w2 O) | ((with_reducible refine at_alloc 6 ?_); refine wpList_alloc_own O (M.mat 3 M.zero) zeroT ?_; clear O; intro g6 w3 O) | ((with_reducible refine at_load 14 ?_); refine wpList_whole rfl O 2 rfl rfl Try.underlying23 rfl (sP _) ?_) | ((with_reducible refine at_load 15 ?_); refine wpList_whole rfl O 1 rfl rfl Try.underlying23 rfl (sP _) ?_) | (go_at_call 25; refine (CO _).mono ?_; rintro e w5 ⟨x, y, rfl, hO, hb⟩; have HO := Lib.hid hO; clear hO; replace O := O.call hb; clear hb) | ((with_reducible refine at_alloc 8 ?_); refine wpList_alloc_own O (ln 0 0 0 0 false) zeroL ?_; clear O; intro g8 w6 O) | ((with_reducible refine at_store 8 ?_); refine wpList_put_own O 0 (ln f g x y false) rfl rfl rfl (sL f g x y false) rfl (ln_one f g x y false) ?_; clear O; intro w7 O) | ((with_reducible refine at_load 20 ?_); refine wpList_whole rfl O 3 rfl rfl Try.underlying23 rfl (sP _) ?_) | ((with_reducible refine at_load 21 ?_); refine wpList_whole rfl O 2 rfl rfl Try.underlying23 rfl (sP _) ?_) | ((with_reducible refine at_binOp 22 ?_); refine wpList_eqP rfl (a) (b) rfl rfl ?_; rw [HQ.out]) | ((with_reducible refine at_load 27 ?_); refine wpList_cell_h (v := .bool false) rfl O.held 0 rfl (i := 4) rfl rfl agg4 rfl ?_) | ((with_reducible refine at_load 31 ?_); refine wpList_cell_h (v := .int .i64 x) rfl O.held 0 rfl (i := 2) rfl rfl agg3 rfl ?_) | ((with_reducible refine at_load 33 ?_); refine wpList_cell_h (v := .int .i64 y) rfl O.held 0 rfl (i := 3) rfl rfl agg3 rfl ?_) | ((with_reducible refine at_load 39 ?_); refine wpList_cell_h (v := .int .i64 f) rfl O.held 0 rfl (i := 0) rfl rfl agg3 rfl ?_) | ((with_reducible refine at_load 41 ?_); refine wpList_cell_h (v := .int .i64 g) rfl O.held 0 rfl (i := 1) rfl rfl agg3 rfl ?_) | ((with_reducible refine at_load 44 ?_); refine wpList_cell_h (v := .int .i64 f) rfl O.held 0 rfl (i := 0) rfl rfl agg3 rfl ?_) | ((with_reducible refine at_load 46 ?_); refine wpList_cell_h (v := .int .i64 g) rfl O.held 0 rfl (i := 1) rfl rfl agg3 rfl ?_) | ((with_reducible refine at_load 52 ?_); refine wpList_cell_h (v := .int .i64 f) rfl O.held 0 rfl (i := 0) rfl rfl agg3 rfl ?_) | ((with_reducible refine at_load 56 ?_); refine wpList_cell_h (v := .int .i64 g) rfl O.held 0 rfl (i := 1) rfl rfl agg3 rfl ?_) | ((with_reducible refine at_load 58 ?_); refine wpList_cell_h (v := .int .i64 f) rfl O.held 0 rfl (i := 0) rfl rfl agg3 rfl ?_) | ((with_reducible refine at_load 61 ?_); refine wpList_cell_h (v := .int .i64 f) rfl O.held 0 rfl (i := 0) rfl rfl agg3 rfl ?_) | ((with_reducible refine at_load 66 ?_); refine wpList_whole rfl O 3 rfl rfl Try.underlying23 rfl (sP _) ?_) | ((with_reducible refine at_load 67 ?_); refine wpList_whole rfl O 2 rfl rfl Try.underlying23 rfl (sP _) ?_) | (go_at_call 29; refine (CZ _).mono ?_; rintro e w8 ⟨rfl, hb⟩; replace O := O.call hb; clear hb) | ((with_reducible refine at_build 75 ?_); refine wpList_build_g rfl ([]) ((M.mat 3 M.zero).toArray) ?_ (builtTz) ?_; (focus (simp only [List.map_toArray, List.map_cons, List.map_nil]; rfl))) | ((with_reducible refine at_store 6 ?_); refine wpList_put_own O 1 (M.mat 3 (M.zero)) rfl rfl rfl (sT _) (M.mat_len2 _ _ _) (M.mat_one _ _) ?_; clear O; intro w9 O))
            refine bodyPost_ret (v := .tuple #[arr 3 M.zero, .bool false]) ?_ rfl ?_
            · exact res_h2 rfl O.held 1 rfl rfl Try.underlying34 rfl (sT _) rfl
            · exact ⟨by rw [HE.out]; rfl, O.below⟩
          · have HE := Lib.hid (show AT k = ((k, X, Y), true) from hA)
            clear hA
            go_enter Try.func15, Try.ntmps15
            go_wp2_with (first | ((with_reducible refine at_box 3 ?_); refine wpList_box_own O (M.mat 2 (a)) rfl ?_; clear O; intro g3 w1 O) | ((with_reducible refine at_box 4 ?_); refine wpList_box_own O (M.mat 2 (b)) rfl ?_; clear O; intro g4 w2 O) | ((with_reducible refine at_alloc 6 ?_); refine wpList_alloc_own O (M.mat 3 M.zero) zeroT ?_; clear O; intro g6 w3 O) | ((with_reducible refine at_load 14 ?_); refine wpList_whole rfl O 2 rfl rfl Try.underlying23 rfl (sP _) ?_) | ((with_reducible refine at_load 15 ?_); refine wpList_whole rfl O 1 rfl rfl Try.underlying23 rfl (sP _) ?_) | (go_at_call 25; refine (CO _).mono ?_; rintro e w5 ⟨x, y, rfl, hO, hb⟩; have HO := Lib.hid hO; clear hO; replace O := O.call hb; clear hb) | ((with_reducible refine at_alloc 8 ?_); refine wpList_alloc_own O (ln 0 0 0 0 false) zeroL ?_; clear O; intro g8 w6 O) | ((with_reducible refine at_store 8 ?_); refine wpList_put_own O 0 (ln f g x y false) rfl rfl rfl (sL f g x y false) rfl (ln_one f g x y false) ?_; clear O; intro w7 O) | ((with_reducible refine at_load 20 ?_); refine wpList_whole rfl O 3 rfl rfl Try.underlying23 rfl (sP _) ?_) | ((with_reducible refine at_load 21 ?_); refine wpList_whole rfl O 2 rfl rfl Try.underlying23 rfl (sP _) ?_) | ((with_reducible refine at_binOp 22 ?_); refine wpList_eqP rfl (a) (b) rfl rfl ?_; rw [HQ.out]) | ((with_reducible refine at_load 27 ?_); refine wpList_cell_h (v := .bool false) rfl O.held 0 rfl (i := 4) rfl rfl agg4 rfl ?_) | ((with_reducible refine at_load 31 ?_); refine wpList_cell_h (v := .int .i64 x) rfl O.held 0 rfl (i := 2) rfl rfl agg3 rfl ?_) | ((with_reducible refine at_load 33 ?_); refine wpList_cell_h (v := .int .i64 y) rfl O.held 0 rfl (i := 3) rfl rfl agg3 rfl ?_) | ((with_reducible refine at_load 39 ?_); refine wpList_cell_h (v := .int .i64 f) rfl O.held 0 rfl (i := 0) rfl rfl agg3 rfl ?_) | ((with_reducible refine at_load 41 ?_); refine wpList_cell_h (v := .int .i64 g) rfl O.held 0 rfl (i := 1) rfl rfl agg3 rfl ?_) | ((with_reducible refine at_load 44 ?_); refine wpList_cell_h (v := .int .i64 f) rfl O.held 0 rfl (i := 0) rfl rfl agg3 rfl ?_) | ((with_reducible refine at_load 46 ?_); refine wpList_cell_h (v := .int .i64 g) rfl O.held 0 rfl (i := 1) rfl rfl agg3 rfl ?_) | ((with_reducible refine at_load 52 ?_); refine wpList_cell_h (v := .int .i64 f) rfl O.held 0 rfl (i := 0) rfl rfl agg3 rfl ?_) | ((with_reducible refine at_load 56 ?_); refine wpList_cell_h (v := .int .i64 g) rfl O.held 0 rfl (i := 1) rfl rfl agg3 rfl ?_) | ((with_reducible refine at_load 58 ?_); refine wpList_cell_h (v := .int .i64 f) rfl O.held 0 rfl (i := 0) rfl rfl agg3 rfl ?_) | ((with_reducible refine at_load 61 ?_); refine wpList_cell_h (v := .int .i64 f) rfl O.held 0 rfl (i := 0) rfl rfl agg3 rfl ?_) | ((with_reducible refine at_load 66 ?_); refine wpList_whole rfl O 3 rfl rfl Try.underlying23 rfl (sP _) ?_) | ((with_reducible refine at_load 67 ?_); refine wpList_whole rfl O 2 rfl rfl Try.underlying23 rfl (sP _) ?_) | (go_at_call 29; refine (CZ _).mono ?_; rintro e w8 ⟨rfl, hb⟩; replace O := O.call hb; clear hb) | ((with_reducible refine at_build 79 ?_); refine wpList_build_g rfl ([(0, .int .i64 k), (1, .int .i64 X), (2, .int .i64 Y)]) ((M.mat 3 (DM.t3 k X Y)).toArray) ?_ (builtT _ _ _) ?_; (focus (simp only [List.map_toArray, List.map_cons, List.map_nil]; rfl))) | ((with_reducible refine at_store 6 ?_); refine wpList_put_own O 1 (M.mat 3 (DM.t3 k X Y)) rfl rfl rfl (sT _) (M.mat_len2 _ _ _) (M.mat_one _ _) ?_; clear O; intro w9 O))
            refine bodyPost_ret (v := .tuple #[arr 3 (DM.t3 k X Y), .bool true]) ?_ rfl ?_
            · exact res_h2 rfl O.held 1 rfl rfl Try.underlying34 rfl (sT _) rfl
            · exact ⟨by rw [HE.out]; rfl, O.below⟩
      · have hN0 : N = 0 := PN hlt
        have HE : Hid (AT k = ((0, 0, 0), false)) := by
          rcases HB with ⟨_, hA⟩ | ⟨h1, _⟩
          · exact Lib.hid hA
          · omega
        subst hlt
        subst hN0
        have WK : wrap64 (f - f) = 0 := by rw [Int.sub_self]; exact WNN
        clear HB PN PG PF BIG AX HE1 hk hN
        go_enter Try.func15, Try.ntmps15
        go_wp2_with (first | ((with_reducible refine at_box 3 ?_); refine wpList_box_own O (M.mat 2 (a)) rfl ?_; clear O; intro g3 w1 O) | ((with_reducible refine at_box 4 ?_); refine wpList_box_own O (M.mat 2 (b)) rfl ?_; clear O; intro g4 w2 O) | ((with_reducible refine at_alloc 6 ?_); refine wpList_alloc_own O (M.mat 3 M.zero) zeroT ?_; clear O; intro g6 w3 O) | ((with_reducible refine at_load 14 ?_); refine wpList_whole rfl O 2 rfl rfl Try.underlying23 rfl (sP _) ?_) | ((with_reducible refine at_load 15 ?_); refine wpList_whole rfl O 1 rfl rfl Try.underlying23 rfl (sP _) ?_) | (go_at_call 25; refine (CO _).mono ?_; rintro e w5 ⟨x, y, rfl, hO, hb⟩; have HO := Lib.hid hO; clear hO; replace O := O.call hb; clear hb) | ((with_reducible refine at_alloc 8 ?_); refine wpList_alloc_own O (ln 0 0 0 0 false) zeroL ?_; clear O; intro g8 w6 O) | ((with_reducible refine at_store 8 ?_); refine wpList_put_own O 0 (ln f f x y false) rfl rfl rfl (sL f f x y false) rfl (ln_one f f x y false) ?_; clear O; intro w7 O) | ((with_reducible refine at_load 20 ?_); refine wpList_whole rfl O 3 rfl rfl Try.underlying23 rfl (sP _) ?_) | ((with_reducible refine at_load 21 ?_); refine wpList_whole rfl O 2 rfl rfl Try.underlying23 rfl (sP _) ?_) | ((with_reducible refine at_binOp 22 ?_); refine wpList_eqP rfl (a) (b) rfl rfl ?_; rw [HQ.out]) | ((with_reducible refine at_load 27 ?_); refine wpList_cell_h (v := .bool false) rfl O.held 0 rfl (i := 4) rfl rfl agg4 rfl ?_) | ((with_reducible refine at_load 31 ?_); refine wpList_cell_h (v := .int .i64 x) rfl O.held 0 rfl (i := 2) rfl rfl agg3 rfl ?_) | ((with_reducible refine at_load 33 ?_); refine wpList_cell_h (v := .int .i64 y) rfl O.held 0 rfl (i := 3) rfl rfl agg3 rfl ?_) | ((with_reducible refine at_load 39 ?_); refine wpList_cell_h (v := .int .i64 f) rfl O.held 0 rfl (i := 0) rfl rfl agg3 rfl ?_) | ((with_reducible refine at_load 41 ?_); refine wpList_cell_h (v := .int .i64 f) rfl O.held 0 rfl (i := 1) rfl rfl agg3 rfl ?_) | ((with_reducible refine at_load 44 ?_); refine wpList_cell_h (v := .int .i64 f) rfl O.held 0 rfl (i := 0) rfl rfl agg3 rfl ?_) | ((with_reducible refine at_load 46 ?_); refine wpList_cell_h (v := .int .i64 f) rfl O.held 0 rfl (i := 1) rfl rfl agg3 rfl ?_) | ((with_reducible refine at_load 52 ?_); refine wpList_cell_h (v := .int .i64 f) rfl O.held 0 rfl (i := 0) rfl rfl agg3 rfl ?_) | ((with_reducible refine at_load 56 ?_); refine wpList_cell_h (v := .int .i64 f) rfl O.held 0 rfl (i := 1) rfl rfl agg3 rfl ?_) | ((with_reducible refine at_load 58 ?_); refine wpList_cell_h (v := .int .i64 f) rfl O.held 0 rfl (i := 0) rfl rfl agg3 rfl ?_) | ((with_reducible refine at_load 61 ?_); refine wpList_cell_h (v := .int .i64 f) rfl O.held 0 rfl (i := 0) rfl rfl agg3 rfl ?_) | ((with_reducible refine at_build 50 ?_); refine wpList_build_g rfl ([]) ((M.mat 3 M.zero).toArray) ?_ (builtTz) ?_; (focus (simp only [List.map_toArray, List.map_cons, List.map_nil]; rfl))) | ((with_reducible refine at_store 6 ?_); refine wpList_put_own O 1 (M.mat 3 (M.zero)) rfl rfl rfl (sT _) (M.mat_len2 _ _ _) (M.mat_one _ _) ?_; clear O; intro w9 O))
        refine bodyPost_ret (v := .tuple #[arr 3 M.zero, .bool false]) ?_ rfl ?_
        · exact res_h2 rfl O.held 1 rfl rfl Try.underlying34 rfl (sT _) rfl
        · exact ⟨by rw [HE.out]; rfl, O.below⟩
    · obtain rfl : E1 = 1 := by
        rcases HE1 with ⟨_, h⟩ | ⟨h, _⟩
        · exact h
        · cases h
      by_cases hk1 : k = 0
      · subst hk1
        have AX1 := Lib.hid (fun X Y h => AX X Y rfl h)
        clear AX BIG PN PG PF HE1 hk hN LA1 LA2 LB1 LB2 WNN
        go_enter Try.func15, Try.ntmps15
        go_wp2_with (first | ((with_reducible refine at_box 3 ?_); refine wpList_box_own O (M.mat 2 (a)) rfl ?_; clear O; intro g3 w1 O) | ((with_reducible refine at_box 4 ?_); refine wpList_box_own O (M.mat 2 (b)) rfl ?_; clear O; intro g4 w2 O) | ((with_reducible refine at_alloc 6 ?_); refine wpList_alloc_own O (M.mat 3 M.zero) zeroT ?_; clear O; intro g6 w3 O) | ((with_reducible refine at_load 14 ?_); refine wpList_whole rfl O 2 rfl rfl Try.underlying23 rfl (sP _) ?_) | ((with_reducible refine at_load 15 ?_); refine wpList_whole rfl O 1 rfl rfl Try.underlying23 rfl (sP _) ?_) | (go_at_call 25; refine (CO _).mono ?_; rintro e w5 ⟨x, y, rfl, hO, hb⟩; have HO := Lib.hid hO; clear hO; replace O := O.call hb; clear hb) | ((with_reducible refine at_alloc 8 ?_); refine wpList_alloc_own O (ln 0 0 0 0 false) zeroL ?_; clear O; intro g8 w6 O) | ((with_reducible refine at_store 8 ?_); refine wpList_put_own O 0 (ln f g x y true) rfl rfl rfl (sL f g x y true) rfl (ln_one f g x y true) ?_; clear O; intro w7 O) | ((with_reducible refine at_load 20 ?_); refine wpList_whole rfl O 3 rfl rfl Try.underlying23 rfl (sP _) ?_) | ((with_reducible refine at_load 21 ?_); refine wpList_whole rfl O 2 rfl rfl Try.underlying23 rfl (sP _) ?_) | ((with_reducible refine at_binOp 22 ?_); refine wpList_eqP rfl (a) (b) rfl rfl ?_; rw [HQ.out]) | ((with_reducible refine at_load 27 ?_); refine wpList_cell_h (v := .bool true) rfl O.held 0 rfl (i := 4) rfl rfl agg4 rfl ?_) | ((with_reducible refine at_load 31 ?_); refine wpList_cell_h (v := .int .i64 x) rfl O.held 0 rfl (i := 2) rfl rfl agg3 rfl ?_) | ((with_reducible refine at_load 33 ?_); refine wpList_cell_h (v := .int .i64 y) rfl O.held 0 rfl (i := 3) rfl rfl agg3 rfl ?_) | ((with_reducible refine at_load 39 ?_); refine wpList_cell_h (v := .int .i64 f) rfl O.held 0 rfl (i := 0) rfl rfl agg3 rfl ?_) | ((with_reducible refine at_load 41 ?_); refine wpList_cell_h (v := .int .i64 g) rfl O.held 0 rfl (i := 1) rfl rfl agg3 rfl ?_) | ((with_reducible refine at_load 44 ?_); refine wpList_cell_h (v := .int .i64 f) rfl O.held 0 rfl (i := 0) rfl rfl agg3 rfl ?_) | ((with_reducible refine at_load 46 ?_); refine wpList_cell_h (v := .int .i64 g) rfl O.held 0 rfl (i := 1) rfl rfl agg3 rfl ?_) | ((with_reducible refine at_load 52 ?_); refine wpList_cell_h (v := .int .i64 f) rfl O.held 0 rfl (i := 0) rfl rfl agg3 rfl ?_) | ((with_reducible refine at_load 56 ?_); refine wpList_cell_h (v := .int .i64 g) rfl O.held 0 rfl (i := 1) rfl rfl agg3 rfl ?_) | ((with_reducible refine at_load 58 ?_); refine wpList_cell_h (v := .int .i64 f) rfl O.held 0 rfl (i := 0) rfl rfl agg3 rfl ?_) | ((with_reducible refine at_load 61 ?_); refine wpList_cell_h (v := .int .i64 f) rfl O.held 0 rfl (i := 0) rfl rfl agg3 rfl ?_) | ((with_reducible refine at_build 34 ?_); refine wpList_build_g rfl ([(0, .int .i64 0), (1, .int .i64 x), (2, .int .i64 y)]) ((M.mat 3 (DM.t3 0 x y)).toArray) ?_ (builtT _ _ _) ?_; (focus (simp only [List.map_toArray, List.map_cons, List.map_nil]; rfl))) | ((with_reducible refine at_store 6 ?_); refine wpList_put_own O 1 (M.mat 3 (DM.t3 0 x y)) rfl rfl rfl (sT _) (M.mat_len2 _ _ _) (M.mat_one _ _) ?_; clear O; intro w9 O))
        have HE := Lib.hid (AX1.out x y (by first | exact HO.out.1 rfl | exact HO.out.1 trivial))
        refine bodyPost_ret (v := .tuple #[arr 3 (DM.t3 0 x y), .bool true]) ?_ rfl ?_
        · exact res_h2 rfl O.held 1 rfl rfl Try.underlying34 rfl (sT _) rfl
        · exact ⟨by rw [HE.out]; rfl, O.below⟩
      · have k2 : (k == 0) = false := beq_eq_false_iff_ne.2 hk1
        have W1 : wrap64 (k - 1) = k - 1 := IntWalk.wrap64_in _ (by omega)
        have HB := BIG (k - 1) (by omega) (by omega)
        rcases (by omega : g < f ∨ f < g ∨ f = g) with hlt | hlt | hlt
        · have hNN := PG hlt
          have hge : ¬ f < g := by omega
          have WK : wrap64 (f - g) = N := by rw [show f - g = N by omega]; exact WNN
          rcases HB with ⟨h1, hA⟩ | ⟨h1, u, X, Y, R, hu, hA, CZ⟩
          · have HE := Lib.hid hA
            have h1b : f - g ≤ (k - 1) := by omega
            clear hA hNN PN PG PF BIG AX HE1 hk LA1 LA2 LB1 LB2 hN
            go_enter Try.func15, Try.ntmps15
            go_wp2_with (first | ((with_reducible refine at_box 3 ?_); refine wpList_box_own O (M.mat 2 (a)) rfl ?_; clear O; intro g3 w1 O) | ((with_reducible refine at_box 4 ?_); refine wpList_box_own O (M.mat 2 (b)) rfl ?_; clear O; intro g4 w2 O) | ((with_reducible refine at_alloc 6 ?_); refine wpList_alloc_own O (M.mat 3 M.zero) zeroT ?_; clear O; intro g6 w3 O) | ((with_reducible refine at_load 14 ?_); refine wpList_whole rfl O 2 rfl rfl Try.underlying23 rfl (sP _) ?_) | ((with_reducible refine at_load 15 ?_); refine wpList_whole rfl O 1 rfl rfl Try.underlying23 rfl (sP _) ?_) | (go_at_call 25; refine (CO _).mono ?_; rintro e w5 ⟨x, y, rfl, hO, hb⟩; have HO := Lib.hid hO; clear hO; replace O := O.call hb; clear hb) | ((with_reducible refine at_alloc 8 ?_); refine wpList_alloc_own O (ln 0 0 0 0 false) zeroL ?_; clear O; intro g8 w6 O) | ((with_reducible refine at_store 8 ?_); refine wpList_put_own O 0 (ln f g x y true) rfl rfl rfl (sL f g x y true) rfl (ln_one f g x y true) ?_; clear O; intro w7 O) | ((with_reducible refine at_load 20 ?_); refine wpList_whole rfl O 3 rfl rfl Try.underlying23 rfl (sP _) ?_) | ((with_reducible refine at_load 21 ?_); refine wpList_whole rfl O 2 rfl rfl Try.underlying23 rfl (sP _) ?_) | ((with_reducible refine at_binOp 22 ?_); refine wpList_eqP rfl (a) (b) rfl rfl ?_; rw [HQ.out]) | ((with_reducible refine at_load 27 ?_); refine wpList_cell_h (v := .bool true) rfl O.held 0 rfl (i := 4) rfl rfl agg4 rfl ?_) | ((with_reducible refine at_load 31 ?_); refine wpList_cell_h (v := .int .i64 x) rfl O.held 0 rfl (i := 2) rfl rfl agg3 rfl ?_) | ((with_reducible refine at_load 33 ?_); refine wpList_cell_h (v := .int .i64 y) rfl O.held 0 rfl (i := 3) rfl rfl agg3 rfl ?_) | ((with_reducible refine at_load 39 ?_); refine wpList_cell_h (v := .int .i64 f) rfl O.held 0 rfl (i := 0) rfl rfl agg3 rfl ?_) | ((with_reducible refine at_load 41 ?_); refine wpList_cell_h (v := .int .i64 g) rfl O.held 0 rfl (i := 1) rfl rfl agg3 rfl ?_) | ((with_reducible refine at_load 44 ?_); refine wpList_cell_h (v := .int .i64 f) rfl O.held 0 rfl (i := 0) rfl rfl agg3 rfl ?_) | ((with_reducible refine at_load 46 ?_); refine wpList_cell_h (v := .int .i64 g) rfl O.held 0 rfl (i := 1) rfl rfl agg3 rfl ?_) | ((with_reducible refine at_load 52 ?_); refine wpList_cell_h (v := .int .i64 f) rfl O.held 0 rfl (i := 0) rfl rfl agg3 rfl ?_) | ((with_reducible refine at_load 56 ?_); refine wpList_cell_h (v := .int .i64 g) rfl O.held 0 rfl (i := 1) rfl rfl agg3 rfl ?_) | ((with_reducible refine at_load 58 ?_); refine wpList_cell_h (v := .int .i64 f) rfl O.held 0 rfl (i := 0) rfl rfl agg3 rfl ?_) | ((with_reducible refine at_load 61 ?_); refine wpList_cell_h (v := .int .i64 f) rfl O.held 0 rfl (i := 0) rfl rfl agg3 rfl ?_) | ((with_reducible refine at_build 50 ?_); refine wpList_build_g rfl ([]) ((M.mat 3 M.zero).toArray) ?_ (builtTz) ?_; (focus (simp only [List.map_toArray, List.map_cons, List.map_nil]; rfl))) | ((with_reducible refine at_store 6 ?_); refine wpList_put_own O 1 (M.mat 3 (M.zero)) rfl rfl rfl (sT _) (M.mat_len2 _ _ _) (M.mat_one _ _) ?_; clear O; intro w9 O))
            refine bodyPost_ret (v := .tuple #[arr 3 M.zero, .bool false]) ?_ rfl ?_
            · exact res_h2 rfl O.held 1 rfl rfl Try.underlying34 rfl (sT _) rfl
            · exact ⟨by rw [HE.out]; rfl, O.below⟩
          · have h1' : ¬ N ≤ (k - 1) := by omega
            have eu : u = f - 1 - (k - 1) := by omega
            subst eu
            clear hu PN PG PF BIG AX HE1
            have Wf : wrap64 (f - 1) = f - 1 := IntWalk.wrap64_in _ (by omega)
            have Wu : wrap64 (f - 1 - (k - 1)) = f - 1 - (k - 1) := IntWalk.wrap64_in _ (by omega)
            have Wu2 : wrap64 (f + (k - 1)) = f + (k - 1) := IntWalk.wrap64_in _ (by omega)
            clear hNN LA1 LA2 LB1 LB2 hN hk
            cases R
            · have HE := Lib.hid (show AT k = ((0, 0, 0), false) from hA)
              clear hA
              go_enter Try.func15, Try.ntmps15
              go_wp2_with (first | ((with_reducible refine at_box 3 ?_); refine wpList_box_own O (M.mat 2 (a)) rfl ?_; clear O; intro g3 w1 O) | ((with_reducible refine at_box 4 ?_); refine wpList_box_own O (M.mat 2 (b)) rfl ?_; clear O; intro g4 w2 O) | ((with_reducible refine at_alloc 6 ?_); refine wpList_alloc_own O (M.mat 3 M.zero) zeroT ?_; clear O; intro g6 w3 O) | ((with_reducible refine at_load 14 ?_); refine wpList_whole rfl O 2 rfl rfl Try.underlying23 rfl (sP _) ?_) | ((with_reducible refine at_load 15 ?_); refine wpList_whole rfl O 1 rfl rfl Try.underlying23 rfl (sP _) ?_) | (go_at_call 25; refine (CO _).mono ?_; rintro e w5 ⟨x, y, rfl, hO, hb⟩; have HO := Lib.hid hO; clear hO; replace O := O.call hb; clear hb) | ((with_reducible refine at_alloc 8 ?_); refine wpList_alloc_own O (ln 0 0 0 0 false) zeroL ?_; clear O; intro g8 w6 O) | ((with_reducible refine at_store 8 ?_); refine wpList_put_own O 0 (ln f g x y true) rfl rfl rfl (sL f g x y true) rfl (ln_one f g x y true) ?_; clear O; intro w7 O) | ((with_reducible refine at_load 20 ?_); refine wpList_whole rfl O 3 rfl rfl Try.underlying23 rfl (sP _) ?_) | ((with_reducible refine at_load 21 ?_); refine wpList_whole rfl O 2 rfl rfl Try.underlying23 rfl (sP _) ?_) | ((with_reducible refine at_binOp 22 ?_); refine wpList_eqP rfl (a) (b) rfl rfl ?_; rw [HQ.out]) | ((with_reducible refine at_load 27 ?_); refine wpList_cell_h (v := .bool true) rfl O.held 0 rfl (i := 4) rfl rfl agg4 rfl ?_) | ((with_reducible refine at_load 31 ?_); refine wpList_cell_h (v := .int .i64 x) rfl O.held 0 rfl (i := 2) rfl rfl agg3 rfl ?_) | ((with_reducible refine at_load 33 ?_); refine wpList_cell_h (v := .int .i64 y) rfl O.held 0 rfl (i := 3) rfl rfl agg3 rfl ?_) | ((with_reducible refine at_load 39 ?_); refine wpList_cell_h (v := .int .i64 f) rfl O.held 0 rfl (i := 0) rfl rfl agg3 rfl ?_) | ((with_reducible refine at_load 41 ?_); refine wpList_cell_h (v := .int .i64 g) rfl O.held 0 rfl (i := 1) rfl rfl agg3 rfl ?_) | ((with_reducible refine at_load 44 ?_); refine wpList_cell_h (v := .int .i64 f) rfl O.held 0 rfl (i := 0) rfl rfl agg3 rfl ?_) | ((with_reducible refine at_load 46 ?_); refine wpList_cell_h (v := .int .i64 g) rfl O.held 0 rfl (i := 1) rfl rfl agg3 rfl ?_) | ((with_reducible refine at_load 52 ?_); refine wpList_cell_h (v := .int .i64 f) rfl O.held 0 rfl (i := 0) rfl rfl agg3 rfl ?_) | ((with_reducible refine at_load 56 ?_); refine wpList_cell_h (v := .int .i64 g) rfl O.held 0 rfl (i := 1) rfl rfl agg3 rfl ?_) | ((with_reducible refine at_load 58 ?_); refine wpList_cell_h (v := .int .i64 f) rfl O.held 0 rfl (i := 0) rfl rfl agg3 rfl ?_) | ((with_reducible refine at_load 61 ?_); refine wpList_cell_h (v := .int .i64 f) rfl O.held 0 rfl (i := 0) rfl rfl agg3 rfl ?_) | ((with_reducible refine at_load 66 ?_); refine wpList_whole rfl O 3 rfl rfl Try.underlying23 rfl (sP _) ?_) | ((with_reducible refine at_load 67 ?_); refine wpList_whole rfl O 2 rfl rfl Try.underlying23 rfl (sP _) ?_) | (go_at_call 29; refine (CZ _).mono ?_; rintro e w8 ⟨rfl, hb⟩; replace O := O.call hb; clear hb) | ((with_reducible refine at_build 75 ?_); refine wpList_build_g rfl ([]) ((M.mat 3 M.zero).toArray) ?_ (builtTz) ?_; (focus (simp only [List.map_toArray, List.map_cons, List.map_nil]; rfl))) | ((with_reducible refine at_store 6 ?_); refine wpList_put_own O 1 (M.mat 3 (M.zero)) rfl rfl rfl (sT _) (M.mat_len2 _ _ _) (M.mat_one _ _) ?_; clear O; intro w9 O))
              refine bodyPost_ret (v := .tuple #[arr 3 M.zero, .bool false]) ?_ rfl ?_
              · exact res_h2 rfl O.held 1 rfl rfl Try.underlying34 rfl (sT _) rfl
              · exact ⟨by rw [HE.out]; rfl, O.below⟩
            · have HE := Lib.hid (show AT k = ((k, X, Y), true) from hA)
              clear hA
              go_enter Try.func15, Try.ntmps15
              go_wp2_with (first | ((with_reducible refine at_box 3 ?_); refine wpList_box_own O (M.mat 2 (a)) rfl ?_; clear O; intro g3 w1 O) | ((with_reducible refine at_box 4 ?_); refine wpList_box_own O (M.mat 2 (b)) rfl ?_; clear O; intro g4 w2 O) | ((with_reducible refine at_alloc 6 ?_); refine wpList_alloc_own O (M.mat 3 M.zero) zeroT ?_; clear O; intro g6 w3 O) | ((with_reducible refine at_load 14 ?_); refine wpList_whole rfl O 2 rfl rfl Try.underlying23 rfl (sP _) ?_) | ((with_reducible refine at_load 15 ?_); refine wpList_whole rfl O 1 rfl rfl Try.underlying23 rfl (sP _) ?_) | (go_at_call 25; refine (CO _).mono ?_; rintro e w5 ⟨x, y, rfl, hO, hb⟩; have HO := Lib.hid hO; clear hO; replace O := O.call hb; clear hb) | ((with_reducible refine at_alloc 8 ?_); refine wpList_alloc_own O (ln 0 0 0 0 false) zeroL ?_; clear O; intro g8 w6 O) | ((with_reducible refine at_store 8 ?_); refine wpList_put_own O 0 (ln f g x y true) rfl rfl rfl (sL f g x y true) rfl (ln_one f g x y true) ?_; clear O; intro w7 O) | ((with_reducible refine at_load 20 ?_); refine wpList_whole rfl O 3 rfl rfl Try.underlying23 rfl (sP _) ?_) | ((with_reducible refine at_load 21 ?_); refine wpList_whole rfl O 2 rfl rfl Try.underlying23 rfl (sP _) ?_) | ((with_reducible refine at_binOp 22 ?_); refine wpList_eqP rfl (a) (b) rfl rfl ?_; rw [HQ.out]) | ((with_reducible refine at_load 27 ?_); refine wpList_cell_h (v := .bool true) rfl O.held 0 rfl (i := 4) rfl rfl agg4 rfl ?_) | ((with_reducible refine at_load 31 ?_); refine wpList_cell_h (v := .int .i64 x) rfl O.held 0 rfl (i := 2) rfl rfl agg3 rfl ?_) | ((with_reducible refine at_load 33 ?_); refine wpList_cell_h (v := .int .i64 y) rfl O.held 0 rfl (i := 3) rfl rfl agg3 rfl ?_) | ((with_reducible refine at_load 39 ?_); refine wpList_cell_h (v := .int .i64 f) rfl O.held 0 rfl (i := 0) rfl rfl agg3 rfl ?_) | ((with_reducible refine at_load 41 ?_); refine wpList_cell_h (v := .int .i64 g) rfl O.held 0 rfl (i := 1) rfl rfl agg3 rfl ?_) | ((with_reducible refine at_load 44 ?_); refine wpList_cell_h (v := .int .i64 f) rfl O.held 0 rfl (i := 0) rfl rfl agg3 rfl ?_) | ((with_reducible refine at_load 46 ?_); refine wpList_cell_h (v := .int .i64 g) rfl O.held 0 rfl (i := 1) rfl rfl agg3 rfl ?_) | ((with_reducible refine at_load 52 ?_); refine wpList_cell_h (v := .int .i64 f) rfl O.held 0 rfl (i := 0) rfl rfl agg3 rfl ?_) | ((with_reducible refine at_load 56 ?_); refine wpList_cell_h (v := .int .i64 g) rfl O.held 0 rfl (i := 1) rfl rfl agg3 rfl ?_) | ((with_reducible refine at_load 58 ?_); refine wpList_cell_h (v := .int .i64 f) rfl O.held 0 rfl (i := 0) rfl rfl agg3 rfl ?_) | ((with_reducible refine at_load 61 ?_); refine wpList_cell_h (v := .int .i64 f) rfl O.held 0 rfl (i := 0) rfl rfl agg3 rfl ?_) | ((with_reducible refine at_load 66 ?_); refine wpList_whole rfl O 3 rfl rfl Try.underlying23 rfl (sP _) ?_) | ((with_reducible refine at_load 67 ?_); refine wpList_whole rfl O 2 rfl rfl Try.underlying23 rfl (sP _) ?_) | (go_at_call 29; refine (CZ _).mono ?_; rintro e w8 ⟨rfl, hb⟩; replace O := O.call hb; clear hb) | ((with_reducible refine at_build 79 ?_); refine wpList_build_g rfl ([(0, .int .i64 k), (1, .int .i64 X), (2, .int .i64 Y)]) ((M.mat 3 (DM.t3 k X Y)).toArray) ?_ (builtT _ _ _) ?_; (focus (simp only [List.map_toArray, List.map_cons, List.map_nil]; rfl))) | ((with_reducible refine at_store 6 ?_); refine wpList_put_own O 1 (M.mat 3 (DM.t3 k X Y)) rfl rfl rfl (sT _) (M.mat_len2 _ _ _) (M.mat_one _ _) ?_; clear O; intro w9 O))
              refine bodyPost_ret (v := .tuple #[arr 3 (DM.t3 k X Y), .bool true]) ?_ rfl ?_
              · exact res_h2 rfl O.held 1 rfl rfl Try.underlying34 rfl (sT _) rfl
              · exact ⟨by rw [HE.out]; rfl, O.below⟩
        · have hNN := PF hlt
          have hge : ¬ g < f := by omega
          have WK : wrap64 (g - f) = N := by rw [show g - f = N by omega]; exact WNN
          rcases HB with ⟨h1, hA⟩ | ⟨h1, u, X, Y, R, hu, hA, CZ⟩
          · have HE := Lib.hid hA
            have h1b : g - f ≤ (k - 1) := by omega
            clear hA hNN PN PG PF BIG AX HE1 hk LA1 LA2 LB1 LB2 hN
            go_enter Try.func15, Try.ntmps15
            go_wp2_with (first | ((with_reducible refine at_box 3 ?_); refine wpList_box_own O (M.mat 2 (a)) rfl ?_; clear O; intro g3 w1 O) | ((with_reducible refine at_box 4 ?_); refine wpList_box_own O (M.mat 2 (b)) rfl ?_; clear O; intro g4 w2 O) | ((with_reducible refine at_alloc 6 ?_); refine wpList_alloc_own O (M.mat 3 M.zero) zeroT ?_; clear O; intro g6 w3 O) | ((with_reducible refine at_load 14 ?_); refine wpList_whole rfl O 2 rfl rfl Try.underlying23 rfl (sP _) ?_) | ((with_reducible refine at_load 15 ?_); refine wpList_whole rfl O 1 rfl rfl Try.underlying23 rfl (sP _) ?_) | (go_at_call 25; refine (CO _).mono ?_; rintro e w5 ⟨x, y, rfl, hO, hb⟩; have HO := Lib.hid hO; clear hO; replace O := O.call hb; clear hb) | ((with_reducible refine at_alloc 8 ?_); refine wpList_alloc_own O (ln 0 0 0 0 false) zeroL ?_; clear O; intro g8 w6 O) | ((with_reducible refine at_store 8 ?_); refine wpList_put_own O 0 (ln f g x y true) rfl rfl rfl (sL f g x y true) rfl (ln_one f g x y true) ?_; clear O; intro w7 O) | ((with_reducible refine at_load 20 ?_); refine wpList_whole rfl O 3 rfl rfl Try.underlying23 rfl (sP _) ?_) | ((with_reducible refine at_load 21 ?_); refine wpList_whole rfl O 2 rfl rfl Try.underlying23 rfl (sP _) ?_) | ((with_reducible refine at_binOp 22 ?_); refine wpList_eqP rfl (a) (b) rfl rfl ?_; rw [HQ.out]) | ((with_reducible refine at_load 27 ?_); refine wpList_cell_h (v := .bool true) rfl O.held 0 rfl (i := 4) rfl rfl agg4 rfl ?_) | ((with_reducible refine at_load 31 ?_); refine wpList_cell_h (v := .int .i64 x) rfl O.held 0 rfl (i := 2) rfl rfl agg3 rfl ?_) | ((with_reducible refine at_load 33 ?_); refine wpList_cell_h (v := .int .i64 y) rfl O.held 0 rfl (i := 3) rfl rfl agg3 rfl ?_) | ((with_reducible refine at_load 39 ?_); refine wpList_cell_h (v := .int .i64 f) rfl O.held 0 rfl (i := 0) rfl rfl agg3 rfl ?_) | ((with_reducible refine at_load 41 ?_); refine wpList_cell_h (v := .int .i64 g) rfl O.held 0 rfl (i := 1) rfl rfl agg3 rfl ?_) | ((with_reducible refine at_load 44 ?_); refine wpList_cell_h (v := .int .i64 f) rfl O.held 0 rfl (i := 0) rfl rfl agg3 rfl ?_) | ((with_reducible refine at_load 46 ?_); refine wpList_cell_h (v := .int .i64 g) rfl O.held 0 rfl (i := 1) rfl rfl agg3 rfl ?_) | ((with_reducible refine at_load 52 ?_); refine wpList_cell_h (v := .int .i64 f) rfl O.held 0 rfl (i := 0) rfl rfl agg3 rfl ?_) | ((with_reducible refine at_load 56 ?_); refine wpList_cell_h (v := .int .i64 g) rfl O.held 0 rfl (i := 1) rfl rfl agg3 rfl ?_) | ((with_reducible refine at_load 58 ?_); refine wpList_cell_h (v := .int .i64 f) rfl O.held 0 rfl (i := 0) rfl rfl agg3 rfl ?_) | ((with_reducible refine at_load 61 ?_); refine wpList_cell_h (v := .int .i64 f) rfl O.held 0 rfl (i := 0) rfl rfl agg3 rfl ?_) | ((with_reducible refine at_build 50 ?_); refine wpList_build_g rfl ([]) ((M.mat 3 M.zero).toArray) ?_ (builtTz) ?_; (focus (simp only [List.map_toArray, List.map_cons, List.map_nil]; rfl))) | ((with_reducible refine at_store 6 ?_); refine wpList_put_own O 1 (M.mat 3 (M.zero)) rfl rfl rfl (sT _) (M.mat_len2 _ _ _) (M.mat_one _ _) ?_; clear O; intro w9 O))
            refine bodyPost_ret (v := .tuple #[arr 3 M.zero, .bool false]) ?_ rfl ?_
            · exact res_h2 rfl O.held 1 rfl rfl Try.underlying34 rfl (sT _) rfl
            · exact ⟨by rw [HE.out]; rfl, O.below⟩
          · have h1' : ¬ N ≤ (k - 1) := by omega
            have eu : u = f + (k - 1) := by omega
            subst eu
            clear hu PN PG PF BIG AX HE1
            have Wu : wrap64 (f + (k - 1)) = f + (k - 1) := IntWalk.wrap64_in _ (by omega)
            have Wu2 : wrap64 (f + (k - 1)) = f + (k - 1) := IntWalk.wrap64_in _ (by omega)
            clear hNN LA1 LA2 LB1 LB2 hN hk
            cases R
            · have HE := Lib.hid (show AT k = ((0, 0, 0), false) from hA)
              clear hA
              go_enter Try.func15, Try.ntmps15
              go_wp2_with (first | ((with_reducible refine at_box 3 ?_); refine wpList_box_own O (M.mat 2 (a)) rfl ?_; clear O; intro g3 w1 O) | ((with_reducible refine at_box 4 ?_); refine wpList_box_own O (M.mat 2 (b)) rfl ?_; clear O; intro g4 w2 O) | ((with_reducible refine at_alloc 6 ?_); refine wpList_alloc_own O (M.mat 3 M.zero) zeroT ?_; clear O; intro g6 w3 O) | ((with_reducible refine at_load 14 ?_); refine wpList_whole rfl O 2 rfl rfl Try.underlying23 rfl (sP _) ?_) | ((with_reducible refine at_load 15 ?_); refine wpList_whole rfl O 1 rfl rfl Try.underlying23 rfl (sP _) ?_) | (go_at_call 25; refine (CO _).mono ?_; rintro e w5 ⟨x, y, rfl, hO, hb⟩; have HO := Lib.hid hO; clear hO; replace O := O.call hb; clear hb) | ((with_reducible refine at_alloc 8 ?_); refine wpList_alloc_own O (ln 0 0 0 0 false) zeroL ?_; clear O; intro g8 w6 O) | ((with_reducible refine at_store 8 ?_); refine wpList_put_own O 0 (ln f g x y true) rfl rfl rfl (sL f g x y true) rfl (ln_one f g x y true) ?_; clear O; intro w7 O) | ((with_reducible refine at_load 20 ?_); refine wpList_whole rfl O 3 rfl rfl Try.underlying23 rfl (sP _) ?_) | ((with_reducible refine at_load 21 ?_); refine wpList_whole rfl O 2 rfl rfl Try.underlying23 rfl (sP _) ?_) | ((with_reducible refine at_binOp 22 ?_); refine wpList_eqP rfl (a) (b) rfl rfl ?_; rw [HQ.out]) | ((with_reducible refine at_load 27 ?_); refine wpList_cell_h (v := .bool true) rfl O.held 0 rfl (i := 4) rfl rfl agg4 rfl ?_) | ((with_reducible refine at_load 31 ?_); refine wpList_cell_h (v := .int .i64 x) rfl O.held 0 rfl (i := 2) rfl rfl agg3 rfl ?_) | ((with_reducible refine at_load 33 ?_); refine wpList_cell_h (v := .int .i64 y) rfl O.held 0 rfl (i := 3) rfl rfl agg3 rfl ?_) | ((with_reducible refine at_load 39 ?_); refine wpList_cell_h (v := .int .i64 f) rfl O.held 0 rfl (i := 0) rfl rfl agg3 rfl ?_) | ((with_reducible refine at_load 41 ?_); refine wpList_cell_h (v := .int .i64 g) rfl O.held 0 rfl (i := 1) rfl rfl agg3 rfl ?_) | ((with_reducible refine at_load 44 ?_); refine wpList_cell_h (v := .int .i64 f) rfl O.held 0 rfl (i := 0) rfl rfl agg3 rfl ?_) | ((with_reducible refine at_load 46 ?_); refine wpList_cell_h (v := .int .i64 g) rfl O.held 0 rfl (i := 1) rfl rfl agg3 rfl ?_) | ((with_reducible refine at_load 52 ?_); refine wpList_cell_h (v := .int .i64 f) rfl O.held 0 rfl (i := 0) rfl rfl agg3 rfl ?_) | ((with_reducible refine at_load 56 ?_); refine wpList_cell_h (v := .int .i64 g) rfl O.held 0 rfl (i := 1) rfl rfl agg3 rfl ?_) | ((with_reducible refine at_load 58 ?_); refine wpList_cell_h (v := .int .i64 f) rfl O.held 0 rfl (i := 0) rfl rfl agg3 rfl ?_) | ((with_reducible refine at_load 61 ?_); refine wpList_cell_h (v := .int .i64 f) rfl O.held 0 rfl (i := 0) rfl rfl agg3 rfl ?_) | ((with_reducible refine at_load 66 ?_); refine wpList_whole rfl O 3 rfl rfl Try.underlying23 rfl (sP _) ?_) | ((with_reducible refine at_load 67 ?_); refine wpList_whole rfl O 2 rfl rfl Try.underlying23 rfl (sP _) ?_) | (go_at_call 29; refine (CZ _).mono ?_; rintro e w8 ⟨rfl, hb⟩; replace O := O.call hb; clear hb) | ((with_reducible refine at_build 75 ?_); refine wpList_build_g rfl ([]) ((M.mat 3 M.zero).toArray) ?_ (builtTz) ?_; (focus (simp only [List.map_toArray, List.map_cons, List.map_nil]; rfl))) | ((with_reducible refine at_store 6 ?_); refine wpList_put_own O 1 (M.mat 3 (M.zero)) rfl rfl rfl (sT _) (M.mat_len2 _ _ _) (M.mat_one _ _) ?_; clear O; intro w9 O))
              refine bodyPost_ret (v := .tuple #[arr 3 M.zero, .bool false]) ?_ rfl ?_
              · exact res_h2 rfl O.held 1 rfl rfl Try.underlying34 rfl (sT _) rfl
              · exact ⟨by rw [HE.out]; rfl, O.below⟩
            · have HE := Lib.hid (show AT k = ((k, X, Y), true) from hA)
              clear hA
              go_enter Try.func15, Try.ntmps15
              go_wp2_with (first | ((with_reducible refine at_box 3 ?_); refine wpList_box_own O (M.mat 2 (a)) rfl ?_; clear O; intro g3 w1 O) | ((with_reducible refine at_box 4 ?_); refine wpList_box_own O (M.mat 2 (b)) rfl ?_; clear O; intro g4 w2 O) | ((with_reducible refine at_alloc 6 ?_); refine wpList_alloc_own O (M.mat 3 M.zero) zeroT ?_; clear O; intro g6 w3 O) | ((with_reducible refine at_load 14 ?_); refine wpList_whole rfl O 2 rfl rfl Try.underlying23 rfl (sP _) ?_) | ((with_reducible refine at_load 15 ?_); refine wpList_whole rfl O 1 rfl rfl Try.underlying23 rfl (sP _) ?_) | (go_at_call 25; refine (CO _).mono ?_; rintro e w5 ⟨x, y, rfl, hO, hb⟩; have HO := Lib.hid hO; clear hO; replace O := O.call hb; clear hb) | ((with_reducible refine at_alloc 8 ?_); refine wpList_alloc_own O (ln 0 0 0 0 false) zeroL ?_; clear O; intro g8 w6 O) | ((with_reducible refine at_store 8 ?_); refine wpList_put_own O 0 (ln f g x y true) rfl rfl rfl (sL f g x y true) rfl (ln_one f g x y true) ?_; clear O; intro w7 O) | ((with_reducible refine at_load 20 ?_); refine wpList_whole rfl O 3 rfl rfl Try.underlying23 rfl (sP _) ?_) | ((with_reducible refine at_load 21 ?_); refine wpList_whole rfl O 2 rfl rfl Try.underlying23 rfl (sP _) ?_) | ((with_reducible refine at_binOp 22 ?_); refine wpList_eqP rfl (a) (b) rfl rfl ?_; rw [HQ.out]) | ((with_reducible refine at_load 27 ?_); refine wpList_cell_h (v := .bool true) rfl O.held 0 rfl (i := 4) rfl rfl agg4 rfl ?_) | ((with_reducible refine at_load 31 ?_); refine wpList_cell_h (v := .int .i64 x) rfl O.held 0 rfl (i := 2) rfl rfl agg3 rfl ?_) | ((with_reducible refine at_load 33 ?_); refine wpList_cell_h (v := .int .i64 y) rfl O.held 0 rfl (i := 3) rfl rfl agg3 rfl ?_) | ((with_reducible refine at_load 39 ?_); refine wpList_cell_h (v := .int .i64 f) rfl O.held 0 rfl (i := 0) rfl rfl agg3 rfl ?_) | ((with_reducible refine at_load 41 ?_); refine wpList_cell_h (v := .int .i64 g) rfl O.held 0 rfl (i := 1) rfl rfl agg3 rfl ?_) | ((with_reducible refine at_load 44 ?_); refine wpList_cell_h (v := .int .i64 f) rfl O.held 0 rfl (i := 0) rfl rfl agg3 rfl ?_) | ((with_reducible refine at_load 46 ?_); refine wpList_cell_h (v := .int .i64 g) rfl O.held 0 rfl (i := 1) rfl rfl agg3 rfl ?_) | ((with_reducible refine at_load 52 ?_); refine wpList_cell_h (v := .int .i64 f) rfl O.held 0 rfl (i := 0) rfl rfl agg3 rfl ?_) | ((with_reducible refine at_load 56 ?_); refine wpList_cell_h (v := .int .i64 g) rfl O.held 0 rfl (i := 1) rfl rfl agg3 rfl ?_) | ((with_reducible refine at_load 58 ?_); refine wpList_cell_h (v := .int .i64 f) rfl O.held 0 rfl (i := 0) rfl rfl agg3 rfl ?_) | ((with_reducible refine at_load 61 ?_); refine wpList_cell_h (v := .int .i64 f) rfl O.held 0 rfl (i := 0) rfl rfl agg3 rfl ?_) | ((with_reducible refine at_load 66 ?_); refine wpList_whole rfl O 3 rfl rfl Try.underlying23 rfl (sP _) ?_) | ((with_reducible refine at_load 67 ?_); refine wpList_whole rfl O 2 rfl rfl Try.underlying23 rfl (sP _) ?_) | (go_at_call 29; refine (CZ _).mono ?_; rintro e w8 ⟨rfl, hb⟩; replace O := O.call hb; clear hb) | ((with_reducible refine at_build 79 ?_); refine wpList_build_g rfl ([(0, .int .i64 k), (1, .int .i64 X), (2, .int .i64 Y)]) ((M.mat 3 (DM.t3 k X Y)).toArray) ?_ (builtT _ _ _) ?_; (focus (simp only [List.map_toArray, List.map_cons, List.map_nil]; rfl))) | ((with_reducible refine at_store 6 ?_); refine wpList_put_own O 1 (M.mat 3 (DM.t3 k X Y)) rfl rfl rfl (sT _) (M.mat_len2 _ _ _) (M.mat_one _ _) ?_; clear O; intro w9 O))
              refine bodyPost_ret (v := .tuple #[arr 3 (DM.t3 k X Y), .bool true]) ?_ rfl ?_
              · exact res_h2 rfl O.held 1 rfl rfl Try.underlying34 rfl (sT _) rfl
              · exact ⟨by rw [HE.out]; rfl, O.below⟩
        · have hN0 : N = 0 := PN hlt
          have HE : Hid (AT k = ((0, 0, 0), false)) := by
            rcases HB with ⟨_, hA⟩ | ⟨h1, _⟩
            · exact Lib.hid hA
            · omega
          subst hlt
          subst hN0
          have WK : wrap64 (f - f) = 0 := by rw [Int.sub_self]; exact WNN
          clear HB PN PG PF BIG AX HE1 hk hN
          go_enter Try.func15, Try.ntmps15
          go_wp2_with (first | ((with_reducible refine at_box 3 ?_); refine wpList_box_own O (M.mat 2 (a)) rfl ?_; clear O; intro g3 w1 O) | ((with_reducible refine at_box 4 ?_); refine wpList_box_own O (M.mat 2 (b)) rfl ?_; clear O; intro g4 w2 O) | ((with_reducible refine at_alloc 6 ?_); refine wpList_alloc_own O (M.mat 3 M.zero) zeroT ?_; clear O; intro g6 w3 O) | ((with_reducible refine at_load 14 ?_); refine wpList_whole rfl O 2 rfl rfl Try.underlying23 rfl (sP _) ?_) | ((with_reducible refine at_load 15 ?_); refine wpList_whole rfl O 1 rfl rfl Try.underlying23 rfl (sP _) ?_) | (go_at_call 25; refine (CO _).mono ?_; rintro e w5 ⟨x, y, rfl, hO, hb⟩; have HO := Lib.hid hO; clear hO; replace O := O.call hb; clear hb) | ((with_reducible refine at_alloc 8 ?_); refine wpList_alloc_own O (ln 0 0 0 0 false) zeroL ?_; clear O; intro g8 w6 O) | ((with_reducible refine at_store 8 ?_); refine wpList_put_own O 0 (ln f f x y true) rfl rfl rfl (sL f f x y true) rfl (ln_one f f x y true) ?_; clear O; intro w7 O) | ((with_reducible refine at_load 20 ?_); refine wpList_whole rfl O 3 rfl rfl Try.underlying23 rfl (sP _) ?_) | ((with_reducible refine at_load 21 ?_); refine wpList_whole rfl O 2 rfl rfl Try.underlying23 rfl (sP _) ?_) | ((with_reducible refine at_binOp 22 ?_); refine wpList_eqP rfl (a) (b) rfl rfl ?_; rw [HQ.out]) | ((with_reducible refine at_load 27 ?_); refine wpList_cell_h (v := .bool true) rfl O.held 0 rfl (i := 4) rfl rfl agg4 rfl ?_) | ((with_reducible refine at_load 31 ?_); refine wpList_cell_h (v := .int .i64 x) rfl O.held 0 rfl (i := 2) rfl rfl agg3 rfl ?_) | ((with_reducible refine at_load 33 ?_); refine wpList_cell_h (v := .int .i64 y) rfl O.held 0 rfl (i := 3) rfl rfl agg3 rfl ?_) | ((with_reducible refine at_load 39 ?_); refine wpList_cell_h (v := .int .i64 f) rfl O.held 0 rfl (i := 0) rfl rfl agg3 rfl ?_) | ((with_reducible refine at_load 41 ?_); refine wpList_cell_h (v := .int .i64 f) rfl O.held 0 rfl (i := 1) rfl rfl agg3 rfl ?_) | ((with_reducible refine at_load 44 ?_); refine wpList_cell_h (v := .int .i64 f) rfl O.held 0 rfl (i := 0) rfl rfl agg3 rfl ?_) | ((with_reducible refine at_load 46 ?_); refine wpList_cell_h (v := .int .i64 f) rfl O.held 0 rfl (i := 1) rfl rfl agg3 rfl ?_) | ((with_reducible refine at_load 52 ?_); refine wpList_cell_h (v := .int .i64 f) rfl O.held 0 rfl (i := 0) rfl rfl agg3 rfl ?_) | ((with_reducible refine at_load 56 ?_); refine wpList_cell_h (v := .int .i64 f) rfl O.held 0 rfl (i := 1) rfl rfl agg3 rfl ?_) | ((with_reducible refine at_load 58 ?_); refine wpList_cell_h (v := .int .i64 f) rfl O.held 0 rfl (i := 0) rfl rfl agg3 rfl ?_) | ((with_reducible refine at_load 61 ?_); refine wpList_cell_h (v := .int .i64 f) rfl O.held 0 rfl (i := 0) rfl rfl agg3 rfl ?_) | ((with_reducible refine at_build 50 ?_); refine wpList_build_g rfl ([]) ((M.mat 3 M.zero).toArray) ?_ (builtTz) ?_; (focus (simp only [List.map_toArray, List.map_cons, List.map_nil]; rfl))) | ((with_reducible refine at_store 6 ?_); refine wpList_put_own O 1 (M.mat 3 (M.zero)) rfl rfl rfl (sT _) (M.mat_len2 _ _ _) (M.mat_one _ _) ?_; clear O; intro w9 O))
          refine bodyPost_ret (v := .tuple #[arr 3 M.zero, .bool false]) ?_ rfl ?_
          · exact res_h2 rfl O.held 1 rfl rfl Try.underlying34 rfl (sT _) rfl
          · exact ⟨by rw [HE.out]; rfl, O.below⟩
end Go.Proofs.Ytheolajpjpnfjaa
