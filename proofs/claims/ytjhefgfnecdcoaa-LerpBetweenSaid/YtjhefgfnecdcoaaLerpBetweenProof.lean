/-
  LerpBetween: depths and colors lie among those of the ends; from the other end the same stands.
-/
import Derived.Test.YtjhefgfnecdcoaaVi
import Derived.Deep.DeepCutAuto
namespace Go.Proofs.Ytjhefgfnecdcoaa.lerpBetween
open Go.ChangeShapes Go.WideShapes Go.ChangeAt Go.RowKit
set_option linter.unusedVariables false
set_option linter.unusedSimpArgs false

theorem own : ownKnob Try.prog.godebug = none := by kernel_rfl
theorem along_same {a b : Nat → Int} (h : ¬ (a 0 = b 0 ∧ a 1 = b 1)) (X Y : Int) : (∀ p q, VM.mid q p (VM.nA (b 0) (b 1) (a 0) (a 1) X Y) (VM.dA (b 0) (b 1) (a 0) (a 1)) = VM.mid p q (VM.nA (a 0) (a 1) (b 0) (b 1) X Y) (VM.dA (a 0) (a 1) (b 0) (b 1))) ∧ VM.col b a (VM.nA (b 0) (b 1) (a 0) (a 1) X Y) (VM.dA (b 0) (b 1) (a 0) (a 1)) = VM.col a b (VM.nA (a 0) (a 1) (b 0) (b 1) X Y) (VM.dA (a 0) (a 1) (b 0) (b 1)) := by
  obtain ⟨h1, h2, h3⟩ := VM.along_back (X := X) (Y := Y) h
  have e : ∀ p q, VM.mid q p (VM.nA (b 0) (b 1) (a 0) (a 1) X Y) (VM.dA (b 0) (b 1) (a 0) (a 1)) = VM.mid p q (VM.nA (a 0) (a 1) (b 0) (b 1) X Y) (VM.dA (a 0) (a 1) (b 0) (b 1)) := fun p q => by rw [h2, h3]; exact VM.mid_back h1
  exact ⟨e, funext fun i => e _ _⟩
theorem across_same {a b : Nat → Int} (h : ¬ (a 0 = b 0 ∧ a 1 = b 1)) (X Y : Int) : (∀ p q, VM.mid q p (VM.nC (b 0) (b 1) (a 0) (a 1) X Y) (VM.dC (b 0) (b 1) (a 0) (a 1)) = VM.mid p q (VM.nC (a 0) (a 1) (b 0) (b 1) X Y) (VM.dC (a 0) (a 1) (b 0) (b 1))) ∧ VM.col b a (VM.nC (b 0) (b 1) (a 0) (a 1) X Y) (VM.dC (b 0) (b 1) (a 0) (a 1)) = VM.col a b (VM.nC (a 0) (a 1) (b 0) (b 1) X Y) (VM.dC (a 0) (a 1) (b 0) (b 1)) := by
  obtain ⟨h1, h2, h3⟩ := VM.across_back (X := X) (Y := Y) h
  have e : ∀ p q, VM.mid q p (VM.nC (b 0) (b 1) (a 0) (a 1) X Y) (VM.dC (b 0) (b 1) (a 0) (a 1)) = VM.mid p q (VM.nC (a 0) (a 1) (b 0) (b 1) X Y) (VM.dC (a 0) (a 1) (b 0) (b 1)) := fun p q => by rw [h2, h3]; exact VM.mid_back h1
  exact ⟨e, funext fun i => e _ _⟩

set_option maxRecDepth 100000 in
set_option maxHeartbeats 16000000 in
theorem walk (w : World) (a b p : Nat → Int) :
    Calls Try.prog 5 #[arr 7 a, arr 7 b, arr 2 p] w fun e w' => e = .returned (.bool true) ∧ Below w.heap.size w w' := by
  have O := Own.start w
  have FA := fun w => fits_any a w
  have FB := fun w => fits_any b w
  have FN := fun w => near_any p w
  have tok0 : True := trivial
  cases h1 : VM.fit a
  · rw [h1] at FA
    clear h1 FB FN
    go_enter Try.func5, Try.ntmps5
    go_wp2_with (first | ((with_reducible refine at_box 3 ?_); refine wpList_box_own O (M.mat 7 (a)) rfl ?_; clear O; intro g3 w1 O) | ((with_reducible refine at_box 4 ?_); refine wpList_box_own O (M.mat 7 (b)) rfl ?_; clear O; intro g4 w2 O) | ((with_reducible refine at_box 5 ?_); refine wpList_box_own O (M.mat 2 (p)) rfl ?_; clear O; intro g5 w3 O) | ((with_reducible refine at_load 20 ?_); refine wpList_whole rfl O 2 rfl rfl Try.underlying30 rfl (sW _) ?_) | (go_at_call 11; clear tok0; have tok1 : True := trivial; refine (FA _).mono ?_; rintro e w4 ⟨rfl, hb⟩; replace O := O.call hb; clear hb) | (go_at_call 8; refine (awake_any _).mono ?_; rintro e w30 ⟨rfl, hb⟩; replace O := O.call hb; clear hb))
    go_ret
    exact ⟨rfl, O.below⟩
  · cases h2 : VM.fit b
    · rw [h1] at FA
      rw [h2] at FB
      clear h1 h2 FN
      go_enter Try.func5, Try.ntmps5
      go_wp2_with (first | ((with_reducible refine at_box 3 ?_); refine wpList_box_own O (M.mat 7 (a)) rfl ?_; clear O; intro g3 w1 O) | ((with_reducible refine at_box 4 ?_); refine wpList_box_own O (M.mat 7 (b)) rfl ?_; clear O; intro g4 w2 O) | ((with_reducible refine at_box 5 ?_); refine wpList_box_own O (M.mat 2 (p)) rfl ?_; clear O; intro g5 w3 O) | ((with_reducible refine at_load 20 ?_); refine wpList_whole rfl O 2 rfl rfl Try.underlying30 rfl (sW _) ?_) | (go_at_call 11; clear tok0; have tok1 : True := trivial; refine (FA _).mono ?_; rintro e w4 ⟨rfl, hb⟩; replace O := O.call hb; clear hb) | ((with_reducible refine at_load 24 ?_); refine wpList_whole rfl O 1 rfl rfl Try.underlying30 rfl (sW _) ?_) | (go_at_call 11; clear tok1; have tok2 : True := trivial; refine (FB _).mono ?_; rintro e w5 ⟨rfl, hb⟩; replace O := O.call hb; clear hb) | (go_at_call 8; refine (awake_any _).mono ?_; rintro e w30 ⟨rfl, hb⟩; replace O := O.call hb; clear hb))
      go_ret
      exact ⟨rfl, O.below⟩
    · cases h3 : VM.near p
      · rw [h1] at FA
        rw [h2] at FB
        rw [h3] at FN
        clear h1 h2 h3
        go_enter Try.func5, Try.ntmps5
        go_wp2_with (first | ((with_reducible refine at_box 3 ?_); refine wpList_box_own O (M.mat 7 (a)) rfl ?_; clear O; intro g3 w1 O) | ((with_reducible refine at_box 4 ?_); refine wpList_box_own O (M.mat 7 (b)) rfl ?_; clear O; intro g4 w2 O) | ((with_reducible refine at_box 5 ?_); refine wpList_box_own O (M.mat 2 (p)) rfl ?_; clear O; intro g5 w3 O) | ((with_reducible refine at_load 20 ?_); refine wpList_whole rfl O 2 rfl rfl Try.underlying30 rfl (sW _) ?_) | (go_at_call 11; clear tok0; have tok1 : True := trivial; refine (FA _).mono ?_; rintro e w4 ⟨rfl, hb⟩; replace O := O.call hb; clear hb) | ((with_reducible refine at_load 24 ?_); refine wpList_whole rfl O 1 rfl rfl Try.underlying30 rfl (sW _) ?_) | (go_at_call 11; clear tok1; have tok2 : True := trivial; refine (FB _).mono ?_; rintro e w5 ⟨rfl, hb⟩; replace O := O.call hb; clear hb) | ((with_reducible refine at_load 29 ?_); refine wpList_whole rfl O 0 rfl rfl Try.underlying22 rfl (sD _) ?_) | (go_at_call 12; refine (FN _).mono ?_; rintro e w6 ⟨rfl, hb⟩; replace O := O.call hb; clear hb) | (go_at_call 8; refine (awake_any _).mono ?_; rintro e w30 ⟨rfl, hb⟩; replace O := O.call hb; clear hb))
        go_ret
        exact ⟨rfl, O.below⟩
      · have tokz : True := trivial
        obtain ⟨X, eX⟩ : ∃ z, p 0 = z := ⟨_, rfl⟩
        have CX := cell_is (n := 2) eX (by decide)
        obtain ⟨Y, eY⟩ : ∃ z, p 1 = z := ⟨_, rfl⟩
        have CY := cell_is (n := 2) eY (by decide)
        obtain ⟨p0, ep0⟩ : ∃ z, a 0 = z := ⟨_, rfl⟩
        have Cp0 := cell_is (n := 7) ep0 (by decide)
        obtain ⟨p1, ep1⟩ : ∃ z, a 1 = z := ⟨_, rfl⟩
        have Cp1 := cell_is (n := 7) ep1 (by decide)
        obtain ⟨q0, eq0⟩ : ∃ z, b 0 = z := ⟨_, rfl⟩
        have Cq0 := cell_is (n := 7) eq0 (by decide)
        obtain ⟨q1, eq1⟩ : ∃ z, b 1 = z := ⟨_, rfl⟩
        have Cq1 := cell_is (n := 7) eq1 (by decide)
        cases k1 : (p0 == q0) <;> cases k2 : (p1 == q1)
        · have hne : ¬ (a 0 = b 0 ∧ a 1 = b 1) := by
            rw [ep0, ep1, eq0, eq1]
            simp at k1 k2
            omega
          obtain ⟨n0, n1⟩ := VM.near_lim h3
          have C1 := fun w => palong_any a b (p 0) (p 1) h1 h2 n0 n1 w
          have C2 := fun w => palong_any b a (p 0) (p 1) h2 h1 n0 n1 w
          have C3 := fun w => pacross_any a b (p 0) (p 1) h1 h2 n0 n1 w
          have C4 := fun w => pacross_any b a (p 0) (p 1) h2 h1 n0 n1 w
          rw [eX, eY] at C1 C2 C3 C4
          have s1 := along_same hne X Y
          have s3 := across_same hne X Y
          rw [s1.1 (a 2) (b 2), s1.2] at C2
          rw [s3.1 (a 2) (b 2), s3.2] at C4
          clear s1 s3
          have Bz := VM.mid_between (a 2) (b 2) (VM.nA (a 0) (a 1) (b 0) (b 1) X Y) (d := (VM.dA (a 0) (a 1) (b 0) (b 1)))
          have HBz : Hid (∀ i, min (a (3 + i)) (b (3 + i)) ≤ VM.col a b (VM.nA (a 0) (a 1) (b 0) (b 1) X Y) (VM.dA (a 0) (a 1) (b 0) (b 1)) i ∧ VM.col a b (VM.nA (a 0) (a 1) (b 0) (b 1) X Y) (VM.dA (a 0) (a 1) (b 0) (b 1)) i ≤ max (a (3 + i)) (b (3 + i))) := Lib.hid (fun i => VM.mid_between _ _ _)
          generalize VM.mid (a 2) (b 2) (VM.nA (a 0) (a 1) (b 0) (b 1) X Y) (VM.dA (a 0) (a 1) (b 0) (b 1)) = z at C1 C2 Bz
          generalize VM.col a b (VM.nA (a 0) (a 1) (b 0) (b 1) X Y) (VM.dA (a 0) (a 1) (b 0) (b 1)) = c at C1 C2 HBz
          have By := VM.mid_between (a 2) (b 2) (VM.nC (a 0) (a 1) (b 0) (b 1) X Y) (d := (VM.dC (a 0) (a 1) (b 0) (b 1)))
          have HBy : Hid (∀ i, min (a (3 + i)) (b (3 + i)) ≤ VM.col a b (VM.nC (a 0) (a 1) (b 0) (b 1) X Y) (VM.dC (a 0) (a 1) (b 0) (b 1)) i ∧ VM.col a b (VM.nC (a 0) (a 1) (b 0) (b 1) X Y) (VM.dC (a 0) (a 1) (b 0) (b 1)) i ≤ max (a (3 + i)) (b (3 + i))) := Lib.hid (fun i => VM.mid_between _ _ _)
          generalize VM.mid (a 2) (b 2) (VM.nC (a 0) (a 1) (b 0) (b 1) X Y) (VM.dC (a 0) (a 1) (b 0) (b 1)) = y at C3 C4 By
          generalize VM.col a b (VM.nC (a 0) (a 1) (b 0) (b 1) X Y) (VM.dC (a 0) (a 1) (b 0) (b 1)) = e' at C3 C4 HBy
          have BZ := Lib.hid (And.intro Bz By)
          rw [h1] at FA
          rw [h2] at FB
          rw [h3] at FN
          have D1 := Lib.hid C1
          have D2 := Lib.hid C2
          have D3 := Lib.hid C3
          have D4 := Lib.hid C4
          clear h1 h2 h3 n0 n1 eX eY C1 C2 C3 C4 Bz By hne ep0 ep1 eq0 eq1
          go_enter Try.func5, Try.ntmps5
          go_wp2_with (first | ((with_reducible refine at_box 3 ?_); refine wpList_box_own O (M.mat 7 (a)) rfl ?_; clear O; intro g3 w1 O) | ((with_reducible refine at_box 4 ?_); refine wpList_box_own O (M.mat 7 (b)) rfl ?_; clear O; intro g4 w2 O) | ((with_reducible refine at_box 5 ?_); refine wpList_box_own O (M.mat 2 (p)) rfl ?_; clear O; intro g5 w3 O) | ((with_reducible refine at_load 20 ?_); refine wpList_whole rfl O 2 rfl rfl Try.underlying30 rfl (sW _) ?_) | (go_at_call 11; clear tok0; have tok1 : True := trivial; refine (FA _).mono ?_; rintro e w4 ⟨rfl, hb⟩; replace O := O.call hb; clear hb) | ((with_reducible refine at_load 24 ?_); refine wpList_whole rfl O 1 rfl rfl Try.underlying30 rfl (sW _) ?_) | (go_at_call 11; clear tok1; have tok2 : True := trivial; refine (FB _).mono ?_; rintro e w5 ⟨rfl, hb⟩; replace O := O.call hb; clear hb) | ((with_reducible refine at_load 29 ?_); refine wpList_whole rfl O 0 rfl rfl Try.underlying22 rfl (sD _) ?_) | (go_at_call 12; refine (FN _).mono ?_; rintro e w6 ⟨rfl, hb⟩; replace O := O.call hb; clear hb) | ((with_reducible refine at_load 35 ?_); refine wpList_cell_h (v := .int .i64 (p0)) rfl O.held 2 rfl Cp0.out rfl agg3 rfl ?_) | ((with_reducible refine at_load 37 ?_); refine wpList_cell_h (v := .int .i64 (q0)) rfl O.held 1 rfl Cq0.out rfl agg3 rfl ?_) | ((with_reducible refine at_load 49 ?_); refine wpList_whole rfl O 2 rfl rfl Try.underlying30 rfl (sW _) ?_) | ((with_reducible refine at_load 50 ?_); refine wpList_whole rfl O 1 rfl rfl Try.underlying30 rfl (sW _) ?_) | ((with_reducible refine at_load 52 ?_); refine wpList_cell_h (v := .int .i64 (X)) rfl O.held 0 rfl CX.out rfl agg3 rfl ?_) | ((with_reducible refine at_load 54 ?_); refine wpList_cell_h (v := .int .i64 (Y)) rfl O.held 0 rfl CY.out rfl agg3 rfl ?_) | (go_at_call 13; clear tok2; have tok3 : True := trivial; refine (D1.out _).mono ?_; rintro e w7 ⟨rfl, hb⟩; replace O := O.call hb; clear hb) | ((with_reducible refine at_alloc 8 ?_); refine wpList_alloc_own O (M.mat 4 M.zero) zeroC ?_; clear O; intro g8 w8 O) | ((with_reducible refine at_store 8 ?_); refine wpList_put_own O 0 (M.mat 4 (c)) rfl rfl rfl (sC _) (M.mat_len2 _ _ _) (M.mat_one _ _) ?_; clear O; intro w9 O) | ((with_reducible refine at_load 59 ?_); refine wpList_whole rfl O 2 rfl rfl Try.underlying30 rfl (sW _) ?_) | ((with_reducible refine at_load 60 ?_); refine wpList_whole rfl O 3 rfl rfl Try.underlying30 rfl (sW _) ?_) | ((with_reducible refine at_load 62 ?_); refine wpList_cell_h (v := .int .i64 (X)) rfl O.held 1 rfl CX.out rfl agg3 rfl ?_) | ((with_reducible refine at_load 64 ?_); refine wpList_cell_h (v := .int .i64 (Y)) rfl O.held 1 rfl CY.out rfl agg3 rfl ?_) | (go_at_call 13; clear tok3; have tok4 : True := trivial; refine (D2.out _).mono ?_; rintro e w10 ⟨rfl, hb⟩; replace O := O.call hb; clear hb) | ((with_reducible refine at_alloc 10 ?_); refine wpList_alloc_own O (M.mat 4 M.zero) zeroC ?_; clear O; intro g10 w11 O) | ((with_reducible refine at_store 10 ?_); refine wpList_put_own O 0 (M.mat 4 (c)) rfl rfl rfl (sC _) (M.mat_len2 _ _ _) (M.mat_one _ _) ?_; clear O; intro w12 O) | ((with_reducible refine at_load 69 ?_); refine wpList_whole rfl O 4 rfl rfl Try.underlying30 rfl (sW _) ?_) | ((with_reducible refine at_load 70 ?_); refine wpList_whole rfl O 3 rfl rfl Try.underlying30 rfl (sW _) ?_) | ((with_reducible refine at_load 72 ?_); refine wpList_cell_h (v := .int .i64 (X)) rfl O.held 2 rfl CX.out rfl agg3 rfl ?_) | ((with_reducible refine at_load 74 ?_); refine wpList_cell_h (v := .int .i64 (Y)) rfl O.held 2 rfl CY.out rfl agg3 rfl ?_) | (go_at_call 15; clear tok4; have tok5 : True := trivial; refine (D3.out _).mono ?_; rintro e w13 ⟨rfl, hb⟩; replace O := O.call hb; clear hb) | ((with_reducible refine at_alloc 12 ?_); refine wpList_alloc_own O (M.mat 4 M.zero) zeroC ?_; clear O; intro g12 w14 O) | ((with_reducible refine at_store 12 ?_); refine wpList_put_own O 0 (M.mat 4 (e')) rfl rfl rfl (sC _) (M.mat_len2 _ _ _) (M.mat_one _ _) ?_; clear O; intro w15 O) | ((with_reducible refine at_load 79 ?_); refine wpList_whole rfl O 4 rfl rfl Try.underlying30 rfl (sW _) ?_) | ((with_reducible refine at_load 80 ?_); refine wpList_whole rfl O 5 rfl rfl Try.underlying30 rfl (sW _) ?_) | ((with_reducible refine at_load 82 ?_); refine wpList_cell_h (v := .int .i64 (X)) rfl O.held 3 rfl CX.out rfl agg3 rfl ?_) | ((with_reducible refine at_load 84 ?_); refine wpList_cell_h (v := .int .i64 (Y)) rfl O.held 3 rfl CY.out rfl agg3 rfl ?_) | (go_at_call 15; clear tok5; have tok6 : True := trivial; refine (D4.out _).mono ?_; rintro e w16 ⟨rfl, hb⟩; replace O := O.call hb; clear hb) | ((with_reducible refine at_alloc 14 ?_); refine wpList_alloc_own O (M.mat 4 M.zero) zeroC ?_; clear O; intro g14 w17 O) | ((with_reducible refine at_store 14 ?_); refine wpList_put_own O 0 (M.mat 4 (e')) rfl rfl rfl (sC _) (M.mat_len2 _ _ _) (M.mat_one _ _) ?_; clear O; intro w18 O))
          clear tok6 k1 k2 FA FB FN D1 D2 D3 D4 CX CY Cp0 Cp1 Cq0 Cq1
          go_loopw [15] (fun u wr => ∃ k : Nat, k ≤ 4 ∧ u = .int .i64 k ∧ Own w wr [(g14, 28, M.mat 4 e'), (g12, 28, M.mat 4 e'), (g10, 28, M.mat 4 c), (g8, 28, M.mat 4 c), (g5, 22, M.mat 2 p), (g4, 30, M.mat 7 b), (g3, 30, M.mat 7 a)]) (fun t _ => 4 - (intOf t).toNat)
          case atStart => exact ⟨0, by omega, rfl, O⟩
          case round =>
            clear O
            obtain ⟨k, hk, rfl, O⟩ := hrel
            have q0 : (0 : Int) ≤ k := by omega
            by_cases hlt : k < 4
            · have q1 : (k : Int) < 4 := by omega
              have b1 := HBz.out k
              have b2 := HBy.out k
              obtain ⟨x, hx⟩ : ∃ z, a (3 + k) = z := ⟨_, rfl⟩
              obtain ⟨v, hv⟩ : ∃ z, b (3 + k) = z := ⟨_, rfl⟩
              obtain ⟨m, hm⟩ : ∃ z, c k = z := ⟨_, rfl⟩
              obtain ⟨n, hn⟩ : ∃ z, e' k = z := ⟨_, rfl⟩
              have CA := cell_is (n := 7) hx (by omega)
              have CB := cell_is (n := 7) hv (by omega)
              have CC := cell_is (n := 4) hm hlt
              have CE := cell_is (n := 4) hn hlt
              have CC0 := cell_is (n := 4) (i := 0 + k) (a := c) (z := m) (by rw [Nat.zero_add]; exact hm) (by omega)
              have CE0 := cell_is (n := 4) (i := 0 + k) (a := e') (z := n) (by rw [Nat.zero_add]; exact hn) (by omega)
              rw [hx, hv, hm] at b1
              rw [hx, hv, hn] at b2
              obtain ⟨lo, hlo⟩ : ∃ z, min x v = z := ⟨_, rfl⟩
              obtain ⟨hi, hhi⟩ : ∃ z, max x v = z := ⟨_, rfl⟩
              have HL : Hid (min x v = lo ∧ (if v < x then v else x) = lo) := Lib.hid ⟨hlo, (min_if x v).trans hlo⟩
              have HH : Hid (max x v = hi ∧ (if x < v then v else x) = hi) := Lib.hid ⟨hhi, (max_if x v).trans hhi⟩
              have K1 : decide (m < lo) = false := decide_eq_false (by omega)
              have K2 : decide (hi < m) = false := decide_eq_false (by omega)
              have K3 : decide (n < lo) = false := decide_eq_false (by omega)
              have K4 : decide (hi < n) = false := decide_eq_false (by omega)
              clear hx hv hm hn b1 b2 hlo hhi
              go_wp2_with fail
              have OO := O
              clear O
              have O := OO
              clear OO
              refine region_T ((fun w2 => Own w w2 [(g14, 28, M.mat 4 e'), (g12, 28, M.mat 4 e'), (g10, 28, M.mat 4 c), (g8, 28, M.mat 4 c), (g5, 22, M.mat 2 p), (g4, 30, M.mat 7 b), (g3, 30, M.mat 7 a)])) [0, 1, 2, 3, 4, 5, 6, 7, 8, 9, 10, 11, 12, 13, 14, 15, 16, 17, 18] 12 [some 92, some 93, some 94, some 95, some 96, some 97, some 98, some 99, some 100, some 101, some 102, some 103, some 104, some 105, some 106, some 107, some 108, some 109, some 16] [.int .i64 k, .pointer (some ⟨g3, 3, none⟩), .pointer (some ⟨g3, 3 + k, none⟩), .int .i64 x, .int .i64 k, .pointer (some ⟨g4, 3, none⟩), .pointer (some ⟨g4, 3 + k, none⟩), .int .i64 v, .int .i64 lo, .int .i64 k, .pointer (some ⟨g3, 3, none⟩), .pointer (some ⟨g3, 3 + k, none⟩), .int .i64 x, .int .i64 k, .pointer (some ⟨g4, 3, none⟩), .pointer (some ⟨g4, 3 + k, none⟩), .int .i64 v, .int .i64 hi, .int .i64 lo] 1 (by kernel_rfl) (by rfl) (by kernel_rfl) (by rfl) (by rfl) (O.drew) (fun F hF => ?_)
              simp only [fillD, Act.put, List.setIfInBounds_toArray, List.set_cons_zero, List.set_cons_succ] at hF
              subst hF
              refine ⟨⟨does_want rfl (by rfl) (fun w' O K hK => ?_), does_want rfl (by rfl) (fun w' O K hK => ?_), does_want rfl (by rfl) (fun w' O K hK => ?_), does_want rfl (by rfl) (fun w' O K hK => ?_), does_want rfl (by rfl) (fun w' O K hK => ?_), does_want rfl (by rfl) (fun w' O K hK => ?_), does_want rfl (by rfl) (fun w' O K hK => ?_), does_want rfl (by rfl) (fun w' O K hK => ?_), does_want rfl (by rfl) (fun w' O K hK => ?_), does_want rfl (by rfl) (fun w' O K hK => ?_), does_want rfl (by rfl) (fun w' O K hK => ?_), does_want rfl (by rfl) (fun w' O K hK => ?_), does_want rfl (by rfl) (fun w' O K hK => ?_), does_want rfl (by rfl) (fun w' O K hK => ?_), does_want rfl (by rfl) (fun w' O K hK => ?_), does_want rfl (by rfl) (fun w' O K hK => ?_), does_want rfl (by rfl) (fun w' O K hK => ?_), does_want rfl (by rfl) (fun w' O K hK => ?_), does_want rfl (by rfl) (fun w' O K hK => ?_), trivial⟩, fun w' O => ?_⟩
              · go_simp
                exact hK _ O
              · go_simp
                exact hK _ O
              · exact wp_ino Try.underlying28 sizeOf3 (by decide) k rfl rfl rfl hlt (hK _ O)
              · exact wp_cell_h (v := .int .i64 (x)) O.held 6 rfl CA.out rfl agg3 rfl (hK _ O)
              · go_simp
                exact hK _ O
              · go_simp
                exact hK _ O
              · exact wp_ino Try.underlying28 sizeOf3 (by decide) k rfl rfl rfl hlt (hK _ O)
              · exact wp_cell_h (v := .int .i64 (v)) O.held 5 rfl CB.out rfl agg3 rfl (hK _ O)
              · obtain ⟨e1, e2⟩ := HL.out
                go_simp
                first | exact hK _ O | (rw [e1, e2]; exact hK _ O) | (simp only [e1, e2]; exact hK _ O) | (rw [e1]; exact hK _ O) | (rw [e2]; exact hK _ O)
              · go_simp
                exact hK _ O
              · go_simp
                exact hK _ O
              · exact wp_ino Try.underlying28 sizeOf3 (by decide) k rfl rfl rfl hlt (hK _ O)
              · exact wp_cell_h (v := .int .i64 (x)) O.held 6 rfl CA.out rfl agg3 rfl (hK _ O)
              · go_simp
                exact hK _ O
              · go_simp
                exact hK _ O
              · exact wp_ino Try.underlying28 sizeOf3 (by decide) k rfl rfl rfl hlt (hK _ O)
              · exact wp_cell_h (v := .int .i64 (v)) O.held 5 rfl CB.out rfl agg3 rfl (hK _ O)
              · obtain ⟨e1, e2⟩ := HH.out
                go_simp
                first | exact hK _ O | (rw [e1, e2]; exact hK _ O) | (simp only [e1, e2]; exact hK _ O) | (rw [e1]; exact hK _ O) | (rw [e2]; exact hK _ O)
              · go_simp
                exact hK _ O
              refine wpAny_one (i := 19) (by kernel_rfl) rfl (fun K hK => ?_)
              go_simp
              refine hK _ _ ?_
              clear hK K
              try simp only [Act.put, List.setIfInBounds_toArray, List.set_cons_zero, List.set_cons_succ]
              refine wpAny_done (by kernel_rfl) ?_ _
              clear HL HH CA CB
              go_wp2_with (first | ((with_reducible refine at_index_ 111 ?_); refine wpList_ino rfl Try.underlying28 sizeOf3 (by decide) (k) rfl rfl (rfl) (hlt) ?_) | ((with_reducible refine at_load 112 ?_); refine wpList_cell_h (v := .int .i64 (m)) rfl O.held 3 rfl CC.out rfl agg3 rfl ?_) | ((with_reducible refine at_load 112 ?_); refine wpList_cell_h (v := .int .i64 (m)) rfl O.held 3 rfl CC0.out rfl agg3 rfl ?_) | ((with_reducible refine at_index_ 117 ?_); refine wpList_ino rfl Try.underlying28 sizeOf3 (by decide) (k) rfl rfl (rfl) (hlt) ?_) | ((with_reducible refine at_load 118 ?_); refine wpList_cell_h (v := .int .i64 (m)) rfl O.held 3 rfl CC.out rfl agg3 rfl ?_) | ((with_reducible refine at_load 118 ?_); refine wpList_cell_h (v := .int .i64 (m)) rfl O.held 3 rfl CC0.out rfl agg3 rfl ?_) | ((with_reducible refine at_index_ 124 ?_); refine wpList_ino rfl Try.underlying28 sizeOf3 (by decide) (k) rfl rfl (rfl) (hlt) ?_) | ((with_reducible refine at_load 125 ?_); refine wpList_cell_h (v := .int .i64 (n)) rfl O.held 1 rfl CE.out rfl agg3 rfl ?_) | ((with_reducible refine at_load 125 ?_); refine wpList_cell_h (v := .int .i64 (n)) rfl O.held 1 rfl CE0.out rfl agg3 rfl ?_) | ((with_reducible refine at_index_ 131 ?_); refine wpList_ino rfl Try.underlying28 sizeOf3 (by decide) (k) rfl rfl (rfl) (hlt) ?_) | ((with_reducible refine at_load 132 ?_); refine wpList_cell_h (v := .int .i64 (n)) rfl O.held 1 rfl CE.out rfl agg3 rfl ?_) | ((with_reducible refine at_load 132 ?_); refine wpList_cell_h (v := .int .i64 (n)) rfl O.held 1 rfl CE0.out rfl agg3 rfl ?_))
              go_roundw
              case rel => exact ⟨k + 1, by omega, by go_num, O⟩
              case measure => simp [intOf]; omega
            · have q1 : ¬ (k : Int) < 4 := by omega
              obtain ⟨b1, b2⟩ := BZ.out
              obtain ⟨x, hx⟩ : ∃ z, a 2 = z := ⟨_, rfl⟩
              obtain ⟨v, hv⟩ : ∃ z, b 2 = z := ⟨_, rfl⟩
              have CA := cell_is (n := 7) hx (by omega)
              have CB := cell_is (n := 7) hv (by omega)
              rw [hx, hv] at b1 b2
              obtain ⟨lo, hlo⟩ : ∃ z, min x v = z := ⟨_, rfl⟩
              obtain ⟨hi, hhi⟩ : ∃ z, max x v = z := ⟨_, rfl⟩
              have HL : Hid (min x v = lo ∧ (if v < x then v else x) = lo) := Lib.hid ⟨hlo, (min_if x v).trans hlo⟩
              have HH : Hid (max x v = hi ∧ (if x < v then v else x) = hi) := Lib.hid ⟨hhi, (max_if x v).trans hhi⟩
              have K1 : decide (lo ≤ z) = true := decide_eq_true (by omega)
              have K2 : decide (z ≤ hi) = true := decide_eq_true (by omega)
              have K3 : decide (lo ≤ y) = true := decide_eq_true (by omega)
              have K4 : decide (y ≤ hi) = true := decide_eq_true (by omega)
              clear hx hv b1 b2 hlo hhi
              go_wp2_with fail
              have OO := O
              clear O
              have O := OO
              clear OO
              refine region_T ((fun w2 => Own w w2 [(g14, 28, M.mat 4 e'), (g12, 28, M.mat 4 e'), (g10, 28, M.mat 4 c), (g8, 28, M.mat 4 c), (g5, 22, M.mat 2 p), (g4, 30, M.mat 7 b), (g3, 30, M.mat 7 a)])) [0, 1, 2, 3, 4, 5, 6, 7, 8, 9, 10] 12 [some 136, some 137, some 138, some 139, some 140, some 141, some 142, some 143, some 144, some 145, some 18] [.pointer (some ⟨g3, 2, none⟩), .int .i64 x, .pointer (some ⟨g4, 2, none⟩), .int .i64 v, .int .i64 lo, .pointer (some ⟨g3, 2, none⟩), .int .i64 x, .pointer (some ⟨g4, 2, none⟩), .int .i64 v, .int .i64 hi, .int .i64 lo] 1 (by kernel_rfl) (by rfl) (by kernel_rfl) (by rfl) (by rfl) (O.drew) (fun F hF => ?_)
              simp only [fillD, Act.put, List.setIfInBounds_toArray, List.set_cons_zero, List.set_cons_succ] at hF
              subst hF
              refine ⟨⟨does_want rfl (by rfl) (fun w' O K hK => ?_), does_want rfl (by rfl) (fun w' O K hK => ?_), does_want rfl (by rfl) (fun w' O K hK => ?_), does_want rfl (by rfl) (fun w' O K hK => ?_), does_want rfl (by rfl) (fun w' O K hK => ?_), does_want rfl (by rfl) (fun w' O K hK => ?_), does_want rfl (by rfl) (fun w' O K hK => ?_), does_want rfl (by rfl) (fun w' O K hK => ?_), does_want rfl (by rfl) (fun w' O K hK => ?_), does_want rfl (by rfl) (fun w' O K hK => ?_), does_want rfl (by rfl) (fun w' O K hK => ?_), trivial⟩, fun w' O => ?_⟩
              · go_simp
                exact hK _ O
              · exact wp_cell_h (v := .int .i64 (x)) O.held 6 rfl CA.out rfl agg3 rfl (hK _ O)
              · go_simp
                exact hK _ O
              · exact wp_cell_h (v := .int .i64 (v)) O.held 5 rfl CB.out rfl agg3 rfl (hK _ O)
              · obtain ⟨e1, e2⟩ := HL.out
                go_simp
                first | exact hK _ O | (rw [e1, e2]; exact hK _ O) | (simp only [e1, e2]; exact hK _ O) | (rw [e1]; exact hK _ O) | (rw [e2]; exact hK _ O)
              · go_simp
                exact hK _ O
              · exact wp_cell_h (v := .int .i64 (x)) O.held 6 rfl CA.out rfl agg3 rfl (hK _ O)
              · go_simp
                exact hK _ O
              · exact wp_cell_h (v := .int .i64 (v)) O.held 5 rfl CB.out rfl agg3 rfl (hK _ O)
              · obtain ⟨e1, e2⟩ := HH.out
                go_simp
                first | exact hK _ O | (rw [e1, e2]; exact hK _ O) | (simp only [e1, e2]; exact hK _ O) | (rw [e1]; exact hK _ O) | (rw [e2]; exact hK _ O)
              · go_simp
                exact hK _ O
              refine wpAny_one (i := 11) (by kernel_rfl) rfl (fun K hK => ?_)
              go_simp
              refine hK _ _ ?_
              clear hK K
              try simp only [Act.put, List.setIfInBounds_toArray, List.set_cons_zero, List.set_cons_succ]
              refine wpAny_done (by kernel_rfl) ?_ _
              clear HL HH CA CB
              go_wp2_with (first | (go_at_call 8; refine (awake_any _).mono ?_; rintro e w31 ⟨rfl, hb⟩; replace O := O.call hb; clear hb) | ((with_reducible refine at_load 153 ?_); refine wpList_whole rfl O 3 rfl rfl Try.underlying28 rfl (sC _) ?_) | ((with_reducible refine at_load 154 ?_); refine wpList_whole rfl O 2 rfl rfl Try.underlying28 rfl (sC _) ?_) | ((with_reducible refine at_binOp 155 ?_); refine wpList_eqC rfl (c) (c) rfl rfl ?_; rw [M.eqB_refl]) | ((with_reducible refine at_load 163 ?_); refine wpList_whole rfl O 1 rfl rfl Try.underlying28 rfl (sC _) ?_) | ((with_reducible refine at_load 164 ?_); refine wpList_whole rfl O 0 rfl rfl Try.underlying28 rfl (sC _) ?_) | ((with_reducible refine at_binOp 165 ?_); refine wpList_eqC rfl (e') (e') rfl rfl ?_; rw [M.eqB_refl]))
              go_ret
              exact ⟨rfl, O.below⟩
        · have hne : ¬ (a 0 = b 0 ∧ a 1 = b 1) := by
            rw [ep0, ep1, eq0, eq1]
            simp at k1 k2
            omega
          obtain ⟨n0, n1⟩ := VM.near_lim h3
          have C1 := fun w => palong_any a b (p 0) (p 1) h1 h2 n0 n1 w
          have C2 := fun w => palong_any b a (p 0) (p 1) h2 h1 n0 n1 w
          have C3 := fun w => pacross_any a b (p 0) (p 1) h1 h2 n0 n1 w
          have C4 := fun w => pacross_any b a (p 0) (p 1) h2 h1 n0 n1 w
          rw [eX, eY] at C1 C2 C3 C4
          have s1 := along_same hne X Y
          have s3 := across_same hne X Y
          rw [s1.1 (a 2) (b 2), s1.2] at C2
          rw [s3.1 (a 2) (b 2), s3.2] at C4
          clear s1 s3
          have Bz := VM.mid_between (a 2) (b 2) (VM.nA (a 0) (a 1) (b 0) (b 1) X Y) (d := (VM.dA (a 0) (a 1) (b 0) (b 1)))
          have HBz : Hid (∀ i, min (a (3 + i)) (b (3 + i)) ≤ VM.col a b (VM.nA (a 0) (a 1) (b 0) (b 1) X Y) (VM.dA (a 0) (a 1) (b 0) (b 1)) i ∧ VM.col a b (VM.nA (a 0) (a 1) (b 0) (b 1) X Y) (VM.dA (a 0) (a 1) (b 0) (b 1)) i ≤ max (a (3 + i)) (b (3 + i))) := Lib.hid (fun i => VM.mid_between _ _ _)
          generalize VM.mid (a 2) (b 2) (VM.nA (a 0) (a 1) (b 0) (b 1) X Y) (VM.dA (a 0) (a 1) (b 0) (b 1)) = z at C1 C2 Bz
          generalize VM.col a b (VM.nA (a 0) (a 1) (b 0) (b 1) X Y) (VM.dA (a 0) (a 1) (b 0) (b 1)) = c at C1 C2 HBz
          have By := VM.mid_between (a 2) (b 2) (VM.nC (a 0) (a 1) (b 0) (b 1) X Y) (d := (VM.dC (a 0) (a 1) (b 0) (b 1)))
          have HBy : Hid (∀ i, min (a (3 + i)) (b (3 + i)) ≤ VM.col a b (VM.nC (a 0) (a 1) (b 0) (b 1) X Y) (VM.dC (a 0) (a 1) (b 0) (b 1)) i ∧ VM.col a b (VM.nC (a 0) (a 1) (b 0) (b 1) X Y) (VM.dC (a 0) (a 1) (b 0) (b 1)) i ≤ max (a (3 + i)) (b (3 + i))) := Lib.hid (fun i => VM.mid_between _ _ _)
          generalize VM.mid (a 2) (b 2) (VM.nC (a 0) (a 1) (b 0) (b 1) X Y) (VM.dC (a 0) (a 1) (b 0) (b 1)) = y at C3 C4 By
          generalize VM.col a b (VM.nC (a 0) (a 1) (b 0) (b 1) X Y) (VM.dC (a 0) (a 1) (b 0) (b 1)) = e' at C3 C4 HBy
          have BZ := Lib.hid (And.intro Bz By)
          rw [h1] at FA
          rw [h2] at FB
          rw [h3] at FN
          have D1 := Lib.hid C1
          have D2 := Lib.hid C2
          have D3 := Lib.hid C3
          have D4 := Lib.hid C4
          clear h1 h2 h3 n0 n1 eX eY C1 C2 C3 C4 Bz By hne ep0 ep1 eq0 eq1
          go_enter Try.func5, Try.ntmps5
          go_wp2_with (first | ((with_reducible refine at_box 3 ?_); refine wpList_box_own O (M.mat 7 (a)) rfl ?_; clear O; intro g3 w1 O) | ((with_reducible refine at_box 4 ?_); refine wpList_box_own O (M.mat 7 (b)) rfl ?_; clear O; intro g4 w2 O) | ((with_reducible refine at_box 5 ?_); refine wpList_box_own O (M.mat 2 (p)) rfl ?_; clear O; intro g5 w3 O) | ((with_reducible refine at_load 20 ?_); refine wpList_whole rfl O 2 rfl rfl Try.underlying30 rfl (sW _) ?_) | (go_at_call 11; clear tok0; have tok1 : True := trivial; refine (FA _).mono ?_; rintro e w4 ⟨rfl, hb⟩; replace O := O.call hb; clear hb) | ((with_reducible refine at_load 24 ?_); refine wpList_whole rfl O 1 rfl rfl Try.underlying30 rfl (sW _) ?_) | (go_at_call 11; clear tok1; have tok2 : True := trivial; refine (FB _).mono ?_; rintro e w5 ⟨rfl, hb⟩; replace O := O.call hb; clear hb) | ((with_reducible refine at_load 29 ?_); refine wpList_whole rfl O 0 rfl rfl Try.underlying22 rfl (sD _) ?_) | (go_at_call 12; refine (FN _).mono ?_; rintro e w6 ⟨rfl, hb⟩; replace O := O.call hb; clear hb) | ((with_reducible refine at_load 35 ?_); refine wpList_cell_h (v := .int .i64 (p0)) rfl O.held 2 rfl Cp0.out rfl agg3 rfl ?_) | ((with_reducible refine at_load 37 ?_); refine wpList_cell_h (v := .int .i64 (q0)) rfl O.held 1 rfl Cq0.out rfl agg3 rfl ?_) | ((with_reducible refine at_load 49 ?_); refine wpList_whole rfl O 2 rfl rfl Try.underlying30 rfl (sW _) ?_) | ((with_reducible refine at_load 50 ?_); refine wpList_whole rfl O 1 rfl rfl Try.underlying30 rfl (sW _) ?_) | ((with_reducible refine at_load 52 ?_); refine wpList_cell_h (v := .int .i64 (X)) rfl O.held 0 rfl CX.out rfl agg3 rfl ?_) | ((with_reducible refine at_load 54 ?_); refine wpList_cell_h (v := .int .i64 (Y)) rfl O.held 0 rfl CY.out rfl agg3 rfl ?_) | (go_at_call 13; clear tok2; have tok3 : True := trivial; refine (D1.out _).mono ?_; rintro e w7 ⟨rfl, hb⟩; replace O := O.call hb; clear hb) | ((with_reducible refine at_alloc 8 ?_); refine wpList_alloc_own O (M.mat 4 M.zero) zeroC ?_; clear O; intro g8 w8 O) | ((with_reducible refine at_store 8 ?_); refine wpList_put_own O 0 (M.mat 4 (c)) rfl rfl rfl (sC _) (M.mat_len2 _ _ _) (M.mat_one _ _) ?_; clear O; intro w9 O) | ((with_reducible refine at_load 59 ?_); refine wpList_whole rfl O 2 rfl rfl Try.underlying30 rfl (sW _) ?_) | ((with_reducible refine at_load 60 ?_); refine wpList_whole rfl O 3 rfl rfl Try.underlying30 rfl (sW _) ?_) | ((with_reducible refine at_load 62 ?_); refine wpList_cell_h (v := .int .i64 (X)) rfl O.held 1 rfl CX.out rfl agg3 rfl ?_) | ((with_reducible refine at_load 64 ?_); refine wpList_cell_h (v := .int .i64 (Y)) rfl O.held 1 rfl CY.out rfl agg3 rfl ?_) | (go_at_call 13; clear tok3; have tok4 : True := trivial; refine (D2.out _).mono ?_; rintro e w10 ⟨rfl, hb⟩; replace O := O.call hb; clear hb) | ((with_reducible refine at_alloc 10 ?_); refine wpList_alloc_own O (M.mat 4 M.zero) zeroC ?_; clear O; intro g10 w11 O) | ((with_reducible refine at_store 10 ?_); refine wpList_put_own O 0 (M.mat 4 (c)) rfl rfl rfl (sC _) (M.mat_len2 _ _ _) (M.mat_one _ _) ?_; clear O; intro w12 O) | ((with_reducible refine at_load 69 ?_); refine wpList_whole rfl O 4 rfl rfl Try.underlying30 rfl (sW _) ?_) | ((with_reducible refine at_load 70 ?_); refine wpList_whole rfl O 3 rfl rfl Try.underlying30 rfl (sW _) ?_) | ((with_reducible refine at_load 72 ?_); refine wpList_cell_h (v := .int .i64 (X)) rfl O.held 2 rfl CX.out rfl agg3 rfl ?_) | ((with_reducible refine at_load 74 ?_); refine wpList_cell_h (v := .int .i64 (Y)) rfl O.held 2 rfl CY.out rfl agg3 rfl ?_) | (go_at_call 15; clear tok4; have tok5 : True := trivial; refine (D3.out _).mono ?_; rintro e w13 ⟨rfl, hb⟩; replace O := O.call hb; clear hb) | ((with_reducible refine at_alloc 12 ?_); refine wpList_alloc_own O (M.mat 4 M.zero) zeroC ?_; clear O; intro g12 w14 O) | ((with_reducible refine at_store 12 ?_); refine wpList_put_own O 0 (M.mat 4 (e')) rfl rfl rfl (sC _) (M.mat_len2 _ _ _) (M.mat_one _ _) ?_; clear O; intro w15 O) | ((with_reducible refine at_load 79 ?_); refine wpList_whole rfl O 4 rfl rfl Try.underlying30 rfl (sW _) ?_) | ((with_reducible refine at_load 80 ?_); refine wpList_whole rfl O 5 rfl rfl Try.underlying30 rfl (sW _) ?_) | ((with_reducible refine at_load 82 ?_); refine wpList_cell_h (v := .int .i64 (X)) rfl O.held 3 rfl CX.out rfl agg3 rfl ?_) | ((with_reducible refine at_load 84 ?_); refine wpList_cell_h (v := .int .i64 (Y)) rfl O.held 3 rfl CY.out rfl agg3 rfl ?_) | (go_at_call 15; clear tok5; have tok6 : True := trivial; refine (D4.out _).mono ?_; rintro e w16 ⟨rfl, hb⟩; replace O := O.call hb; clear hb) | ((with_reducible refine at_alloc 14 ?_); refine wpList_alloc_own O (M.mat 4 M.zero) zeroC ?_; clear O; intro g14 w17 O) | ((with_reducible refine at_store 14 ?_); refine wpList_put_own O 0 (M.mat 4 (e')) rfl rfl rfl (sC _) (M.mat_len2 _ _ _) (M.mat_one _ _) ?_; clear O; intro w18 O))
          clear tok6 k1 k2 FA FB FN D1 D2 D3 D4 CX CY Cp0 Cp1 Cq0 Cq1
          go_loopw [15] (fun u wr => ∃ k : Nat, k ≤ 4 ∧ u = .int .i64 k ∧ Own w wr [(g14, 28, M.mat 4 e'), (g12, 28, M.mat 4 e'), (g10, 28, M.mat 4 c), (g8, 28, M.mat 4 c), (g5, 22, M.mat 2 p), (g4, 30, M.mat 7 b), (g3, 30, M.mat 7 a)]) (fun t _ => 4 - (intOf t).toNat)
          case atStart => exact ⟨0, by omega, rfl, O⟩
          case round =>
            clear O
            obtain ⟨k, hk, rfl, O⟩ := hrel
            have q0 : (0 : Int) ≤ k := by omega
            by_cases hlt : k < 4
            · have q1 : (k : Int) < 4 := by omega
              have b1 := HBz.out k
              have b2 := HBy.out k
              obtain ⟨x, hx⟩ : ∃ z, a (3 + k) = z := ⟨_, rfl⟩
              obtain ⟨v, hv⟩ : ∃ z, b (3 + k) = z := ⟨_, rfl⟩
              obtain ⟨m, hm⟩ : ∃ z, c k = z := ⟨_, rfl⟩
              obtain ⟨n, hn⟩ : ∃ z, e' k = z := ⟨_, rfl⟩
              have CA := cell_is (n := 7) hx (by omega)
              have CB := cell_is (n := 7) hv (by omega)
              have CC := cell_is (n := 4) hm hlt
              have CE := cell_is (n := 4) hn hlt
              have CC0 := cell_is (n := 4) (i := 0 + k) (a := c) (z := m) (by rw [Nat.zero_add]; exact hm) (by omega)
              have CE0 := cell_is (n := 4) (i := 0 + k) (a := e') (z := n) (by rw [Nat.zero_add]; exact hn) (by omega)
              rw [hx, hv, hm] at b1
              rw [hx, hv, hn] at b2
              obtain ⟨lo, hlo⟩ : ∃ z, min x v = z := ⟨_, rfl⟩
              obtain ⟨hi, hhi⟩ : ∃ z, max x v = z := ⟨_, rfl⟩
              have HL : Hid (min x v = lo ∧ (if v < x then v else x) = lo) := Lib.hid ⟨hlo, (min_if x v).trans hlo⟩
              have HH : Hid (max x v = hi ∧ (if x < v then v else x) = hi) := Lib.hid ⟨hhi, (max_if x v).trans hhi⟩
              have K1 : decide (m < lo) = false := decide_eq_false (by omega)
              have K2 : decide (hi < m) = false := decide_eq_false (by omega)
              have K3 : decide (n < lo) = false := decide_eq_false (by omega)
              have K4 : decide (hi < n) = false := decide_eq_false (by omega)
              clear hx hv hm hn b1 b2 hlo hhi
              go_wp2_with fail
              have OO := O
              clear O
              have O := OO
              clear OO
              refine region_T ((fun w2 => Own w w2 [(g14, 28, M.mat 4 e'), (g12, 28, M.mat 4 e'), (g10, 28, M.mat 4 c), (g8, 28, M.mat 4 c), (g5, 22, M.mat 2 p), (g4, 30, M.mat 7 b), (g3, 30, M.mat 7 a)])) [0, 1, 2, 3, 4, 5, 6, 7, 8, 9, 10, 11, 12, 13, 14, 15, 16, 17, 18] 12 [some 92, some 93, some 94, some 95, some 96, some 97, some 98, some 99, some 100, some 101, some 102, some 103, some 104, some 105, some 106, some 107, some 108, some 109, some 16] [.int .i64 k, .pointer (some ⟨g3, 3, none⟩), .pointer (some ⟨g3, 3 + k, none⟩), .int .i64 x, .int .i64 k, .pointer (some ⟨g4, 3, none⟩), .pointer (some ⟨g4, 3 + k, none⟩), .int .i64 v, .int .i64 lo, .int .i64 k, .pointer (some ⟨g3, 3, none⟩), .pointer (some ⟨g3, 3 + k, none⟩), .int .i64 x, .int .i64 k, .pointer (some ⟨g4, 3, none⟩), .pointer (some ⟨g4, 3 + k, none⟩), .int .i64 v, .int .i64 hi, .int .i64 lo] 1 (by kernel_rfl) (by rfl) (by kernel_rfl) (by rfl) (by rfl) (O.drew) (fun F hF => ?_)
              simp only [fillD, Act.put, List.setIfInBounds_toArray, List.set_cons_zero, List.set_cons_succ] at hF
              subst hF
              refine ⟨⟨does_want rfl (by rfl) (fun w' O K hK => ?_), does_want rfl (by rfl) (fun w' O K hK => ?_), does_want rfl (by rfl) (fun w' O K hK => ?_), does_want rfl (by rfl) (fun w' O K hK => ?_), does_want rfl (by rfl) (fun w' O K hK => ?_), does_want rfl (by rfl) (fun w' O K hK => ?_), does_want rfl (by rfl) (fun w' O K hK => ?_), does_want rfl (by rfl) (fun w' O K hK => ?_), does_want rfl (by rfl) (fun w' O K hK => ?_), does_want rfl (by rfl) (fun w' O K hK => ?_), does_want rfl (by rfl) (fun w' O K hK => ?_), does_want rfl (by rfl) (fun w' O K hK => ?_), does_want rfl (by rfl) (fun w' O K hK => ?_), does_want rfl (by rfl) (fun w' O K hK => ?_), does_want rfl (by rfl) (fun w' O K hK => ?_), does_want rfl (by rfl) (fun w' O K hK => ?_), does_want rfl (by rfl) (fun w' O K hK => ?_), does_want rfl (by rfl) (fun w' O K hK => ?_), does_want rfl (by rfl) (fun w' O K hK => ?_), trivial⟩, fun w' O => ?_⟩
              · go_simp
                exact hK _ O
              · go_simp
                exact hK _ O
              · exact wp_ino Try.underlying28 sizeOf3 (by decide) k rfl rfl rfl hlt (hK _ O)
              · exact wp_cell_h (v := .int .i64 (x)) O.held 6 rfl CA.out rfl agg3 rfl (hK _ O)
              · go_simp
                exact hK _ O
              · go_simp
                exact hK _ O
              · exact wp_ino Try.underlying28 sizeOf3 (by decide) k rfl rfl rfl hlt (hK _ O)
              · exact wp_cell_h (v := .int .i64 (v)) O.held 5 rfl CB.out rfl agg3 rfl (hK _ O)
              · obtain ⟨e1, e2⟩ := HL.out
                go_simp
                first | exact hK _ O | (rw [e1, e2]; exact hK _ O) | (simp only [e1, e2]; exact hK _ O) | (rw [e1]; exact hK _ O) | (rw [e2]; exact hK _ O)
              · go_simp
                exact hK _ O
              · go_simp
                exact hK _ O
              · exact wp_ino Try.underlying28 sizeOf3 (by decide) k rfl rfl rfl hlt (hK _ O)
              · exact wp_cell_h (v := .int .i64 (x)) O.held 6 rfl CA.out rfl agg3 rfl (hK _ O)
              · go_simp
                exact hK _ O
              · go_simp
                exact hK _ O
              · exact wp_ino Try.underlying28 sizeOf3 (by decide) k rfl rfl rfl hlt (hK _ O)
              · exact wp_cell_h (v := .int .i64 (v)) O.held 5 rfl CB.out rfl agg3 rfl (hK _ O)
              · obtain ⟨e1, e2⟩ := HH.out
                go_simp
                first | exact hK _ O | (rw [e1, e2]; exact hK _ O) | (simp only [e1, e2]; exact hK _ O) | (rw [e1]; exact hK _ O) | (rw [e2]; exact hK _ O)
              · go_simp
                exact hK _ O
              refine wpAny_one (i := 19) (by kernel_rfl) rfl (fun K hK => ?_)
              go_simp
              refine hK _ _ ?_
              clear hK K
              try simp only [Act.put, List.setIfInBounds_toArray, List.set_cons_zero, List.set_cons_succ]
              refine wpAny_done (by kernel_rfl) ?_ _
              clear HL HH CA CB
              go_wp2_with (first | ((with_reducible refine at_index_ 111 ?_); refine wpList_ino rfl Try.underlying28 sizeOf3 (by decide) (k) rfl rfl (rfl) (hlt) ?_) | ((with_reducible refine at_load 112 ?_); refine wpList_cell_h (v := .int .i64 (m)) rfl O.held 3 rfl CC.out rfl agg3 rfl ?_) | ((with_reducible refine at_load 112 ?_); refine wpList_cell_h (v := .int .i64 (m)) rfl O.held 3 rfl CC0.out rfl agg3 rfl ?_) | ((with_reducible refine at_index_ 117 ?_); refine wpList_ino rfl Try.underlying28 sizeOf3 (by decide) (k) rfl rfl (rfl) (hlt) ?_) | ((with_reducible refine at_load 118 ?_); refine wpList_cell_h (v := .int .i64 (m)) rfl O.held 3 rfl CC.out rfl agg3 rfl ?_) | ((with_reducible refine at_load 118 ?_); refine wpList_cell_h (v := .int .i64 (m)) rfl O.held 3 rfl CC0.out rfl agg3 rfl ?_) | ((with_reducible refine at_index_ 124 ?_); refine wpList_ino rfl Try.underlying28 sizeOf3 (by decide) (k) rfl rfl (rfl) (hlt) ?_) | ((with_reducible refine at_load 125 ?_); refine wpList_cell_h (v := .int .i64 (n)) rfl O.held 1 rfl CE.out rfl agg3 rfl ?_) | ((with_reducible refine at_load 125 ?_); refine wpList_cell_h (v := .int .i64 (n)) rfl O.held 1 rfl CE0.out rfl agg3 rfl ?_) | ((with_reducible refine at_index_ 131 ?_); refine wpList_ino rfl Try.underlying28 sizeOf3 (by decide) (k) rfl rfl (rfl) (hlt) ?_) | ((with_reducible refine at_load 132 ?_); refine wpList_cell_h (v := .int .i64 (n)) rfl O.held 1 rfl CE.out rfl agg3 rfl ?_) | ((with_reducible refine at_load 132 ?_); refine wpList_cell_h (v := .int .i64 (n)) rfl O.held 1 rfl CE0.out rfl agg3 rfl ?_))
              go_roundw
              case rel => exact ⟨k + 1, by omega, by go_num, O⟩
              case measure => simp [intOf]; omega
            · have q1 : ¬ (k : Int) < 4 := by omega
              obtain ⟨b1, b2⟩ := BZ.out
              obtain ⟨x, hx⟩ : ∃ z, a 2 = z := ⟨_, rfl⟩
              obtain ⟨v, hv⟩ : ∃ z, b 2 = z := ⟨_, rfl⟩
              have CA := cell_is (n := 7) hx (by omega)
              have CB := cell_is (n := 7) hv (by omega)
              rw [hx, hv] at b1 b2
              obtain ⟨lo, hlo⟩ : ∃ z, min x v = z := ⟨_, rfl⟩
              obtain ⟨hi, hhi⟩ : ∃ z, max x v = z := ⟨_, rfl⟩
              have HL : Hid (min x v = lo ∧ (if v < x then v else x) = lo) := Lib.hid ⟨hlo, (min_if x v).trans hlo⟩
              have HH : Hid (max x v = hi ∧ (if x < v then v else x) = hi) := Lib.hid ⟨hhi, (max_if x v).trans hhi⟩
              have K1 : decide (lo ≤ z) = true := decide_eq_true (by omega)
              have K2 : decide (z ≤ hi) = true := decide_eq_true (by omega)
              have K3 : decide (lo ≤ y) = true := decide_eq_true (by omega)
              have K4 : decide (y ≤ hi) = true := decide_eq_true (by omega)
              clear hx hv b1 b2 hlo hhi
              go_wp2_with fail
              have OO := O
              clear O
              have O := OO
              clear OO
              refine region_T ((fun w2 => Own w w2 [(g14, 28, M.mat 4 e'), (g12, 28, M.mat 4 e'), (g10, 28, M.mat 4 c), (g8, 28, M.mat 4 c), (g5, 22, M.mat 2 p), (g4, 30, M.mat 7 b), (g3, 30, M.mat 7 a)])) [0, 1, 2, 3, 4, 5, 6, 7, 8, 9, 10] 12 [some 136, some 137, some 138, some 139, some 140, some 141, some 142, some 143, some 144, some 145, some 18] [.pointer (some ⟨g3, 2, none⟩), .int .i64 x, .pointer (some ⟨g4, 2, none⟩), .int .i64 v, .int .i64 lo, .pointer (some ⟨g3, 2, none⟩), .int .i64 x, .pointer (some ⟨g4, 2, none⟩), .int .i64 v, .int .i64 hi, .int .i64 lo] 1 (by kernel_rfl) (by rfl) (by kernel_rfl) (by rfl) (by rfl) (O.drew) (fun F hF => ?_)
              simp only [fillD, Act.put, List.setIfInBounds_toArray, List.set_cons_zero, List.set_cons_succ] at hF
              subst hF
              refine ⟨⟨does_want rfl (by rfl) (fun w' O K hK => ?_), does_want rfl (by rfl) (fun w' O K hK => ?_), does_want rfl (by rfl) (fun w' O K hK => ?_), does_want rfl (by rfl) (fun w' O K hK => ?_), does_want rfl (by rfl) (fun w' O K hK => ?_), does_want rfl (by rfl) (fun w' O K hK => ?_), does_want rfl (by rfl) (fun w' O K hK => ?_), does_want rfl (by rfl) (fun w' O K hK => ?_), does_want rfl (by rfl) (fun w' O K hK => ?_), does_want rfl (by rfl) (fun w' O K hK => ?_), does_want rfl (by rfl) (fun w' O K hK => ?_), trivial⟩, fun w' O => ?_⟩
              · go_simp
                exact hK _ O
              · exact wp_cell_h (v := .int .i64 (x)) O.held 6 rfl CA.out rfl agg3 rfl (hK _ O)
              · go_simp
                exact hK _ O
              · exact wp_cell_h (v := .int .i64 (v)) O.held 5 rfl CB.out rfl agg3 rfl (hK _ O)
              · obtain ⟨e1, e2⟩ := HL.out
                go_simp
                first | exact hK _ O | (rw [e1, e2]; exact hK _ O) | (simp only [e1, e2]; exact hK _ O) | (rw [e1]; exact hK _ O) | (rw [e2]; exact hK _ O)
              · go_simp
                exact hK _ O
              · exact wp_cell_h (v := .int .i64 (x)) O.held 6 rfl CA.out rfl agg3 rfl (hK _ O)
              · go_simp
                exact hK _ O
              · exact wp_cell_h (v := .int .i64 (v)) O.held 5 rfl CB.out rfl agg3 rfl (hK _ O)
              · obtain ⟨e1, e2⟩ := HH.out
                go_simp
                first | exact hK _ O | (rw [e1, e2]; exact hK _ O) | (simp only [e1, e2]; exact hK _ O) | (rw [e1]; exact hK _ O) | (rw [e2]; exact hK _ O)
              · go_simp
                exact hK _ O
              refine wpAny_one (i := 11) (by kernel_rfl) rfl (fun K hK => ?_)
              go_simp
              refine hK _ _ ?_
              clear hK K
              try simp only [Act.put, List.setIfInBounds_toArray, List.set_cons_zero, List.set_cons_succ]
              refine wpAny_done (by kernel_rfl) ?_ _
              clear HL HH CA CB
              go_wp2_with (first | (go_at_call 8; refine (awake_any _).mono ?_; rintro e w31 ⟨rfl, hb⟩; replace O := O.call hb; clear hb) | ((with_reducible refine at_load 153 ?_); refine wpList_whole rfl O 3 rfl rfl Try.underlying28 rfl (sC _) ?_) | ((with_reducible refine at_load 154 ?_); refine wpList_whole rfl O 2 rfl rfl Try.underlying28 rfl (sC _) ?_) | ((with_reducible refine at_binOp 155 ?_); refine wpList_eqC rfl (c) (c) rfl rfl ?_; rw [M.eqB_refl]) | ((with_reducible refine at_load 163 ?_); refine wpList_whole rfl O 1 rfl rfl Try.underlying28 rfl (sC _) ?_) | ((with_reducible refine at_load 164 ?_); refine wpList_whole rfl O 0 rfl rfl Try.underlying28 rfl (sC _) ?_) | ((with_reducible refine at_binOp 165 ?_); refine wpList_eqC rfl (e') (e') rfl rfl ?_; rw [M.eqB_refl]))
              go_ret
              exact ⟨rfl, O.below⟩
        · have hne : ¬ (a 0 = b 0 ∧ a 1 = b 1) := by
            rw [ep0, ep1, eq0, eq1]
            simp at k1 k2
            omega
          obtain ⟨n0, n1⟩ := VM.near_lim h3
          have C1 := fun w => palong_any a b (p 0) (p 1) h1 h2 n0 n1 w
          have C2 := fun w => palong_any b a (p 0) (p 1) h2 h1 n0 n1 w
          have C3 := fun w => pacross_any a b (p 0) (p 1) h1 h2 n0 n1 w
          have C4 := fun w => pacross_any b a (p 0) (p 1) h2 h1 n0 n1 w
          rw [eX, eY] at C1 C2 C3 C4
          have s1 := along_same hne X Y
          have s3 := across_same hne X Y
          rw [s1.1 (a 2) (b 2), s1.2] at C2
          rw [s3.1 (a 2) (b 2), s3.2] at C4
          clear s1 s3
          have Bz := VM.mid_between (a 2) (b 2) (VM.nA (a 0) (a 1) (b 0) (b 1) X Y) (d := (VM.dA (a 0) (a 1) (b 0) (b 1)))
          have HBz : Hid (∀ i, min (a (3 + i)) (b (3 + i)) ≤ VM.col a b (VM.nA (a 0) (a 1) (b 0) (b 1) X Y) (VM.dA (a 0) (a 1) (b 0) (b 1)) i ∧ VM.col a b (VM.nA (a 0) (a 1) (b 0) (b 1) X Y) (VM.dA (a 0) (a 1) (b 0) (b 1)) i ≤ max (a (3 + i)) (b (3 + i))) := Lib.hid (fun i => VM.mid_between _ _ _)
          generalize VM.mid (a 2) (b 2) (VM.nA (a 0) (a 1) (b 0) (b 1) X Y) (VM.dA (a 0) (a 1) (b 0) (b 1)) = z at C1 C2 Bz
          generalize VM.col a b (VM.nA (a 0) (a 1) (b 0) (b 1) X Y) (VM.dA (a 0) (a 1) (b 0) (b 1)) = c at C1 C2 HBz
          have By := VM.mid_between (a 2) (b 2) (VM.nC (a 0) (a 1) (b 0) (b 1) X Y) (d := (VM.dC (a 0) (a 1) (b 0) (b 1)))
          have HBy : Hid (∀ i, min (a (3 + i)) (b (3 + i)) ≤ VM.col a b (VM.nC (a 0) (a 1) (b 0) (b 1) X Y) (VM.dC (a 0) (a 1) (b 0) (b 1)) i ∧ VM.col a b (VM.nC (a 0) (a 1) (b 0) (b 1) X Y) (VM.dC (a 0) (a 1) (b 0) (b 1)) i ≤ max (a (3 + i)) (b (3 + i))) := Lib.hid (fun i => VM.mid_between _ _ _)
          generalize VM.mid (a 2) (b 2) (VM.nC (a 0) (a 1) (b 0) (b 1) X Y) (VM.dC (a 0) (a 1) (b 0) (b 1)) = y at C3 C4 By
          generalize VM.col a b (VM.nC (a 0) (a 1) (b 0) (b 1) X Y) (VM.dC (a 0) (a 1) (b 0) (b 1)) = e' at C3 C4 HBy
          have BZ := Lib.hid (And.intro Bz By)
          rw [h1] at FA
          rw [h2] at FB
          rw [h3] at FN
          have D1 := Lib.hid C1
          have D2 := Lib.hid C2
          have D3 := Lib.hid C3
          have D4 := Lib.hid C4
          clear h1 h2 h3 n0 n1 eX eY C1 C2 C3 C4 Bz By hne ep0 ep1 eq0 eq1
          go_enter Try.func5, Try.ntmps5
          go_wp2_with (first | ((with_reducible refine at_box 3 ?_); refine wpList_box_own O (M.mat 7 (a)) rfl ?_; clear O; intro g3 w1 O) | ((with_reducible refine at_box 4 ?_); refine wpList_box_own O (M.mat 7 (b)) rfl ?_; clear O; intro g4 w2 O) | ((with_reducible refine at_box 5 ?_); refine wpList_box_own O (M.mat 2 (p)) rfl ?_; clear O; intro g5 w3 O) | ((with_reducible refine at_load 20 ?_); refine wpList_whole rfl O 2 rfl rfl Try.underlying30 rfl (sW _) ?_) | (go_at_call 11; clear tok0; have tok1 : True := trivial; refine (FA _).mono ?_; rintro e w4 ⟨rfl, hb⟩; replace O := O.call hb; clear hb) | ((with_reducible refine at_load 24 ?_); refine wpList_whole rfl O 1 rfl rfl Try.underlying30 rfl (sW _) ?_) | (go_at_call 11; clear tok1; have tok2 : True := trivial; refine (FB _).mono ?_; rintro e w5 ⟨rfl, hb⟩; replace O := O.call hb; clear hb) | ((with_reducible refine at_load 29 ?_); refine wpList_whole rfl O 0 rfl rfl Try.underlying22 rfl (sD _) ?_) | (go_at_call 12; refine (FN _).mono ?_; rintro e w6 ⟨rfl, hb⟩; replace O := O.call hb; clear hb) | ((with_reducible refine at_load 35 ?_); refine wpList_cell_h (v := .int .i64 (p0)) rfl O.held 2 rfl Cp0.out rfl agg3 rfl ?_) | ((with_reducible refine at_load 37 ?_); refine wpList_cell_h (v := .int .i64 (q0)) rfl O.held 1 rfl Cq0.out rfl agg3 rfl ?_) | ((with_reducible refine at_load 41 ?_); refine wpList_cell_h (v := .int .i64 (p1)) rfl O.held 2 rfl Cp1.out rfl agg3 rfl ?_) | ((with_reducible refine at_load 43 ?_); refine wpList_cell_h (v := .int .i64 (q1)) rfl O.held 1 rfl Cq1.out rfl agg3 rfl ?_) | ((with_reducible refine at_load 49 ?_); refine wpList_whole rfl O 2 rfl rfl Try.underlying30 rfl (sW _) ?_) | ((with_reducible refine at_load 50 ?_); refine wpList_whole rfl O 1 rfl rfl Try.underlying30 rfl (sW _) ?_) | ((with_reducible refine at_load 52 ?_); refine wpList_cell_h (v := .int .i64 (X)) rfl O.held 0 rfl CX.out rfl agg3 rfl ?_) | ((with_reducible refine at_load 54 ?_); refine wpList_cell_h (v := .int .i64 (Y)) rfl O.held 0 rfl CY.out rfl agg3 rfl ?_) | (go_at_call 13; clear tok2; have tok3 : True := trivial; refine (D1.out _).mono ?_; rintro e w7 ⟨rfl, hb⟩; replace O := O.call hb; clear hb) | ((with_reducible refine at_alloc 8 ?_); refine wpList_alloc_own O (M.mat 4 M.zero) zeroC ?_; clear O; intro g8 w8 O) | ((with_reducible refine at_store 8 ?_); refine wpList_put_own O 0 (M.mat 4 (c)) rfl rfl rfl (sC _) (M.mat_len2 _ _ _) (M.mat_one _ _) ?_; clear O; intro w9 O) | ((with_reducible refine at_load 59 ?_); refine wpList_whole rfl O 2 rfl rfl Try.underlying30 rfl (sW _) ?_) | ((with_reducible refine at_load 60 ?_); refine wpList_whole rfl O 3 rfl rfl Try.underlying30 rfl (sW _) ?_) | ((with_reducible refine at_load 62 ?_); refine wpList_cell_h (v := .int .i64 (X)) rfl O.held 1 rfl CX.out rfl agg3 rfl ?_) | ((with_reducible refine at_load 64 ?_); refine wpList_cell_h (v := .int .i64 (Y)) rfl O.held 1 rfl CY.out rfl agg3 rfl ?_) | (go_at_call 13; clear tok3; have tok4 : True := trivial; refine (D2.out _).mono ?_; rintro e w10 ⟨rfl, hb⟩; replace O := O.call hb; clear hb) | ((with_reducible refine at_alloc 10 ?_); refine wpList_alloc_own O (M.mat 4 M.zero) zeroC ?_; clear O; intro g10 w11 O) | ((with_reducible refine at_store 10 ?_); refine wpList_put_own O 0 (M.mat 4 (c)) rfl rfl rfl (sC _) (M.mat_len2 _ _ _) (M.mat_one _ _) ?_; clear O; intro w12 O) | ((with_reducible refine at_load 69 ?_); refine wpList_whole rfl O 4 rfl rfl Try.underlying30 rfl (sW _) ?_) | ((with_reducible refine at_load 70 ?_); refine wpList_whole rfl O 3 rfl rfl Try.underlying30 rfl (sW _) ?_) | ((with_reducible refine at_load 72 ?_); refine wpList_cell_h (v := .int .i64 (X)) rfl O.held 2 rfl CX.out rfl agg3 rfl ?_) | ((with_reducible refine at_load 74 ?_); refine wpList_cell_h (v := .int .i64 (Y)) rfl O.held 2 rfl CY.out rfl agg3 rfl ?_) | (go_at_call 15; clear tok4; have tok5 : True := trivial; refine (D3.out _).mono ?_; rintro e w13 ⟨rfl, hb⟩; replace O := O.call hb; clear hb) | ((with_reducible refine at_alloc 12 ?_); refine wpList_alloc_own O (M.mat 4 M.zero) zeroC ?_; clear O; intro g12 w14 O) | ((with_reducible refine at_store 12 ?_); refine wpList_put_own O 0 (M.mat 4 (e')) rfl rfl rfl (sC _) (M.mat_len2 _ _ _) (M.mat_one _ _) ?_; clear O; intro w15 O) | ((with_reducible refine at_load 79 ?_); refine wpList_whole rfl O 4 rfl rfl Try.underlying30 rfl (sW _) ?_) | ((with_reducible refine at_load 80 ?_); refine wpList_whole rfl O 5 rfl rfl Try.underlying30 rfl (sW _) ?_) | ((with_reducible refine at_load 82 ?_); refine wpList_cell_h (v := .int .i64 (X)) rfl O.held 3 rfl CX.out rfl agg3 rfl ?_) | ((with_reducible refine at_load 84 ?_); refine wpList_cell_h (v := .int .i64 (Y)) rfl O.held 3 rfl CY.out rfl agg3 rfl ?_) | (go_at_call 15; clear tok5; have tok6 : True := trivial; refine (D4.out _).mono ?_; rintro e w16 ⟨rfl, hb⟩; replace O := O.call hb; clear hb) | ((with_reducible refine at_alloc 14 ?_); refine wpList_alloc_own O (M.mat 4 M.zero) zeroC ?_; clear O; intro g14 w17 O) | ((with_reducible refine at_store 14 ?_); refine wpList_put_own O 0 (M.mat 4 (e')) rfl rfl rfl (sC _) (M.mat_len2 _ _ _) (M.mat_one _ _) ?_; clear O; intro w18 O))
          clear tok6 k1 k2 FA FB FN D1 D2 D3 D4 CX CY Cp0 Cp1 Cq0 Cq1
          go_loopw [15] (fun u wr => ∃ k : Nat, k ≤ 4 ∧ u = .int .i64 k ∧ Own w wr [(g14, 28, M.mat 4 e'), (g12, 28, M.mat 4 e'), (g10, 28, M.mat 4 c), (g8, 28, M.mat 4 c), (g5, 22, M.mat 2 p), (g4, 30, M.mat 7 b), (g3, 30, M.mat 7 a)]) (fun t _ => 4 - (intOf t).toNat)
          case atStart => exact ⟨0, by omega, rfl, O⟩
          case round =>
            clear O
            obtain ⟨k, hk, rfl, O⟩ := hrel
            have q0 : (0 : Int) ≤ k := by omega
            by_cases hlt : k < 4
            · have q1 : (k : Int) < 4 := by omega
              have b1 := HBz.out k
              have b2 := HBy.out k
              obtain ⟨x, hx⟩ : ∃ z, a (3 + k) = z := ⟨_, rfl⟩
              obtain ⟨v, hv⟩ : ∃ z, b (3 + k) = z := ⟨_, rfl⟩
              obtain ⟨m, hm⟩ : ∃ z, c k = z := ⟨_, rfl⟩
              obtain ⟨n, hn⟩ : ∃ z, e' k = z := ⟨_, rfl⟩
              have CA := cell_is (n := 7) hx (by omega)
              have CB := cell_is (n := 7) hv (by omega)
              have CC := cell_is (n := 4) hm hlt
              have CE := cell_is (n := 4) hn hlt
              have CC0 := cell_is (n := 4) (i := 0 + k) (a := c) (z := m) (by rw [Nat.zero_add]; exact hm) (by omega)
              have CE0 := cell_is (n := 4) (i := 0 + k) (a := e') (z := n) (by rw [Nat.zero_add]; exact hn) (by omega)
              rw [hx, hv, hm] at b1
              rw [hx, hv, hn] at b2
              obtain ⟨lo, hlo⟩ : ∃ z, min x v = z := ⟨_, rfl⟩
              obtain ⟨hi, hhi⟩ : ∃ z, max x v = z := ⟨_, rfl⟩
              have HL : Hid (min x v = lo ∧ (if v < x then v else x) = lo) := Lib.hid ⟨hlo, (min_if x v).trans hlo⟩
              have HH : Hid (max x v = hi ∧ (if x < v then v else x) = hi) := Lib.hid ⟨hhi, (max_if x v).trans hhi⟩
              have K1 : decide (m < lo) = false := decide_eq_false (by omega)
              have K2 : decide (hi < m) = false := decide_eq_false (by omega)
              have K3 : decide (n < lo) = false := decide_eq_false (by omega)
              have K4 : decide (hi < n) = false := decide_eq_false (by omega)
              clear hx hv hm hn b1 b2 hlo hhi
              go_wp2_with fail
              have OO := O
              clear O
              have O := OO
              clear OO
              refine region_T ((fun w2 => Own w w2 [(g14, 28, M.mat 4 e'), (g12, 28, M.mat 4 e'), (g10, 28, M.mat 4 c), (g8, 28, M.mat 4 c), (g5, 22, M.mat 2 p), (g4, 30, M.mat 7 b), (g3, 30, M.mat 7 a)])) [0, 1, 2, 3, 4, 5, 6, 7, 8, 9, 10, 11, 12, 13, 14, 15, 16, 17, 18] 12 [some 92, some 93, some 94, some 95, some 96, some 97, some 98, some 99, some 100, some 101, some 102, some 103, some 104, some 105, some 106, some 107, some 108, some 109, some 16] [.int .i64 k, .pointer (some ⟨g3, 3, none⟩), .pointer (some ⟨g3, 3 + k, none⟩), .int .i64 x, .int .i64 k, .pointer (some ⟨g4, 3, none⟩), .pointer (some ⟨g4, 3 + k, none⟩), .int .i64 v, .int .i64 lo, .int .i64 k, .pointer (some ⟨g3, 3, none⟩), .pointer (some ⟨g3, 3 + k, none⟩), .int .i64 x, .int .i64 k, .pointer (some ⟨g4, 3, none⟩), .pointer (some ⟨g4, 3 + k, none⟩), .int .i64 v, .int .i64 hi, .int .i64 lo] 1 (by kernel_rfl) (by rfl) (by kernel_rfl) (by rfl) (by rfl) (O.drew) (fun F hF => ?_)
              simp only [fillD, Act.put, List.setIfInBounds_toArray, List.set_cons_zero, List.set_cons_succ] at hF
              subst hF
              refine ⟨⟨does_want rfl (by rfl) (fun w' O K hK => ?_), does_want rfl (by rfl) (fun w' O K hK => ?_), does_want rfl (by rfl) (fun w' O K hK => ?_), does_want rfl (by rfl) (fun w' O K hK => ?_), does_want rfl (by rfl) (fun w' O K hK => ?_), does_want rfl (by rfl) (fun w' O K hK => ?_), does_want rfl (by rfl) (fun w' O K hK => ?_), does_want rfl (by rfl) (fun w' O K hK => ?_), does_want rfl (by rfl) (fun w' O K hK => ?_), does_want rfl (by rfl) (fun w' O K hK => ?_), does_want rfl (by rfl) (fun w' O K hK => ?_), does_want rfl (by rfl) (fun w' O K hK => ?_), does_want rfl (by rfl) (fun w' O K hK => ?_), does_want rfl (by rfl) (fun w' O K hK => ?_), does_want rfl (by rfl) (fun w' O K hK => ?_), does_want rfl (by rfl) (fun w' O K hK => ?_), does_want rfl (by rfl) (fun w' O K hK => ?_), does_want rfl (by rfl) (fun w' O K hK => ?_), does_want rfl (by rfl) (fun w' O K hK => ?_), trivial⟩, fun w' O => ?_⟩
              · go_simp
                exact hK _ O
              · go_simp
                exact hK _ O
              · exact wp_ino Try.underlying28 sizeOf3 (by decide) k rfl rfl rfl hlt (hK _ O)
              · exact wp_cell_h (v := .int .i64 (x)) O.held 6 rfl CA.out rfl agg3 rfl (hK _ O)
              · go_simp
                exact hK _ O
              · go_simp
                exact hK _ O
              · exact wp_ino Try.underlying28 sizeOf3 (by decide) k rfl rfl rfl hlt (hK _ O)
              · exact wp_cell_h (v := .int .i64 (v)) O.held 5 rfl CB.out rfl agg3 rfl (hK _ O)
              · obtain ⟨e1, e2⟩ := HL.out
                go_simp
                first | exact hK _ O | (rw [e1, e2]; exact hK _ O) | (simp only [e1, e2]; exact hK _ O) | (rw [e1]; exact hK _ O) | (rw [e2]; exact hK _ O)
              · go_simp
                exact hK _ O
              · go_simp
                exact hK _ O
              · exact wp_ino Try.underlying28 sizeOf3 (by decide) k rfl rfl rfl hlt (hK _ O)
              · exact wp_cell_h (v := .int .i64 (x)) O.held 6 rfl CA.out rfl agg3 rfl (hK _ O)
              · go_simp
                exact hK _ O
              · go_simp
                exact hK _ O
              · exact wp_ino Try.underlying28 sizeOf3 (by decide) k rfl rfl rfl hlt (hK _ O)
              · exact wp_cell_h (v := .int .i64 (v)) O.held 5 rfl CB.out rfl agg3 rfl (hK _ O)
              · obtain ⟨e1, e2⟩ := HH.out
                go_simp
                first | exact hK _ O | (rw [e1, e2]; exact hK _ O) | (simp only [e1, e2]; exact hK _ O) | (rw [e1]; exact hK _ O) | (rw [e2]; exact hK _ O)
              · go_simp
                exact hK _ O
              refine wpAny_one (i := 19) (by kernel_rfl) rfl (fun K hK => ?_)
              go_simp
              refine hK _ _ ?_
              clear hK K
              try simp only [Act.put, List.setIfInBounds_toArray, List.set_cons_zero, List.set_cons_succ]
              refine wpAny_done (by kernel_rfl) ?_ _
              clear HL HH CA CB
              go_wp2_with (first | ((with_reducible refine at_index_ 111 ?_); refine wpList_ino rfl Try.underlying28 sizeOf3 (by decide) (k) rfl rfl (rfl) (hlt) ?_) | ((with_reducible refine at_load 112 ?_); refine wpList_cell_h (v := .int .i64 (m)) rfl O.held 3 rfl CC.out rfl agg3 rfl ?_) | ((with_reducible refine at_load 112 ?_); refine wpList_cell_h (v := .int .i64 (m)) rfl O.held 3 rfl CC0.out rfl agg3 rfl ?_) | ((with_reducible refine at_index_ 117 ?_); refine wpList_ino rfl Try.underlying28 sizeOf3 (by decide) (k) rfl rfl (rfl) (hlt) ?_) | ((with_reducible refine at_load 118 ?_); refine wpList_cell_h (v := .int .i64 (m)) rfl O.held 3 rfl CC.out rfl agg3 rfl ?_) | ((with_reducible refine at_load 118 ?_); refine wpList_cell_h (v := .int .i64 (m)) rfl O.held 3 rfl CC0.out rfl agg3 rfl ?_) | ((with_reducible refine at_index_ 124 ?_); refine wpList_ino rfl Try.underlying28 sizeOf3 (by decide) (k) rfl rfl (rfl) (hlt) ?_) | ((with_reducible refine at_load 125 ?_); refine wpList_cell_h (v := .int .i64 (n)) rfl O.held 1 rfl CE.out rfl agg3 rfl ?_) | ((with_reducible refine at_load 125 ?_); refine wpList_cell_h (v := .int .i64 (n)) rfl O.held 1 rfl CE0.out rfl agg3 rfl ?_) | ((with_reducible refine at_index_ 131 ?_); refine wpList_ino rfl Try.underlying28 sizeOf3 (by decide) (k) rfl rfl (rfl) (hlt) ?_) | ((with_reducible refine at_load 132 ?_); refine wpList_cell_h (v := .int .i64 (n)) rfl O.held 1 rfl CE.out rfl agg3 rfl ?_) | ((with_reducible refine at_load 132 ?_); refine wpList_cell_h (v := .int .i64 (n)) rfl O.held 1 rfl CE0.out rfl agg3 rfl ?_))
              go_roundw
              case rel => exact ⟨k + 1, by omega, by go_num, O⟩
              case measure => simp [intOf]; omega
            · have q1 : ¬ (k : Int) < 4 := by omega
              obtain ⟨b1, b2⟩ := BZ.out
              obtain ⟨x, hx⟩ : ∃ z, a 2 = z := ⟨_, rfl⟩
              obtain ⟨v, hv⟩ : ∃ z, b 2 = z := ⟨_, rfl⟩
              have CA := cell_is (n := 7) hx (by omega)
              have CB := cell_is (n := 7) hv (by omega)
              rw [hx, hv] at b1 b2
              obtain ⟨lo, hlo⟩ : ∃ z, min x v = z := ⟨_, rfl⟩
              obtain ⟨hi, hhi⟩ : ∃ z, max x v = z := ⟨_, rfl⟩
              have HL : Hid (min x v = lo ∧ (if v < x then v else x) = lo) := Lib.hid ⟨hlo, (min_if x v).trans hlo⟩
              have HH : Hid (max x v = hi ∧ (if x < v then v else x) = hi) := Lib.hid ⟨hhi, (max_if x v).trans hhi⟩
              have K1 : decide (lo ≤ z) = true := decide_eq_true (by omega)
              have K2 : decide (z ≤ hi) = true := decide_eq_true (by omega)
              have K3 : decide (lo ≤ y) = true := decide_eq_true (by omega)
              have K4 : decide (y ≤ hi) = true := decide_eq_true (by omega)
              clear hx hv b1 b2 hlo hhi
              go_wp2_with fail
              have OO := O
              clear O
              have O := OO
              clear OO
              refine region_T ((fun w2 => Own w w2 [(g14, 28, M.mat 4 e'), (g12, 28, M.mat 4 e'), (g10, 28, M.mat 4 c), (g8, 28, M.mat 4 c), (g5, 22, M.mat 2 p), (g4, 30, M.mat 7 b), (g3, 30, M.mat 7 a)])) [0, 1, 2, 3, 4, 5, 6, 7, 8, 9, 10] 12 [some 136, some 137, some 138, some 139, some 140, some 141, some 142, some 143, some 144, some 145, some 18] [.pointer (some ⟨g3, 2, none⟩), .int .i64 x, .pointer (some ⟨g4, 2, none⟩), .int .i64 v, .int .i64 lo, .pointer (some ⟨g3, 2, none⟩), .int .i64 x, .pointer (some ⟨g4, 2, none⟩), .int .i64 v, .int .i64 hi, .int .i64 lo] 1 (by kernel_rfl) (by rfl) (by kernel_rfl) (by rfl) (by rfl) (O.drew) (fun F hF => ?_)
              simp only [fillD, Act.put, List.setIfInBounds_toArray, List.set_cons_zero, List.set_cons_succ] at hF
              subst hF
              refine ⟨⟨does_want rfl (by rfl) (fun w' O K hK => ?_), does_want rfl (by rfl) (fun w' O K hK => ?_), does_want rfl (by rfl) (fun w' O K hK => ?_), does_want rfl (by rfl) (fun w' O K hK => ?_), does_want rfl (by rfl) (fun w' O K hK => ?_), does_want rfl (by rfl) (fun w' O K hK => ?_), does_want rfl (by rfl) (fun w' O K hK => ?_), does_want rfl (by rfl) (fun w' O K hK => ?_), does_want rfl (by rfl) (fun w' O K hK => ?_), does_want rfl (by rfl) (fun w' O K hK => ?_), does_want rfl (by rfl) (fun w' O K hK => ?_), trivial⟩, fun w' O => ?_⟩
              · go_simp
                exact hK _ O
              · exact wp_cell_h (v := .int .i64 (x)) O.held 6 rfl CA.out rfl agg3 rfl (hK _ O)
              · go_simp
                exact hK _ O
              · exact wp_cell_h (v := .int .i64 (v)) O.held 5 rfl CB.out rfl agg3 rfl (hK _ O)
              · obtain ⟨e1, e2⟩ := HL.out
                go_simp
                first | exact hK _ O | (rw [e1, e2]; exact hK _ O) | (simp only [e1, e2]; exact hK _ O) | (rw [e1]; exact hK _ O) | (rw [e2]; exact hK _ O)
              · go_simp
                exact hK _ O
              · exact wp_cell_h (v := .int .i64 (x)) O.held 6 rfl CA.out rfl agg3 rfl (hK _ O)
              · go_simp
                exact hK _ O
              · exact wp_cell_h (v := .int .i64 (v)) O.held 5 rfl CB.out rfl agg3 rfl (hK _ O)
              · obtain ⟨e1, e2⟩ := HH.out
                go_simp
                first | exact hK _ O | (rw [e1, e2]; exact hK _ O) | (simp only [e1, e2]; exact hK _ O) | (rw [e1]; exact hK _ O) | (rw [e2]; exact hK _ O)
              · go_simp
                exact hK _ O
              refine wpAny_one (i := 11) (by kernel_rfl) rfl (fun K hK => ?_)
              go_simp
              refine hK _ _ ?_
              clear hK K
              try simp only [Act.put, List.setIfInBounds_toArray, List.set_cons_zero, List.set_cons_succ]
              refine wpAny_done (by kernel_rfl) ?_ _
              clear HL HH CA CB
              go_wp2_with (first | (go_at_call 8; refine (awake_any _).mono ?_; rintro e w31 ⟨rfl, hb⟩; replace O := O.call hb; clear hb) | ((with_reducible refine at_load 153 ?_); refine wpList_whole rfl O 3 rfl rfl Try.underlying28 rfl (sC _) ?_) | ((with_reducible refine at_load 154 ?_); refine wpList_whole rfl O 2 rfl rfl Try.underlying28 rfl (sC _) ?_) | ((with_reducible refine at_binOp 155 ?_); refine wpList_eqC rfl (c) (c) rfl rfl ?_; rw [M.eqB_refl]) | ((with_reducible refine at_load 163 ?_); refine wpList_whole rfl O 1 rfl rfl Try.underlying28 rfl (sC _) ?_) | ((with_reducible refine at_load 164 ?_); refine wpList_whole rfl O 0 rfl rfl Try.underlying28 rfl (sC _) ?_) | ((with_reducible refine at_binOp 165 ?_); refine wpList_eqC rfl (e') (e') rfl rfl ?_; rw [M.eqB_refl]))
              go_ret
              exact ⟨rfl, O.below⟩
        · rw [h1] at FA
          rw [h2] at FB
          rw [h3] at FN
          clear h1 h2 h3 eX eY ep0 ep1 eq0 eq1
          go_enter Try.func5, Try.ntmps5
          go_wp2_with (first | ((with_reducible refine at_box 3 ?_); refine wpList_box_own O (M.mat 7 (a)) rfl ?_; clear O; intro g3 w1 O) | ((with_reducible refine at_box 4 ?_); refine wpList_box_own O (M.mat 7 (b)) rfl ?_; clear O; intro g4 w2 O) | ((with_reducible refine at_box 5 ?_); refine wpList_box_own O (M.mat 2 (p)) rfl ?_; clear O; intro g5 w3 O) | ((with_reducible refine at_load 20 ?_); refine wpList_whole rfl O 2 rfl rfl Try.underlying30 rfl (sW _) ?_) | (go_at_call 11; clear tok0; have tok1 : True := trivial; refine (FA _).mono ?_; rintro e w4 ⟨rfl, hb⟩; replace O := O.call hb; clear hb) | ((with_reducible refine at_load 24 ?_); refine wpList_whole rfl O 1 rfl rfl Try.underlying30 rfl (sW _) ?_) | (go_at_call 11; clear tok1; have tok2 : True := trivial; refine (FB _).mono ?_; rintro e w5 ⟨rfl, hb⟩; replace O := O.call hb; clear hb) | ((with_reducible refine at_load 29 ?_); refine wpList_whole rfl O 0 rfl rfl Try.underlying22 rfl (sD _) ?_) | (go_at_call 12; refine (FN _).mono ?_; rintro e w6 ⟨rfl, hb⟩; replace O := O.call hb; clear hb) | ((with_reducible refine at_load 35 ?_); refine wpList_cell_h (v := .int .i64 (p0)) rfl O.held 2 rfl Cp0.out rfl agg3 rfl ?_) | ((with_reducible refine at_load 37 ?_); refine wpList_cell_h (v := .int .i64 (q0)) rfl O.held 1 rfl Cq0.out rfl agg3 rfl ?_) | ((with_reducible refine at_load 41 ?_); refine wpList_cell_h (v := .int .i64 (p1)) rfl O.held 2 rfl Cp1.out rfl agg3 rfl ?_) | ((with_reducible refine at_load 43 ?_); refine wpList_cell_h (v := .int .i64 (q1)) rfl O.held 1 rfl Cq1.out rfl agg3 rfl ?_) | (go_at_call 8; refine (awake_any _).mono ?_; rintro e w30 ⟨rfl, hb⟩; replace O := O.call hb; clear hb))
          go_ret
          exact ⟨rfl, O.below⟩

theorem readable : ∀ t ∈ Try.f5.params.toList, Try.prog.readableRec t = true ∧ t < Try.prog.types.size := by
  intro t ht
  rw [Try.params5] at ht
  simp only [List.mem_cons, List.not_mem_nil, or_false] at ht
  repeat (first | (rcases ht with rfl | ht; exact ⟨by kernel_rfl, of_decide_eq_true (by kernel_rfl)⟩) | (subst ht; exact ⟨by kernel_rfl, of_decide_eq_true (by kernel_rfl)⟩))
set_option maxRecDepth 100000 in
theorem lifted (os : Os) (started : os.Started) (H : Type) (enc : TypeId × Value → H) :
    ReturnsInHanded {} Try.checked os 5 .any (Rows.lerpBetweenSpec.pre6 enc Try.prog Try.f5 Rows.lerpBetweenRow.domain false) (Rows.lerpBetweenSpec.post enc Try.prog Try.f5 false true false false) := by
  refine returnsInHanded_of_change (C := Try.checked) own started (by kernel_rfl) Try.func5
    (ChangeSpec.witness6 (enc := enc) (C := Try.checked) false ⟨#[], #[.agg #[.int .i64 0, .int .i64 0, .int .i64 0, .int .i64 0, .int .i64 0, .int .i64 0, .int .i64 0], .agg #[.int .i64 0, .int .i64 0, .int .i64 0, .int .i64 0, .int .i64 0, .int .i64 0, .int .i64 0], .agg #[.int .i64 0, .int .i64 0]], []⟩ 8 (by kernel_rfl) (by kernel_rfl) (by kernel_rfl) (by kernel_rfl)) ?_
  intro W base args ds gs before hval0 hW hcnd _
  have hval : ∀ (j : Nat) t v, Try.f5.params[j]? = some t → args[j]? = some v → Value.okWide Try.prog W .any base t v := hval0
  have hW' := hW
  obtain ⟨p, q, hA0, hV, rfl, hfz, hnd⟩ := hW
  have hA : DataW.TrodAll enc Try.prog W 0 (fun _ => true) true Try.f5.params.toList args.toList ds p := hA0
  rw [Try.params5] at hA hval
  have hlt : ∀ x ∈ p ++ q, x.block < W.heap.size := fun x hx => hW'.lt x hx
  obtain ⟨v0, vs0, d0, ds0, p0, q0, hargs, rfl, rfl, h0, rr0⟩ := trodAll_cons hA
  obtain ⟨v1, vs1, d1, ds1, p1, q1, rfl, rfl, rfl, h1, rr1⟩ := trodAll_cons rr0
  obtain ⟨v2, vs2, d2, ds2, p2, q2, rfl, rfl, rfl, h2, rr2⟩ := trodAll_cons rr1
  obtain ⟨rfl, rfl, rfl⟩ := trodAll_nil rr2
  obtain rfl : args = #[v0, v1, v2] := by cases args; simp_all
  obtain ⟨rfl, rfl⟩ := trodVars_none hV
  obtain ⟨a0, rfl⟩ := openWin (hval 0 30 v0 rfl rfl) h0
  obtain ⟨a1, rfl⟩ := openWin (hval 1 30 v1 rfl rfl) h1
  obtain ⟨a2, rfl, x2⟩ := openPair (hval 2 22 v2 rfl rfl) h2
  clear hA0 hval0
  refine (walk W a0 a1 a2).mono fun e W' ⟨he, hg⟩ => ?_
  subst he
  exact ⟨_, rfl, post_true (tb := 4) laid readable (by kernel_rfl) Try.underlying4 rfl (fun l hl => by
    match l, hl with
    | [_, _, _], _ => exact ⟨rfl, rfl, rfl⟩) hW' hg⟩

theorem over : Rows.lerpBetweenRow.holds Try.pinned (OpenSpec.ofChange Rows.lerpBetweenSpec) :=
  OpenClaim.holds_of_wide 5 Try.f5 rfl rfl rfl rfl rfl rfl rfl ⟨rfl, rfl, rfl, rfl, rfl⟩ rfl rfl rfl rfl rfl (by kernel_rfl) Try.func5 (by kernel_rfl)
    (of_decide_eq_true (by kernel_rfl)) (by unfold Func.isWrapper; first | (rw [if_pos (by decide +kernel)]; kernel_rfl) | (rw [if_neg (by decide +kernel)]; exact ⟨rfl, rfl⟩))
    (fun os started H enc _ => lifted os started H enc)

theorem proved : Rows.LerpBetweenSaid :=
  over
#print axioms proved
end Go.Proofs.Ytjhefgfnecdcoaa.lerpBetween
