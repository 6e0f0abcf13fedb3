/- Contracts: ef18: a number without a sign, squares against one another, is a point in the strip. -/
import Derived.Test.YtdkppkdoconfhaaSw
namespace Go.Proofs.Ytdkppkdoconfhaa
open Go.ChangeShapes Go.WideShapes Go.ChangeAt Go.RowKit
set_option linter.unusedVariables false
set_option linter.unusedSimpArgs false

namespace SM
/-- A number's square against another one. -/
def agn (c S : Int) : Int := if c * c < S then -1 else if c * c = S then 0 else 1
theorem sq_abs {x m : Int} (h : max x (0 - x) = m) : x * x = m * m := by
  rcases (by omega : m = x ∨ m = 0 - x) with e | e
  · rw [e]
  · rw [e, Int.zero_sub, Int.neg_mul_neg]
theorem two_lt {p q B : Int} (hB : 0 < B) : (p < q ↔ p / B < q / B ∨ (p / B = q / B ∧ p % B < q % B)) ∧ (p = q ↔ p / B = q / B ∧ p % B = q % B) := by
  have h1 := Int.mul_ediv_add_emod p B
  have h2 := Int.mul_ediv_add_emod q B
  have b1 := Int.emod_nonneg p (show B ≠ 0 by omega)
  have b2 := Int.emod_nonneg q (show B ≠ 0 by omega)
  have b3 := Int.emod_lt_of_pos p hB
  have b4 := Int.emod_lt_of_pos q hB
  have key : ∀ u v : Int, u < v → B * u + B ≤ B * v := fun u v h => by
    have := Int.mul_le_mul_of_nonneg_left (show u + 1 ≤ v by omega) (show 0 ≤ B by omega)
    rwa [Int.mul_add, Int.mul_one] at this
  rcases Int.lt_trichotomy (p / B) (q / B) with h | h | h
  · have := key _ _ h
    exact ⟨⟨fun _ => .inl h, fun _ => by omega⟩, ⟨fun e => by omega, fun e => by omega⟩⟩
  · rw [h] at h1
    exact ⟨⟨fun _ => .inr ⟨h, by omega⟩, fun _ => by omega⟩, ⟨fun e => ⟨h, by omega⟩, fun e => by omega⟩⟩
  · have := key _ _ h
    exact ⟨⟨fun _ => by omega, fun _ => by omega⟩, ⟨fun e => by omega, fun e => by omega⟩⟩
theorem mul_lim {x y A B : Int} (hx : -A ≤ x ∧ x ≤ A) (hy : -B ≤ y ∧ y ≤ B) : -(A * B) ≤ x * y ∧ x * y ≤ A * B := VM.mul_lim hx hy
end SM
theorem rbare_any (x m : Int) (hx : -4611686018427387904 ≤ x ∧ x ≤ 4611686018427387904) (hm : max x (0 - x) = m) (w : World) : Calls Try.prog 70 #[.int .i64 x] w fun e w' => e = .returned (.int .u64 m) ∧ w' = w := by
  by_cases h : x < 0
  · have hd : decide (x < 0) = true := by simpa using h
    obtain ⟨y, hy⟩ : ∃ y, 0 - x = y := ⟨_, rfl⟩
    have W : wrap64 (0 - x) = y := (IntWalk.wrap64_in _ (by omega)).trans hy
    have W' : wrap64 (-x) = y := by rw [← W, Int.zero_sub]
    have U : IntKind.u64.wrap y = y := by rw [IntKind.wrap_u64]; omega
    obtain rfl : m = y := by omega
    clear h hy hm hx
    go_enter Try.func70, Try.ntmps70
    go_wp2_with fail
    go_ret
    exact ⟨rfl, rfl⟩
  · have hd : decide (x < 0) = false := by simpa using h
    have U : IntKind.u64.wrap x = x := by rw [IntKind.wrap_u64]; omega
    obtain rfl : m = x := by omega
    clear h hm hx
    go_enter Try.func70, Try.ntmps70
    go_wp2_with fail
    go_ret
    exact ⟨rfl, rfl⟩
set_option maxRecDepth 100000 in
set_option maxHeartbeats 8000000 in
theorem ragainst_any (c n l : Int) (hc : -4611686018427387904 ≤ c ∧ c ≤ 4611686018427387904) (hn : 0 ≤ n ∧ n ≤ 65) (hl : 0 ≤ l ∧ l ≤ 4611686018427387904) (w : World) : Calls Try.prog 53 #[.int .i64 c, .int .i64 n, .int .i64 l] w fun e w' => e = .returned (.int .i64 (SM.agn c (128 * n * 128 * n * l))) ∧ w' = w := by
  obtain ⟨m, hm⟩ : ∃ m, max c (0 - c) = m := ⟨_, rfl⟩
  have CB := fun w => rbare_any c m hc hm w
  have e1 := SM.sq_abs hm
  have hN := SM.mul_lim (x := 128 * n * 128) (y := n) (A := 1064960) (B := 65) (by omega) (by omega)
  obtain ⟨n1, hn1⟩ : ∃ z, 128 * n = z := ⟨_, rfl⟩
  have W1 : wrap64 (128 * n) = n1 := (IntWalk.wrap64_in _ (by omega)).trans hn1
  rw [hn1] at hN
  obtain ⟨n2, hn2⟩ : ∃ z, n1 * 128 = z := ⟨_, rfl⟩
  have W2 : wrap64 (n1 * 128) = n2 := (IntWalk.wrap64_in _ (by omega)).trans hn2
  rw [hn2] at hN
  have h0 := Int.mul_nonneg (show 0 ≤ n2 by omega) hn.1
  obtain ⟨n3, hn3⟩ : ∃ z, n2 * n = z := ⟨_, rfl⟩
  have W3 : wrap64 (n2 * n) = n3 := (IntWalk.wrap64_in _ (by omega)).trans hn3
  rw [hn3] at hN h0
  have U1 : IntKind.u64.wrap l = l := by rw [IntKind.wrap_u64]; omega
  have U2 : IntKind.u64.wrap n3 = n3 := by rw [IntKind.wrap_u64]; omega
  have M1 := fun w => mul64_any m m (by omega) (by omega) (by omega) (by omega) w
  have M2 := fun w => mul64_any l n3 (by omega) (by omega) (by omega) (by omega) w
  have hS : 128 * n * 128 * n * l = l * n3 := by rw [hn1, hn2, hn3, Int.mul_comm]
  rw [hS]
  unfold SM.agn
  rw [e1]
  have T2 := SM.two_lt (p := m * m) (q := l * n3) (B := 18446744073709551616) (by omega)
  obtain ⟨p, hp⟩ : ∃ z, m * m = z := ⟨_, rfl⟩
  obtain ⟨q, hq⟩ : ∃ z, l * n3 = z := ⟨_, rfl⟩
  rw [hp] at M1 T2 ⊢
  rw [hq] at M2 T2 ⊢
  obtain ⟨hi, ehi⟩ : ∃ z, p / 18446744073709551616 = z := ⟨_, rfl⟩
  obtain ⟨lo, elo⟩ : ∃ z, p % 18446744073709551616 = z := ⟨_, rfl⟩
  obtain ⟨up, eup⟩ : ∃ z, q / 18446744073709551616 = z := ⟨_, rfl⟩
  obtain ⟨dn, edn⟩ : ∃ z, q % 18446744073709551616 = z := ⟨_, rfl⟩
  rw [ehi, elo] at M1 T2
  rw [eup, edn] at M2 T2
  clear ehi elo eup edn hp hq hS hN h0 hn1 hn2 hn3 e1 hm hc hl hn
  rcases (by omega : hi < up ∨ (hi = up ∧ lo < dn) ∨ (hi = up ∧ lo = dn) ∨ (hi = up ∧ dn < lo) ∨ up < hi) with h | h | h | h | h
  · have hv : (if p < q then -1 else if p = q then 0 else 1 : Int) = -1 := if_pos (T2.1.2 (.inl h))
    rw [hv]
    have K1 : decide (hi < up) = true := decide_eq_true (by omega)
    clear hv T2 h
    have T0 : True := trivial
    go_enter Try.func53, Try.ntmps53
    go_wp2_with (first | (go_at_call 70; refine (CB _).mono ?_; rintro e w9 ⟨rfl, rfl⟩) | (go_at_call 55; clear T0; have T1 : True := trivial; refine (M1 _).mono ?_; rintro e w9 ⟨rfl, rfl⟩) | (go_at_call 55; clear T1; have T3 : True := trivial; refine (M2 _).mono ?_; rintro e w9 ⟨rfl, rfl⟩))
    go_ret
    exact ⟨rfl, rfl⟩
  · have hv : (if p < q then -1 else if p = q then 0 else 1 : Int) = -1 := if_pos (T2.1.2 (.inr h))
    rw [hv]
    have K1 : decide (hi < up) = false := decide_eq_false (by omega)
    have K2 : (hi == up) = true := by simp; omega
    have K3 : decide (lo < dn) = true := decide_eq_true (by omega)
    clear hv T2 h
    have T0 : True := trivial
    go_enter Try.func53, Try.ntmps53
    go_wp2_with (first | (go_at_call 70; refine (CB _).mono ?_; rintro e w9 ⟨rfl, rfl⟩) | (go_at_call 55; clear T0; have T1 : True := trivial; refine (M1 _).mono ?_; rintro e w9 ⟨rfl, rfl⟩) | (go_at_call 55; clear T1; have T3 : True := trivial; refine (M2 _).mono ?_; rintro e w9 ⟨rfl, rfl⟩))
    go_ret
    exact ⟨rfl, rfl⟩
  · have hv : (if p < q then -1 else if p = q then 0 else 1 : Int) = 0 := (if_neg (fun e => by have := T2.1.1 e; omega)).trans (if_pos (T2.2.2 h))
    rw [hv]
    have K1 : decide (hi < up) = false := decide_eq_false (by omega)
    have K2 : (hi == up) = true := by simp; omega
    have K3 : decide (lo < dn) = false := decide_eq_false (by omega)
    have K4 : (lo == dn) = true := by simp; omega
    clear hv T2 h
    have T0 : True := trivial
    go_enter Try.func53, Try.ntmps53
    go_wp2_with (first | (go_at_call 70; refine (CB _).mono ?_; rintro e w9 ⟨rfl, rfl⟩) | (go_at_call 55; clear T0; have T1 : True := trivial; refine (M1 _).mono ?_; rintro e w9 ⟨rfl, rfl⟩) | (go_at_call 55; clear T1; have T3 : True := trivial; refine (M2 _).mono ?_; rintro e w9 ⟨rfl, rfl⟩))
    go_ret
    exact ⟨rfl, rfl⟩
  · have hv : (if p < q then -1 else if p = q then 0 else 1 : Int) = 1 := (if_neg (fun e => by have := T2.1.1 e; omega)).trans (if_neg (fun e => by have := T2.2.1 e; omega))
    rw [hv]
    have K1 : decide (hi < up) = false := decide_eq_false (by omega)
    have K2 : (hi == up) = true := by simp; omega
    have K3 : decide (lo < dn) = false := decide_eq_false (by omega)
    have K4 : (lo == dn) = false := by simp; omega
    clear hv T2 h
    have T0 : True := trivial
    go_enter Try.func53, Try.ntmps53
    go_wp2_with (first | (go_at_call 70; refine (CB _).mono ?_; rintro e w9 ⟨rfl, rfl⟩) | (go_at_call 55; clear T0; have T1 : True := trivial; refine (M1 _).mono ?_; rintro e w9 ⟨rfl, rfl⟩) | (go_at_call 55; clear T1; have T3 : True := trivial; refine (M2 _).mono ?_; rintro e w9 ⟨rfl, rfl⟩))
    go_ret
    exact ⟨rfl, rfl⟩
  · have hv : (if p < q then -1 else if p = q then 0 else 1 : Int) = 1 := (if_neg (fun e => by have := T2.1.1 e; omega)).trans (if_neg (fun e => by have := T2.2.1 e; omega))
    rw [hv]
    have K1 : decide (hi < up) = false := decide_eq_false (by omega)
    have K2 : (hi == up) = false := by simp; omega
    clear hv T2 h
    have T0 : True := trivial
    go_enter Try.func53, Try.ntmps53
    go_wp2_with (first | (go_at_call 70; refine (CB _).mono ?_; rintro e w9 ⟨rfl, rfl⟩) | (go_at_call 55; clear T0; have T1 : True := trivial; refine (M1 _).mono ?_; rintro e w9 ⟨rfl, rfl⟩) | (go_at_call 55; clear T1; have T3 : True := trivial; refine (M2 _).mono ?_; rintro e w9 ⟨rfl, rfl⟩))
    go_ret
    exact ⟨rfl, rfl⟩
set_option maxRecDepth 100000 in
set_option maxHeartbeats 16000000 in
theorem rin_any (a b : Nat → Int) (n x y : Int) (ha : VM.fit a = true) (hb : VM.fit b = true) (hn : 1 ≤ n ∧ n ≤ 65) (hx : -1073742080 ≤ x ∧ x ≤ 1073742080) (hy : -1073742080 ≤ y ∧ y ≤ 1073742080) (w : World) :
    Calls Try.prog 35 #[arr 7 a, arr 7 b, .int .i64 n, .int .i64 x, .int .i64 y] w fun e w' => e = .returned (.bool (SM.strip a b n x y)) ∧ Below w.heap.size w w' := by
  have O := Own.start w
  obtain ⟨la0, la1, -, -⟩ := VM.fit_lim ha
  obtain ⟨lb0, lb1, -, -⟩ := VM.fit_lim hb
  clear ha hb
  obtain ⟨p0, ep0⟩ : ∃ z, a 0 = z := ⟨_, rfl⟩
  have Cp0 := cell_is (n := 7) ep0 (by decide)
  obtain ⟨p1, ep1⟩ : ∃ z, a 1 = z := ⟨_, rfl⟩
  have Cp1 := cell_is (n := 7) ep1 (by decide)
  obtain ⟨q0, eq0⟩ : ∃ z, b 0 = z := ⟨_, rfl⟩
  have Cq0 := cell_is (n := 7) eq0 (by decide)
  obtain ⟨q1, eq1⟩ : ∃ z, b 1 = z := ⟨_, rfl⟩
  have Cq1 := cell_is (n := 7) eq1 (by decide)
  have hz : SM.strip a b n x y = decide (0 ≤ (x - p0) * (q0 - p0) + (y - p1) * (q1 - p1) ∧ (x - p0) * (q0 - p0) + (y - p1) * (q1 - p1) < (q0 - p0) * (q0 - p0) + (q1 - p1) * (q1 - p1) ∧ SM.side n ((q0 - p0) * (y - p1) - (q1 - p1) * (x - p0)) ((q0 - p0) * (q0 - p0) + (q1 - p1) * (q1 - p1))) := by
    rw [← ep0, ← ep1, ← eq0, ← eq1]
    rfl
  rw [hz]
  rw [ep0] at la0
  rw [ep1] at la1
  rw [eq0] at lb0
  rw [eq1] at lb1
  clear ep0 ep1 eq0 eq1 hz
  obtain ⟨W, hW⟩ : ∃ z, q0 - p0 = z := ⟨_, rfl⟩
  obtain ⟨H, hH⟩ : ∃ z, q1 - p1 = z := ⟨_, rfl⟩
  obtain ⟨P, hP⟩ : ∃ z, x - p0 = z := ⟨_, rfl⟩
  obtain ⟨Q, hQ⟩ : ∃ z, y - p1 = z := ⟨_, rfl⟩
  have DW : Hid (IntKind.i64.wrap (q0 - p0) = W) := Lib.hid ((IntWalk.i64_in _ (by omega)).trans hW)
  have DH : Hid (IntKind.i64.wrap (q1 - p1) = H) := Lib.hid ((IntWalk.i64_in _ (by omega)).trans hH)
  have DP : Hid (IntKind.i64.wrap (x - p0) = P) := Lib.hid ((IntWalk.i64_in _ (by omega)).trans hP)
  have DQ : Hid (IntKind.i64.wrap (y - p1) = Q) := Lib.hid ((IntWalk.i64_in _ (by omega)).trans hQ)
  rw [hW, hH, hP, hQ]
  have bW : -536870912 ≤ W ∧ W ≤ 536870912 := by omega
  have bH : -536870912 ≤ H ∧ H ≤ 536870912 := by omega
  have bP : -1342177536 ≤ P ∧ P ≤ 1342177536 := by omega
  have bQ : -1342177536 ≤ Q ∧ Q ≤ 1342177536 := by omega
  clear hW hH hP hQ la0 la1 lb0 lb1 hx hy
  have m1 := SM.mul_lim bW bW
  have m2 := SM.mul_lim bH bH
  have m3 := SM.mul_lim bP bW
  have m4 := SM.mul_lim bQ bH
  have m5 := SM.mul_lim bW bQ
  have m6 := SM.mul_lim bH bP
  have z1 := SM.sq_nonneg' W
  have z2 := SM.sq_nonneg' H
  obtain ⟨s1, hs1⟩ : ∃ z, W * W = z := ⟨_, rfl⟩
  have G1 : wrap64 (W * W) = s1 := (IntWalk.wrap64_in _ (by omega)).trans hs1
  obtain ⟨s2, hs2⟩ : ∃ z, H * H = z := ⟨_, rfl⟩
  have G2 : wrap64 (H * H) = s2 := (IntWalk.wrap64_in _ (by omega)).trans hs2
  obtain ⟨s3, hs3⟩ : ∃ z, P * W = z := ⟨_, rfl⟩
  have G4 : wrap64 (P * W) = s3 := (IntWalk.wrap64_in _ (by omega)).trans hs3
  obtain ⟨s4, hs4⟩ : ∃ z, Q * H = z := ⟨_, rfl⟩
  have G5 : wrap64 (Q * H) = s4 := (IntWalk.wrap64_in _ (by omega)).trans hs4
  obtain ⟨s5, hs5⟩ : ∃ z, W * Q = z := ⟨_, rfl⟩
  have G7 : wrap64 (W * Q) = s5 := (IntWalk.wrap64_in _ (by omega)).trans hs5
  obtain ⟨s6, hs6⟩ : ∃ z, H * P = z := ⟨_, rfl⟩
  have G8 : wrap64 (H * P) = s6 := (IntWalk.wrap64_in _ (by omega)).trans hs6
  rw [hs1] at m1 z1
  rw [hs2] at m2 z2
  rw [hs3] at m3
  rw [hs4] at m4
  rw [hs5] at m5
  rw [hs6] at m6
  rw [hs1, hs2, hs3, hs4, hs5, hs6]
  clear hs1 hs2 hs3 hs4 hs5 hs6 bW bH bP bQ
  obtain ⟨l, hl⟩ : ∃ z, s1 + s2 = z := ⟨_, rfl⟩
  have G3 : wrap64 (s1 + s2) = l := (IntWalk.wrap64_in _ (by omega)).trans hl
  obtain ⟨s, hs⟩ : ∃ z, s3 + s4 = z := ⟨_, rfl⟩
  have G6 : wrap64 (s3 + s4) = s := (IntWalk.wrap64_in _ (by omega)).trans hs
  obtain ⟨c, hc⟩ : ∃ z, s5 - s6 = z := ⟨_, rfl⟩
  have G9 : wrap64 (s5 - s6) = c := (IntWalk.wrap64_in _ (by omega)).trans hc
  rw [hl, hs, hc]
  have CA := fun w => ragainst_any c n l (by omega) (by omega) (by omega) w
  have HL : 0 ≤ l := by omega
  have HN := hn
  clear hl hs hc m1 m2 m3 m4 m5 m6 z1 z2 hn
  obtain ⟨S, hS⟩ : ∃ S, 128 * n * 128 * n * l = S := ⟨_, rfl⟩
  rw [hS] at CA
  have hside : SM.side n c l ↔ (if 0 < c then c * c ≤ S else c * c < S) := by rw [← hS]; exact Iff.rfl
  have hSp : 0 < l → (0 : Int) * 0 < S := fun h => by
    rw [← hS]
    have h1 := Int.mul_pos (show 0 < 128 * n * 128 by omega) (show 0 < n by omega)
    have h2 := Int.mul_pos h1 h
    omega
  clear hS HN
  rcases (by omega : s < 0 ∨ (0 ≤ s ∧ l ≤ s) ∨ (0 ≤ s ∧ s < l ∧ 0 < c) ∨ (0 ≤ s ∧ s < l ∧ c = 0) ∨ (0 ≤ s ∧ s < l ∧ c < 0)) with h | h | h | h | h
  · have hv : decide (0 ≤ s ∧ s < l ∧ SM.side n c l) = false := decide_eq_false (by omega)
    rw [hv]
    have K1 : decide (s < 0) = true := decide_eq_true (by omega)
    clear hv h HL hSp hside
    go_enter Try.func35, Try.ntmps35
    go_wp2_with (first | ((with_reducible refine at_box 5 ?_); refine wpList_box_own O (M.mat 7 (a)) rfl ?_; clear O; intro g5 w1 O) | ((with_reducible refine at_box 6 ?_); refine wpList_box_own O (M.mat 7 (b)) rfl ?_; clear O; intro g6 w2 O))
    have OO := O
    clear O
    have O := OO
    clear OO
    refine region_T ((fun w2 => Own w w2 [(g6, 25, M.mat 7 b), (g5, 25, M.mat 7 a)])) [0, 1, 2, 3, 4, 5, 6, 7, 8, 9, 10] 12 [some 18, some 19, some 20, some 21, some 22, some 23, some 24, some 25, some 26, some 27, some 11] [.pointer (some ⟨g6, 0, none⟩), .int .i64 (q0), .pointer (some ⟨g5, 0, none⟩), .int .i64 (p0), .int .i64 (W), .pointer (some ⟨g6, 1, none⟩), .int .i64 (q1), .pointer (some ⟨g5, 1, none⟩), .int .i64 (p1), .int .i64 (H), .int .i64 (W)] 1 (by kernel_rfl) (by rfl) (by kernel_rfl) (by rfl) (by rfl) (O.drew) (fun F hF => ?_)
    simp only [fillD, Act.put, List.setIfInBounds_toArray, List.set_cons_zero, List.set_cons_succ] at hF
    subst hF
    refine ⟨⟨does_want rfl (by rfl) (fun w' O K hK => ?_), does_want rfl (by rfl) (fun w' O K hK => ?_), does_want rfl (by rfl) (fun w' O K hK => ?_), does_want rfl (by rfl) (fun w' O K hK => ?_), does_want rfl (by rfl) (fun w' O K hK => ?_), does_want rfl (by rfl) (fun w' O K hK => ?_), does_want rfl (by rfl) (fun w' O K hK => ?_), does_want rfl (by rfl) (fun w' O K hK => ?_), does_want rfl (by rfl) (fun w' O K hK => ?_), does_want rfl (by rfl) (fun w' O K hK => ?_), does_want rfl (by rfl) (fun w' O K hK => ?_), trivial⟩, fun w' O => ?_⟩
    · go_simp
      exact hK _ O
    · exact wp_cell_h (v := .int .i64 (q0)) O.held 0 rfl Cq0.out rfl agg3 rfl (hK _ O)
    · go_simp
      exact hK _ O
    · exact wp_cell_h (v := .int .i64 (p0)) O.held 1 rfl Cp0.out rfl agg3 rfl (hK _ O)
    · go_simp
      simp only [DW.out]
      exact hK _ O
    · go_simp
      exact hK _ O
    · exact wp_cell_h (v := .int .i64 (q1)) O.held 0 rfl Cq1.out rfl agg3 rfl (hK _ O)
    · go_simp
      exact hK _ O
    · exact wp_cell_h (v := .int .i64 (p1)) O.held 1 rfl Cp1.out rfl agg3 rfl (hK _ O)
    · go_simp
      simp only [DH.out]
      exact hK _ O
    · go_simp
      exact hK _ O
    refine wpAny_one (i := 11) (by kernel_rfl) rfl (fun K hK => ?_)
    go_simp
    refine hK _ _ ?_
    clear hK K
    try simp only [Act.put, List.setIfInBounds_toArray, List.set_cons_zero, List.set_cons_succ]
    refine wpAny_done (by kernel_rfl) ?_ _
    go_wp2_with fail
    have OO := O
    clear O
    have O := OO
    clear OO
    refine region_T ((fun w2 => Own w w2 [(g6, 25, M.mat 7 b), (g5, 25, M.mat 7 a)])) [0, 1, 2, 3, 4, 5, 6, 7, 8] 12 [some 28, some 29, some 30, some 31, some 32, some 33, some 34, some 35, some 13] [.int .i64 (x), .pointer (some ⟨g5, 0, none⟩), .int .i64 (p0), .int .i64 (P), .int .i64 (y), .pointer (some ⟨g5, 1, none⟩), .int .i64 (p1), .int .i64 (Q), .int .i64 (P)] 1 (by kernel_rfl) (by rfl) (by kernel_rfl) (by rfl) (by rfl) (O.drew) (fun F hF => ?_)
    simp only [fillD, Act.put, List.setIfInBounds_toArray, List.set_cons_zero, List.set_cons_succ] at hF
    subst hF
    refine ⟨⟨does_want rfl (by rfl) (fun w' O K hK => ?_), does_want rfl (by rfl) (fun w' O K hK => ?_), does_want rfl (by rfl) (fun w' O K hK => ?_), does_want rfl (by rfl) (fun w' O K hK => ?_), does_want rfl (by rfl) (fun w' O K hK => ?_), does_want rfl (by rfl) (fun w' O K hK => ?_), does_want rfl (by rfl) (fun w' O K hK => ?_), does_want rfl (by rfl) (fun w' O K hK => ?_), does_want rfl (by rfl) (fun w' O K hK => ?_), trivial⟩, fun w' O => ?_⟩
    · go_simp
      exact hK _ O
    · go_simp
      exact hK _ O
    · exact wp_cell_h (v := .int .i64 (p0)) O.held 1 rfl Cp0.out rfl agg3 rfl (hK _ O)
    · go_simp
      simp only [DP.out]
      exact hK _ O
    · go_simp
      exact hK _ O
    · go_simp
      exact hK _ O
    · exact wp_cell_h (v := .int .i64 (p1)) O.held 1 rfl Cp1.out rfl agg3 rfl (hK _ O)
    · go_simp
      simp only [DQ.out]
      exact hK _ O
    · go_simp
      exact hK _ O
    refine wpAny_one (i := 9) (by kernel_rfl) rfl (fun K hK => ?_)
    go_simp
    refine hK _ _ ?_
    clear hK K
    try simp only [Act.put, List.setIfInBounds_toArray, List.set_cons_zero, List.set_cons_succ]
    refine wpAny_done (by kernel_rfl) ?_ _
    go_wp2_with fail
    go_ret
    exact ⟨rfl, O.below⟩
  · have hv : decide (0 ≤ s ∧ s < l ∧ SM.side n c l) = false := decide_eq_false (by omega)
    rw [hv]
    have K1 : decide (s < 0) = false := decide_eq_false (by omega)
    have K2 : decide (l ≤ s) = true := decide_eq_true (by omega)
    clear hv h HL hSp hside
    go_enter Try.func35, Try.ntmps35
    go_wp2_with (first | ((with_reducible refine at_box 5 ?_); refine wpList_box_own O (M.mat 7 (a)) rfl ?_; clear O; intro g5 w1 O) | ((with_reducible refine at_box 6 ?_); refine wpList_box_own O (M.mat 7 (b)) rfl ?_; clear O; intro g6 w2 O))
    have OO := O
    clear O
    have O := OO
    clear OO
    refine region_T ((fun w2 => Own w w2 [(g6, 25, M.mat 7 b), (g5, 25, M.mat 7 a)])) [0, 1, 2, 3, 4, 5, 6, 7, 8, 9, 10] 12 [some 18, some 19, some 20, some 21, some 22, some 23, some 24, some 25, some 26, some 27, some 11] [.pointer (some ⟨g6, 0, none⟩), .int .i64 (q0), .pointer (some ⟨g5, 0, none⟩), .int .i64 (p0), .int .i64 (W), .pointer (some ⟨g6, 1, none⟩), .int .i64 (q1), .pointer (some ⟨g5, 1, none⟩), .int .i64 (p1), .int .i64 (H), .int .i64 (W)] 1 (by kernel_rfl) (by rfl) (by kernel_rfl) (by rfl) (by rfl) (O.drew) (fun F hF => ?_)
    simp only [fillD, Act.put, List.setIfInBounds_toArray, List.set_cons_zero, List.set_cons_succ] at hF
    subst hF
    refine ⟨⟨does_want rfl (by rfl) (fun w' O K hK => ?_), does_want rfl (by rfl) (fun w' O K hK => ?_), does_want rfl (by rfl) (fun w' O K hK => ?_), does_want rfl (by rfl) (fun w' O K hK => ?_), does_want rfl (by rfl) (fun w' O K hK => ?_), does_want rfl (by rfl) (fun w' O K hK => ?_), does_want rfl (by rfl) (fun w' O K hK => ?_), does_want rfl (by rfl) (fun w' O K hK => ?_), does_want rfl (by rfl) (fun w' O K hK => ?_), does_want rfl (by rfl) (fun w' O K hK => ?_), does_want rfl (by rfl) (fun w' O K hK => ?_), trivial⟩, fun w' O => ?_⟩
    · go_simp
      exact hK _ O
    · exact wp_cell_h (v := .int .i64 (q0)) O.held 0 rfl Cq0.out rfl agg3 rfl (hK _ O)
    · go_simp
      exact hK _ O
    · exact wp_cell_h (v := .int .i64 (p0)) O.held 1 rfl Cp0.out rfl agg3 rfl (hK _ O)
    · go_simp
      simp only [DW.out]
      exact hK _ O
    · go_simp
      exact hK _ O
    · exact wp_cell_h (v := .int .i64 (q1)) O.held 0 rfl Cq1.out rfl agg3 rfl (hK _ O)
    · go_simp
      exact hK _ O
    · exact wp_cell_h (v := .int .i64 (p1)) O.held 1 rfl Cp1.out rfl agg3 rfl (hK _ O)
    · go_simp
      simp only [DH.out]
      exact hK _ O
    · go_simp
      exact hK _ O
    refine wpAny_one (i := 11) (by kernel_rfl) rfl (fun K hK => ?_)
    go_simp
    refine hK _ _ ?_
    clear hK K
    try simp only [Act.put, List.setIfInBounds_toArray, List.set_cons_zero, List.set_cons_succ]
    refine wpAny_done (by kernel_rfl) ?_ _
    go_wp2_with fail
    have OO := O
    clear O
    have O := OO
    clear OO
    refine region_T ((fun w2 => Own w w2 [(g6, 25, M.mat 7 b), (g5, 25, M.mat 7 a)])) [0, 1, 2, 3, 4, 5, 6, 7, 8] 12 [some 28, some 29, some 30, some 31, some 32, some 33, some 34, some 35, some 13] [.int .i64 (x), .pointer (some ⟨g5, 0, none⟩), .int .i64 (p0), .int .i64 (P), .int .i64 (y), .pointer (some ⟨g5, 1, none⟩), .int .i64 (p1), .int .i64 (Q), .int .i64 (P)] 1 (by kernel_rfl) (by rfl) (by kernel_rfl) (by rfl) (by rfl) (O.drew) (fun F hF => ?_)
    simp only [fillD, Act.put, List.setIfInBounds_toArray, List.set_cons_zero, List.set_cons_succ] at hF
    subst hF
    refine ⟨⟨does_want rfl (by rfl) (fun w' O K hK => ?_), does_want rfl (by rfl) (fun w' O K hK => ?_), does_want rfl (by rfl) (fun w' O K hK => ?_), does_want rfl (by rfl) (fun w' O K hK => ?_), does_want rfl (by rfl) (fun w' O K hK => ?_), does_want rfl (by rfl) (fun w' O K hK => ?_), does_want rfl (by rfl) (fun w' O K hK => ?_), does_want rfl (by rfl) (fun w' O K hK => ?_), does_want rfl (by rfl) (fun w' O K hK => ?_), trivial⟩, fun w' O => ?_⟩
    · go_simp
      exact hK _ O
    · go_simp
      exact hK _ O
    · exact wp_cell_h (v := .int .i64 (p0)) O.held 1 rfl Cp0.out rfl agg3 rfl (hK _ O)
    · go_simp
      simp only [DP.out]
      exact hK _ O
    · go_simp
      exact hK _ O
    · go_simp
      exact hK _ O
    · exact wp_cell_h (v := .int .i64 (p1)) O.held 1 rfl Cp1.out rfl agg3 rfl (hK _ O)
    · go_simp
      simp only [DQ.out]
      exact hK _ O
    · go_simp
      exact hK _ O
    refine wpAny_one (i := 9) (by kernel_rfl) rfl (fun K hK => ?_)
    go_simp
    refine hK _ _ ?_
    clear hK K
    try simp only [Act.put, List.setIfInBounds_toArray, List.set_cons_zero, List.set_cons_succ]
    refine wpAny_done (by kernel_rfl) ?_ _
    go_wp2_with fail
    go_ret
    exact ⟨rfl, O.below⟩
  · have hv : decide (0 ≤ s ∧ s < l ∧ SM.side n c l) = decide (SM.agn c S ≤ 0) := by
      rw [decide_eq_decide, hside, if_pos h.2.2]
      unfold SM.agn
      refine ⟨fun e => ?_, fun e => ⟨h.1, h.2.1, ?_⟩⟩
      · have := e.2.2
        split <;> (try split) <;> omega
      · split at e <;> (try split at e) <;> omega
    rw [hv]
    have K1 : decide (s < 0) = false := decide_eq_false (by omega)
    have K2 : decide (l ≤ s) = false := decide_eq_false (by omega)
    have K3 : decide (0 < c) = true := decide_eq_true (by omega)
    generalize SM.agn c S = v at CA ⊢
    clear hv h HL hSp hside
    go_enter Try.func35, Try.ntmps35
    go_wp2_with (first | ((with_reducible refine at_box 5 ?_); refine wpList_box_own O (M.mat 7 (a)) rfl ?_; clear O; intro g5 w1 O) | ((with_reducible refine at_box 6 ?_); refine wpList_box_own O (M.mat 7 (b)) rfl ?_; clear O; intro g6 w2 O))
    have OO := O
    clear O
    have O := OO
    clear OO
    refine region_T ((fun w2 => Own w w2 [(g6, 25, M.mat 7 b), (g5, 25, M.mat 7 a)])) [0, 1, 2, 3, 4, 5, 6, 7, 8, 9, 10] 12 [some 18, some 19, some 20, some 21, some 22, some 23, some 24, some 25, some 26, some 27, some 11] [.pointer (some ⟨g6, 0, none⟩), .int .i64 (q0), .pointer (some ⟨g5, 0, none⟩), .int .i64 (p0), .int .i64 (W), .pointer (some ⟨g6, 1, none⟩), .int .i64 (q1), .pointer (some ⟨g5, 1, none⟩), .int .i64 (p1), .int .i64 (H), .int .i64 (W)] 1 (by kernel_rfl) (by rfl) (by kernel_rfl) (by rfl) (by rfl) (O.drew) (fun F hF => ?_)
    simp only [fillD, Act.put, List.setIfInBounds_toArray, List.set_cons_zero, List.set_cons_succ] at hF
    subst hF
    refine ⟨⟨does_want rfl (by rfl) (fun w' O K hK => ?_), does_want rfl (by rfl) (fun w' O K hK => ?_), does_want rfl (by rfl) (fun w' O K hK => ?_), does_want rfl (by rfl) (fun w' O K hK => ?_), does_want rfl (by rfl) (fun w' O K hK => ?_), does_want rfl (by rfl) (fun w' O K hK => ?_), does_want rfl (by rfl) (fun w' O K hK => ?_), does_want rfl (by rfl) (fun w' O K hK => ?_), does_want rfl (by rfl) (fun w' O K hK => ?_), does_want rfl (by rfl) (fun w' O K hK => ?_), does_want rfl (by rfl) (fun w' O K hK => ?_), trivial⟩, fun w' O => ?_⟩
    · go_simp
      exact hK _ O
    · exact wp_cell_h (v := .int .i64 (q0)) O.held 0 rfl Cq0.out rfl agg3 rfl (hK _ O)
    · go_simp
      exact hK _ O
    · exact wp_cell_h (v := .int .i64 (p0)) O.held 1 rfl Cp0.out rfl agg3 rfl (hK _ O)
    · go_simp
      simp only [DW.out]
      exact hK _ O
    · go_simp
      exact hK _ O
    · exact wp_cell_h (v := .int .i64 (q1)) O.held 0 rfl Cq1.out rfl agg3 rfl (hK _ O)
    · go_simp
      exact hK _ O
    · exact wp_cell_h (v := .int .i64 (p1)) O.held 1 rfl Cp1.out rfl agg3 rfl (hK _ O)
    · go_simp
      simp only [DH.out]
      exact hK _ O
    · go_simp
      exact hK _ O
    refine wpAny_one (i := 11) (by kernel_rfl) rfl (fun K hK => ?_)
    go_simp
    refine hK _ _ ?_
    clear hK K
    try simp only [Act.put, List.setIfInBounds_toArray, List.set_cons_zero, List.set_cons_succ]
    refine wpAny_done (by kernel_rfl) ?_ _
    go_wp2_with fail
    have OO := O
    clear O
    have O := OO
    clear OO
    refine region_T ((fun w2 => Own w w2 [(g6, 25, M.mat 7 b), (g5, 25, M.mat 7 a)])) [0, 1, 2, 3, 4, 5, 6, 7, 8] 12 [some 28, some 29, some 30, some 31, some 32, some 33, some 34, some 35, some 13] [.int .i64 (x), .pointer (some ⟨g5, 0, none⟩), .int .i64 (p0), .int .i64 (P), .int .i64 (y), .pointer (some ⟨g5, 1, none⟩), .int .i64 (p1), .int .i64 (Q), .int .i64 (P)] 1 (by kernel_rfl) (by rfl) (by kernel_rfl) (by rfl) (by rfl) (O.drew) (fun F hF => ?_)
    simp only [fillD, Act.put, List.setIfInBounds_toArray, List.set_cons_zero, List.set_cons_succ] at hF
    subst hF
    refine ⟨⟨does_want rfl (by rfl) (fun w' O K hK => ?_), does_want rfl (by rfl) (fun w' O K hK => ?_), does_want rfl (by rfl) (fun w' O K hK => ?_), does_want rfl (by rfl) (fun w' O K hK => ?_), does_want rfl (by rfl) (fun w' O K hK => ?_), does_want rfl (by rfl) (fun w' O K hK => ?_), does_want rfl (by rfl) (fun w' O K hK => ?_), does_want rfl (by rfl) (fun w' O K hK => ?_), does_want rfl (by rfl) (fun w' O K hK => ?_), trivial⟩, fun w' O => ?_⟩
    · go_simp
      exact hK _ O
    · go_simp
      exact hK _ O
    · exact wp_cell_h (v := .int .i64 (p0)) O.held 1 rfl Cp0.out rfl agg3 rfl (hK _ O)
    · go_simp
      simp only [DP.out]
      exact hK _ O
    · go_simp
      exact hK _ O
    · go_simp
      exact hK _ O
    · exact wp_cell_h (v := .int .i64 (p1)) O.held 1 rfl Cp1.out rfl agg3 rfl (hK _ O)
    · go_simp
      simp only [DQ.out]
      exact hK _ O
    · go_simp
      exact hK _ O
    refine wpAny_one (i := 9) (by kernel_rfl) rfl (fun K hK => ?_)
    go_simp
    refine hK _ _ ?_
    clear hK K
    try simp only [Act.put, List.setIfInBounds_toArray, List.set_cons_zero, List.set_cons_succ]
    refine wpAny_done (by kernel_rfl) ?_ _
    go_wp2_with (go_at_call 53; refine (CA _).mono ?_; rintro e w9 ⟨rfl, rfl⟩)
    go_ret
    exact ⟨rfl, O.below⟩
  · have hv : decide (0 ≤ s ∧ s < l ∧ SM.side n c l) = true := by
      rw [decide_eq_true_iff]
      refine ⟨h.1, h.2.1, ?_⟩
      rw [hside, if_neg (by omega), h.2.2]
      exact hSp (by omega)
    rw [hv]
    have K1 : decide (s < 0) = false := decide_eq_false (by omega)
    have K2 : decide (l ≤ s) = false := decide_eq_false (by omega)
    have K3 : decide (0 < c) = false := decide_eq_false (by omega)
    have K4 : (c == 0) = true := by simp; omega
    clear hv h HL hSp hside
    go_enter Try.func35, Try.ntmps35
    go_wp2_with (first | ((with_reducible refine at_box 5 ?_); refine wpList_box_own O (M.mat 7 (a)) rfl ?_; clear O; intro g5 w1 O) | ((with_reducible refine at_box 6 ?_); refine wpList_box_own O (M.mat 7 (b)) rfl ?_; clear O; intro g6 w2 O))
    have OO := O
    clear O
    have O := OO
    clear OO
    refine region_T ((fun w2 => Own w w2 [(g6, 25, M.mat 7 b), (g5, 25, M.mat 7 a)])) [0, 1, 2, 3, 4, 5, 6, 7, 8, 9, 10] 12 [some 18, some 19, some 20, some 21, some 22, some 23, some 24, some 25, some 26, some 27, some 11] [.pointer (some ⟨g6, 0, none⟩), .int .i64 (q0), .pointer (some ⟨g5, 0, none⟩), .int .i64 (p0), .int .i64 (W), .pointer (some ⟨g6, 1, none⟩), .int .i64 (q1), .pointer (some ⟨g5, 1, none⟩), .int .i64 (p1), .int .i64 (H), .int .i64 (W)] 1 (by kernel_rfl) (by rfl) (by kernel_rfl) (by rfl) (by rfl) (O.drew) (fun F hF => ?_)
    simp only [fillD, Act.put, List.setIfInBounds_toArray, List.set_cons_zero, List.set_cons_succ] at hF
    subst hF
    refine ⟨⟨does_want rfl (by rfl) (fun w' O K hK => ?_), does_want rfl (by rfl) (fun w' O K hK => ?_), does_want rfl (by rfl) (fun w' O K hK => ?_), does_want rfl (by rfl) (fun w' O K hK => ?_), does_want rfl (by rfl) (fun w' O K hK => ?_), does_want rfl (by rfl) (fun w' O K hK => ?_), does_want rfl (by rfl) (fun w' O K hK => ?_), does_want rfl (by rfl) (fun w' O K hK => ?_), does_want rfl (by rfl) (fun w' O K hK => ?_), does_want rfl (by rfl) (fun w' O K hK => ?_), does_want rfl (by rfl) (fun w' O K hK => ?_), trivial⟩, fun w' O => ?_⟩
    · go_simp
      exact hK _ O
    · exact wp_cell_h (v := .int .i64 (q0)) O.held 0 rfl Cq0.out rfl agg3 rfl (hK _ O)
    · go_simp
      exact hK _ O
    · exact wp_cell_h (v := .int .i64 (p0)) O.held 1 rfl Cp0.out rfl agg3 rfl (hK _ O)
    · go_simp
      simp only [DW.out]
      exact hK _ O
    · go_simp
      exact hK _ O
    · exact wp_cell_h (v := .int .i64 (q1)) O.held 0 rfl Cq1.out rfl agg3 rfl (hK _ O)
    · go_simp
      exact hK _ O
    · exact wp_cell_h (v := .int .i64 (p1)) O.held 1 rfl Cp1.out rfl agg3 rfl (hK _ O)
    · go_simp
      simp only [DH.out]
      exact hK _ O
    · go_simp
      exact hK _ O
    refine wpAny_one (i := 11) (by kernel_rfl) rfl (fun K hK => ?_)
    go_simp
    refine hK _ _ ?_
    clear hK K
    try simp only [Act.put, List.setIfInBounds_toArray, List.set_cons_zero, List.set_cons_succ]
    refine wpAny_done (by kernel_rfl) ?_ _
    go_wp2_with fail
    have OO := O
    clear O
    have O := OO
    clear OO
    refine region_T ((fun w2 => Own w w2 [(g6, 25, M.mat 7 b), (g5, 25, M.mat 7 a)])) [0, 1, 2, 3, 4, 5, 6, 7, 8] 12 [some 28, some 29, some 30, some 31, some 32, some 33, some 34, some 35, some 13] [.int .i64 (x), .pointer (some ⟨g5, 0, none⟩), .int .i64 (p0), .int .i64 (P), .int .i64 (y), .pointer (some ⟨g5, 1, none⟩), .int .i64 (p1), .int .i64 (Q), .int .i64 (P)] 1 (by kernel_rfl) (by rfl) (by kernel_rfl) (by rfl) (by rfl) (O.drew) (fun F hF => ?_)
    simp only [fillD, Act.put, List.setIfInBounds_toArray, List.set_cons_zero, List.set_cons_succ] at hF
    subst hF
    refine ⟨⟨does_want rfl (by rfl) (fun w' O K hK => ?_), does_want rfl (by rfl) (fun w' O K hK => ?_), does_want rfl (by rfl) (fun w' O K hK => ?_), does_want rfl (by rfl) (fun w' O K hK => ?_), does_want rfl (by rfl) (fun w' O K hK => ?_), does_want rfl (by rfl) (fun w' O K hK => ?_), does_want rfl (by rfl) (fun w' O K hK => ?_), does_want rfl (by rfl) (fun w' O K hK => ?_), does_want rfl (by rfl) (fun w' O K hK => ?_), trivial⟩, fun w' O => ?_⟩
    · go_simp
      exact hK _ O
    · go_simp
      exact hK _ O
    · exact wp_cell_h (v := .int .i64 (p0)) O.held 1 rfl Cp0.out rfl agg3 rfl (hK _ O)
    · go_simp
      simp only [DP.out]
      exact hK _ O
    · go_simp
      exact hK _ O
    · go_simp
      exact hK _ O
    · exact wp_cell_h (v := .int .i64 (p1)) O.held 1 rfl Cp1.out rfl agg3 rfl (hK _ O)
    · go_simp
      simp only [DQ.out]
      exact hK _ O
    · go_simp
      exact hK _ O
    refine wpAny_one (i := 9) (by kernel_rfl) rfl (fun K hK => ?_)
    go_simp
    refine hK _ _ ?_
    clear hK K
    try simp only [Act.put, List.setIfInBounds_toArray, List.set_cons_zero, List.set_cons_succ]
    refine wpAny_done (by kernel_rfl) ?_ _
    go_wp2_with fail
    go_ret
    exact ⟨rfl, O.below⟩
  · have hv : decide (0 ≤ s ∧ s < l ∧ SM.side n c l) = decide (SM.agn c S < 0) := by
      rw [decide_eq_decide, hside, if_neg (by omega)]
      unfold SM.agn
      refine ⟨fun e => ?_, fun e => ⟨h.1, h.2.1, ?_⟩⟩
      · have := e.2.2
        split <;> (try split) <;> omega
      · split at e <;> (try split at e) <;> omega
    rw [hv]
    have K1 : decide (s < 0) = false := decide_eq_false (by omega)
    have K2 : decide (l ≤ s) = false := decide_eq_false (by omega)
    have K3 : decide (0 < c) = false := decide_eq_false (by omega)
    have K4 : (c == 0) = false := by simp; omega
    generalize SM.agn c S = v at CA ⊢
    clear hv h HL hSp hside
    go_enter Try.func35, Try.ntmps35
    go_wp2_with (first | ((with_reducible refine at_box 5 ?_); refine wpList_box_own O (M.mat 7 (a)) rfl ?_; clear O; intro g5 w1 O) | ((with_reducible refine at_box 6 ?_); refine wpList_box_own O (M.mat 7 (b)) rfl ?_; clear O; intro g6 w2 O))
    have OO := O
    clear O
    have O := OO
    clear OO
    refine region_T ((fun w2 => Own w w2 [(g6, 25, M.mat 7 b), (g5, 25, M.mat 7 a)])) [0, 1, 2, 3, 4, 5, 6, 7, 8, 9, 10] 12 [some 18, some 19, some 20, some 21, some 22, some 23, some 24, some 25, some 26, some 27, some 11] [.pointer (some ⟨g6, 0, none⟩), .int .i64 (q0), .pointer (some ⟨g5, 0, none⟩), .int .i64 (p0), .int .i64 (W), .pointer (some ⟨g6, 1, none⟩), .int .i64 (q1), .pointer (some ⟨g5, 1, none⟩), .int .i64 (p1), .int .i64 (H), .int .i64 (W)] 1 (by kernel_rfl) (by rfl) (by kernel_rfl) (by rfl) (by rfl) (O.drew) (fun F hF => ?_)
    simp only [fillD, Act.put, List.setIfInBounds_toArray, List.set_cons_zero, List.set_cons_succ] at hF
    subst hF
    refine ⟨⟨does_want rfl (by rfl) (fun w' O K hK => ?_), does_want rfl (by rfl) (fun w' O K hK => ?_), does_want rfl (by rfl) (fun w' O K hK => ?_), does_want rfl (by rfl) (fun w' O K hK => ?_), does_want rfl (by rfl) (fun w' O K hK => ?_), does_want rfl (by rfl) (fun w' O K hK => ?_), does_want rfl (by rfl) (fun w' O K hK => ?_), does_want rfl (by rfl) (fun w' O K hK => ?_), does_want rfl (by rfl) (fun w' O K hK => ?_), does_want rfl (by rfl) (fun w' O K hK => ?_), does_want rfl (by rfl) (fun w' O K hK => ?_), trivial⟩, fun w' O => ?_⟩
    · go_simp
      exact hK _ O
    · exact wp_cell_h (v := .int .i64 (q0)) O.held 0 rfl Cq0.out rfl agg3 rfl (hK _ O)
    · go_simp
      exact hK _ O
    · exact wp_cell_h (v := .int .i64 (p0)) O.held 1 rfl Cp0.out rfl agg3 rfl (hK _ O)
    · go_simp
      simp only [DW.out]
      exact hK _ O
    · go_simp
      exact hK _ O
    · exact wp_cell_h (v := .int .i64 (q1)) O.held 0 rfl Cq1.out rfl agg3 rfl (hK _ O)
    · go_simp
      exact hK _ O
    · exact wp_cell_h (v := .int .i64 (p1)) O.held 1 rfl Cp1.out rfl agg3 rfl (hK _ O)
    · go_simp
      simp only [DH.out]
      exact hK _ O
    · go_simp
      exact hK _ O
    refine wpAny_one (i := 11) (by kernel_rfl) rfl (fun K hK => ?_)
    go_simp
    refine hK _ _ ?_
    clear hK K
    try simp only [Act.put, List.setIfInBounds_toArray, List.set_cons_zero, List.set_cons_succ]
    refine wpAny_done (by kernel_rfl) ?_ _
    go_wp2_with fail
    have OO := O
    clear O
    have O := OO
    clear OO
    refine region_T ((fun w2 => Own w w2 [(g6, 25, M.mat 7 b), (g5, 25, M.mat 7 a)])) [0, 1, 2, 3, 4, 5, 6, 7, 8] 12 [some 28, some 29, some 30, some 31, some 32, some 33, some 34, some 35, some 13] [.int .i64 (x), .pointer (some ⟨g5, 0, none⟩), .int .i64 (p0), .int .i64 (P), .int .i64 (y), .pointer (some ⟨g5, 1, none⟩), .int .i64 (p1), .int .i64 (Q), .int .i64 (P)] 1 (by kernel_rfl) (by rfl) (by kernel_rfl) (by rfl) (by rfl) (O.drew) (fun F hF => ?_)
    simp only [fillD, Act.put, List.setIfInBounds_toArray, List.set_cons_zero, List.set_cons_succ] at hF
    subst hF
    refine ⟨⟨does_want rfl (by rfl) (fun w' O K hK => ?_), does_want rfl (by rfl) (fun w' O K hK => ?_), does_want rfl (by rfl) (fun w' O K hK => ?_), does_want rfl (by rfl) (fun w' O K hK => ?_), does_want rfl (by rfl) (fun w' O K hK => ?_), does_want rfl (by rfl) (fun w' O K hK => ?_), does_want rfl (by rfl) (fun w' O K hK => ?_), does_want rfl (by rfl) (fun w' O K hK => ?_), does_want rfl (by rfl) (fun w' O K hK => ?_), trivial⟩, fun w' O => ?_⟩
    · go_simp
      exact hK _ O
    · go_simp
      exact hK _ O
    · exact wp_cell_h (v := .int .i64 (p0)) O.held 1 rfl Cp0.out rfl agg3 rfl (hK _ O)
    · go_simp
      simp only [DP.out]
      exact hK _ O
    · go_simp
      exact hK _ O
    · go_simp
      exact hK _ O
    · exact wp_cell_h (v := .int .i64 (p1)) O.held 1 rfl Cp1.out rfl agg3 rfl (hK _ O)
    · go_simp
      simp only [DQ.out]
      exact hK _ O
    · go_simp
      exact hK _ O
    refine wpAny_one (i := 9) (by kernel_rfl) rfl (fun K hK => ?_)
    go_simp
    refine hK _ _ ?_
    clear hK K
    try simp only [Act.put, List.setIfInBounds_toArray, List.set_cons_zero, List.set_cons_succ]
    refine wpAny_done (by kernel_rfl) ?_ _
    go_wp2_with (go_at_call 53; refine (CA _).mono ?_; rintro e w9 ⟨rfl, rfl⟩)
    go_ret
    exact ⟨rfl, O.below⟩
end Go.Proofs.Ytdkppkdoconfhaa
