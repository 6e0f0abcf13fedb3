/- Contracts: among, within, down. -/
import Derived.Test.YtbmigbmeadgopaaTy
namespace Go.Proofs.Ytbmigbmeadgopaa
open Go.ChangeShapes Go.WideShapes Go.ChangeAt Go.RowKit
set_option linter.unusedVariables false
set_option linter.unusedSimpArgs false

set_option maxHeartbeats 1000000 in
theorem among_any (n lo hi : Int) (w : World) : Calls Try.prog 21 #[.int .i64 n, .int .i64 lo, .int .i64 hi] w fun e w' => e = .returned (.bool (D.inB lo hi n)) ∧ w' = w := by
  by_cases h2 : lo ≤ n
  · go_enter Try.func21, Try.ntmps21
    go_wp2_with fail
    go_ret
    exact ⟨by simp [D.inB, h2], rfl⟩
  · go_enter Try.func21, Try.ntmps21
    go_wp2_with fail
    go_ret
    exact ⟨by simp [D.inB, h2]; omega, rfl⟩
set_option maxHeartbeats 1000000 in
theorem within_any (n lo hi : Int) (w : World) : Calls Try.prog 19 #[.int .i64 n, .int .i64 lo, .int .i64 hi] w fun e w' => e = .returned (.bool (D.inB lo hi n)) ∧ w' = w := by
  by_cases h2 : lo ≤ n
  · go_enter Try.func19, Try.ntmps19
    go_wp2_with fail
    go_ret
    exact ⟨by simp [D.inB, h2], rfl⟩
  · go_enter Try.func19, Try.ntmps19
    go_wp2_with fail
    go_ret
    exact ⟨by simp [D.inB, h2]; omega, rfl⟩
/-- The quotient and the rest of the language stay in range. -/
theorem V.quo_rng {n d : Int} (hd : 0 < d) (h1 : -9223372036854775808 ≤ n) (h2 : n < 9223372036854775808) : -9223372036854775808 ≤ n.tdiv d ∧ n.tdiv d < 9223372036854775808 := by
  have e := Int.natAbs_tdiv_le_natAbs n d
  by_cases h : 0 ≤ n
  · have := Int.tdiv_nonneg h (show 0 ≤ d by omega)
    omega
  · have := Int.tdiv_nonneg (show 0 ≤ -n by omega) (show 0 ≤ d by omega)
    rw [Int.neg_tdiv] at this
    omega
theorem V.down_rng {n d : Int} (hd : 0 < d) (h1 : -9223372036854775808 ≤ n) (h2 : n < 9223372036854775808) : -9223372036854775808 ≤ n / d ∧ n / d < 9223372036854775808 := by
  have e1 := Int.mul_le_mul_of_nonneg_left (show 1 ≤ d by omega) (show (0 : Int) ≤ 9223372036854775808 by omega)
  refine ⟨(V.le_down hd).2 (by omega), (V.down_lt hd).2 (by omega)⟩
set_option maxHeartbeats 1000000 in
theorem down_any (n d : Int) (hd : 0 < d) (h1 : -9223372036854775808 ≤ n) (h2 : n < 9223372036854775808) (w : World) : Calls Try.prog 22 #[.int .i64 n, .int .i64 d] w fun e w' => e = .returned (.int .i64 (n / d)) ∧ w' = w := by
  have HE := Lib.hid (V.down_tmod (n := n) hd)
  have hq := V.quo_rng hd h1 h2
  have hr := V.down_rng hd h1 h2
  have h0 : d ≠ 0 := by omega
  have k0 : (d == 0) = false := by simpa using h0
  by_cases hm : n.tmod d < 0
  · have e := HE.out
    rw [if_pos hm] at e
    have HF := Lib.hid e
    rw [e] at hr
    clear e HE
    go_enter Try.func22, Try.ntmps22
    go_wp2_with fail
    go_ret
    exact ⟨by rw [HF.out]; rfl, rfl⟩
  · have e := HE.out
    rw [if_neg hm] at e
    have HF := Lib.hid e
    clear e HE hr
    go_enter Try.func22, Try.ntmps22
    go_wp2_with fail
    go_ret
    exact ⟨by rw [HF.out]; rfl, rfl⟩
set_option maxHeartbeats 1000000 in
theorem rdown_any (n d : Int) (hd : 0 < d) (h1 : -2305843009213693952 ≤ n) (h2 : n ≤ 2305843009213693952) (h3 : d ≤ 2305843009213693952) (w : World) : Calls Try.prog 20 #[.int .i64 n, .int .i64 d] w fun e w' => e = .returned (.int .i64 (n / d)) ∧ w' = w := by
  have HE := Lib.hid (V.down_tdiv (n := n) hd)
  have hq := V.quo_rng hd (show -9223372036854775808 ≤ n by omega) (show n < 9223372036854775808 by omega)
  have hr : -2305843009213693952 ≤ n / d ∧ n / d < 2305843009213693953 := by
    have e1 := Int.mul_le_mul_of_nonneg_left (show 1 ≤ d by omega) (show (0 : Int) ≤ 2305843009213693953 by omega)
    exact ⟨(V.le_down hd).2 (by omega), (V.down_lt hd).2 (by omega)⟩
  have h0 : d ≠ 0 := by omega
  have k0 : (d == 0) = false := by simpa using h0
  have a2 := Int.emod_add_mul_ediv n d
  have a3 := Int.emod_nonneg n h0
  have a4 := Int.emod_lt_of_pos n hd
  rw [Int.mul_comm] at a2
  obtain ⟨f, hf⟩ : ∃ f, n / d = f := ⟨_, rfl⟩
  obtain ⟨q, hq2⟩ : ∃ q, n.tdiv d = q := ⟨_, rfl⟩
  rw [hf] at HE hr a2 ⊢
  rw [hq2] at HE hq
  have b1 : f * d ≤ n ∧ n < f * d + d := by omega
  have b2 : (f + 1) * d = f * d + d := by rw [Int.add_mul, Int.one_mul]
  clear a2 a3 a4 hf h0
  have HQ : Hid (q = f ∨ q = f + 1) := Lib.hid (by
    have := HE.out
    split at this <;> omega)
  have B1 := Lib.hid b1
  have B2 := Lib.hid b2
  clear HE b1 b2
  go_enter Try.func20, Try.ntmps20
  go_wp2_with fail
  go_loopw [5] (fun u wr => ∃ p : Int, u = .int .i64 p ∧ Hid (p = f ∨ p = f + 1) ∧ w = wr) (fun u _ => (intOf u - f).toNat)
  case atStart => exact ⟨_, rfl, HQ, rfl⟩
  case round =>
    obtain ⟨p, rfl, hp, rfl⟩ := hrel
    have b1 := B1.out
    have b2 := B2.out
    rcases hp.out with rfl | rfl
    · have c1 : ¬ p * d > n := by omega
      have c2 : -9223372036854775808 ≤ p * d ∧ p * d < 9223372036854775808 := by omega
      clear b1 b2
      go_wp2_with fail
      go_ret
      exact ⟨rfl, rfl⟩
    · have c1 : (f + 1) * d > n := by omega
      have c2 : -9223372036854775808 ≤ (f + 1) * d ∧ (f + 1) * d < 9223372036854775808 := by omega
      have c3 : -9223372036854775808 ≤ f + 1 ∧ f + 1 < 9223372036854775808 := by omega
      clear b1 b2
      obtain ⟨p, ep⟩ : ∃ p, f + 1 = p := ⟨_, rfl⟩
      have ef : f = p - 1 := by omega
      rw [ep] at c1 c2 c3 ⊢
      clear ep
      go_wp2_with fail
      go_roundw
      case rel => exact ⟨f, by rw [ef], Lib.hid (.inl rfl), trivial⟩
      case measure => simp [intOf]; omega
end Go.Proofs.Ytbmigbmeadgopaa
