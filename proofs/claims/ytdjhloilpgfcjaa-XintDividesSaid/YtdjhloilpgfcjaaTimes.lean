/- Contract of Times: the product of a number of 128 bits and an int, or that there is none. -/
import Derived.Test.YtdjhloilpgfcjaaMul
namespace Go.Proofs.Ytdjhloilpgfcjaa
open Go.ChangeShapes Go.WideShapes Go.ChangeAt Go.RowKit
set_option linter.unusedVariables false

theorem M.times_of {h l n a1 a0 N over hi0 carry lo hi more : Int} (b : M.B h l) (n1 : -9223372036854775808 ≤ n) (n2 : n < 9223372036854775808)
    (e1 : M.abs (M.val h l) / 18446744073709551616 = a1) (e0 : M.abs (M.val h l) % 18446744073709551616 = a0) (eN : M.abs n = N)
    (c1 : a0 * N / 18446744073709551616 = carry) (c0 : a0 * N % 18446744073709551616 = lo) (d1 : a1 * N / 18446744073709551616 = over) (d0 : a1 * N % 18446744073709551616 = hi0)
    (s0 : (hi0 + carry) % 18446744073709551616 = hi) (s1 : (hi0 + carry) / 18446744073709551616 = more) :
    (over = 0 → more = 0 → M.val h l * n = M.sg (decide (h < 0) != decide (n < 0)) (M.val hi lo)) ∧ (¬ (over = 0 ∧ more = 0) → M.ok (M.val h l * n) = false) := by
  have hA : M.abs (M.val h l) * N = (a1 * N) * 18446744073709551616 + a0 * N := by
    have : M.abs (M.val h l) = a1 * 18446744073709551616 + a0 := by omega
    rw [this, Int.add_mul, Int.mul_right_comm]
  have hs : M.val h l * n = M.sg (decide (h < 0) != decide (n < 0)) (M.abs (M.val h l) * N) := by
    obtain ⟨h1, h2, h3, h4⟩ := b
    have hv : M.val h l < 0 ↔ h < 0 := by unfold M.val; omega
    rw [← eN]
    unfold M.sg M.abs
    by_cases x : h < 0 <;> by_cases y : n < 0 <;> simp [x, y, hv.2, hv, Int.neg_mul, Int.mul_neg]
  have hn0 : 0 ≤ N := by rw [← eN]; unfold M.abs; split <;> omega
  have ha0 : 0 ≤ a0 := by omega
  have ha1 : 0 ≤ a1 := by
    have : 0 ≤ M.abs (M.val h l) := by unfold M.abs; split <;> omega
    omega
  have p0 : 0 ≤ a0 * N := Int.mul_nonneg ha0 hn0
  have p1 : 0 ≤ a1 * N := Int.mul_nonneg ha1 hn0
  rw [hs, hA]
  generalize a0 * N = t0 at *
  generalize a1 * N = t1 at *
  refine ⟨fun o m => ?_, fun o => ?_⟩
  · have : t1 * 18446744073709551616 + t0 = M.val hi lo := by unfold M.val; omega
    rw [this]
  · rw [Bool.eq_false_iff]; intro k; rw [M.ok_iff] at k
    have hge : 340282366920938463463374607431768211456 ≤ t1 * 18446744073709551616 + t0 := by omega
    unfold M.sg at k
    split at k <;> omega

set_option maxHeartbeats 1000000 in
theorem times_any (h l n : Int) (b : M.B h l) (n1 : -9223372036854775808 ≤ n) (n2 : n < 9223372036854775808) (w : World) :
    Calls Try.prog 17 #[.agg #[.int .i64 h, .int .u64 l], .int .i64 n] w fun e w' =>
      e = .returned (.tuple #[.agg #[.int .i64 (M.oh (M.val h l * n)), .int .u64 (M.ol (M.val h l * n))], .bool (M.ok (M.val h l * n))]) ∧ Below w.heap.size w w' := by
  have q1 := size_any h l b
  have q2 := of_any n n1 n2
  have q3 := size_any (M.oh n) (M.ol n) (M.b_of n)
  rw [M.val_of (v := n) (by rw [M.ok_iff]; omega)] at q3
  obtain ⟨N, eN⟩ : ∃ z, M.abs n = z := ⟨_, rfl⟩
  have hN : 0 ≤ N ∧ N < 18446744073709551616 := by rw [← eN]; unfold M.abs; split <;> omega
  rw [eN, show N / 18446744073709551616 = 0 by omega, show N % 18446744073709551616 = N by omega] at q3
  obtain ⟨a1, e1⟩ : ∃ z, M.abs (M.val h l) / 18446744073709551616 = z := ⟨_, rfl⟩
  obtain ⟨a0, e0⟩ : ∃ z, M.abs (M.val h l) % 18446744073709551616 = z := ⟨_, rfl⟩
  have ha0 : 0 ≤ a0 ∧ a0 < 18446744073709551616 := by omega
  have ha1 : 0 ≤ a1 ∧ a1 < 18446744073709551616 := by
    obtain ⟨b1, b2, b3, b4⟩ := b
    have : 0 ≤ M.abs (M.val h l) ∧ M.abs (M.val h l) ≤ 170141183460469231731687303715884105728 := by unfold M.abs M.val; split <;> omega
    omega
  rw [e1, e0] at q1
  have q4 := mul64_any a0 N ha0.1 ha0.2 hN.1 hN.2
  have q5 := mul64_any a1 N ha1.1 ha1.2 hN.1 hN.2
  obtain ⟨carry, c1⟩ : ∃ z, a0 * N / 18446744073709551616 = z := ⟨_, rfl⟩
  obtain ⟨lo, c0⟩ : ∃ z, a0 * N % 18446744073709551616 = z := ⟨_, rfl⟩
  obtain ⟨over, d1⟩ : ∃ z, a1 * N / 18446744073709551616 = z := ⟨_, rfl⟩
  obtain ⟨hi0, d0⟩ : ∃ z, a1 * N % 18446744073709551616 = z := ⟨_, rfl⟩
  have hc0 : 0 ≤ carry := by rw [← c1]; exact Int.ediv_nonneg (Int.mul_nonneg ha0.1 hN.1) (by omega)
  rw [c1, c0] at q4
  rw [d1, d0] at q5
  have r6 := add64_run hi0 carry 0 (by omega) hc0 (by omega) (by omega)
  rw [Int.add_zero] at r6
  obtain ⟨hi, s0⟩ : ∃ z, (hi0 + carry) % 18446744073709551616 = z := ⟨_, rfl⟩
  obtain ⟨more, s1⟩ : ∃ z, (hi0 + carry) / 18446744073709551616 = z := ⟨_, rfl⟩
  rw [s0, s1] at r6
  have H := M.times_of b n1 n2 e1 e0 eN c1 c0 d1 d0 s0 s1
  obtain ⟨m1, hm1⟩ : ∃ z, decide (h < 0) = z := ⟨_, rfl⟩
  obtain ⟨m2, hm2⟩ : ∃ z, decide (n < 0) = z := ⟨_, rfl⟩
  have hh1 : 0 ≤ hi := by omega
  have hh2 : hi < 18446744073709551616 := by omega
  have hl1 : 0 ≤ lo := by omega
  have hl2 : lo < 18446744073709551616 := by omega
  have q7 := signed_any hi lo (m1 != m2) hh1 hh2 hl1 hl2
  rw [hm1, hm2] at H
  obtain ⟨m, hm⟩ : ∃ z, (m1 != m2) = z := ⟨_, rfl⟩
  rw [hm] at H q7
  have hm' : (!(m1 == m2)) = m := hm
  have HM := Lib.hid H
  clear e1 e0 eN c1 c0 d1 d0 s0 s1 H hN ha0 ha1 hc0 hh1 hh2 hl1 hl2 b
  by_cases z : over = 0 ∧ more = 0
  · have HV := Lib.hid (HM.out.1 z.1 z.2)
    rw [← HV.out] at q7
    obtain ⟨rfl, rfl⟩ := z
    clear HM
    go_enter Try.func17, Try.ntmps17
    go_wp2_with fail
    refine (q1 _).mono ?_; rintro e w1 ⟨rfl, hb⟩
    have K := hb
    clear hb
    go_wp2_with fail
    refine (q2 _).mono ?_; rintro e w2 ⟨rfl, hb⟩
    replace K := K.trans (hb.mono K.size)
    clear hb
    go_wp2_with fail
    refine (q3 _).mono ?_; rintro e w3 ⟨rfl, hb⟩
    replace K := K.trans (hb.mono K.size)
    clear hb
    obtain ⟨hc, hf⟩ := bcell K
    have hz : w.heap.size + 1 < w3.heap.size := by have := K.size; simp at this; omega
    go_wp2_with fail
    refine (q4 _).mono ?_; rintro e w4 ⟨rfl, rfl⟩
    go_wp2_with fail
    refine (q5 _).mono ?_; rintro e w4 ⟨rfl, rfl⟩
    go_wp2_with fail
    refine (q7 _).mono ?_; rintro e w4 ⟨rfl, hb⟩
    replace K := K.trans (hb.mono K.size)
    clear hb hc hf hz
    obtain ⟨hc, hf⟩ := bcell K
    have hz : w.heap.size + 1 < w4.heap.size := by have := K.size; simp at this; omega
    go_wp2_with fail
    exact bodyPost_ret (v := .tuple #[.agg #[.int .i64 (M.oh (M.val h l * n)), .int .u64 (M.ol (M.val h l * n))], .bool (M.ok (M.val h l * n))]) (by simp [results, Try.results17, go_sem, hc, hz]) rfl ⟨rfl, (((((Below.refl _ _).alloc (Nat.le_refl _) _).alloc (by simp) _).trans (K.mono (by simp; omega))).setCell (by simp) _).setCell (by simp) _⟩
  · have HV := Lib.hid (HM.out.2 z)
    by_cases z0 : over = 0
    · have k1 : (over != 0) = false := by simpa using z0
      have k2 : (more != 0) = true := by simp; omega
      have k3 : (over == 0) = true := by simpa using z0
      have k4 : (more == 0) = false := by simp; omega
      clear HM z z0
      go_enter Try.func17, Try.ntmps17
      go_wp2_with fail
      refine (q1 _).mono ?_; rintro e w1 ⟨rfl, hb⟩
      have K := hb
      clear hb
      go_wp2_with fail
      refine (q2 _).mono ?_; rintro e w2 ⟨rfl, hb⟩
      replace K := K.trans (hb.mono K.size)
      clear hb
      go_wp2_with fail
      refine (q3 _).mono ?_; rintro e w3 ⟨rfl, hb⟩
      replace K := K.trans (hb.mono K.size)
      clear hb
      obtain ⟨hc, hf⟩ := bcell K
      have hz : w.heap.size + 1 < w3.heap.size := by have := K.size; simp at this; omega
      go_wp2_with fail
      refine (q4 _).mono ?_; rintro e w4 ⟨rfl, rfl⟩
      go_wp2_with fail
      refine (q5 _).mono ?_; rintro e w4 ⟨rfl, rfl⟩
      go_wp2_with fail
      exact bodyPost_ret (v := .tuple #[.agg #[.int .i64 0, .int .u64 0], .bool false]) (by simp [results, Try.results17, go_sem, hc, hz]) rfl ⟨retpb (M.no_of HV.out).1.symm (M.no_of HV.out).2.symm HV.out.symm, (((((Below.refl _ _).alloc (Nat.le_refl _) _).alloc (by simp) _).trans (K.mono (by simp; omega))).setCell (by simp) _).setCell (by simp) _⟩
    · have k1 : (over != 0) = true := by simpa using z0
      have k3 : (over == 0) = false := by simpa using z0
      clear HM z z0
      go_enter Try.func17, Try.ntmps17
      go_wp2_with fail
      refine (q1 _).mono ?_; rintro e w1 ⟨rfl, hb⟩
      have K := hb
      clear hb
      go_wp2_with fail
      refine (q2 _).mono ?_; rintro e w2 ⟨rfl, hb⟩
      replace K := K.trans (hb.mono K.size)
      clear hb
      go_wp2_with fail
      refine (q3 _).mono ?_; rintro e w3 ⟨rfl, hb⟩
      replace K := K.trans (hb.mono K.size)
      clear hb
      obtain ⟨hc, hf⟩ := bcell K
      have hz : w.heap.size + 1 < w3.heap.size := by have := K.size; simp at this; omega
      go_wp2_with fail
      refine (q4 _).mono ?_; rintro e w4 ⟨rfl, rfl⟩
      go_wp2_with fail
      refine (q5 _).mono ?_; rintro e w4 ⟨rfl, rfl⟩
      go_wp2_with fail
      exact bodyPost_ret (v := .tuple #[.agg #[.int .i64 0, .int .u64 0], .bool false]) (by simp [results, Try.results17, go_sem, hc, hz]) rfl ⟨retpb (M.no_of HV.out).1.symm (M.no_of HV.out).2.symm HV.out.symm, (((((Below.refl _ _).alloc (Nat.le_refl _) _).alloc (by simp) _).trans (K.mono (by simp; omega))).setCell (by simp) _).setCell (by simp) _⟩
end Go.Proofs.Ytdjhloilpgfcjaa
