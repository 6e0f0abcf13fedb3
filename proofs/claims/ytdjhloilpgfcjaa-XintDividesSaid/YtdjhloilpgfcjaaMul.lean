/- Contracts of products: math/bits.Mul64, Mul, and what Times calls. -/
import Derived.Test.YtdjhloilpgfcjaaBase
import Derived.Shelf.Bits.Mul64
namespace Go.Proofs.Ytdjhloilpgfcjaa
open Go.ChangeShapes Go.WideShapes Go.ChangeAt Go.RowKit
set_option linter.unusedVariables false

theorem bdrewN {B : Nat} {a w : World} (h : Below B a w) (n : Nat) : Below B a (w.drewN n) := ⟨h.os, h.tape, h.output, h.size, h.block⟩
theorem w64_is (n : Int) : wrap64 n = M.w64 n := by unfold wrap64 M.w64; rfl
set_option maxHeartbeats 1000000 in
theorem mul64_nat (x y : Nat) (hx : x < 18446744073709551616) (hy : y < 18446744073709551616) (w : World) :
    Calls Try.prog 41 #[.int .u64 x, .int .u64 y] w fun e w' => e = .returned (.tuple #[.int .u64 ((x * y / 18446744073709551616 : Nat) : Int), .int .u64 ((x * y % 18446744073709551616 : Nat) : Int)]) ∧ w = w' := by
  obtain ⟨bd, bt, bw, hhi⟩ := Lib.mul64_hi x y hx hy
  have ba := Lib.half_mul_le (a := x / 4294967296) (b := y / 4294967296) (by omega) (by omega)
  have bb := Lib.half_mul_le (a := x / 4294967296) (b := y % 4294967296) (by omega) (by omega)
  have bc := Lib.half_mul_le (a := x % 4294967296) (b := y / 4294967296) (by omega) (by omega)
  have ba' : x / 4294967296 * (y / 4294967296) < 18446744073709551616 := by omega
  have bb' : x / 4294967296 * (y % 4294967296) < 18446744073709551616 := by omega
  have bc' : x % 4294967296 * (y / 4294967296) < 18446744073709551616 := by omega
  have bh1 : x / 4294967296 * (y / 4294967296) + (x / 4294967296 * (y % 4294967296) + x % 4294967296 * (y % 4294967296) / 4294967296) / 4294967296 < 18446744073709551616 := by omega
  have bh : x / 4294967296 * (y / 4294967296) + (x / 4294967296 * (y % 4294967296) + x % 4294967296 * (y % 4294967296) / 4294967296) / 4294967296 + ((x / 4294967296 * (y % 4294967296) + x % 4294967296 * (y % 4294967296) / 4294967296) % 4294967296 + x % 4294967296 * (y / 4294967296)) / 4294967296 < 18446744073709551616 := by omega
  go_enter Try.func41, Try.ntmps41
  go_wp2
  simp only [Mul64.maskN x hx, Mul64.maskN y hy, Mul64.divN, Mul64.mulN, Mul64.addN, Mul64.wrapN _ bd, Mul64.wrapN _ bb', Mul64.wrapN _ bt, Mul64.maskN _ bt, Mul64.wrapN _ bc', Mul64.wrapN _ bw, Mul64.wrapN _ ba', Mul64.wrapN _ bh1, Mul64.wrapN _ bh, Mul64.wrapM (x * y)]
  rw [hhi]
  go_ret2
  exact ⟨rfl, rfl⟩
theorem mul64_any (x y : Int) (h1 : 0 ≤ x) (h2 : x < 18446744073709551616) (h3 : 0 ≤ y) (h4 : y < 18446744073709551616) (w : World) :
    Calls Try.prog 41 #[.int .u64 x, .int .u64 y] w fun e w' => e = .returned (.tuple #[.int .u64 (x * y / 18446744073709551616), .int .u64 (x * y % 18446744073709551616)]) ∧ w = w' := by
  obtain ⟨X, rfl⟩ := Int.eq_ofNat_of_zero_le h1
  obtain ⟨Y, rfl⟩ := Int.eq_ofNat_of_zero_le h3
  have := mul64_nat X Y (by omega) (by omega) w
  rw [Int.natCast_ediv, Int.natCast_emod, Int.natCast_mul] at this
  exact this
theorem mul_any (m n : Int) (h1 : -9223372036854775808 ≤ m) (h2 : m < 9223372036854775808) (h3 : -9223372036854775808 ≤ n) (h4 : n < 9223372036854775808) (w : World) :
    Calls Try.prog 30 #[.int .i64 m, .int .i64 n] w fun e w' => e = .returned (.agg #[.int .i64 (M.oh (m * n)), .int .u64 (M.ol (m * n))]) ∧ Below w.heap.size w w' := by
  obtain ⟨u, hu⟩ : ∃ z, IntKind.u64.wrap m = z := ⟨_, rfl⟩
  obtain ⟨u', hu'⟩ : ∃ z, IntKind.u64.wrap n = z := ⟨_, rfl⟩
  have eu : m % 18446744073709551616 = u := by rw [← hu, IntKind.wrap_u64]
  have eu' : n % 18446744073709551616 = u' := by rw [← hu', IntKind.wrap_u64]
  have c := mul64_any u u' (by omega) (by omega) (by omega) (by omega)
  obtain ⟨hi, ehi⟩ : ∃ z, u * u' / 18446744073709551616 = z := ⟨_, rfl⟩
  obtain ⟨lo, elo⟩ : ∃ z, u * u' % 18446744073709551616 = z := ⟨_, rfl⟩
  rw [ehi, elo] at c
  have a1 : bits .and .i64 (m / 9223372036854775808) n = M.ifn m n := by
    unfold M.ifn
    split
    · rw [show m / 9223372036854775808 = -1 by omega]; exact and_ones h3 h4
    · rw [show m / 9223372036854775808 = 0 by omega]; exact and_zero
  have a2 : bits .and .i64 (n / 9223372036854775808) m = M.ifn n m := by
    unfold M.ifn
    split
    · rw [show n / 9223372036854775808 = -1 by omega]; exact and_ones h1 h2
    · rw [show n / 9223372036854775808 = 0 by omega]; exact and_zero
  have H := Lib.hid (M.mul_of h1 h2 h3 h4 eu eu' ehi elo)
  clear eu eu' ehi elo h1 h2 h3 h4
  go_enter Try.func30, Try.ntmps30
  go_wp2_with fail
  refine (c _).mono ?_; rintro e w' ⟨rfl, rfl⟩
  go_wp2_with fail
  exact bodyPost_ret (v := .agg #[.int .i64 (wrap64 (wrap64 (wrap64 hi - M.ifn m n) - M.ifn n m)), .int .u64 lo]) (by simp [results, Try.results30, go_sem]) rfl ⟨retp (by simp only [w64_is]; exact H.out.1) H.out.2, (Below.refl _ _).alloc (Nat.le_refl _) _⟩
theorem opp_any (x y : Int) (h1 : 0 ≤ x) (h2 : x < 18446744073709551616) (h3 : 0 ≤ y) (h4 : y < 18446744073709551616) (w : World) :
    Calls Try.prog 56 #[.int .u64 x, .int .u64 y] w fun e w' => e = .returned (.tuple #[.int .u64 ((0 - x - -((0 - y) / 18446744073709551616)) % 18446744073709551616), .int .u64 ((0 - y) % 18446744073709551616)]) ∧ w = w' := by
  have r1 := sub64_run 0 y 0 (by omega) (by omega) h3 h4 (by omega) (by omega)
  rw [Int.sub_zero] at r1
  obtain ⟨c, hc⟩ : ∃ z, -((0 - y) / 18446744073709551616) = z := ⟨_, rfl⟩
  obtain ⟨lo, hlo⟩ : ∃ z, (0 - y) % 18446744073709551616 = z := ⟨_, rfl⟩
  rw [hc, hlo] at r1
  have r2 := sub64_run 0 x c (by omega) (by omega) h1 h2 (by omega) (by omega)
  rw [hc, hlo]
  obtain ⟨hi, hhi⟩ : ∃ z, (0 - x - c) % 18446744073709551616 = z := ⟨_, rfl⟩
  obtain ⟨c', hc'⟩ : ∃ z, -((0 - x - c) / 18446744073709551616) = z := ⟨_, rfl⟩
  rw [hhi, hc'] at r2
  rw [hhi]
  clear hc hlo hhi hc'
  go_enter Try.func56, Try.ntmps56
  go_wp2
  go_ret2
  exact ⟨rfl, rfl⟩
theorem ret2u {a b c d : Int} (h : a = c) (g : b = d) : Ending.returned (.tuple #[.int .u64 a, .int .u64 b]) = .returned (.tuple #[.int .u64 c, .int .u64 d]) := by rw [h, g]
theorem size_any (h l : Int) (b : M.B h l) (w : World) :
    Calls Try.prog 40 #[.agg #[.int .i64 h, .int .u64 l]] w fun e w' => e = .returned (.tuple #[.int .u64 (M.abs (M.val h l) / 18446744073709551616), .int .u64 (M.abs (M.val h l) % 18446744073709551616)]) ∧ Below w.heap.size w w' := by
  have H := Lib.hid (M.size_of b)
  obtain ⟨h1, h2, h3, h4⟩ := b
  by_cases hn : 0 ≤ h
  · have H1 := Lib.hid (H.out.1 hn)
    clear H
    go_enter Try.func40, Try.ntmps40
    go_wp2
    go_quiet (fail)
    go_wp2
    go_ret2
    exact ⟨ret2u H1.out.1.symm H1.out.2.symm, bdrewN ((Below.refl _ _).alloc (Nat.le_refl _) _) _⟩
  · have hn' : h < 0 := by omega
    obtain ⟨u, hu⟩ : ∃ z, IntKind.u64.wrap h = z := ⟨_, rfl⟩
    have eu : h % 18446744073709551616 = u := by rw [← hu, IntKind.wrap_u64]
    have c := opp_any u l (by omega) (by omega) h3 h4
    have H2 := H.out.2 hn'
    rw [eu] at H2
    obtain ⟨p, hp⟩ : ∃ z, (0 - u - -((0 - l) / 18446744073709551616)) % 18446744073709551616 = z := ⟨_, rfl⟩
    obtain ⟨q, hq⟩ : ∃ z, (0 - l) % 18446744073709551616 = z := ⟨_, rfl⟩
    rw [hp, hq] at H2 c
    have H1 := Lib.hid H2
    clear H H2 hn eu hp hq
    go_enter Try.func40, Try.ntmps40
    go_wp2_with fail
    refine (c _).mono ?_; rintro e w' ⟨rfl, rfl⟩
    go_wp2_with fail
    go_ret2
    exact ⟨ret2u H1.out.1.symm H1.out.2.symm, (Below.refl _ _).alloc (Nat.le_refl _) _⟩
theorem signed_any (x y : Int) (m : Bool) (h1 : 0 ≤ x) (h2 : x < 18446744073709551616) (h3 : 0 ≤ y) (h4 : y < 18446744073709551616) (w : World) :
    Calls Try.prog 42 #[.int .u64 x, .int .u64 y, .bool m] w fun e w' =>
      e = .returned (.tuple #[.agg #[.int .i64 (M.oh (M.sg m (M.val x y))), .int .u64 (M.ol (M.sg m (M.val x y)))], .bool (M.ok (M.sg m (M.val x y)))]) ∧ Below w.heap.size w w' := by
  cases m with
  | false =>
    have H := Lib.hid (M.signed_pos h1 h2 h3 h4)
    by_cases o : x < 9223372036854775808
    · have H1 := Lib.hid (H.out.1 o)
      clear H
      go_enter Try.func42, Try.ntmps42
      go_wp2
      exact bodyPost_ret (v := .tuple #[.agg #[.int .i64 x, .int .u64 y], .bool true]) (by simp [results, Try.results42, go_sem]) rfl ⟨retpb H1.out.2.2.1 H1.out.2.2.2 H1.out.2.1.symm, ((Below.refl _ _).alloc (Nat.le_refl _) _).alloc (by simp) _⟩
    · have H1 := Lib.hid (H.out.2 (by omega))
      obtain ⟨z, hz⟩ : ∃ z, wrap64 x = z := ⟨_, rfl⟩
      have hneg : decide (z < 0) = true := decide_eq_true (by rw [← hz, w64_is, H1.out.1]; omega)
      clear H o
      go_enter Try.func42, Try.ntmps42
      go_wp2
      exact bodyPost_ret (v := .tuple #[.agg #[.int .i64 0, .int .u64 0], .bool false]) (by simp [results, Try.results42, go_sem]) rfl ⟨retpb (M.no_of H1.out.2).1.symm (M.no_of H1.out.2).2.symm H1.out.2.symm, ((Below.refl _ _).alloc (Nat.le_refl _) _).alloc (by simp) _⟩
  | true =>
    have c := opp_any x y h1 h2 h3 h4
    obtain ⟨p, hp⟩ : ∃ z, (0 - x - -((0 - y) / 18446744073709551616)) % 18446744073709551616 = z := ⟨_, rfl⟩
    obtain ⟨q, hq⟩ : ∃ z, (0 - y) % 18446744073709551616 = z := ⟨_, rfl⟩
    rw [hp, hq] at c
    have H := Lib.hid (M.signed_neg h1 h2 h3 h4 hp hq)
    have hp0 : 0 ≤ p := by omega
    have hp1 : p < 18446744073709551616 := by omega
    have hq0 : 0 ≤ q := by omega
    have hq1 : q < 18446744073709551616 := by omega
    clear hp hq
    obtain ⟨z, hz⟩ : ∃ z, wrap64 p = z := ⟨_, rfl⟩
    have HZ := Lib.hid hz
    by_cases n : p = 0 ∧ q = 0
    · have H1 := Lib.hid (H.out.1 n.1 n.2)
      obtain ⟨rfl, rfl⟩ := n
      clear H hz HZ
      go_enter Try.func42, Try.ntmps42
      go_wp2_with fail
      refine (c _).mono ?_; rintro e w' ⟨rfl, rfl⟩
      go_wp2_with fail
      exact bodyPost_ret (v := .tuple #[.agg #[.int .i64 0, .int .u64 0], .bool true]) (by simp [results, Try.results42, go_sem]) rfl ⟨by rw [H1.out]; exact retpb M.ok0.2.1.symm M.ok0.2.2.symm M.ok0.1.symm, (Below.refl _ _).alloc (Nat.le_refl _) _⟩
    · by_cases o : p < 9223372036854775808
      · have H1 := Lib.hid (H.out.2.2 n o)
        have hneg : decide (z < 0) = false := decide_eq_false (by rw [← hz, w64_is, H1.out.1]; omega)
        clear H
        by_cases p0 : p = 0
        · have k1 : (p == 0) = true := by simpa using p0
          have k2 : (q == 0) = false := by simp; omega
          clear n p0 o
          go_enter Try.func42, Try.ntmps42
          go_wp2_with fail
          refine (c _).mono ?_; rintro e w' ⟨rfl, rfl⟩
          go_wp2_with fail
          exact bodyPost_ret (v := .tuple #[.agg #[.int .i64 0, .int .u64 0], .bool false]) (by simp [results, Try.results42, go_sem]) rfl ⟨retpb (M.no_of H1.out.2).1.symm (M.no_of H1.out.2).2.symm H1.out.2.symm, ((Below.refl _ _).alloc (Nat.le_refl _) _).alloc (by simp) _⟩
        · have k1 : (p == 0) = false := by simpa using p0
          clear n p0 o
          go_enter Try.func42, Try.ntmps42
          go_wp2_with fail
          refine (c _).mono ?_; rintro e w' ⟨rfl, rfl⟩
          go_wp2_with fail
          exact bodyPost_ret (v := .tuple #[.agg #[.int .i64 0, .int .u64 0], .bool false]) (by simp [results, Try.results42, go_sem]) rfl ⟨retpb (M.no_of H1.out.2).1.symm (M.no_of H1.out.2).2.symm H1.out.2.symm, ((Below.refl _ _).alloc (Nat.le_refl _) _).alloc (by simp) _⟩
      · have H1 := Lib.hid (H.out.2.1 n (by omega))
        have hneg : decide (z < 0) = true := decide_eq_true (by rw [← hz, w64_is, H1.out.1]; omega)
        have k1 : (p == 0) = false := by simp; omega
        have hzz := Lib.hid (hz.symm.trans (w64_is p))
        clear H n o
        go_enter Try.func42, Try.ntmps42
        go_wp2_with fail
        refine (c _).mono ?_; rintro e w' ⟨rfl, rfl⟩
        go_wp2_with fail
        exact bodyPost_ret (v := .tuple #[.agg #[.int .i64 z, .int .u64 q], .bool true]) (by simp [results, Try.results42, go_sem]) rfl ⟨retpb (by rw [hzz.out]; exact H1.out.2.2.1) H1.out.2.2.2 H1.out.2.1.symm, ((Below.refl _ _).alloc (Nat.le_refl _) _).alloc (by simp) _⟩
end Go.Proofs.Ytdjhloilpgfcjaa
