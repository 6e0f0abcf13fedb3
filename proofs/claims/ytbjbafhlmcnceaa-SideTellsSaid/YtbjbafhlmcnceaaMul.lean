/- Contracts of products: math/bits.Mul64, Mul, and what Times calls. -/
import Derived.Test.YtbjbafhlmcnceaaBase
import Derived.Shelf.Bits.Mul64
namespace Go.Proofs.Ytbjbafhlmcnceaa
open Go.ChangeShapes Go.WideShapes Go.ChangeAt Go.RowKit
set_option linter.unusedVariables false

theorem bdrewN {B : Nat} {a w : World} (h : Below B a w) (n : Nat) : Below B a (w.drewN n) := ⟨h.os, h.tape, h.output, h.size, h.block⟩
theorem w64_is (n : Int) : wrap64 n = M.w64 n := by unfold wrap64 M.w64; rfl
set_option maxHeartbeats 1000000 in
theorem mul64_nat (x y : Nat) (hx : x < 18446744073709551616) (hy : y < 18446744073709551616) (w : World) :
    Calls Try.prog 45 #[.int .u64 x, .int .u64 y] w fun e w' => e = .returned (.tuple #[.int .u64 ((x * y / 18446744073709551616 : Nat) : Int), .int .u64 ((x * y % 18446744073709551616 : Nat) : Int)]) ∧ w = w' := by
  obtain ⟨bd, bt, bw, hhi⟩ := Lib.mul64_hi x y hx hy
  have ba := Lib.half_mul_le (a := x / 4294967296) (b := y / 4294967296) (by omega) (by omega)
  have bb := Lib.half_mul_le (a := x / 4294967296) (b := y % 4294967296) (by omega) (by omega)
  have bc := Lib.half_mul_le (a := x % 4294967296) (b := y / 4294967296) (by omega) (by omega)
  have ba' : x / 4294967296 * (y / 4294967296) < 18446744073709551616 := by omega
  have bb' : x / 4294967296 * (y % 4294967296) < 18446744073709551616 := by omega
  have bc' : x % 4294967296 * (y / 4294967296) < 18446744073709551616 := by omega
  have bh1 : x / 4294967296 * (y / 4294967296) + (x / 4294967296 * (y % 4294967296) + x % 4294967296 * (y % 4294967296) / 4294967296) / 4294967296 < 18446744073709551616 := by omega
  have bh : x / 4294967296 * (y / 4294967296) + (x / 4294967296 * (y % 4294967296) + x % 4294967296 * (y % 4294967296) / 4294967296) / 4294967296 + ((x / 4294967296 * (y % 4294967296) + x % 4294967296 * (y % 4294967296) / 4294967296) % 4294967296 + x % 4294967296 * (y / 4294967296)) / 4294967296 < 18446744073709551616 := by omega
  go_enter Try.func45, Try.ntmps45
  go_wp2
  simp only [Mul64.maskN x hx, Mul64.maskN y hy, Mul64.divN, Mul64.mulN, Mul64.addN, Mul64.wrapN _ bd, Mul64.wrapN _ bb', Mul64.wrapN _ bt, Mul64.maskN _ bt, Mul64.wrapN _ bc', Mul64.wrapN _ bw, Mul64.wrapN _ ba', Mul64.wrapN _ bh1, Mul64.wrapN _ bh, Mul64.wrapM (x * y)]
  rw [hhi]
  go_ret2
  exact ⟨rfl, rfl⟩
theorem mul64_any (x y : Int) (h1 : 0 ≤ x) (h2 : x < 18446744073709551616) (h3 : 0 ≤ y) (h4 : y < 18446744073709551616) (w : World) :
    Calls Try.prog 45 #[.int .u64 x, .int .u64 y] w fun e w' => e = .returned (.tuple #[.int .u64 (x * y / 18446744073709551616), .int .u64 (x * y % 18446744073709551616)]) ∧ w = w' := by
  obtain ⟨X, rfl⟩ := Int.eq_ofNat_of_zero_le h1
  obtain ⟨Y, rfl⟩ := Int.eq_ofNat_of_zero_le h3
  have := mul64_nat X Y (by omega) (by omega) w
  rw [Int.natCast_ediv, Int.natCast_emod, Int.natCast_mul] at this
  exact this
theorem mul_any (m n : Int) (h1 : -9223372036854775808 ≤ m) (h2 : m < 9223372036854775808) (h3 : -9223372036854775808 ≤ n) (h4 : n < 9223372036854775808) (w : World) :
    Calls Try.prog 33 #[.int .i64 m, .int .i64 n] w fun e w' => e = .returned (.agg #[.int .i64 (M.oh (m * n)), .int .u64 (M.ol (m * n))]) ∧ Below w.heap.size w w' := by
  obtain ⟨u, hu⟩ : ∃ z, IntKind.u64.wrap m = z := ⟨_, rfl⟩
  obtain ⟨u', hu'⟩ : ∃ z, IntKind.u64.wrap n = z := ⟨_, rfl⟩
  have eu : m % 18446744073709551616 = u := by rw [← hu, IntKind.wrap_u64]
  have eu' : n % 18446744073709551616 = u' := by rw [← hu', IntKind.wrap_u64]
  have c := mul64_any u u' (by omega) (by omega) (by omega) (by omega)
  obtain ⟨hi, ehi⟩ : ∃ z, u * u' / 18446744073709551616 = z := ⟨_, rfl⟩
  obtain ⟨lo, elo⟩ : ∃ z, u * u' % 18446744073709551616 = z := ⟨_, rfl⟩
  rw [ehi, elo] at c
  have a1 : bits .and .i64 (m / 9223372036854775808) n = M.ifn m n := by
    unfold M.ifn
    split
    · rw [show m / 9223372036854775808 = -1 by omega]; exact and_ones h3 h4
    · rw [show m / 9223372036854775808 = 0 by omega]; exact and_zero
  have a2 : bits .and .i64 (n / 9223372036854775808) m = M.ifn n m := by
    unfold M.ifn
    split
    · rw [show n / 9223372036854775808 = -1 by omega]; exact and_ones h1 h2
    · rw [show n / 9223372036854775808 = 0 by omega]; exact and_zero
  have H := Lib.hid (M.mul_of h1 h2 h3 h4 eu eu' ehi elo)
  clear eu eu' ehi elo h1 h2 h3 h4
  go_enter Try.func33, Try.ntmps33
  go_wp2_with fail
  refine (c _).mono ?_; rintro e w' ⟨rfl, rfl⟩
  go_wp2_with fail
  exact bodyPost_ret (v := .agg #[.int .i64 (wrap64 (wrap64 (wrap64 hi - M.ifn m n) - M.ifn n m)), .int .u64 lo]) (by simp [results, Try.results33, go_sem]) rfl ⟨retp (by simp only [w64_is]; exact H.out.1) H.out.2, (Below.refl _ _).alloc (Nat.le_refl _) _⟩
theorem ret2u {a b c d : Int} (h : a = c) (g : b = d) : Ending.returned (.tuple #[.int .u64 a, .int .u64 b]) = .returned (.tuple #[.int .u64 c, .int .u64 d]) := by rw [h, g]
end Go.Proofs.Ytbjbafhlmcnceaa
