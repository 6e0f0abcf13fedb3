/- Contract of math/bits.Div64: a number of two words divided by a word that is greater than the upper one. -/
import Derived.Test.YtbjbafhlmcnceaaMul
import Derived.Test.YtbjbafhlmcnceaaShelf
import Derived.Test.YtbjbafhlmcnceaaDivM
import Derived.LoopTactic
import Derived.Deep.DeepCutAuto
import Derived.Deep.CutBlock
namespace Go.Proofs.Ytbjbafhlmcnceaa
open Go.ChangeShapes Go.WideShapes Go.ChangeAt Go.RowKit
set_option linter.unusedVariables false

theorem div64_low (lo y : Int) (h1 : 0 ≤ lo) (h2 : lo < 18446744073709551616) (h3 : 0 < y) (h4 : y < 18446744073709551616) (w : World) :
    Calls Try.prog 46 #[.int .u64 0, .int .u64 lo, .int .u64 y] w fun e w' => e = .returned (.tuple #[.int .u64 (lo / y), .int .u64 (lo % y)]) ∧ Below w.heap.size w w' := by
  have k1 : (y == 0) = false := by simp; omega
  have k2 : decide (y ≤ 0) = false := by simp; omega
  go_enter Try.func46, Try.ntmps46
  go_wp2
  go_quiet (fail)
  go_wp2
  go_ret2
  exact ⟨rfl, bdrewN (Below.refl _ _) _⟩
set_option maxHeartbeats 4000000 in
theorem div64_core (hi lo y : Int) (s : Nat) (hs : s < 64) (h1 : 0 ≤ lo) (h2 : lo < 18446744073709551616) (h0 : 0 < hi) (h3 : hi < y) (h4 : y < 18446744073709551616)
    (Y y1 y0 u t d1 d0 q1 u2 q0 R : Int)
    (hY : IntKind.u64.wrap (y * 2 ^ s) = Y) (hy1 : Y / 4294967296 = y1) (hy0 : bits .and .u64 Y 4294967295 = y0) (hYY : Y = y1 * 4294967296 + y0)
    (hu : bits .or .u64 (IntKind.u64.wrap (hi * 2 ^ s)) (lo / 2 ^ (64 - s)) = u) (ht : IntKind.u64.wrap (lo * 2 ^ s) = t) (hd1 : t / 4294967296 = d1) (hd0 : bits .and .u64 t 4294967295 = d0)
    (f1 : D.Fit u d1 y1 y0) (f2 : D.Fit u2 d0 y1 y0)
    (e1 : (u * 4294967296 + d1) / (y1 * 4294967296 + y0) = q1) (e2 : (u * 4294967296 + d1) % (y1 * 4294967296 + y0) = u2)
    (e3 : (u2 * 4294967296 + d0) / (y1 * 4294967296 + y0) = q0) (e4 : (u2 * 4294967296 + d0) % (y1 * 4294967296 + y0) = R)
    (c : ∀ w, Calls Try.prog 48 #[.int .u64 y] w fun e w' => e = .returned (.int .i64 s) ∧ w = w') (w : World) :
    Calls Try.prog 46 #[.int .u64 hi, .int .u64 lo, .int .u64 y] w fun e w' => e = .returned (.tuple #[.int .u64 (q1 * 4294967296 + q0), .int .u64 (R / 2 ^ s)]) ∧ w = w' := by
  have k1 : (y == 0) = false := by simp; omega
  have k2 : (hi == 0) = false := by simp; omega
  have k3 : decide (y ≤ hi) = false := by simp; omega
  have b1 := f1.u0
  have b2 := f1.ul
  have b3 := f1.d0
  have b4 := f1.d1
  have b5 := f1.y11
  have b6 := f1.y12
  have b7 := f1.y01
  have b8 := f1.y02
  have b9 := f2.u0
  have b10 := f2.ul
  have b11 := f2.d0
  have b12 := f2.d1
  have sq1 := D.small f1
  have sq0 := D.small f2
  rw [e1] at sq1
  rw [e3] at sq0
  have i1 := Lib.hid (D.start f1)
  have i2 := Lib.hid (D.start f2)
  have L1 := D.left f1
  have L2 := D.left f2
  rw [e1, e2] at L1
  rw [e3, e4] at L2
  obtain ⟨qa, hqa⟩ : ∃ z, u / y1 = z := ⟨_, rfl⟩
  obtain ⟨ra, hra⟩ : ∃ z, u % y1 = z := ⟨_, rfl⟩
  obtain ⟨qb, hqb⟩ : ∃ z, u2 / y1 = z := ⟨_, rfl⟩
  obtain ⟨rb, hrb⟩ : ∃ z, u2 % y1 = z := ⟨_, rfl⟩
  rw [hqa, hra] at i1
  rw [hqb, hrb] at i2
  rw [← hYY] at L1 L2
  have hra' : ra = u - qa * y1 := by have := Int.mul_ediv_add_emod u y1; rw [Int.mul_comm, hqa, hra] at this; omega
  have hrb' : rb = u2 - qb * y1 := by have := Int.mul_ediv_add_emod u2 y1; rw [Int.mul_comm, hqb, hrb] at this; omega
  have ca := i1.out
  have cb := i2.out
  obtain ⟨ca1, ca2, ca3, ca4, ca5, ca6⟩ := ca
  obtain ⟨cb1, cb2, cb3, cb4, cb5, cb6⟩ := cb
  have Y0 : 0 < Y := by omega
  have Y1 : Y < 18446744073709551616 := by omega
  have b2' : u < Y := by omega
  have b10' : u2 < Y := by omega
  have wa : IntKind.u64.wrap (u - IntKind.u64.wrap (u / y1 * y1)) = ra := by rw [hqa]; rw [IntKind.wrap_u64, IntKind.wrap_u64]; omega
  have wb : IntKind.u64.wrap (u2 - IntKind.u64.wrap (u2 / y1 * y1)) = rb := by rw [hqb]; rw [IntKind.wrap_u64, IntKind.wrap_u64]; omega
  have w1 : IntKind.u64.wrap (IntKind.u64.wrap (IntKind.u64.wrap (u * 4294967296) + d1) - IntKind.u64.wrap (q1 * Y)) = u2 := by simp only [IntKind.wrap_u64]; exact L1.symm
  have w2 : IntKind.u64.wrap (IntKind.u64.wrap (IntKind.u64.wrap (u2 * 4294967296) + d0) - IntKind.u64.wrap (q0 * Y)) = R := by simp only [IntKind.wrap_u64]; exact L2.symm
  have E1 := Lib.hid e1
  have E3 := Lib.hid e3
  have HQ := Lib.hid hqa
  have HQ2 := Lib.hid hqb
  clear hqa hqb
  clear L1 L2 hYY e1 e2 e3 e4 hra' hrb' hra hrb ca1 ca6 cb1 cb6
  go_enter Try.func46, Try.ntmps46
  go_wp2_with fail
  refine (c _).mono ?_; rintro e w' ⟨rfl, rfl⟩
  go_upto_block 0 with fail
  go_cut [15, 16] from 67 to 85 (fun q r wx => q = .int .u64 q1 ∧ w = wx)
  case first =>
    go_wp2_with fail
    go_loop [15, 16] (fun q r => ∃ a b : Int, q = .int .u64 a ∧ r = .int .u64 b ∧ D.Inv u d1 y1 y0 a b) (fun q _ => (intOf q).toNat)
    case atStart => exact ⟨qa, ra, vint HQ.out, by first | rfl | exact vint wa, i1.out⟩
    case round =>
      obtain ⟨a, b, rfl, rfl, iv⟩ := hrel
      have IV := Lib.hid iv
      obtain ⟨_, g1, g2, g3, g4, _⟩ := iv
      by_cases A : 4294967296 ≤ a
      · by_cases C : 4294967296 ≤ b + y1
        · have O := Lib.hid (D.out f1 IV.out (.inl A) C)
          go_wp2_with fail
          go_meet
          exact ⟨vint (by rw [← E1.out, O.out]), rfl⟩
        · have N := Lib.hid (D.next f1 IV.out (.inl A) (by omega))
          go_wp2_with fail
          exact ⟨⟨a - 1, b + y1, rfl, rfl, N.out⟩, by simp [intOf]; omega⟩
      · obtain ⟨p, hp⟩ : ∃ z, a * y0 = z := ⟨_, rfl⟩
        have p0 : 0 ≤ p := by rw [← hp]; exact Int.mul_nonneg g3 b7
        have p1 : p < 18446744073709551616 := by
          have : a * y0 ≤ 4294967295 * y0 := Int.mul_le_mul_of_nonneg_right (by omega) b7
          omega
        have HP := Lib.hid hp
        have hw : IntKind.u64.wrap (a * y0) = p := by rw [hp, IntKind.wrap_u64]; omega
        clear hp
        by_cases T : 4294967296 * b + d1 < p
        · by_cases C : 4294967296 ≤ b + y1
          · have O := Lib.hid (D.out f1 IV.out (.inr (by rw [HP.out]; exact T)) C)
            have a1 := (D.less f1 IV.out (.inr (by rw [HP.out]; exact T))).1
            go_wp2_with fail
            go_meet
            exact ⟨vint (by rw [← E1.out, O.out]), rfl⟩
          · have N := Lib.hid (D.next f1 IV.out (.inr (by rw [HP.out]; exact T)) (by omega))
            have a1 := (D.less f1 IV.out (.inr (by rw [HP.out]; exact T))).1
            go_wp2_with fail
            exact ⟨⟨a - 1, b + y1, rfl, rfl, N.out⟩, by simp [intOf]; omega⟩
        · have O := Lib.hid (D.done f1 IV.out (by rw [HP.out]; omega))
          go_wp2_with fail
          go_meet
          exact ⟨vint (by rw [← E1.out, O.out]), rfl⟩
  case rest =>
    obtain ⟨rfl, rfl⟩ := hcut
    go_upto_block 2 with fail
    go_cut [18, 16] from 102 to 120 (fun q r wx => q = .int .u64 q0 ∧ w = wx)
    case first =>
      go_wp2_with fail
      go_loop [18, 16] (fun q r => ∃ a b : Int, q = .int .u64 a ∧ r = .int .u64 b ∧ D.Inv u2 d0 y1 y0 a b) (fun q _ => (intOf q).toNat)
      case atStart => exact ⟨qb, rb, vint HQ2.out, by first | rfl | exact vint wb, i2.out⟩
      case round =>
        obtain ⟨a, b, rfl, rfl, iv⟩ := hrel
        have IV := Lib.hid iv
        obtain ⟨_, g1, g2, g3, g4, _⟩ := iv
        by_cases A : 4294967296 ≤ a
        · by_cases C : 4294967296 ≤ b + y1
          · have O := Lib.hid (D.out f2 IV.out (.inl A) C)
            go_wp2_with fail
            go_meet
            exact ⟨vint (by rw [← E3.out, O.out]), rfl⟩
          · have N := Lib.hid (D.next f2 IV.out (.inl A) (by omega))
            go_wp2_with fail
            exact ⟨⟨a - 1, b + y1, rfl, rfl, N.out⟩, by simp [intOf]; omega⟩
        · obtain ⟨p, hp⟩ : ∃ z, a * y0 = z := ⟨_, rfl⟩
          have p0 : 0 ≤ p := by rw [← hp]; exact Int.mul_nonneg g3 b7
          have p1 : p < 18446744073709551616 := by
            have : a * y0 ≤ 4294967295 * y0 := Int.mul_le_mul_of_nonneg_right (by omega) b7
            omega
          have HP := Lib.hid hp
          have hw : IntKind.u64.wrap (a * y0) = p := by rw [hp, IntKind.wrap_u64]; omega
          clear hp
          by_cases T : 4294967296 * b + d0 < p
          · by_cases C : 4294967296 ≤ b + y1
            · have O := Lib.hid (D.out f2 IV.out (.inr (by rw [HP.out]; exact T)) C)
              have a1 := (D.less f2 IV.out (.inr (by rw [HP.out]; exact T))).1
              go_wp2_with fail
              go_meet
              exact ⟨vint (by rw [← E3.out, O.out]), rfl⟩
            · have N := Lib.hid (D.next f2 IV.out (.inr (by rw [HP.out]; exact T)) (by omega))
              have a1 := (D.less f2 IV.out (.inr (by rw [HP.out]; exact T))).1
              go_wp2_with fail
              exact ⟨⟨a - 1, b + y1, rfl, rfl, N.out⟩, by simp [intOf]; omega⟩
          · have O := Lib.hid (D.done f2 IV.out (by rw [HP.out]; omega))
            go_wp2_with fail
            go_meet
            exact ⟨vint (by rw [← E3.out, O.out]), rfl⟩
    case rest =>
      obtain ⟨rfl, rfl⟩ := hcut
      go_wp2_with fail
      go_ret2
      exact ⟨rfl, rfl⟩
theorem mask32 (x : Int) (h1 : 0 ≤ x) (h2 : x < 18446744073709551616) : bits .and .u64 x 4294967295 = x % 4294967296 := by
  have h := bits_mask .u64 64 (by decide) wraps_u64 32 (by decide) x h1 (by omega)
  simpa using h
theorem or_sum (a b : Int) (s : Nat) (h1 : 0 ≤ a) (h2 : a * 2 ^ s < 18446744073709551616) (h3 : 0 ≤ b) (h4 : b < 2 ^ s) (h5 : b < 18446744073709551616) (h6 : a * 2 ^ s + b < 18446744073709551616) : bits .or .u64 (a * 2 ^ s) b = a * 2 ^ s + b := by
  obtain ⟨A, rfl⟩ := Int.eq_ofNat_of_zero_le h1
  obtain ⟨B, rfl⟩ := Int.eq_ofNat_of_zero_le h3
  have e : ((A : Int) * 2 ^ s) = ((2 ^ s * A : Nat) : Int) := by rw [Int.natCast_mul, Int.mul_comm]; simp
  have e2 : ((2 : Int) ^ s) = ((2 ^ s : Nat) : Int) := by simp
  have hB : B < 2 ^ s := by rw [e2] at h4; omega
  rw [e] at h2 h6 ⊢
  show IntKind.u64.wrap ((BitVec.ofInt 64 ((2 ^ s * A : Nat) : Int) ||| BitVec.ofInt 64 (B : Int)).toNat : Int) = _
  rw [BitVec.toNat_or, BitVec.ofInt_natCast, BitVec.ofInt_natCast, BitVec.toNat_ofNat, BitVec.toNat_ofNat, Nat.mod_eq_of_lt (by omega), Nat.mod_eq_of_lt (by omega), ← Nat.two_pow_add_eq_or_of_lt hB, IntKind.wrap_u64]
  omega
theorem bl_aux : ∀ (f x : Nat), x < 2 ^ f → x < 2 ^ (Lib.bitLenAux f x) ∧ (x ≠ 0 → 2 ^ (Lib.bitLenAux f x) ≤ 2 * x) ∧ Lib.bitLenAux f x ≤ f
  | 0, x, h => by simp at h; subst h; simp [Lib.bitLenAux]
  | f + 1, x, h => by
    by_cases x0 : x = 0
    · subst x0; simp [Lib.bitLenAux]
    · have i := bl_aux f (x / 2) (by rw [Nat.pow_succ] at h; omega)
      have e : Lib.bitLenAux (f + 1) x = 1 + Lib.bitLenAux f (x / 2) := by rw [Lib.bitLenAux, if_neg x0]
      rw [e, Nat.add_comm 1, Nat.pow_succ]
      obtain ⟨i1, i2, i3⟩ := i
      refine ⟨by omega, fun _ => ?_, by omega⟩
      by_cases x1 : x / 2 = 0
      · have : Lib.bitLenAux f (x / 2) = 0 := by
          rw [x1]; cases f with
          | zero => rfl
          | succ f => simp [Lib.bitLenAux]
        rw [this]; omega
      · have := i2 x1; omega
theorem bl_of (x : Nat) (h0 : x ≠ 0) (h : x < 18446744073709551616) : x < 2 ^ (Lib.bitLen x) ∧ 2 ^ (Lib.bitLen x) ≤ 2 * x ∧ Lib.bitLen x ≤ 64 := by
  have i := bl_aux 64 x h
  exact ⟨i.1, i.2.1 h0, i.2.2⟩
/-- The quotient and what is left, out of the digits'. -/
theorem D.join {hi lo y T T' Y y1 y0 u t d1 d0 : Int} (h0 : 0 < hi) (h1 : 0 ≤ lo) (h2 : lo < 18446744073709551616) (h3 : hi < y) (hT : 0 < T) (hT' : 0 < T') (hTT : T' * T = 18446744073709551616)
    (hY : y * T = Y) (hY1 : 9223372036854775808 ≤ Y) (hY2 : Y < 18446744073709551616) (hy1 : Y / 4294967296 = y1) (hy0 : Y % 4294967296 = y0)
    (hu : hi * T + lo / T' = u) (ht : lo * T % 18446744073709551616 = t) (hd1 : t / 4294967296 = d1) (hd0 : t % 4294967296 = d0) :
    D.Fit u d1 y1 y0 ∧ D.Fit ((u * 4294967296 + d1) % (y1 * 4294967296 + y0)) d0 y1 y0 ∧
    (u * 4294967296 + d1) / (y1 * 4294967296 + y0) * 4294967296 + ((u * 4294967296 + d1) % (y1 * 4294967296 + y0) * 4294967296 + d0) / (y1 * 4294967296 + y0) = (hi * 18446744073709551616 + lo) / y ∧
    ((u * 4294967296 + d1) % (y1 * 4294967296 + y0) * 4294967296 + d0) % (y1 * 4294967296 + y0) / T = (hi * 18446744073709551616 + lo) % y := by
  have hYY : y1 * 4294967296 + y0 = Y := by omega
  rw [hYY]
  have hl : lo * T / 18446744073709551616 = lo / T' := by
    rw [← hTT, Int.mul_ediv_mul_of_pos_left _ _ hT]
  have hU : u * 18446744073709551616 + t = (hi * 18446744073709551616 + lo) * T := by
    rw [← hu, ← hl, ← ht, Int.add_mul (hi * 18446744073709551616) lo T, Int.mul_right_comm hi 18446744073709551616 T]; omega
  have hlt : (hi * 18446744073709551616 + lo) * T < y * 18446744073709551616 * T := Int.mul_lt_mul_of_pos_right (by omega) hT
  rw [Int.mul_right_comm y, hY] at hlt
  have hhT : 0 ≤ hi * T := Int.mul_nonneg (by omega) (by omega)
  have hlT : 0 ≤ lo / T' := Int.ediv_nonneg h1 (by omega)
  have u0 : 0 ≤ u := by omega
  have ul : u < Y := by omega
  have m0 := Int.emod_nonneg (u * 4294967296 + d1) (b := Y) (by omega)
  have m1 := Int.emod_lt_of_pos (u * 4294967296 + d1) (b := Y) (by omega)
  have e1 := Int.mul_ediv_add_emod (u * 4294967296 + d1) Y
  have e2 := Int.mul_ediv_add_emod ((u * 4294967296 + d1) % Y * 4294967296 + d0) Y
  have n0 := Int.emod_nonneg ((u * 4294967296 + d1) % Y * 4294967296 + d0) (b := Y) (by omega)
  have n1 := Int.emod_lt_of_pos ((u * 4294967296 + d1) % Y * 4294967296 + d0) (b := Y) (by omega)
  refine ⟨⟨u0, by omega, by omega, by omega, by omega, by omega, by omega, by omega⟩, ⟨m0, by omega, by omega, by omega, by omega, by omega, by omega, by omega⟩, ?_⟩
  generalize (u * 4294967296 + d1) % Y = r1 at *
  generalize (u * 4294967296 + d1) / Y = q1 at *
  generalize (r1 * 4294967296 + d0) % Y = r0 at *
  generalize (r1 * 4294967296 + d0) / Y = q0 at *
  have key : (hi * 18446744073709551616 + lo) * T = r0 + Y * (q1 * 4294967296 + q0) := by
    rw [← hU, Int.mul_add, ← Int.mul_assoc]; omega
  have hq : (hi * 18446744073709551616 + lo) * T / Y = q1 * 4294967296 + q0 := by
    rw [key, Int.add_mul_ediv_left _ _ (by omega), Int.ediv_eq_zero_of_lt n0 n1, Int.zero_add]
  have hr : (hi * 18446744073709551616 + lo) * T % Y = r0 := by
    rw [key, Int.add_mul_emod_self_left, Int.emod_eq_of_lt n0 n1]
  rw [← hY] at hq hr
  rw [Int.mul_ediv_mul_of_pos_left _ _ hT] at hq
  rw [Int.mul_comm _ T, Int.mul_comm y T, Int.mul_emod_mul_of_pos _ _ hT] at hr
  refine ⟨hq.symm, ?_⟩
  rw [← hr, Int.mul_ediv_cancel_left _ (by omega)]
theorem div64_any (hi lo y : Int) (h0 : 0 ≤ hi) (h1 : 0 ≤ lo) (h2 : lo < 18446744073709551616) (h3 : hi < y) (h4 : y < 18446744073709551616) (w : World) :
    Calls Try.prog 46 #[.int .u64 hi, .int .u64 lo, .int .u64 y] w fun e w' => e = .returned (.tuple #[.int .u64 ((hi * 18446744073709551616 + lo) / y), .int .u64 ((hi * 18446744073709551616 + lo) % y)]) ∧ Below w.heap.size w w' := by
  by_cases z : hi = 0
  · subst z
    rw [Int.zero_mul, Int.zero_add]
    exact div64_low lo y h1 h2 h3 h4 w
  obtain ⟨n, rfl⟩ := Int.eq_ofNat_of_zero_le (show 0 ≤ y by omega)
  obtain ⟨l1, l2, l3⟩ := bl_of n (by omega) (by omega)
  have cl : ∀ w, Calls Try.prog 48 #[.int .u64 (n : Int)] w fun e w' => e = .returned (.int .i64 ((64 - Lib.bitLen n : Nat) : Int)) ∧ w = w' := fun w => by
    have := bits_LeadingZeros64 (n : Int) w (by omega) (by omega)
    rw [Int.toNat_natCast, show (64 - (Lib.bitLen n : Int)) = ((64 - Lib.bitLen n : Nat) : Int) by omega] at this
    exact this.mono fun _ _ h => ⟨h.1, h.2.symm⟩
  have b0 : 0 < Lib.bitLen n := by
    rcases Nat.eq_zero_or_pos (Lib.bitLen n) with e | e
    · rw [e] at l1; omega
    · exact e
  generalize Lib.bitLen n = b at *
  obtain ⟨s, hs⟩ : ∃ s, 64 - b = s := ⟨_, rfl⟩
  rw [hs] at cl
  have hp : 2 ^ b * 2 ^ s = 18446744073709551616 := by rw [← Nat.pow_add, show b + s = 64 by omega]
  have hp' : 2 ^ (64 - s) * 2 ^ s = 18446744073709551616 := by rw [← Nat.pow_add, show 64 - s + s = 64 by omega]
  have hT : 0 < 2 ^ s := Nat.two_pow_pos s
  have hT' : 0 < 2 ^ (64 - s) := Nat.two_pow_pos _
  have yu : n * 2 ^ s < 2 ^ b * 2 ^ s := Nat.mul_lt_mul_of_pos_right l1 hT
  have yl : 2 ^ b * 2 ^ s ≤ 2 * n * 2 ^ s := Nat.mul_le_mul_right _ l2
  rw [Nat.mul_assoc] at yl
  have eT : (2 : Int) ^ s = ((2 ^ s : Nat) : Int) := by simp
  have eT' : (2 : Int) ^ (64 - s) = ((2 ^ (64 - s) : Nat) : Int) := by simp
  have hYI : (n : Int) * 2 ^ s = ((n * 2 ^ s : Nat) : Int) := by rw [eT]; simp
  have hTTI : (2 : Int) ^ (64 - s) * 2 ^ s = 18446744073709551616 := by rw [eT, eT', ← Int.natCast_mul, hp']; rfl
  have hTI : (0 : Int) < 2 ^ s := by rw [eT]; omega
  have hTI' : (0 : Int) < 2 ^ (64 - s) := by rw [eT']; omega
  have Y1 : 9223372036854775808 ≤ (n : Int) * 2 ^ s := by rw [hYI]; omega
  have Y2 : (n : Int) * 2 ^ s < 18446744073709551616 := by rw [hYI]; omega
  have J := D.join (hi := hi) (lo := lo) (y := (n : Int)) (T := 2 ^ s) (T' := 2 ^ (64 - s)) (by omega) h1 h2 h3 hTI hTI' hTTI rfl Y1 Y2 rfl rfl rfl rfl rfl rfl
  have hb : hi * 2 ^ s < (n : Int) * 2 ^ s := Int.mul_lt_mul_of_pos_right h3 hTI
  have hb0 : 0 ≤ hi * 2 ^ s := Int.mul_nonneg h0 (by omega)
  have hl0 : 0 ≤ lo / 2 ^ (64 - s) := Int.ediv_nonneg h1 (by omega)
  have hl1 : lo / 2 ^ (64 - s) < 2 ^ s := Int.ediv_lt_of_lt_mul hTI' (by rw [Int.mul_comm, hTTI]; exact h2)
  have hl2 : lo / 2 ^ (64 - s) ≤ lo := Int.ediv_le_self _ h1
  have hlT : 0 ≤ lo * 2 ^ s % 18446744073709551616 ∧ lo * 2 ^ s % 18446744073709551616 < 18446744073709551616 := by omega
  have hJ := J.1.ul
  have hsum : hi * 2 ^ s + lo / 2 ^ (64 - s) < 18446744073709551616 := by omega
  rw [← J.2.2.1, ← J.2.2.2]
  refine (div64_core hi lo n s (by omega) h1 h2 (by omega) h3 h4 _ _ _ _ _ _ _ _ _ _ _ (show IntKind.u64.wrap ((n : Int) * 2 ^ s) = (n : Int) * 2 ^ s by rw [IntKind.wrap_u64]; omega) rfl ?_ ?_ ?_ ?_ rfl ?_ J.1 J.2.1 rfl rfl rfl rfl cl w).mono ?_
  · exact mask32 _ (by omega) Y2
  · omega
  · rw [IntKind.wrap_u64, Int.emod_eq_of_lt hb0 (by omega)]
    exact or_sum hi _ s h0 (by omega) hl0 hl1 (by omega) hsum
  · exact IntKind.wrap_u64 _
  · exact mask32 _ hlT.1 hlT.2
  · rintro e w' ⟨he, rfl⟩
    exact ⟨he, Below.refl _ _⟩
end Go.Proofs.Ytbjbafhlmcnceaa
