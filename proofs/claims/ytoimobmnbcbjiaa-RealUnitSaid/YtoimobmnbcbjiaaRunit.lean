/- Contracts of the document's Unit, and of math/bits.Mul64. -/
import Derived.Test.YtoimobmnbcbjiaaRfix
import Derived.Test.YtoimobmnbcbjiaaPut
import Derived.Test.YtoimobmnbcbjiaaHalf
import Derived.Shelf.Bits.Mul64
namespace Go.Proofs.Ytoimobmnbcbjiaa
open Go.ChangeShapes Go.WideShapes Go.ChangeAt Go.RowKit
set_option linter.unusedVariables false

theorem vint {k : IntKind} {a b : Int} (h : a = b) : Value.int k a = Value.int k b := by rw [h]

set_option maxHeartbeats 1000000 in
theorem mul64_any (x y : Nat) (hx : x < 18446744073709551616) (hy : y < 18446744073709551616) (w : World) :
    Calls Try.prog 39 #[.int .u64 x, .int .u64 y] w fun e w' => e = .returned (.tuple #[.int .u64 ((x * y / 18446744073709551616 : Nat) : Int), .int .u64 ((x * y % 18446744073709551616 : Nat) : Int)]) ∧ w = w' := by
  obtain ⟨bd, bt, bw, hhi⟩ := Lib.mul64_hi x y hx hy
  have ba := Lib.half_mul_le (a := x / 4294967296) (b := y / 4294967296) (by omega) (by omega)
  have bb := Lib.half_mul_le (a := x / 4294967296) (b := y % 4294967296) (by omega) (by omega)
  have bc := Lib.half_mul_le (a := x % 4294967296) (b := y / 4294967296) (by omega) (by omega)
  have ba' : x / 4294967296 * (y / 4294967296) < 18446744073709551616 := by omega
  have bb' : x / 4294967296 * (y % 4294967296) < 18446744073709551616 := by omega
  have bc' : x % 4294967296 * (y / 4294967296) < 18446744073709551616 := by omega
  have bh1 : x / 4294967296 * (y / 4294967296) + (x / 4294967296 * (y % 4294967296) + x % 4294967296 * (y % 4294967296) / 4294967296) / 4294967296 < 18446744073709551616 := by omega
  have bh : x / 4294967296 * (y / 4294967296) + (x / 4294967296 * (y % 4294967296) + x % 4294967296 * (y % 4294967296) / 4294967296) / 4294967296 + ((x / 4294967296 * (y % 4294967296) + x % 4294967296 * (y % 4294967296) / 4294967296) % 4294967296 + x % 4294967296 * (y / 4294967296)) / 4294967296 < 18446744073709551616 := by omega
  go_enter Try.func39, Try.ntmps39
  go_wp2
  simp only [Mul64.maskN x hx, Mul64.maskN y hy, Mul64.divN, Mul64.mulN, Mul64.addN, Mul64.wrapN _ bd, Mul64.wrapN _ bb', Mul64.wrapN _ bt, Mul64.maskN _ bt, Mul64.wrapN _ bc', Mul64.wrapN _ bw, Mul64.wrapN _ ba', Mul64.wrapN _ bh1, Mul64.wrapN _ bh, Mul64.wrapM (x * y)]
  rw [hhi]
  go_ret2
  exact ⟨rfl, rfl⟩

theorem runit_core (b m t d : Nat) (hm : m < 9007199254740992) (ht : t ≤ 16777216) (d1 : 53 ≤ d) (d2 : d ≤ 1074) (hk1 : ¬ M.kind b = 1) (hk3 : ¬ M.kind b = 3) (hd : M.dn b = d)
    (ck : ∀ w, Calls Try.prog 13 #[.float .f64 b] w fun e w' => e = .returned (.int .i64 (M.kind b)) ∧ w = w')
    (cp : ∀ w, Calls Try.prog 37 #[.float .f64 b] w fun e w' => e = .returned (.tuple #[.int .u64 m, .int .i64 (-(d : Int))]) ∧ w = w')
    (cm : ∀ w, Calls Try.prog 15 #[.float .f64 b] w fun e w' => e = .returned (.bool false) ∧ w = w')
    (cc : ∀ w, Calls Try.prog 20 #[.float .f64 b, .float .f64 4607182418800017408] w fun e w' => e = .returned (.int .i64 (-1)) ∧ w = w')
    (w : World) :
    Calls Try.prog 25 #[.float .f64 b, .int .i64 t] w fun e w' => e = .returned (.tuple #[.int .i64 (M.shareV m t d), .int .i64 0]) ∧ w = w' := by
  have cu := mul64_any m t (by omega) (by omega)
  have hs := M.half_start m t d
  have hh := M.half_hi m t hm ht
  have hl : m * t % 18446744073709551616 < 18446744073709551616 := by omega
  generalize m * t / 18446744073709551616 = h0 at *
  generalize m * t % 18446744073709551616 = l0 at *
  have HE := Lib.hid (fun h l H => M.half_end (m := m) (t := t) (d := d) (h := h) (l := l) H hm ht d1)
  clear hd
  go_enter Try.func25, Try.ntmps25
  go_wp2_with fail
  refine (ck _).mono ?_; rintro e w' ⟨rfl, rfl⟩
  go_wp2_with fail
  refine (cm _).mono ?_; rintro e w' ⟨rfl, rfl⟩
  go_wp2_with fail
  refine (ck _).mono ?_; rintro e w' ⟨rfl, rfl⟩
  go_wp2_with fail
  refine (cc _).mono ?_; rintro e w' ⟨rfl, rfl⟩
  go_wp2_with fail
  refine (cp _).mono ?_; rintro e w' ⟨rfl, rfl⟩
  go_wp2_with fail
  refine (cu _).mono ?_; rintro e w' ⟨rfl, rfl⟩
  go_wp2_with fail
  go_loop [7, 8, 9] (fun e hi lo => ∃ j h l : Nat, e = .int .i64 (-(j : Int)) ∧ hi = .int .u64 h ∧ lo = .int .u64 l ∧ j ≤ 1074 ∧ h < 8192 ∧ l < 18446744073709551616 ∧ M.HalfRel m t d j h l) (fun e _ _ => (-(intOf e)).toNat)
  case atStart => exact ⟨d, h0, l0, rfl, rfl, rfl, d2, hh, hl, hs⟩
  case round =>
    obtain ⟨j, h, l, rfl, rfl, rfl, hj, hh2, hl2, hr⟩ := hrel
    clear hs hh hl ck cp cm cc cu
    by_cases j0 : j = 0
    · subst j0
      obtain ⟨e1, e2⟩ := HE.out h l hr
      have E1 := Lib.hid e1
      clear e1 hr
      go_wp2
      go_ret2
      exact ⟨by rw [← E1.out]; rfl, rfl⟩
    · obtain ⟨i, rfl⟩ : ∃ i, j = i + 1 := ⟨j - 1, by omega⟩
      have n0 : decide (-((i + 1 : Nat) : Int) < 0) = true := decide_eq_true (by omega)
      have hn := Lib.hid (M.half_step hr)
      by_cases h1 : 0 < h
      · clear hr HE
        go_wp2
        exact ⟨⟨i, h / 2, l / 2 + h % 2 * 9223372036854775808, vint (by omega), vint (by omega), vint (by omega), by omega, by omega, by omega, hn.out⟩, by simp [intOf]; omega⟩
      · by_cases h2 : 0 < l
        · clear hr HE
          go_wp2
          exact ⟨⟨i, h / 2, l / 2 + h % 2 * 9223372036854775808, vint (by omega), vint (by omega), vint (by omega), by omega, by omega, by omega, hn.out⟩, by simp [intOf]; omega⟩
        · obtain rfl : h = 0 := by omega
          obtain rfl : l = 0 := by omega
          have hz := Lib.hid (M.half_none hr)
          clear hr HE hn
          go_wp2
          go_ret2
          exact ⟨by rw [← hz.out]; rfl, rfl⟩

/-- 'x is nought' by its kind: then it is no more than 0 -/
theorem runit_any (b : Nat) (hb : b < 18446744073709551616) (top : Int) (w : World) : Calls Try.prog 25 #[.float .f64 b, .int .i64 top] w fun e w' => e = .returned (.tuple #[.int .i64 (M.unitV b top).1, .int .i64 (M.unitV b top).2]) ∧ w = w' := by
  have ck := rkind_any b hb
  have cp := rwhole_any b hb
  have cm := rminus_any b hb
  have cc := rcompare_any b 4607182418800017408 hb (by decide)
  by_cases h0 : top < 0
  · have hf : M.unitV b top = (0, 1) := by simp [M.unitV, M.inB]; omega
    rw [hf]
    clear hf
    go_enter Try.func25, Try.ntmps25
    go_wp2
    go_ret2
    exact ⟨rfl, rfl⟩
  by_cases h1 : 16777216 < top
  · have hf : M.unitV b top = (0, 1) := by simp [M.unitV, M.inB]; omega
    rw [hf]
    clear hf
    go_enter Try.func25, Try.ntmps25
    go_wp2
    go_ret2
    exact ⟨rfl, rfl⟩
  have hi : M.inB top 0 16777216 = true := by simp [M.inB]; omega
  by_cases h2 : M.kind b = 1
  · have hf : M.unitV b top = (0, 2) := by simp [M.unitV, hi, h2]
    rw [hf]; rw [h2] at ck
    have p1 : decide (top < 0) = false := decide_eq_false h0
    clear hf hi cp cm cc h2
    go_enter Try.func25, Try.ntmps25
    go_wp2_with fail
    refine (ck _).mono ?_; rintro e w' ⟨rfl, rfl⟩
    go_wp2_with fail
    go_ret2
    exact ⟨rfl, rfl⟩
  cases h3 : M.minus b
  case true =>
    have hf : M.unitV b top = (0, 0) := by simp [M.unitV, hi, h2, h3]
    rw [hf]; rw [h3] at cm
    have p1 : decide (top < 0) = false := decide_eq_false h0
    clear hf hi cp cc h3
    go_enter Try.func25, Try.ntmps25
    go_wp2_with fail
    refine (ck _).mono ?_; rintro e w' ⟨rfl, rfl⟩
    go_wp2_with fail
    refine (cm _).mono ?_; rintro e w' ⟨rfl, rfl⟩
    go_wp2_with fail
    go_ret2
    exact ⟨rfl, rfl⟩
  rw [h3] at cm
  by_cases h4 : M.kind b = 3
  · have hf : M.unitV b top = (0, 0) := by
      have e := M.nought_unit b top h4 h3 hi
      exact e
    rw [hf]; rw [h4] at ck
    have p1 : decide (top < 0) = false := decide_eq_false h0
    clear hf hi cp cc h2 h3 h4
    go_enter Try.func25, Try.ntmps25
    go_wp2_with fail
    refine (ck _).mono ?_; rintro e w' ⟨rfl, rfl⟩
    go_wp2_with fail
    refine (cm _).mono ?_; rintro e w' ⟨rfl, rfl⟩
    go_wp2_with fail
    refine (ck _).mono ?_; rintro e w' ⟨rfl, rfl⟩
    go_wp2_with fail
    go_ret2
    exact ⟨rfl, rfl⟩
  by_cases h5 : 4607182418800017408 ≤ b
  · have hf : M.unitV b top = (top, 0) := by simp [M.unitV, hi, h2, h3, h5]
    rw [hf]
    obtain ⟨v, hv, hv2⟩ : ∃ v, M.cmpV b 4607182418800017408 = v ∧ 0 ≤ v := ⟨_, rfl, M.cmp_one_ge b h2 h3 h5⟩
    rw [hv] at cc
    have p1 : decide (top < 0) = false := decide_eq_false h0
    clear hf hi cp h3 h5 hv
    go_enter Try.func25, Try.ntmps25
    go_wp2_with fail
    refine (ck _).mono ?_; rintro e w' ⟨rfl, rfl⟩
    go_wp2_with fail
    refine (cm _).mono ?_; rintro e w' ⟨rfl, rfl⟩
    go_wp2_with fail
    refine (ck _).mono ?_; rintro e w' ⟨rfl, rfl⟩
    go_wp2_with fail
    refine (cc _).mono ?_; rintro e w' ⟨rfl, rfl⟩
    go_wp2_with fail
    go_ret2
    exact ⟨rfl, rfl⟩
  have hf : M.unitV b top = ((M.shareV (M.mant b) top.toNat (M.dn b).toNat : Int), 0) := by simp only [M.unitV, hi, h2, h3, h5]; rfl
  rw [hf]
  rw [M.cmp_one_lt b h2 h3 (by omega)] at cc
  have hl := M.dn_big b (by omega)
  have hu := (M.dn_le b).1
  obtain ⟨t, rfl⟩ := Int.eq_ofNat_of_zero_le (show 0 ≤ top by omega)
  obtain ⟨d, hd⟩ := Int.eq_ofNat_of_zero_le (show 0 ≤ M.dn b by omega)
  rw [hd] at cp
  rw [hd, Int.toNat_natCast, Int.toNat_natCast]
  exact runit_core b (M.mant b) t d (M.mant_lt b) (by omega) (by omega) (by omega) h2 h4 hd ck cp cm cc w
end Go.Proofs.Ytoimobmnbcbjiaa
