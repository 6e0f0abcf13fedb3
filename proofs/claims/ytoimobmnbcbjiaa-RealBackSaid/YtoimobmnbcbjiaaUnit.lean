/- Contracts of the program's Back and Unit, and of math's Copysign. -/
import Derived.Test.YtoimobmnbcbjiaaFix
import Derived.Test.YtoimobmnbcbjiaaFlo
namespace Go.Proofs.Ytoimobmnbcbjiaa
open Go.ChangeShapes Go.WideShapes Go.ChangeAt Go.RowKit
set_option linter.unusedVariables false

theorem run_shr64 (x y : Int) (hy : 0 ≤ y) (w : World) : (Op.shift .shr .i64 x .i64 y).run Try.prog w = .ok (.int .i64 (x.fdiv (2 ^ min y.toNat 64))) w := by
  have h : ¬ y < 0 := by omega
  simp [Op.shift, h, IntKind.bits]

theorem run_div (n : Int) (k : Nat) (h1 : -4503599627370496 ≤ n) (h2 : n ≤ 4503599627370496) (hk : k ≤ 33) (w : World) :
    (binOp .quo 22 (.float .f64 (floatOfInt .f64 n)) (.float .f64 (floatOfInt .f64 (wrap64 (2 ^ k))))).run Try.prog w = .ok (.float .f64 (M.backB n k)) w := by
  refine run_float_arith w .quo 22 .f64 _ _ _ ?_
  rw [M.pow_fit k hk]
  exact M.back_div n k h1 h2 hk

def backV (n : Int) (k : Int) : Nat × Int := if M.inB k 0 32 = false ∨ M.inB n (-4503599627370496) 4503599627370496 = false then (0, 1) else (M.backB n k.toNat, 0)

theorem back_any (n k : Int) (w : World) : Calls Try.prog 23 #[.int .i64 n, .int .i64 k] w fun e w' => e = .returned (.tuple #[.float .f64 (backV n k).1, .int .i64 (backV n k).2]) ∧ w = w' := by
  have c1 := among_any k 0 32
  have c2 := among_any n (-4503599627370496) 4503599627370496
  cases h1 : M.inB k 0 32
  · have hf : backV n k = (0, 1) := by simp [backV, h1]
    rw [hf]; rw [h1] at c1
    clear hf h1
    go_enter Try.func23, Try.ntmps23
    go_wp2_with fail
    refine (c1 _).mono ?_; rintro e w' ⟨rfl, rfl⟩
    go_wp2_with fail
    go_ret2
    exact ⟨rfl, rfl⟩
  cases h2 : M.inB n (-4503599627370496) 4503599627370496
  · have hf : backV n k = (0, 1) := by simp [backV, h1, h2]
    rw [hf]; rw [h1] at c1; rw [h2] at c2
    clear hf h1 h2
    go_enter Try.func23, Try.ntmps23
    go_wp2_with fail
    refine (c1 _).mono ?_; rintro e w' ⟨rfl, rfl⟩
    go_wp2_with fail
    refine (c2 _).mono ?_; rintro e w' ⟨rfl, rfl⟩
    go_wp2_with fail
    go_ret2
    exact ⟨rfl, rfl⟩
  have hf : backV n k = (M.backB n k.toNat, 0) := by simp [backV, h1, h2]
  rw [hf]; rw [h1] at c1; rw [h2] at c2
  clear hf
  have b0 := M.inB_lo h1
  have b1 := M.inB_hi h1
  obtain ⟨j, rfl⟩ := Int.eq_ofNat_of_zero_le b0
  rw [Int.toNat_natCast]
  have hq := run_div n j (M.inB_lo h2) (M.inB_hi h2) (by omega)
  clear h1 h2 b0
  go_enter Try.func23, Try.ntmps23
  go_wp2_with fail
  refine (c1 _).mono ?_; rintro e w' ⟨rfl, rfl⟩
  go_wp2_with fail
  refine (c2 _).mono ?_; rintro e w' ⟨rfl, rfl⟩
  go_wp2_with fail
  go_ret2
  exact ⟨rfl, rfl⟩

theorem rback_any (n k : Int) (w : World) : Calls Try.prog 26 #[.int .i64 n, .int .i64 k] w fun e w' => e = .returned (.tuple #[.float .f64 (backV n k).1, .int .i64 (backV n k).2]) ∧ w = w' := by
  by_cases h1 : k < 0
  · have hf : backV n k = (0, 1) := by simp [backV, M.inB]; omega
    rw [hf]
    clear hf
    go_enter Try.func26, Try.ntmps26
    go_wp2
    go_ret2
    exact ⟨rfl, rfl⟩
  by_cases h2 : 32 < k
  · have hf : backV n k = (0, 1) := by simp [backV, M.inB]; omega
    rw [hf]
    clear hf
    go_enter Try.func26, Try.ntmps26
    go_wp2
    go_ret2
    exact ⟨rfl, rfl⟩
  by_cases h3 : n < -4503599627370496
  · have hf : backV n k = (0, 1) := by simp [backV, M.inB]; omega
    rw [hf]
    clear hf
    go_enter Try.func26, Try.ntmps26
    go_wp2
    go_ret2
    exact ⟨rfl, rfl⟩
  by_cases h4 : 4503599627370496 < n
  · have hf : backV n k = (0, 1) := by simp [backV, M.inB]; omega
    rw [hf]
    clear hf
    go_enter Try.func26, Try.ntmps26
    go_wp2
    go_ret2
    exact ⟨rfl, rfl⟩
  have hf : backV n k = (M.backB n k.toNat, 0) := by simp [backV, M.inB]; omega
  rw [hf]
  clear hf
  obtain ⟨j, rfl⟩ := Int.eq_ofNat_of_zero_le (show 0 ≤ k by omega)
  rw [Int.toNat_natCast]
  have hq := run_div n j (by omega) (by omega) (by omega)
  have hj : decide ((j : Int) < 0) = false := decide_eq_false (by omega)
  clear h1
  go_enter Try.func26, Try.ntmps26
  go_wp2
  go_ret2
  exact ⟨rfl, rfl⟩

theorem share_any (m : Nat) (t d : Nat) (hm : m < 9007199254740992) (ht : t ≤ 16777216) (hd : 53 ≤ d) (hd2 : d ≤ 1074) (w : World) : Calls Try.prog 38 #[.int .i64 m, .int .i64 t, .int .i64 d] w fun e w' => e = .returned (.int .i64 (M.shareV m t d)) ∧ w = w' := by
  obtain ⟨l1, l2⟩ := M.share_low m t hm ht
  have l3 := M.share_high m t d hd l2
  have hsh := run_shr64 (wrap64 (wrap64 ((m : Int) / 536870912 * t) + wrap64 (bits BinOp.and IntKind.i64 (m : Int) 536870911 * t) / 536870912)) ((d : Int) - 29) (by omega)
  have hs : ∀ w, (Op.shift .shr .i64 (wrap64 (wrap64 ((m : Int) / 536870912 * t) + wrap64 (bits BinOp.and IntKind.i64 (m : Int) 536870911 * t) / 536870912)) .i64 ((d : Int) - 29)).run Try.prog w = .ok (.int .i64 (M.shareV m t d)) w := by
    intro w; rw [hsh w, l1, l3]; rfl
  clear l1 l2 l3 hsh hm ht
  go_enter Try.func38, Try.ntmps38
  go_wp2
  go_ret
  exact ⟨ret1 rfl, rfl⟩

theorem unit_any (b : Nat) (hb : b < 18446744073709551616) (top : Int) (w : World) : Calls Try.prog 24 #[.float .f64 b, .int .i64 top] w fun e w' => e = .returned (.tuple #[.int .i64 (M.unitV b top).1, .int .i64 (M.unitV b top).2]) ∧ w = w' := by
  have c1 := among_any top 0 16777216
  have ck := kind_any b hb
  have cp := part_any b hb
  have cm := minus_any b hb
  clear hb
  cases h1 : M.inB top 0 16777216
  · have hf : M.unitV b top = (0, 1) := by simp [M.unitV, h1]
    rw [hf]; rw [h1] at c1
    clear hf h1
    go_enter Try.func24, Try.ntmps24
    go_wp2_with fail
    refine (c1 _).mono ?_; rintro e w' ⟨rfl, rfl⟩
    go_wp2_with fail
    go_ret2
    exact ⟨rfl, rfl⟩
  rw [h1] at c1
  by_cases h3 : M.kind b = 1
  · have hf : M.unitV b top = (0, 2) := by simp [M.unitV, h1, h3]
    rw [hf]; rw [h3] at ck
    clear hf h1 h3
    go_enter Try.func24, Try.ntmps24
    go_wp2_with fail
    refine (c1 _).mono ?_; rintro e w' ⟨rfl, rfl⟩
    go_wp2_with fail
    refine (ck _).mono ?_; rintro e w' ⟨rfl, rfl⟩
    go_wp2_with fail
    go_ret2
    exact ⟨rfl, rfl⟩
  cases h4 : M.minus b
  case true =>
    have hf : M.unitV b top = (0, 0) := by simp [M.unitV, h1, h3, h4]
    rw [hf]; rw [h4] at cm
    clear hf h1 h4
    go_enter Try.func24, Try.ntmps24
    go_wp2_with fail
    refine (c1 _).mono ?_; rintro e w' ⟨rfl, rfl⟩
    go_wp2_with fail
    refine (ck _).mono ?_; rintro e w' ⟨rfl, rfl⟩
    go_wp2_with fail
    refine (cm _).mono ?_; rintro e w' ⟨rfl, rfl⟩
    go_wp2_with fail
    go_ret2
    exact ⟨rfl, rfl⟩
  have hg := M.ge_one b h3 h4
  by_cases h5 : 4607182418800017408 ≤ b
  · have hf : M.unitV b top = (top, 0) := by simp [M.unitV, h1, h3, h4, h5]
    rw [hf]; rw [h4] at cm
    rw [decide_eq_true h5] at hg
    have hc : (FloatKind.f64.format.order b 4607182418800017408 == some .gt || FloatKind.f64.format.order b 4607182418800017408 == some .eq) = true := hg
    clear hf h1 h4 h5 hg
    go_enter Try.func24, Try.ntmps24
    go_wp2_with fail
    refine (c1 _).mono ?_; rintro e w' ⟨rfl, rfl⟩
    go_wp2_with fail
    refine (ck _).mono ?_; rintro e w' ⟨rfl, rfl⟩
    go_wp2_with fail
    refine (cm _).mono ?_; rintro e w' ⟨rfl, rfl⟩
    go_wp2_with fail
    go_ret2
    exact ⟨rfl, rfl⟩
  have hf : M.unitV b top = ((M.shareV (M.mant b) top.toNat (M.dn b).toNat : Int), 0) := by simp only [M.unitV, h1, h3, h4, h5]; rfl
  rw [hf]; rw [h4] at cm
  rw [decide_eq_false h5] at hg
  have hc : (FloatKind.f64.format.order b 4607182418800017408 == some .gt || FloatKind.f64.format.order b 4607182418800017408 == some .eq) = false := hg
  have hl := M.dn_big b (by omega)
  have hu := (M.dn_le b).1
  have cs := share_any (M.mant b) top.toNat (M.dn b).toNat (M.mant_lt b) (by have := M.inB_hi h1; omega) (by omega) (by omega)
  rw [show ((top.toNat : Nat) : Int) = top from by have := M.inB_lo h1; omega, show (((M.dn b).toNat : Nat) : Int) = M.dn b from by omega] at cs
  clear hf h1 h4 h5 hg hl hu
  go_enter Try.func24, Try.ntmps24
  go_wp2_with fail
  refine (c1 _).mono ?_; rintro e w' ⟨rfl, rfl⟩
  go_wp2_with fail
  refine (ck _).mono ?_; rintro e w' ⟨rfl, rfl⟩
  go_wp2_with fail
  refine (cm _).mono ?_; rintro e w' ⟨rfl, rfl⟩
  go_wp2_with fail
  refine (cp _).mono ?_; rintro e w' ⟨rfl, rfl⟩
  go_wp2_with fail
  refine (cs _).mono ?_; rintro e w' ⟨rfl, rfl⟩
  go_wp2_with fail
  go_ret2
  exact ⟨rfl, rfl⟩

/-- the float 0 with the sign of -1 -/
theorem copysign_here (w : World) : Calls Try.prog 27 #[.float .f64 0, .float .f64 13830554455654793216] w fun e w' => e = .returned (.float .f64 9223372036854775808) ∧ w = w' := by
  go_enter Try.func27, Try.ntmps27
  go_wp2
  go_ret
  exact ⟨retf (by decide), rfl⟩

theorem awake_any (w : World) : Calls Try.prog 11 #[] w fun e w' => e = .returned (.bool true) ∧ Qt w w' := by
  have c1 := fixed_any 4602678819172646912 (by decide) 0 9
  have c2 := fixed_any 4609434218613702656 (by decide) 0 9
  have c3 := unit_any 9223372036854775808 (by decide) 7
  have c4 := back_any 3 1
  have c5 := kind_any 4607182418800017408 (by decide)
  have c6 := compare_any 4607182418800017408 4611686018427387904 (by decide) (by decide)
  rw [show M.fixV 4602678819172646912 0 9 = (0, 0) from by decide +kernel] at c1
  rw [show M.fixV 4609434218613702656 0 9 = (2, 0) from by decide +kernel] at c2
  rw [show M.unitV 9223372036854775808 7 = (0, 0) from by decide +kernel] at c3
  rw [show backV 3 1 = (4609434218613702656, 0) from by decide +kernel] at c4
  rw [show M.kind 4607182418800017408 = 5 from by decide +kernel] at c5
  rw [show M.cmpV 4607182418800017408 4611686018427387904 = -1 from by decide +kernel] at c6
  go_enter Try.func11, Try.ntmps11
  go_wp2_with fail
  refine (c1 _).mono ?_; rintro e w1 ⟨rfl, q1⟩
  go_wp2_with fail
  refine (c2 _).mono ?_; rintro e w2 ⟨rfl, q2⟩
  go_wp2_with fail
  refine (copysign_here _).mono ?_; rintro e w' ⟨rfl, rfl⟩
  go_wp2_with fail
  refine (c3 _).mono ?_; rintro e w' ⟨rfl, rfl⟩
  go_wp2_with fail
  refine (c4 _).mono ?_; rintro e w' ⟨rfl, rfl⟩
  go_wp2_with fail
  refine (c5 _).mono ?_; rintro e w' ⟨rfl, rfl⟩
  go_wp2_with fail
  refine (c6 _).mono ?_; rintro e w' ⟨rfl, rfl⟩
  go_wp2_with fail
  go_ret
  exact ⟨retb rfl, q1.trans q2⟩
end Go.Proofs.Ytoimobmnbcbjiaa
