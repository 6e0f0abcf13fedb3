/- Contracts of the program's Fixed, and of what it calls. -/
import Derived.Test.YtoimobmnbcbjiaaBase
namespace Go.Proofs.Ytoimobmnbcbjiaa
open Go.ChangeShapes Go.WideShapes Go.ChangeAt Go.RowKit
set_option linter.unusedVariables false

theorem among_any (n lo hi : Int) (w : World) : Calls Try.prog 34 #[.int .i64 n, .int .i64 lo, .int .i64 hi] w fun e w' => e = .returned (.bool (M.inB n lo hi)) ∧ w = w' := by
  by_cases h1 : lo ≤ n
  · go_enter Try.func34, Try.ntmps34
    go_wp2
    go_ret
    exact ⟨retb (by simp [M.inB]; omega), rfl⟩
  · go_enter Try.func34, Try.ntmps34
    go_wp2
    go_ret
    exact ⟨retb (by simp [M.inB]; omega), rfl⟩
theorem part_any (b : Nat) (hb : b < 18446744073709551616) (w : World) : Calls Try.prog 35 #[.float .f64 b] w fun e w' => e = .returned (.tuple #[.int .i64 (M.mant b), .int .i64 (M.dn b)]) ∧ w = w' := by
  have c := fields_any b hb
  have k := M.or_top _ (M.fr_lt b)
  have h1 := M.ex_lt b
  have h2 := M.fr_lt b
  clear hb
  by_cases h : M.ex b = 0
  · go_enter Try.func35, Try.ntmps35
    go_wp2_with (go_at_call 28; refine (c _).mono ?_; rintro e w' ⟨rfl, rfl⟩)
    go_ret2
    exact ⟨by simp [M.mant, M.dn, h], rfl⟩
  · have H := Lib.hid k
    clear k
    go_enter Try.func35, Try.ntmps35
    go_wp2_with (go_at_call 28; refine (c _).mono ?_; rintro e w' ⟨rfl, rfl⟩)
    go_ret2
    exact ⟨by simp [M.mant, M.dn, h, H.out], rfl⟩






theorem nearest_small (m d : Nat) (hm : m < 9007199254740992) (hd : 1 ≤ d) (hd2 : d ≤ 54) (w : World) : Calls Try.prog 36 #[.int .i64 m, .int .i64 d] w fun e w' => e = .returned (.int .i64 (M.rnd m d)) ∧ Qt w w' := by
  obtain ⟨f1, f2, f3⟩ := M.near_facts m d hm hd hd2
  have f4 := M.and_one (m / 2 ^ d) (Nat.lt_of_le_of_lt (Nat.div_le_self _ _) hm)
  have u := M.near_up m d hm
  have dn := M.near_down m d
  have tw := M.two_half d hd
  have F1 := Lib.hid f1
  have F2 := Lib.hid f2
  have F3 := Lib.hid f3
  have F4 := Lib.hid f4
  have U := Lib.hid u
  have D := Lib.hid dn
  have T := Lib.hid tw
  clear f1 f2 f3 f4 u dn tw hm
  go_enter Try.func36, Try.ntmps36
  go_wp2
  go_quiet (fail)
  generalize hH : wrap64 (2 ^ (d - 1)) = H
  generalize hR : wrap64 ((m : Int) - wrap64 ((m : Int) / 2 ^ d * 2 ^ d)) = R
  generalize hq : (m : Int) / 2 ^ d = q
  rw [F1.out] at hH
  rw [F2.out] at hR
  rw [F3.out] at hq
  have kH := Lib.hid hH
  have kR := Lib.hid hR
  have kq := Lib.hid hq
  clear hH hR hq hd hd2 F1 F2 F3
  by_cases h : H < R
  · go_wp2
    go_ret
    exact ⟨ret1 (by have := kH.out; have := kR.out; have := T.out; rw [← U.out (by omega), kq.out]), Qt.at⟩
  · by_cases h1 : R = H
    · subst h1
      obtain ⟨p, hp⟩ : ∃ p, bits BinOp.and IntKind.i64 q 1 = p := ⟨_, rfl⟩
      by_cases h2 : p = 1
      · have P := Lib.hid hp
        go_wp2
        go_ret
        exact ⟨ret1 (by have := kH.out; have := kR.out; have := T.out; have e := P.out; rw [← kq.out, F4.out] at e; rw [← U.out (by omega), kq.out]), Qt.at⟩
      · have P := Lib.hid hp
        have P2 := Lib.hid h2
        go_wp2
        go_ret
        exact ⟨ret1 (by have := kH.out; have := kR.out; have := T.out; have e := P.out; have := P2.out; rw [← kq.out, F4.out] at e; rw [← D.out (by omega), kq.out]), Qt.at⟩
    · have h2 : R < H := by omega
      have h3 : (R == H) = false := by simpa using h1
      have h4 : decide (H < R) = false := by simpa using h
      clear h1 h
      go_wp2
      go_ret
      exact ⟨ret1 (by have := kH.out; have := kR.out; have := T.out; rw [← D.out (by omega), kq.out]), Qt.at⟩
theorem nearest_big (m d : Int) (hd : 54 < d) (w : World) : Calls Try.prog 36 #[.int .i64 m, .int .i64 d] w fun e w' => e = .returned (.int .i64 0) ∧ Qt w w' := by
  go_enter Try.func36, Try.ntmps36
  go_wp2
  go_ret
  exact ⟨ret1 rfl, Qt.rfl⟩
theorem nearest_any (m : Nat) (d : Int) (hm : m < 9007199254740992) (hd : 1 ≤ d) (w : World) : Calls Try.prog 36 #[.int .i64 m, .int .i64 d] w fun e w' => e = .returned (.int .i64 (M.rnd m d.toNat)) ∧ Qt w w' := by
  obtain ⟨k, rfl⟩ := Int.eq_ofNat_of_zero_le (show 0 ≤ d by omega)
  rw [Int.toNat_natCast]
  by_cases h : k ≤ 54
  · exact nearest_small m k hm (by omega) h w
  · rw [M.rnd_zero m k hm (by omega)]
    exact nearest_big m k (by omega) w

theorem fixed_any (b : Nat) (hb : b < 18446744073709551616) (bits most : Int) (w : World) : Calls Try.prog 21 #[.float .f64 b, .int .i64 bits, .int .i64 most] w fun e w' => e = .returned (.tuple #[.int .i64 (M.fixV b bits most).1, .int .i64 (M.fixV b bits most).2]) ∧ Qt w w' := by
  have c1 := among_any bits 0 32
  have c2 := among_any most 0 1099511627776
  have ck := kind_any b hb
  have cp := part_any b hb
  have cm := minus_any b hb
  clear hb
  cases h1 : M.inB bits 0 32
  · have hf : M.fixV b bits most = (0, 1) := by simp [M.fixV, h1]
    rw [hf]; rw [h1] at c1
    clear hf h1
    go_enter Try.func21, Try.ntmps21
    go_wp2_with fail
    refine (c1 _).mono ?_; rintro e w' ⟨rfl, rfl⟩
    go_wp2_with fail
    go_ret2
    exact ⟨rfl, Qt.rfl⟩
  cases h2 : M.inB most 0 1099511627776
  · have hf : M.fixV b bits most = (0, 1) := by simp [M.fixV, h1, h2]
    rw [hf]; rw [h1] at c1; rw [h2] at c2
    clear hf h1 h2
    go_enter Try.func21, Try.ntmps21
    go_wp2_with fail
    refine (c1 _).mono ?_; rintro e w' ⟨rfl, rfl⟩
    go_wp2_with fail
    refine (c2 _).mono ?_; rintro e w' ⟨rfl, rfl⟩
    go_wp2_with fail
    go_ret2
    exact ⟨rfl, Qt.rfl⟩
  rw [h1] at c1; rw [h2] at c2
  by_cases h3 : M.kind b = 1
  · have hf : M.fixV b bits most = (0, 2) := by simp [M.fixV, h1, h2, h3]
    rw [hf]; rw [h3] at ck
    clear hf h1 h2 h3
    go_enter Try.func21, Try.ntmps21
    go_wp2_with fail
    refine (c1 _).mono ?_; rintro e w' ⟨rfl, rfl⟩
    go_wp2_with fail
    refine (c2 _).mono ?_; rintro e w' ⟨rfl, rfl⟩
    go_wp2_with fail
    refine (ck _).mono ?_; rintro e w' ⟨rfl, rfl⟩
    go_wp2_with fail
    go_ret2
    exact ⟨rfl, Qt.rfl⟩
  by_cases h4 : M.kind b = 2
  · have hf : M.fixV b bits most = (0, 3) := by simp [M.fixV, h1, h2, h4]
    rw [hf]; rw [h4] at ck
    clear hf h1 h2 h3 h4
    go_enter Try.func21, Try.ntmps21
    go_wp2_with fail
    refine (c1 _).mono ?_; rintro e w' ⟨rfl, rfl⟩
    go_wp2_with fail
    refine (c2 _).mono ?_; rintro e w' ⟨rfl, rfl⟩
    go_wp2_with fail
    refine (ck _).mono ?_; rintro e w' ⟨rfl, rfl⟩
    go_wp2_with fail
    go_ret2
    exact ⟨rfl, Qt.rfl⟩
  have b1 := M.inB_lo h1
  have b2 := M.inB_hi h1
  have d1 := (M.dn_le b).1
  have d2 := (M.dn_le b).2
  by_cases h5 : M.dn b ≤ bits
  · have hf : M.fixV b bits most = (0, 4) := by simp [M.fixV, h1, h2, h3, h4, h5]
    rw [hf]
    clear hf h1 h2
    go_enter Try.func21, Try.ntmps21
    go_wp2_with fail
    refine (c1 _).mono ?_; rintro e w' ⟨rfl, rfl⟩
    go_wp2_with fail
    refine (c2 _).mono ?_; rintro e w' ⟨rfl, rfl⟩
    go_wp2_with fail
    refine (ck _).mono ?_; rintro e w' ⟨rfl, rfl⟩
    go_wp2_with fail
    refine (cp _).mono ?_; rintro e w' ⟨rfl, rfl⟩
    go_wp2_with fail
    go_ret2
    exact ⟨rfl, Qt.rfl⟩
  have cn := nearest_any (M.mant b) (M.dn b - bits) (M.mant_lt b) (by omega)
  have hr := M.rnd_le (M.mant b) (M.dn b - bits).toNat (M.mant_lt b)
  generalize hR : M.rnd (M.mant b) (M.dn b - bits).toNat = R at *
  by_cases h6 : most < (R : Int)
  · have hf : M.fixV b bits most = (0, 4) := by simp [M.fixV, h1, h2, h3, h4, h5, hR, h6]
    rw [hf]
    clear hf h1 h2 hR
    go_enter Try.func21, Try.ntmps21
    go_wp2_with fail
    refine (c1 _).mono ?_; rintro e w' ⟨rfl, rfl⟩
    go_wp2_with fail
    refine (c2 _).mono ?_; rintro e w' ⟨rfl, rfl⟩
    go_wp2_with fail
    refine (ck _).mono ?_; rintro e w' ⟨rfl, rfl⟩
    go_wp2_with fail
    refine (cp _).mono ?_; rintro e w' ⟨rfl, rfl⟩
    go_wp2_with fail
    refine (cn _).mono ?_; rintro e w' ⟨rfl, q⟩
    go_wp2_with fail
    go_ret2
    exact ⟨rfl, q⟩
  cases h7 : M.minus b
  · have hf : M.fixV b bits most = ((R : Int), 0) := by simp [M.fixV, h1, h2, h3, h4, h5, hR, h6, h7]
    rw [hf]; rw [h7] at cm
    clear hf h1 h2 hR
    go_enter Try.func21, Try.ntmps21
    go_wp2_with fail
    refine (c1 _).mono ?_; rintro e w' ⟨rfl, rfl⟩
    go_wp2_with fail
    refine (c2 _).mono ?_; rintro e w' ⟨rfl, rfl⟩
    go_wp2_with fail
    refine (ck _).mono ?_; rintro e w' ⟨rfl, rfl⟩
    go_wp2_with fail
    refine (cp _).mono ?_; rintro e w' ⟨rfl, rfl⟩
    go_wp2_with fail
    refine (cn _).mono ?_; rintro e w' ⟨rfl, q⟩
    go_wp2_with fail
    refine (cm _).mono ?_; rintro e w' ⟨rfl, rfl⟩
    go_wp2_with fail
    go_ret2
    exact ⟨rfl, q⟩
  · have hf : M.fixV b bits most = (-(R : Int), 0) := by simp [M.fixV, h1, h2, h3, h4, h5, hR, h6, h7]
    rw [hf]; rw [h7] at cm
    clear hf h1 h2 hR
    go_enter Try.func21, Try.ntmps21
    go_wp2_with fail
    refine (c1 _).mono ?_; rintro e w' ⟨rfl, rfl⟩
    go_wp2_with fail
    refine (c2 _).mono ?_; rintro e w' ⟨rfl, rfl⟩
    go_wp2_with fail
    refine (ck _).mono ?_; rintro e w' ⟨rfl, rfl⟩
    go_wp2_with fail
    refine (cp _).mono ?_; rintro e w' ⟨rfl, rfl⟩
    go_wp2_with fail
    refine (cn _).mono ?_; rintro e w' ⟨rfl, q⟩
    go_wp2_with fail
    refine (cm _).mono ?_; rintro e w' ⟨rfl, rfl⟩
    go_wp2_with fail
    go_ret2
    exact ⟨rfl, q⟩
end Go.Proofs.Ytoimobmnbcbjiaa
