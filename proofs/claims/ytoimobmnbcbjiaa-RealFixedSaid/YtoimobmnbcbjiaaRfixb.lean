/- The contract of the document's Fixed, whole: it comes to what the program's comes to. -/
import Derived.Test.YtoimobmnbcbjiaaRfix
import Derived.Test.YtoimobmnbcbjiaaPut
namespace Go.Proofs.Ytoimobmnbcbjiaa
open Go.ChangeShapes Go.WideShapes Go.ChangeAt Go.RowKit
set_option linter.unusedVariables false

/-- far below a half: nothing is left of it -/
theorem rfix_far (b m d : Nat) (bits most : Int)
    (b1 : 0 ≤ bits) (b2 : bits ≤ 32) (b3 : 0 ≤ most) (b4 : most ≤ 1099511627776) (hk1 : ¬ M.kind b = 1) (hk2 : ¬ M.kind b = 2)
    (ck : ∀ w, Calls Try.prog 13 #[.float .f64 b] w fun e w' => e = .returned (.int .i64 (M.kind b)) ∧ w = w')
    (cp : ∀ w, Calls Try.prog 37 #[.float .f64 b] w fun e w' => e = .returned (.tuple #[.int .u64 m, .int .i64 (-(M.dn b))]) ∧ w = w')
    (cm : ∀ w, Calls Try.prog 15 #[.float .f64 b] w fun e w' => e = .returned (.bool (M.minus b)) ∧ w = w')
    (hE : -(M.dn b) + bits = -(d : Int)) (d2 : 60 < d) (w : World) :
    Calls Try.prog 22 #[.float .f64 b, .int .i64 bits, .int .i64 most] w fun e w' => e = .returned (.tuple #[.int .i64 0, .int .i64 0]) ∧ w = w' := by
  have dl := M.dn_le b
  have p1 : decide (bits < 0) = false := decide_eq_false (by omega)
  have p2 : decide (32 < bits) = false := decide_eq_false (by omega)
  have p3 : decide (most < 0) = false := decide_eq_false (by omega)
  have p4 : decide (1099511627776 < most) = false := decide_eq_false (by omega)
  cases hs : M.minus b
  all_goals
    rw [hs] at cm
    clear hs
    go_enter Try.func22, Try.ntmps22
    go_wp2_with fail
    refine (ck _).mono ?_; rintro e w' ⟨rfl, rfl⟩
    go_wp2_with fail
    refine (cp _).mono ?_; rintro e w' ⟨rfl, rfl⟩
    go_wp2_with fail
    refine (cm _).mono ?_; rintro e w' ⟨rfl, rfl⟩
    go_wp2_with fail
    go_ret2
    exact ⟨rfl, rfl⟩

/-- whole numbers, as great as they come: above every bound -/
theorem rfix_great (b m d : Nat) (bits most : Int)
    (b1 : 0 ≤ bits) (b2 : bits ≤ 32) (b3 : 0 ≤ most) (b4 : most ≤ 1099511627776) (hk1 : ¬ M.kind b = 1) (hk2 : ¬ M.kind b = 2)
    (ck : ∀ w, Calls Try.prog 13 #[.float .f64 b] w fun e w' => e = .returned (.int .i64 (M.kind b)) ∧ w = w')
    (cp : ∀ w, Calls Try.prog 37 #[.float .f64 b] w fun e w' => e = .returned (.tuple #[.int .u64 m, .int .i64 (-(M.dn b))]) ∧ w = w')
    (hE : -(M.dn b) + bits = (d : Int)) (hm1 : 4503599627370496 ≤ m) (hm : m < 9007199254740992) (w : World) :
    Calls Try.prog 22 #[.float .f64 b, .int .i64 bits, .int .i64 most] w fun e w' => e = .returned (.tuple #[.int .i64 0, .int .i64 4]) ∧ w = w' := by
  have dl := M.dn_le b
  have p1 : decide (bits < 0) = false := decide_eq_false (by omega)
  have p2 : decide (32 < bits) = false := decide_eq_false (by omega)
  have p3 : decide (most < 0) = false := decide_eq_false (by omega)
  have p4 : decide (1099511627776 < most) = false := decide_eq_false (by omega)
  by_cases h : 10 < d
  · go_enter Try.func22, Try.ntmps22
    go_wp2_with fail
    refine (ck _).mono ?_; rintro e w' ⟨rfl, rfl⟩
    go_wp2_with fail
    refine (cp _).mono ?_; rintro e w' ⟨rfl, rfl⟩
    go_wp2_with fail
    go_ret2
    exact ⟨rfl, rfl⟩
  · obtain ⟨z, hz, hz1⟩ := M.shl_great m d hm1 hm (by omega)
    have z1 : most < z := by omega
    go_enter Try.func22, Try.ntmps22
    go_wp2_with fail
    refine (ck _).mono ?_; rintro e w' ⟨rfl, rfl⟩
    go_wp2_with fail
    refine (cp _).mono ?_; rintro e w' ⟨rfl, rfl⟩
    go_wp2_with fail
    go_ret2
    exact ⟨rfl, rfl⟩

theorem rfix_args (x : Value) (bits most : Int) (h : M.inB bits 0 32 = false ∨ M.inB most 0 1099511627776 = false) (w : World) :
    Calls Try.prog 22 #[x, .int .i64 bits, .int .i64 most] w fun e w' => e = .returned (.tuple #[.int .i64 0, .int .i64 1]) ∧ w = w' := by
  have g : bits < 0 ∨ (¬ bits < 0 ∧ 32 < bits) ∨ (¬ bits < 0 ∧ ¬ 32 < bits ∧ most < 0) ∨ (¬ bits < 0 ∧ ¬ 32 < bits ∧ ¬ most < 0 ∧ 1099511627776 < most) := by
    simp [M.inB] at h; omega
  clear h
  rcases g with g | ⟨g1, g⟩ | ⟨g1, g2, g⟩ | ⟨g1, g2, g3, g⟩
  · have p1 : decide (bits < 0) = true := decide_eq_true g
    go_enter Try.func22, Try.ntmps22
    go_wp2
    go_ret2
    exact ⟨rfl, rfl⟩
  · have p1 : decide (bits < 0) = false := decide_eq_false g1
    have p2 : decide (32 < bits) = true := decide_eq_true g
    go_enter Try.func22, Try.ntmps22
    go_wp2
    go_ret2
    exact ⟨rfl, rfl⟩
  · have p1 : decide (bits < 0) = false := decide_eq_false g1
    have p2 : decide (32 < bits) = false := decide_eq_false g2
    have p3 : decide (most < 0) = true := decide_eq_true g
    go_enter Try.func22, Try.ntmps22
    go_wp2
    go_ret2
    exact ⟨rfl, rfl⟩
  · have p1 : decide (bits < 0) = false := decide_eq_false g1
    have p2 : decide (32 < bits) = false := decide_eq_false g2
    have p3 : decide (most < 0) = false := decide_eq_false g3
    have p4 : decide (1099511627776 < most) = true := decide_eq_true g
    go_enter Try.func22, Try.ntmps22
    go_wp2
    go_ret2
    exact ⟨rfl, rfl⟩
theorem rfix_kind (b : Nat) (bits most K R : Int) (hK : (K = 1 ∧ R = 2) ∨ (K = 2 ∧ R = 3))
    (b1 : 0 ≤ bits) (b2 : bits ≤ 32) (b3 : 0 ≤ most) (b4 : most ≤ 1099511627776)
    (ck : ∀ w, Calls Try.prog 13 #[.float .f64 b] w fun e w' => e = .returned (.int .i64 K) ∧ w = w') (w : World) :
    Calls Try.prog 22 #[.float .f64 b, .int .i64 bits, .int .i64 most] w fun e w' => e = .returned (.tuple #[.int .i64 0, .int .i64 R]) ∧ w = w' := by
  have p1 : decide (bits < 0) = false := decide_eq_false (by omega)
  have p2 : decide (32 < bits) = false := decide_eq_false (by omega)
  have p3 : decide (most < 0) = false := decide_eq_false (by omega)
  have p4 : decide (1099511627776 < most) = false := decide_eq_false (by omega)
  rcases hK with ⟨rfl, rfl⟩ | ⟨rfl, rfl⟩
  all_goals
    go_enter Try.func22, Try.ntmps22
    go_wp2_with fail
    refine (ck _).mono ?_; rintro e w' ⟨rfl, rfl⟩
    go_wp2_with fail
    go_ret2
    exact ⟨rfl, rfl⟩

theorem rfixed_any (b : Nat) (hb : b < 18446744073709551616) (bits most : Int) (w : World) : Calls Try.prog 22 #[.float .f64 b, .int .i64 bits, .int .i64 most] w fun e w' => e = .returned (.tuple #[.int .i64 (M.fixV b bits most).1, .int .i64 (M.fixV b bits most).2]) ∧ w = w' := by
  have ck := rkind_any b hb
  have cp := rwhole_any b hb
  have cm := rminus_any b hb
  by_cases h0 : M.inB bits 0 32 = false ∨ M.inB most 0 1099511627776 = false
  · have hf : M.fixV b bits most = (0, 1) := by rw [M.fixV, if_pos h0]
    rw [hf]; exact rfix_args _ _ _ h0 w
  have h1 : M.inB bits 0 32 = true := by
    cases h : M.inB bits 0 32
    · exact absurd (Or.inl h) h0
    · rfl
  have h2 : M.inB most 0 1099511627776 = true := by
    cases h : M.inB most 0 1099511627776
    · exact absurd (Or.inr h) h0
    · rfl
  have b1 := M.inB_lo h1
  have b2 := M.inB_hi h1
  have b3 := M.inB_lo h2
  have b4 := M.inB_hi h2
  by_cases h3 : M.kind b = 1
  · have hf : M.fixV b bits most = (0, 2) := by simp [M.fixV, h1, h2, h3]
    rw [hf]; rw [h3] at ck
    exact rfix_kind b bits most 1 2 (Or.inl ⟨rfl, rfl⟩) b1 b2 b3 b4 ck w
  by_cases h4 : M.kind b = 2
  · have hf : M.fixV b bits most = (0, 3) := by simp [M.fixV, h1, h2, h4]
    rw [hf]; rw [h4] at ck
    exact rfix_kind b bits most 2 3 (Or.inr ⟨rfl, rfl⟩) b1 b2 b3 b4 ck w
  have dl := M.dn_le b
  by_cases h5 : M.dn b ≤ bits
  · have hf : M.fixV b bits most = (0, 4) := by simp [M.fixV, h1, h2, h3, h4, h5]
    rw [hf]
    obtain ⟨d, hd⟩ := Int.eq_ofNat_of_zero_le (show 0 ≤ -(M.dn b) + bits by omega)
    exact rfix_great b (M.mant b) d bits most b1 b2 b3 b4 h3 h4 ck cp hd (M.mant_great b (by omega)) (M.mant_lt b) w
  obtain ⟨d, hd⟩ := Int.eq_ofNat_of_zero_le (show 0 ≤ M.dn b - bits by omega)
  have hdt : (M.dn b - bits).toNat = d := by omega
  have hfix : M.fixV b bits most = if most < (M.rnd (M.mant b) d : Int) then (0, 4) else if M.minus b then (-(M.rnd (M.mant b) d : Int), 0) else ((M.rnd (M.mant b) d : Int), 0) := by
    simp only [M.fixV, h1, h2, h3, h4, h5, hdt]; simp
  rw [hfix]
  by_cases h6 : d ≤ 60
  · obtain ⟨f1, f2, f3, f4, f5, f6, f7⟩ := M.rnd_parts (M.mant b) d (M.mant_lt b) h6
    refine rfix_core b (M.mant b) (M.mant b / 2 ^ d) (M.mant b % 2 ^ d) (2 ^ d) d bits most (M.rnd (M.mant b) d) _ b1 b2 b3 b4 h3 h4 ck cp cm (by omega) (by omega) h6 (M.mant_lt b) f1 (by simp) (by simp) f2 f3 f4 f5 f6 ?_ w
    by_cases g : most < (M.rnd (M.mant b) d : Int)
    · exact Or.inl ⟨g, by rw [if_pos g]⟩
    · cases gm : M.minus b
      · exact Or.inr (Or.inr ⟨by omega, rfl, by rw [if_neg g]; rfl⟩)
      · exact Or.inr (Or.inl ⟨by omega, rfl, by rw [if_neg g]; rfl⟩)
  · rw [M.rnd_zero _ _ (M.mant_lt b) (by omega)]
    have hz : (if most < ((0 : Nat) : Int) then ((0, 4) : Int × Int) else if M.minus b then (-((0 : Nat) : Int), 0) else (((0 : Nat) : Int), 0)) = (0, 0) := by
      rw [if_neg (by omega)]; split <;> rfl
    rw [hz]
    exact rfix_far b (M.mant b) d bits most b1 b2 b3 b4 h3 h4 ck cp cm (by omega) (by omega) w
end Go.Proofs.Ytoimobmnbcbjiaa
