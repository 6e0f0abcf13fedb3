/- Contracts of the document's Fixed. -/
import Derived.Test.YtoimobmnbcbjiaaFix
namespace Go.Proofs.Ytoimobmnbcbjiaa
open Go.ChangeShapes Go.WideShapes Go.ChangeAt Go.RowKit
set_option linter.unusedVariables false

theorem rwhole_any (b : Nat) (hb : b < 18446744073709551616) (w : World) : Calls Try.prog 37 #[.float .f64 b] w fun e w' => e = .returned (.tuple #[.int .u64 (M.mant b), .int .i64 (-(M.dn b))]) ∧ w = w' := by
  have c := parts_any b hb
  have h1 := M.ex_lt b
  have h2 := M.fr_lt b
  clear hb
  by_cases h : M.ex b = 0
  · have e1 : (M.mant b : Int) = M.fr b := by simp [M.mant, h]
    have e2 : -(M.dn b) = -1074 := by simp [M.dn, h]
    rw [e1, e2]
    clear e1 e2
    go_enter Try.func37, Try.ntmps37
    go_wp2_with (go_at_call 29; refine (c _).mono ?_; rintro e w' ⟨rfl, rfl⟩)
    go_ret2
    exact ⟨rfl, rfl⟩
  · have e1 : (M.mant b : Int) = M.fr b + 4503599627370496 := by simp [M.mant, h]
    have e2 : -(M.dn b) = (M.ex b : Int) - 1075 := by simp [M.dn, h]; omega
    rw [e1, e2]
    clear e1 e2
    go_enter Try.func37, Try.ntmps37
    go_wp2_with (go_at_call 29; refine (c _).mono ?_; rintro e w' ⟨rfl, rfl⟩)
    go_ret2
    exact ⟨rfl, rfl⟩

set_option maxHeartbeats 2000000 in
theorem rfix_core (b m q r o d : Nat) (bits most n : Int) (V : Int × Int)
    (b1 : 0 ≤ bits) (b2 : bits ≤ 32) (b3 : 0 ≤ most) (b4 : most ≤ 1099511627776) (hk1 : ¬ M.kind b = 1) (hk2 : ¬ M.kind b = 2)
    (ck : ∀ w, Calls Try.prog 13 #[.float .f64 b] w fun e w' => e = .returned (.int .i64 (M.kind b)) ∧ w = w')
    (cp : ∀ w, Calls Try.prog 37 #[.float .f64 b] w fun e w' => e = .returned (.tuple #[.int .u64 m, .int .i64 (-(M.dn b))]) ∧ w = w')
    (cm : ∀ w, Calls Try.prog 15 #[.float .f64 b] w fun e w' => e = .returned (.bool (M.minus b)) ∧ w = w')
    (hE : -(M.dn b) + bits = -(d : Int)) (d1 : 1 ≤ d) (d2 : d ≤ 60) (hm : m < 9007199254740992)
    (hO : wrap64 (2 ^ d) = (o : Int)) (hQ : (m : Int) / o = q) (hR : (m : Int) % o = r) (o1 : 1 ≤ o) (o2 : o ≤ 1152921504606846976) (ro : r < o) (qm : q < 9007199254740992)
    (hc : ((o : Int) < 2 * r ∧ n = q + 1) ∨ (2 * (r : Int) = o ∧ q % 2 = 1 ∧ n = q + 1) ∨ (2 * (r : Int) = o ∧ ¬ q % 2 = 1 ∧ n = q) ∨ (2 * (r : Int) < o ∧ n = q))
    (hV : (most < n ∧ V = (0, 4)) ∨ (n ≤ most ∧ M.minus b = true ∧ V = (-n, 0)) ∨ (n ≤ most ∧ M.minus b = false ∧ V = (n, 0))) (w : World) :
    Calls Try.prog 22 #[.float .f64 b, .int .i64 bits, .int .i64 most] w fun e w' => e = .returned (.tuple #[.int .i64 V.1, .int .i64 V.2]) ∧ w = w' := by
  have dl := M.dn_le b
  have p1 : decide (bits < 0) = false := decide_eq_false (by omega)
  have p2 : decide (32 < bits) = false := decide_eq_false (by omega)
  have p3 : decide (most < 0) = false := decide_eq_false (by omega)
  have p4 : decide (1099511627776 < most) = false := decide_eq_false (by omega)
  have g : (decide ((o : Int) < 2 * r) = true ∧ n = q + 1) ∨ (decide ((o : Int) < 2 * r) = false ∧ ((2 * (r : Int) == (o : Int)) = true) ∧ (((q : Int) % 2 == 1) = true) ∧ n = q + 1) ∨ (decide ((o : Int) < 2 * r) = false ∧ ((2 * (r : Int) == (o : Int)) = true) ∧ (((q : Int) % 2 == 1) = false) ∧ n = q) ∨ (decide ((o : Int) < 2 * r) = false ∧ ((2 * (r : Int) == (o : Int)) = false) ∧ n = q) := by
    simp only [decide_eq_true_eq, decide_eq_false_iff_not, beq_iff_eq, beq_eq_false_iff_ne, ne_eq]
    omega
  clear hc
  rcases hV with ⟨hv, rfl⟩ | ⟨hv, hs, rfl⟩ | ⟨hv, hs, rfl⟩
  · rcases g with ⟨g1, rfl⟩ | ⟨g1, g2, g3, rfl⟩ | ⟨g1, g2, g3, rfl⟩ | ⟨g1, g2, rfl⟩
    all_goals
      go_enter Try.func22, Try.ntmps22
      go_wp2_with fail
      refine (ck _).mono ?_; rintro e w' ⟨rfl, rfl⟩
      go_wp2_with fail
      refine (cp _).mono ?_; rintro e w' ⟨rfl, rfl⟩
      go_wp2_with fail
      go_ret2
      exact ⟨rfl, rfl⟩
  · rw [hs] at cm
    clear hs
    rcases g with ⟨g1, rfl⟩ | ⟨g1, g2, g3, rfl⟩ | ⟨g1, g2, g3, rfl⟩ | ⟨g1, g2, rfl⟩
    all_goals
      go_enter Try.func22, Try.ntmps22
      go_wp2_with fail
      refine (ck _).mono ?_; rintro e w' ⟨rfl, rfl⟩
      go_wp2_with fail
      refine (cp _).mono ?_; rintro e w' ⟨rfl, rfl⟩
      go_wp2_with fail
      refine (cm _).mono ?_; rintro e w' ⟨rfl, rfl⟩
      go_wp2_with fail
      go_ret2
      exact ⟨by simp, rfl⟩
  · rw [hs] at cm
    clear hs
    rcases g with ⟨g1, rfl⟩ | ⟨g1, g2, g3, rfl⟩ | ⟨g1, g2, g3, rfl⟩ | ⟨g1, g2, rfl⟩
    all_goals
      go_enter Try.func22, Try.ntmps22
      go_wp2_with fail
      refine (ck _).mono ?_; rintro e w' ⟨rfl, rfl⟩
      go_wp2_with fail
      refine (cp _).mono ?_; rintro e w' ⟨rfl, rfl⟩
      go_wp2_with fail
      refine (cm _).mono ?_; rintro e w' ⟨rfl, rfl⟩
      go_wp2_with fail
      go_ret2
      exact ⟨rfl, rfl⟩
end Go.Proofs.Ytoimobmnbcbjiaa
