/- Contracts of the functions of layer 1 that take a float apart, and of the document's answers for them. -/
import Derived.Test.YtoimobmnbcbjiaaRows
import Derived.Test.YtoimobmnbcbjiaaMath
import Derived.WalkKit
import Derived.ProofKit
import Derived.OpenShut
import Derived.Outline
import Derived.WalkLawsBesides
import Derived.Laws.Externs
import Derived.Lib.Hide
import Derived.Deep.QuietTactic
import Derived.BigQuiet
namespace Go.Proofs.Ytoimobmnbcbjiaa
open Go.ChangeShapes Go.WideShapes Go.ChangeAt Go.RowKit
set_option linter.unusedVariables false

theorem ret1 {k : IntKind} {a b : Int} (h : a = b) : Ending.returned (.int k a) = .returned (.int k b) := by rw [h]
theorem retf {k : FloatKind} {a b : Nat} (h : a = b) : Ending.returned (.float k a) = .returned (.float k b) := by rw [h]
theorem retb {a b : Bool} (h : a = b) : Ending.returned (.bool a) = .returned (.bool b) := by rw [h]

def Qt (w w' : World) : Prop := ∃ n, w' = w.drewN n
theorem Qt.rfl {w : World} : Qt w w := ⟨0, _root_.rfl⟩
theorem Qt.trans {a b c : World} (h : Qt a b) (g : Qt b c) : Qt a c := by
  obtain ⟨n, rfl⟩ := h; obtain ⟨m, rfl⟩ := g; exact ⟨n + m, World.drewN_drewN _ _ _⟩
theorem Qt.grown {a b : World} (h : Qt a b) : Grown a b := by
  obtain ⟨n, rfl⟩ := h
  exact (Grown.refl a : Grown a a)
theorem Qt.at {w : World} {n : Nat} : Qt w (w.drewN n) := ⟨n, _root_.rfl⟩

@[go_sem] theorem run30 (b : Nat) (w : World) : (callFunc 30 #[.float .f64 b]).run Try.prog w = .ok (.value (.int .u64 (b : Int))) w := by
  rw [run_callFunc_extern Try.func30 (by kernel_rfl) (by kernel_rfl) (by kernel_rfl) (e := Extern.MathFloatBits.float64bits) (by kernel_rfl)]
  rfl
@[go_sem] theorem run10 (n : Int) (w : World) : (callFunc 10 #[.int .u64 n]).run Try.prog w = .ok (.value (.float .f64 n.toNat)) w := by
  rw [run_callFunc_extern Try.func10 (by kernel_rfl) (by kernel_rfl) (by kernel_rfl) (e := Extern.MathFloatBits.float64frombits) (by kernel_rfl)]
  rfl

theorem fields_any (b : Nat) (hb : b < 18446744073709551616) (w : World) : Calls Try.prog 28 #[.float .f64 b] w fun e w' => e = .returned (.tuple #[.int .i64 (M.ex b), .int .i64 (M.fr b)]) ∧ w = w' := by
  have h1 := M.field_ex b hb
  have h2 := M.field_fr b hb
  have H1 := Lib.hid h1
  have H2 := Lib.hid h2
  clear hb h1 h2
  go_enter Try.func28, Try.ntmps28
  go_wp2
  go_ret2
  exact ⟨by rw [H1.out, H2.out]; rfl, rfl⟩

theorem parts_any (b : Nat) (hb : b < 18446744073709551616) (w : World) : Calls Try.prog 29 #[.float .f64 b] w fun e w' => e = .returned (.tuple #[.bool (decide (9223372036854775808 ≤ b)), .int .i64 (M.ex b), .int .u64 (M.fr b)]) ∧ w = w' := by
  have h1 := M.part_ex b hb
  have H1 := Lib.hid h1
  clear hb h1
  go_enter Try.func29, Try.ntmps29
  go_wp2
  go_ret3
  exact ⟨by rw [H1.out]; simp [M.fr]; omega, rfl⟩

theorem kind_any (b : Nat) (hb : b < 18446744073709551616) (w : World) : Calls Try.prog 12 #[.float .f64 b] w fun e w' => e = .returned (.int .i64 (M.kind b)) ∧ w = w' := by
  have c := fields_any b hb
  clear hb
  by_cases h1 : M.ex b = 2047 <;> by_cases h2 : M.fr b = 0 <;> by_cases h3 : M.ex b = 0
  all_goals

    first
    | (exfalso; omega)
    | go_enter Try.func12, Try.ntmps12
      go_wp2_with (go_at_call 28; refine (c _).mono ?_; rintro e w' ⟨rfl, rfl⟩)
      go_ret
      exact ⟨ret1 (by simp [M.kind, h1, h2, h3]), rfl⟩

theorem rkind_any (b : Nat) (hb : b < 18446744073709551616) (w : World) : Calls Try.prog 13 #[.float .f64 b] w fun e w' => e = .returned (.int .i64 (M.kind b)) ∧ w = w' := by
  have c := parts_any b hb
  clear hb
  by_cases h1 : M.ex b = 2047 <;> by_cases h2 : M.fr b = 0 <;> by_cases h3 : M.ex b = 0
  all_goals
    first
    | (exfalso; omega)
    | go_enter Try.func13, Try.ntmps13
      go_wp2_with (go_at_call 29; refine (c _).mono ?_; rintro e w' ⟨rfl, rfl⟩)
      go_ret
      exact ⟨ret1 (by simp [M.kind, h1, h2, h3]), rfl⟩

theorem bits_any (b : Nat) (hb : b < 18446744073709551616) (w : World) : Calls Try.prog 16 #[.float .f64 b] w fun e w' => e = .returned (.int .i64 (M.bitsV b)) ∧ w = w' := by
  have c := kind_any b hb
  clear hb
  by_cases h1 : M.kind b = 1
  · go_enter Try.func16, Try.ntmps16
    go_wp2_with (go_at_call 12; refine (c _).mono ?_; rintro e w' ⟨rfl, rfl⟩)
    go_ret
    exact ⟨ret1 (by simp [M.bitsV, h1]), rfl⟩
  · go_enter Try.func16, Try.ntmps16
    go_wp2_with (go_at_call 12; refine (c _).mono ?_; rintro e w' ⟨rfl, rfl⟩)
    go_wp2
    go_ret
    exact ⟨ret1 (by simp [M.bitsV, h1]), rfl⟩
theorem rbits_any (b : Nat) (hb : b < 18446744073709551616) (w : World) : Calls Try.prog 17 #[.float .f64 b] w fun e w' => e = .returned (.int .i64 (M.bitsV b)) ∧ w = w' := by
  have c := rkind_any b hb
  clear hb
  by_cases h1 : M.kind b = 1
  · go_enter Try.func17, Try.ntmps17
    go_wp2_with (go_at_call 13; refine (c _).mono ?_; rintro e w' ⟨rfl, rfl⟩)
    go_ret
    exact ⟨ret1 (by simp [M.bitsV, h1]), rfl⟩
  · go_enter Try.func17, Try.ntmps17
    go_wp2_with (go_at_call 13; refine (c _).mono ?_; rintro e w' ⟨rfl, rfl⟩)
    go_wp2
    go_ret
    exact ⟨ret1 (by simp [M.bitsV, h1]), rfl⟩

theorem minus_any (b : Nat) (hb : b < 18446744073709551616) (w : World) : Calls Try.prog 14 #[.float .f64 b] w fun e w' => e = .returned (.bool (M.minus b)) ∧ w = w' := by
  have c := bits_any b hb
  have h := Lib.hid (M.bitsV_neg b hb)
  clear hb
  go_enter Try.func14, Try.ntmps14
  go_wp2_with (go_at_call 16; refine (c _).mono ?_; rintro e w' ⟨rfl, rfl⟩)
  go_ret
  exact ⟨retb h.out, rfl⟩
theorem rminus_any (b : Nat) (hb : b < 18446744073709551616) (w : World) : Calls Try.prog 15 #[.float .f64 b] w fun e w' => e = .returned (.bool (M.minus b)) ∧ w = w' := by
  have c := parts_any b hb
  have c2 := rkind_any b hb
  clear hb
  by_cases h1 : 9223372036854775808 ≤ b
  · have h2 : decide (9223372036854775808 ≤ b) = true := decide_eq_true h1
    have h3 : M.minus b = decide (M.kind b ≠ 1) := by simp [M.minus, h1]
    rw [h2] at c
    have H3 := Lib.hid h3
    clear h1 h2 h3
    go_enter Try.func15, Try.ntmps15
    go_wp2_with (first | (go_at_call 29; refine (c _).mono ?_; rintro e w' ⟨rfl, rfl⟩) | (go_at_call 13; refine (c2 _).mono ?_; rintro e w' ⟨rfl, rfl⟩))
    go_ret
    exact ⟨retb (by rw [H3.out]; exact M.ne_dec _), rfl⟩
  · have h2 : decide (9223372036854775808 ≤ b) = false := decide_eq_false h1
    have h3 : M.minus b = false := by simp [M.minus, h1]
    rw [h2] at c
    have H3 := Lib.hid h3
    clear h1 h2 h3
    go_enter Try.func15, Try.ntmps15
    go_wp2_with (first | (go_at_call 29; refine (c _).mono ?_; rintro e w' ⟨rfl, rfl⟩) | (go_at_call 13; refine (c2 _).mono ?_; rintro e w' ⟨rfl, rfl⟩))
    go_ret
    exact ⟨retb (by rw [H3.out]), rfl⟩
theorem of_any (n : Int) (w : World) : Calls Try.prog 18 #[.int .i64 n] w fun e w' => e = .returned (.float .f64 (M.ofV n)) ∧ w = w' := by
  have c := kind_any (M.fromInt n) (M.fromInt_lt n)
  by_cases h1 : M.kind (M.fromInt n) = 1
  · have h2 := Lib.hid h1
    go_enter Try.func18, Try.ntmps18
    go_wp2_with (go_at_call 12; refine (c _).mono ?_; rintro e w' ⟨rfl, rfl⟩)
    go_ret
    exact ⟨retf (by rw [M.ofV, if_pos h2.out]), rfl⟩
  · have h2 := Lib.hid h1
    go_enter Try.func18, Try.ntmps18
    go_wp2_with (go_at_call 12; refine (c _).mono ?_; rintro e w' ⟨rfl, rfl⟩)
    go_ret
    exact ⟨retf (by rw [M.ofV, if_neg h2.out]; rfl), rfl⟩
theorem isnan_any (n : Int) (w : World) : Calls Try.prog 40 #[.int .i64 n] w fun e w' => e = .returned (.bool false) ∧ w = w' := by
  go_enter Try.func40, Try.ntmps40
  go_wp2
  go_ret
  exact ⟨retb (by simp), rfl⟩
theorem cmp_any (m n : Int) (w : World) : Calls Try.prog 31 #[.int .i64 m, .int .i64 n] w fun e w' => e = .returned (.int .i64 (M.sgn m n)) ∧ w = w' := by
  by_cases h1 : m < n
  · go_enter Try.func31, Try.ntmps31
    go_wp2_with (go_at_call 40; refine (isnan_any _ _).mono ?_; rintro e w' ⟨rfl, rfl⟩)
    go_ret
    exact ⟨ret1 (M.sgn_lt h1), rfl⟩
  · by_cases h2 : n < m
    · go_enter Try.func31, Try.ntmps31
      go_wp2_with (go_at_call 40; refine (isnan_any _ _).mono ?_; rintro e w' ⟨rfl, rfl⟩)
      go_ret
      exact ⟨ret1 (M.sgn_gt h2), rfl⟩
    · go_enter Try.func31, Try.ntmps31
      go_wp2_with (go_at_call 40; refine (isnan_any _ _).mono ?_; rintro e w' ⟨rfl, rfl⟩)
      go_ret
      exact ⟨ret1 (M.sgn_eq (by omega) (by omega)), rfl⟩
theorem rank_any (b : Nat) (hb : b < 18446744073709551616) (w : World) : Calls Try.prog 32 #[.float .f64 b] w fun e w' => e = .returned (.int .i64 (M.rank b)) ∧ w = w' := by
  have c := bits_any b hb
  have hr := M.rank_of b hb
  clear hb
  by_cases h1 : M.bitsV b < 0
  · rw [if_pos h1] at hr
    have H := Lib.hid hr
    clear hr
    go_enter Try.func32, Try.ntmps32
    go_wp2_with (go_at_call 16; refine (c _).mono ?_; rintro e w' ⟨rfl, rfl⟩)
    go_ret
    exact ⟨ret1 (by rw [H.out]), rfl⟩
  · rw [if_neg h1] at hr
    have H := Lib.hid hr
    clear hr
    go_enter Try.func32, Try.ntmps32
    go_wp2_with (go_at_call 16; refine (c _).mono ?_; rintro e w' ⟨rfl, rfl⟩)
    go_ret
    exact ⟨ret1 (by rw [H.out]), rfl⟩
theorem compare_any (a b : Nat) (ha : a < 18446744073709551616) (hb : b < 18446744073709551616) (w : World) : Calls Try.prog 19 #[.float .f64 a, .float .f64 b] w fun e w' => e = .returned (.int .i64 (M.cmpV a b)) ∧ w = w' := by
  have ca := rank_any a ha
  have cb := rank_any b hb
  clear ha hb
  go_enter Try.func19, Try.ntmps19
  go_wp2_with fail
  refine (ca _).mono ?_
  rintro e w' ⟨rfl, rfl⟩
  go_wp2_with fail
  refine (cb _).mono ?_
  rintro e w' ⟨rfl, rfl⟩
  go_wp2_with fail
  refine (cmp_any _ _ _).mono ?_
  rintro e w' ⟨rfl, rfl⟩
  go_wp2_with fail
  go_ret
  exact ⟨ret1 rfl, rfl⟩
theorem place_any (b : Nat) (hb : b < 18446744073709551616) (w : World) : Calls Try.prog 33 #[.float .f64 b] w fun e w' => e = .returned (.int .i64 (M.place b)) ∧ w = w' := by
  have c1 := rkind_any b hb
  have c2 := rminus_any b hb
  clear hb
  by_cases h1 : M.kind b = 1
  · have H := Lib.hid h1
    go_enter Try.func33, Try.ntmps33
    go_wp2_with (go_at_call 13; refine (c1 _).mono ?_; rintro e w' ⟨rfl, rfl⟩)
    go_ret
    exact ⟨ret1 (by rw [M.place, if_pos H.out]), rfl⟩
  · have H := Lib.hid h1
    by_cases h2 : M.minus b = true
    · have H2 := Lib.hid h2
      rw [h2] at c2
      clear h2
      go_enter Try.func33, Try.ntmps33
      go_wp2_with (first | (go_at_call 13; refine (c1 _).mono ?_; rintro e w' ⟨rfl, rfl⟩) | (go_at_call 15; refine (c2 _).mono ?_; rintro e w' ⟨rfl, rfl⟩))
      go_ret
      exact ⟨ret1 (by rw [M.place, if_neg H.out, if_pos H2.out]; omega), rfl⟩
    · have h3 : M.minus b = false := by simpa using h2
      have H2 := Lib.hid h2
      rw [h3] at c2
      clear h2 h3
      go_enter Try.func33, Try.ntmps33
      go_wp2_with (first | (go_at_call 13; refine (c1 _).mono ?_; rintro e w' ⟨rfl, rfl⟩) | (go_at_call 15; refine (c2 _).mono ?_; rintro e w' ⟨rfl, rfl⟩))
      go_ret
      exact ⟨ret1 (by rw [M.place, if_neg H.out, if_neg H2.out]; omega), rfl⟩
theorem rcompare_any (a b : Nat) (ha : a < 18446744073709551616) (hb : b < 18446744073709551616) (w : World) : Calls Try.prog 20 #[.float .f64 a, .float .f64 b] w fun e w' => e = .returned (.int .i64 (M.cmpV a b)) ∧ w = w' := by
  have ca := place_any a ha
  have cb := place_any b hb
  have H := Lib.hid (M.cmp_place a b ha hb)
  clear ha hb
  by_cases h1 : M.place a < M.place b
  · go_enter Try.func20, Try.ntmps20
    go_wp2_with fail
    refine (ca _).mono ?_
    rintro e w' ⟨rfl, rfl⟩
    go_wp2_with fail
    refine (cb _).mono ?_
    rintro e w' ⟨rfl, rfl⟩
    go_wp2_with fail
    go_ret
    exact ⟨ret1 (by rw [← H.out]; exact M.sgn_lt h1), rfl⟩
  · by_cases h2 : M.place b < M.place a
    · go_enter Try.func20, Try.ntmps20
      go_wp2_with fail
      refine (ca _).mono ?_
      rintro e w' ⟨rfl, rfl⟩
      go_wp2_with fail
      refine (cb _).mono ?_
      rintro e w' ⟨rfl, rfl⟩
      go_wp2_with fail
      go_ret
      exact ⟨ret1 (by rw [← H.out]; exact M.sgn_gt h2), rfl⟩
    · go_enter Try.func20, Try.ntmps20
      go_wp2_with fail
      refine (ca _).mono ?_
      rintro e w' ⟨rfl, rfl⟩
      go_wp2_with fail
      refine (cb _).mono ?_
      rintro e w' ⟨rfl, rfl⟩
      go_wp2_with fail
      go_ret
      exact ⟨ret1 (by rw [← H.out]; exact M.sgn_eq (by omega) (by omega)), rfl⟩
end Go.Proofs.Ytoimobmnbcbjiaa
