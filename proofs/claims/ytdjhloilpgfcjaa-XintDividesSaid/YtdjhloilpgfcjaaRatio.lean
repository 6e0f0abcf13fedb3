/- Contracts of Ratio. -/
import Derived.Test.YtdjhloilpgfcjaaDiv
namespace Go.Proofs.Ytdjhloilpgfcjaa
open Go.ChangeShapes Go.WideShapes Go.ChangeAt Go.RowKit
set_option linter.unusedVariables false

theorem M.ratio_of {a b c d : Int} (hb : 1 ≤ b) (hd : 1 ≤ d) :
    (M.sgn (a / b) (c / d) ≠ 0 → M.sgn (a / b) (c / d) = M.sgn (a * d) (c * b)) ∧ (M.sgn (a / b) (c / d) = 0 → M.sgn (a % b * d) (c % d * b) = M.sgn (a * d) (c * b)) := by
  have ea := Int.mul_ediv_add_emod a b
  have ec := Int.mul_ediv_add_emod c d
  have a0 := Int.emod_nonneg a (b := b) (by omega)
  have a1 := Int.emod_lt_of_pos a (b := b) (by omega)
  have c0 := Int.emod_nonneg c (b := d) (by omega)
  have c1 := Int.emod_lt_of_pos c (b := d) (by omega)
  generalize a / b = p at *
  generalize c / d = q at *
  generalize a % b = r at *
  generalize c % d = s at *
  have h1 : a * d = b * d * p + r * d := by rw [← ea, Int.add_mul, Int.mul_right_comm]
  have h2 : c * b = b * d * q + s * b := by rw [← ec, Int.add_mul, Int.mul_right_comm, Int.mul_comm d b]
  have bd : 0 < b * d := Int.mul_pos (by omega) (by omega)
  have r0 : 0 ≤ r * d := Int.mul_nonneg a0 (by omega)
  have r1 : r * d < b * d := Int.mul_lt_mul_of_pos_right a1 (by omega)
  have s0 : 0 ≤ s * b := Int.mul_nonneg c0 (by omega)
  have s1 : s * b < b * d := by rw [Int.mul_comm b d]; exact Int.mul_lt_mul_of_pos_right c1 (by omega)
  rw [h1, h2]
  rcases Int.lt_trichotomy p q with g | g | g
  · have e : b * d * (p + 1) ≤ b * d * q := Int.mul_le_mul_of_nonneg_left (by omega) (by omega)
    rw [Int.mul_add, Int.mul_one] at e
    refine ⟨fun _ => ?_, fun h => ?_⟩
    · rw [← M.sgn_lt g, ← M.sgn_lt (by omega)]
    · rw [← M.sgn_lt g] at h; omega
  · subst g
    refine ⟨fun h => absurd (M.sgn_eq (m := p) (n := p) (by omega) (by omega)).symm h, fun _ => ?_⟩
    rcases Int.lt_trichotomy (r * d) (s * b) with k | k | k
    · exact (M.sgn_lt k).symm.trans (M.sgn_lt (by omega))
    · exact (M.sgn_eq (by omega) (by omega)).symm.trans (M.sgn_eq (by omega) (by omega))
    · exact (M.sgn_gt k).symm.trans (M.sgn_gt (by omega))
  · have e : b * d * (q + 1) ≤ b * d * p := Int.mul_le_mul_of_nonneg_left (by omega) (by omega)
    rw [Int.mul_add, Int.mul_one] at e
    refine ⟨fun _ => ?_, fun h => ?_⟩
    · rw [← M.sgn_gt g, ← M.sgn_gt (by omega)]
    · rw [← M.sgn_gt g] at h; omega
theorem M.div_ok {v d : Int} (o : M.ok v = true) (hd : 1 ≤ d) : M.ok (v / d) = true := by
  rw [M.ok_iff] at o ⊢
  have e := Int.mul_ediv_add_emod v d
  have a0 := Int.emod_nonneg v (b := d) (by omega)
  have a1 := Int.emod_lt_of_pos v (b := d) (by omega)
  by_cases h : 0 ≤ v
  · have : v / d ≤ v := Int.ediv_le_self _ h
    have : 0 ≤ v / d := Int.ediv_nonneg h (by omega)
    omega
  · have : v ≤ v / d := by
      rw [Int.le_ediv_iff_mul_le (by omega)]
      have := Int.mul_le_mul_of_nonpos_left (a := v) (b := d) (c := 1) (by omega) (by omega)
      omega
    have : v / d < 0 := Int.ediv_neg_of_neg_of_pos (by omega) (by omega)
    omega
theorem ratio_no (h l b h' l' d : Int) (n : b < 1 ∨ d < 1) (w : World) :
    Calls Try.prog 32 #[.agg #[.int .i64 h, .int .u64 l], .int .i64 b, .agg #[.int .i64 h', .int .u64 l'], .int .i64 d] w fun e w' => e = .returned (.tuple #[.int .i64 0, .bool false]) ∧ Below w.heap.size w w' := by
  by_cases hb : b < 1
  · clear n
    go_enter Try.func32, Try.ntmps32
    go_wp2
    go_ret2
    exact ⟨rfl, ((Below.refl _ _).alloc (Nat.le_refl _) _).alloc (by simp) _⟩
  · have hd : d < 1 := by omega
    clear n
    go_enter Try.func32, Try.ntmps32
    go_wp2
    go_ret2
    exact ⟨rfl, ((Below.refl _ _).alloc (Nat.le_refl _) _).alloc (by simp) _⟩
theorem ratio_yes (h l b h' l' d : Int) (B1 : M.B h l) (B2 : M.B h' l') (b1 : 1 ≤ b) (b2 : b < 9223372036854775808) (d1 : 1 ≤ d) (d2 : d < 9223372036854775808) (w : World) :
    Calls Try.prog 32 #[.agg #[.int .i64 h, .int .u64 l], .int .i64 b, .agg #[.int .i64 h', .int .u64 l'], .int .i64 d] w fun e w' => e = .returned (.tuple #[.int .i64 (M.sgn (M.val h l * d) (M.val h' l' * b)), .bool true]) ∧ Below w.heap.size w w' := by
  have cA := div_yes h l b B1 b1 b2
  have cB := div_yes h' l' d B2 d1 d2
  have cC := cmp_any (M.oh (M.val h l / b)) (M.ol (M.val h l / b)) (M.oh (M.val h' l' / d)) (M.ol (M.val h' l' / d)) (M.b_of _) (M.b_of _)
  rw [M.val_of (M.div_ok (M.ok_val B1) b1), M.val_of (M.div_ok (M.ok_val B2) d1)] at cC
  have r0 := Int.emod_nonneg (M.val h l) (b := b) (by omega)
  have r1 := Int.emod_lt_of_pos (M.val h l) (b := b) (by omega)
  have s0 := Int.emod_nonneg (M.val h' l') (b := d) (by omega)
  have s1 := Int.emod_lt_of_pos (M.val h' l') (b := d) (by omega)
  have cD := mul_any (M.val h l % b) d (by omega) (by omega) (by omega) (by omega)
  have cE := mul_any (M.val h' l' % d) b (by omega) (by omega) (by omega) (by omega)
  have m1 := M.mul_hi (a := M.val h l % b) (b := d) (A := 9223372036854775808) (B := 9223372036854775808) (by omega) (by omega) (by omega) (by omega)
  have m2 := M.mul_hi (a := M.val h' l' % d) (b := b) (A := 9223372036854775808) (B := 9223372036854775808) (by omega) (by omega) (by omega) (by omega)
  have cF := cmp_any (M.oh (M.val h l % b * d)) (M.ol (M.val h l % b * d)) (M.oh (M.val h' l' % d * b)) (M.ol (M.val h' l' % d * b)) (M.b_of _) (M.b_of _)
  rw [M.val_of (by rw [M.ok_iff]; omega), M.val_of (by rw [M.ok_iff]; omega)] at cF
  have H := M.ratio_of (a := M.val h l) (c := M.val h' l') b1 d1
  clear m1 m2 r0 r1 s0 s1 B1 B2
  generalize M.oh (M.val h l / b) = ph at *
  generalize M.ol (M.val h l / b) = pl at *
  generalize M.oh (M.val h' l' / d) = qh at *
  generalize M.ol (M.val h' l' / d) = ql at *
  generalize M.oh (M.val h l % b * d) = th at *
  generalize M.ol (M.val h l % b * d) = tl at *
  generalize M.oh (M.val h' l' % d * b) = uh at *
  generalize M.ol (M.val h' l' % d * b) = ul at *
  generalize M.sgn (M.val h l / b) (M.val h' l' / d) = g at *
  generalize M.sgn (M.val h l % b * d) (M.val h' l' % d * b) = g' at *
  generalize M.sgn (M.val h l * d) (M.val h' l' * b) = f at *
  generalize M.val h l % b = r at *
  generalize M.val h' l' % d = s at *
  by_cases z : g = 0
  · subst z
    obtain rfl := H.2 rfl
    clear H
    go_enter Try.func32, Try.ntmps32
    go_wp2_with fail
    refine (cA _).mono ?_; rintro e w1 ⟨rfl, hb1⟩
    have K := (((Below.refl _ _).alloc (Nat.le_refl _) _).alloc (by simp) _).trans (hb1.mono (show w.heap.size ≤ _ by simp; omega))
    obtain ⟨hc, hf⟩ := bcell hb1
    have hz : w.heap.size + 1 < w1.heap.size := by have := hb1.size; simp at this; omega
    clear hb1
    go_wp2_with fail
    refine (cB _).mono ?_; rintro e w2 ⟨rfl, hb2⟩
    clear hc hf
    replace K := (K.alloc (by omega) _).trans (hb2.mono (show w.heap.size ≤ _ by simp; omega))
    obtain ⟨hc, hf⟩ := bcell hb2
    have hz2 : w1.heap.size < w2.heap.size := by have := hb2.size; simp at this; omega
    clear hb2
    go_wp2_with fail
    refine (cC _).mono ?_; rintro e w3 ⟨rfl, hb3⟩
    clear hc hf
    replace K := (K.alloc (by omega) _).trans (hb3.mono (show w.heap.size ≤ _ by simp; omega))
    clear hb3
    go_wp2_with fail
    refine (cD _).mono ?_; rintro e w4 ⟨rfl, hb4⟩
    replace K := K.trans (hb4.mono K.size)
    clear hb4
    go_wp2_with fail
    refine (cE _).mono ?_; rintro e w5 ⟨rfl, hb5⟩
    replace K := K.trans (hb5.mono K.size)
    clear hb5
    go_wp2_with fail
    refine (cF _).mono ?_; rintro e w6 ⟨rfl, hb6⟩
    replace K := K.trans (hb6.mono K.size)
    clear hb6
    go_wp2_with fail
    go_ret2
    exact ⟨rfl, K⟩
  · obtain rfl := H.1 z
    have k : (g != 0) = true := by simpa using z
    clear H z
    go_enter Try.func32, Try.ntmps32
    go_wp2_with fail
    refine (cA _).mono ?_; rintro e w1 ⟨rfl, hb1⟩
    have K := (((Below.refl _ _).alloc (Nat.le_refl _) _).alloc (by simp) _).trans (hb1.mono (show w.heap.size ≤ _ by simp; omega))
    obtain ⟨hc, hf⟩ := bcell hb1
    have hz : w.heap.size + 1 < w1.heap.size := by have := hb1.size; simp at this; omega
    clear hb1
    go_wp2_with fail
    refine (cB _).mono ?_; rintro e w2 ⟨rfl, hb2⟩
    clear hc hf
    replace K := (K.alloc (by omega) _).trans (hb2.mono (show w.heap.size ≤ _ by simp; omega))
    obtain ⟨hc, hf⟩ := bcell hb2
    have hz2 : w1.heap.size < w2.heap.size := by have := hb2.size; simp at this; omega
    clear hb2
    go_wp2_with fail
    refine (cC _).mono ?_; rintro e w3 ⟨rfl, hb3⟩
    clear hc hf
    replace K := (K.alloc (by omega) _).trans (hb3.mono (show w.heap.size ≤ _ by simp; omega))
    clear hb3
    go_wp2_with fail
    go_ret2
    exact ⟨rfl, K⟩
end Go.Proofs.Ytdjhloilpgfcjaa
