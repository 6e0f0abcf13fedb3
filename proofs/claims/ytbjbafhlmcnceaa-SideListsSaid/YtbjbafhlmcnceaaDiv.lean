/- Contracts of Div and Ratio. -/
import Derived.Test.YtbjbafhlmcnceaaDiv64
namespace Go.Proofs.Ytbjbafhlmcnceaa
open Go.ChangeShapes Go.WideShapes Go.ChangeAt Go.RowKit
set_option linter.unusedVariables false

theorem retpib {a b c d m n : Int} {x y : Bool} (h : a = c) (g : b = d) (i : m = n) (k : x = y) : Ending.returned (.tuple #[.agg #[.int .i64 a, .int .u64 b], .int .i64 m, .bool x]) = .returned (.tuple #[.agg #[.int .i64 c, .int .u64 d], .int .i64 n, .bool y]) := by rw [h, g, i, k]
theorem div_no (h l d : Int) (hd : d < 1) (w : World) :
    Calls Try.prog 34 #[.agg #[.int .i64 h, .int .u64 l], .int .i64 d] w fun e w' => e = .returned (.tuple #[.agg #[.int .i64 0, .int .u64 0], .int .i64 0, .bool false]) ∧ Below w.heap.size w w' := by
  go_enter Try.func34, Try.ntmps34
  go_wp2
  exact bodyPost_ret (v := .tuple #[.agg #[.int .i64 0, .int .u64 0], .int .i64 0, .bool false]) (by simp [results, Try.results34, go_sem]) rfl ⟨rfl, ((Below.refl _ _).alloc (Nat.le_refl _) _).alloc (by simp) _⟩
/-- Div, with each of its words by a letter. -/
theorem div_core (h l d tt h' ut x qh rh ql rl r r' : Int) (d1 : 1 ≤ d) (d2 : d < 9223372036854775808)
    (e1 : h / 9223372036854775808 = tt) (e2 : bits .xor .i64 h tt = h') (e3 : IntKind.u64.wrap tt = ut) (e4 : bits .xor .u64 l ut = x)
    (a1 : 0 ≤ h') (a2 : h' < 9223372036854775808) (a3 : 0 ≤ x) (a4 : x < 18446744073709551616)
    (q1 : h' / d = qh) (q2 : (h' % d * 18446744073709551616 + x) / d = ql) (q3 : (h' % d * 18446744073709551616 + x) % d = r)
    (c1 : 0 ≤ ql) (c2 : ql < 18446744073709551616)
    (e5 : bits .xor .i64 qh tt = rh) (e6 : bits .xor .u64 ql ut = rl) (e7 : (if tt = 0 then r else d - 1 - r) = r') (w : World) :
    Calls Try.prog 34 #[.agg #[.int .i64 h, .int .u64 l], .int .i64 d] w fun e w' => e = .returned (.tuple #[.agg #[.int .i64 rh, .int .u64 rl], .int .i64 r', .bool true]) ∧ Below w.heap.size w w' := by
  have hm0 := Int.emod_nonneg h' (b := d) (by omega)
  have hm1 := Int.emod_lt_of_pos h' (b := d) (by omega)
  have hr0 := Int.emod_nonneg (h' % d * 18446744073709551616 + x) (b := d) (by omega)
  have hr1 := Int.emod_lt_of_pos (h' % d * 18446744073709551616 + x) (b := d) (by omega)
  have hq0 : 0 ≤ qh := by rw [← q1]; exact Int.ediv_nonneg a1 (by omega)
  have hq1 : qh ≤ h' := by rw [← q1]; exact Int.ediv_le_self _ a1
  have cA := div64_low h' d a1 (by omega) (by omega) (by omega)
  have cB := div64_any (h' % d) x d hm0 a3 a4 hm1 (by omega)
  rw [q2, q3] at cB
  rw [q1] at cA
  rw [q3] at hr0 hr1
  obtain ⟨m, hm⟩ : ∃ z, h' % d = z := ⟨_, rfl⟩
  rw [hm] at cA cB hm0 hm1
  have wd : IntKind.u64.wrap d = d := by rw [IntKind.wrap_u64]; omega
  have wh : IntKind.u64.wrap h' = h' := by rw [IntKind.wrap_u64]; omega
  clear q1 q2 q3 hm
  by_cases t0 : tt = 0
  · have k : (tt != 0) = false := by simpa using t0
    rw [if_pos t0] at e7
    subst e7
    clear t0
    go_enter Try.func34, Try.ntmps34
    go_wp2_with fail
    refine (cA _).mono ?_; rintro e w1 ⟨rfl, hb⟩
    have K := hb
    clear hb
    obtain ⟨hc, hf⟩ := bcell K
    have hz : w.heap.size + 1 < w1.heap.size := by have := K.size; simp at this; omega
    go_wp2_with fail
    refine (cB _).mono ?_; rintro e w2 ⟨rfl, hb⟩
    replace K := K.trans (hb.mono K.size)
    clear hb hc hf hz
    obtain ⟨hc, hf⟩ := bcell K
    have hz : w.heap.size + 1 < w2.heap.size := by have := K.size; simp at this; omega
    go_wp2_with fail
    exact bodyPost_ret (v := .tuple #[.agg #[.int .i64 rh, .int .u64 rl], .int .i64 r, .bool true]) (by simp [results, Try.results34, go_sem, hc]) rfl ⟨rfl, (((((Below.refl _ _).alloc (Nat.le_refl _) _).alloc (by simp) _).trans (K.mono (by simp; omega))).setCell (by simp) _).setCell (by simp) _⟩
  · have k : (tt != 0) = true := by simpa using t0
    rw [if_neg t0] at e7
    subst e7
    clear t0
    go_enter Try.func34, Try.ntmps34
    go_wp2_with fail
    refine (cA _).mono ?_; rintro e w1 ⟨rfl, hb⟩
    have K := hb
    clear hb
    obtain ⟨hc, hf⟩ := bcell K
    have hz : w.heap.size + 1 < w1.heap.size := by have := K.size; simp at this; omega
    go_wp2_with fail
    refine (cB _).mono ?_; rintro e w2 ⟨rfl, hb⟩
    replace K := K.trans (hb.mono K.size)
    clear hb hc hf hz
    obtain ⟨hc, hf⟩ := bcell K
    have hz : w.heap.size + 1 < w2.heap.size := by have := K.size; simp at this; omega
    go_wp2_with fail
    exact bodyPost_ret (v := .tuple #[.agg #[.int .i64 rh, .int .u64 rl], .int .i64 (d - 1 - r), .bool true]) (by simp [results, Try.results34, go_sem, hc]) rfl ⟨rfl, (((((Below.refl _ _).alloc (Nat.le_refl _) _).alloc (by simp) _).trans (K.mono (by simp; omega))).setCell (by simp) _).setCell (by simp) _⟩
theorem M.div_of {h x d : Int} (d1 : 1 ≤ d) :
    M.val h x / d = h / d * 18446744073709551616 + (h % d * 18446744073709551616 + x) / d ∧ M.val h x % d = (h % d * 18446744073709551616 + x) % d := by
  have e1 := Int.mul_ediv_add_emod h d
  have k : M.val h x = (h % d * 18446744073709551616 + x) + d * (h / d * 18446744073709551616) := by
    rw [← Int.mul_assoc]; unfold M.val; omega
  rw [k, Int.add_mul_ediv_left _ _ (by omega), Int.add_mul_emod_self_left]
  exact ⟨by omega, rfl⟩
theorem div_yes (h l d : Int) (b : M.B h l) (d1 : 1 ≤ d) (d2 : d < 9223372036854775808) (w : World) :
    Calls Try.prog 34 #[.agg #[.int .i64 h, .int .u64 l], .int .i64 d] w fun e w' =>
      e = .returned (.tuple #[.agg #[.int .i64 (M.oh (M.val h l / d)), .int .u64 (M.ol (M.val h l / d))], .int .i64 (M.val h l % d), .bool true]) ∧ Below w.heap.size w w' := by
  obtain ⟨h1, h2, h3, h4⟩ := b
  by_cases n : h < 0
  · have hm0 := Int.emod_nonneg (-1 - h) (b := d) (by omega)
    have hm1 := Int.emod_lt_of_pos (-1 - h) (b := d) (by omega)
    have D := M.div_of (h := -1 - h) (x := 18446744073709551615 - l) d1
    have q0 : 0 ≤ (-1 - h) / d := Int.ediv_nonneg (by omega) (by omega)
    have q1 : (-1 - h) / d ≤ -1 - h := Int.ediv_le_self _ (by omega)
    have l0 : 0 ≤ ((-1 - h) % d * 18446744073709551616 + (18446744073709551615 - l)) / d := Int.ediv_nonneg (by omega) (by omega)
    have l1 : ((-1 - h) % d * 18446744073709551616 + (18446744073709551615 - l)) / d < 18446744073709551616 := Int.ediv_lt_of_lt_mul (by omega) (by omega)
    have r0 := Int.emod_nonneg ((-1 - h) % d * 18446744073709551616 + (18446744073709551615 - l)) (b := d) (by omega)
    have r1 := Int.emod_lt_of_pos ((-1 - h) % d * 18446744073709551616 + (18446744073709551615 - l)) (b := d) (by omega)
    have C := fun e5 e6 e7 => div_core h l d (-1) (-1 - h) 18446744073709551615 (18446744073709551615 - l) _ (-1 - (-1 - h) / d) _ (18446744073709551615 - ((-1 - h) % d * 18446744073709551616 + (18446744073709551615 - l)) / d) _
      (d - 1 - ((-1 - h) % d * 18446744073709551616 + (18446744073709551615 - l)) % d) d1 d2 (by omega) (xor_ones h1 h2) (by rw [IntKind.wrap_u64]; rfl) (uxor_ones h3 h4) (by omega) (by omega) (by omega) (by omega) rfl rfl rfl l0 l1 e5 e6 e7 w
    have C2 := C (xor_ones (by omega) (by omega)) (uxor_ones l0 l1) (if_neg (by omega))
    have W := Int.mul_ediv_add_emod (M.val (-1 - h) (18446744073709551615 - l)) d
    have hv : M.val h l = -1 - M.val (-1 - h) (18446744073709551615 - l) := by unfold M.val; omega
    have k : M.val h l = (d - 1 - M.val (-1 - h) (18446744073709551615 - l) % d) + d * (-1 - M.val (-1 - h) (18446744073709551615 - l) / d) := by
      rw [Int.mul_sub, hv]; omega
    rw [D.2] at k
    have kq : M.val h l / d = -1 - M.val (-1 - h) (18446744073709551615 - l) / d := by
      rw [k, Int.add_mul_ediv_left _ _ (by omega), Int.ediv_eq_zero_of_lt (by omega) (by omega), Int.zero_add]
    have kr : M.val h l % d = d - 1 - ((-1 - h) % d * 18446744073709551616 + (18446744073709551615 - l)) % d := by
      rw [k, Int.add_mul_emod_self_left, Int.emod_eq_of_lt (by omega) (by omega)]
    rw [D.1] at kq
    have ov := M.ohl_of (v := M.val h l / d) (h := -1 - (-1 - h) / d) (l := 18446744073709551615 - ((-1 - h) % d * 18446744073709551616 + (18446744073709551615 - l)) / d) (by unfold M.B; omega) (by rw [kq]; unfold M.val; omega)
    refine C2.mono ?_
    rintro e w' ⟨rfl, hb⟩
    exact ⟨retpib ov.1.symm ov.2.symm kr.symm rfl, hb⟩
  · have hm0 := Int.emod_nonneg h (b := d) (by omega)
    have hm1 := Int.emod_lt_of_pos h (b := d) (by omega)
    have D := M.div_of (h := h) (x := l) d1
    have q0 : 0 ≤ h / d := Int.ediv_nonneg (by omega) (by omega)
    have q1 : h / d ≤ h := Int.ediv_le_self _ (by omega)
    have l0 : 0 ≤ (h % d * 18446744073709551616 + l) / d := Int.ediv_nonneg (by omega) (by omega)
    have l1 : (h % d * 18446744073709551616 + l) / d < 18446744073709551616 := Int.ediv_lt_of_lt_mul (by omega) (by omega)
    have C2 := div_core h l d 0 h 0 l _ (h / d) _ ((h % d * 18446744073709551616 + l) / d) _ _ d1 d2 (by omega) (xor_zero h1 h2) (by rw [IntKind.wrap_u64]; rfl) (uxor_zero h3 h4) (by omega) (by omega) (by omega) (by omega) rfl rfl rfl l0 l1 (xor_zero (by omega) (by omega)) (uxor_zero l0 l1) rfl w
    rw [if_pos rfl] at C2
    have ov := M.ohl_of (v := M.val h l / d) (h := h / d) (l := (h % d * 18446744073709551616 + l) / d) (by unfold M.B; omega) D.1
    refine C2.mono ?_
    rintro e w' ⟨rfl, hb⟩
    exact ⟨retpib ov.1.symm ov.2.symm D.2.symm rfl, hb⟩
end Go.Proofs.Ytbjbafhlmcnceaa
