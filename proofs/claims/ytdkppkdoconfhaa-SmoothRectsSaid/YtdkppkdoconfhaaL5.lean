/- Contracts: the program's Cmp, Root. -/
import Derived.Test.YtdkppkdoconfhaaL3
import Derived.Test.YtdkppkdoconfhaaSu
namespace Go.Proofs.Ytdkppkdoconfhaa
open Go.ChangeShapes Go.WideShapes Go.ChangeAt Go.RowKit
set_option linter.unusedVariables false
set_option linter.unusedSimpArgs false

theorem nan57_any (n : Int) (w : World) : Calls Try.prog 73 #[.int .i64 n] w fun e w' => e = .returned (.bool false) ∧ w = w' := by
  go_enter Try.func73, Try.ntmps73
  go_wp2
  go_ret
  exact ⟨retb (by simp), rfl⟩
theorem nan58_any (n : Int) (w : World) : Calls Try.prog 74 #[.int .u64 n] w fun e w' => e = .returned (.bool false) ∧ w = w' := by
  go_enter Try.func74, Try.ntmps74
  go_wp2
  go_ret
  exact ⟨retb (by simp), rfl⟩
theorem cmp46_any (m n : Int) (w : World) : Calls Try.prog 59 #[.int .i64 m, .int .i64 n] w fun e w' => e = .returned (.int .i64 (M.sgn m n)) ∧ w = w' := by
  by_cases h1 : m < n
  · go_enter Try.func59, Try.ntmps59
    go_wp2_with (go_at_call 73; refine (nan57_any _ _).mono ?_; rintro e w' ⟨rfl, rfl⟩)
    go_ret
    exact ⟨ret1 (M.sgn_lt h1), rfl⟩
  · by_cases h2 : n < m
    · go_enter Try.func59, Try.ntmps59
      go_wp2_with (go_at_call 73; refine (nan57_any _ _).mono ?_; rintro e w' ⟨rfl, rfl⟩)
      go_ret
      exact ⟨ret1 (M.sgn_gt h2), rfl⟩
    · go_enter Try.func59, Try.ntmps59
      go_wp2_with (go_at_call 73; refine (nan57_any _ _).mono ?_; rintro e w' ⟨rfl, rfl⟩)
      go_ret
      exact ⟨ret1 (M.sgn_eq (by omega) (by omega)), rfl⟩
theorem cmp47_any (m n : Int) (w : World) : Calls Try.prog 60 #[.int .u64 m, .int .u64 n] w fun e w' => e = .returned (.int .i64 (M.sgn m n)) ∧ w = w' := by
  by_cases h1 : m < n
  · go_enter Try.func60, Try.ntmps60
    go_wp2_with (go_at_call 74; refine (nan58_any _ _).mono ?_; rintro e w' ⟨rfl, rfl⟩)
    go_ret
    exact ⟨ret1 (M.sgn_lt h1), rfl⟩
  · by_cases h2 : n < m
    · go_enter Try.func60, Try.ntmps60
      go_wp2_with (go_at_call 74; refine (nan58_any _ _).mono ?_; rintro e w' ⟨rfl, rfl⟩)
      go_ret
      exact ⟨ret1 (M.sgn_gt h2), rfl⟩
    · go_enter Try.func60, Try.ntmps60
      go_wp2_with (go_at_call 74; refine (nan58_any _ _).mono ?_; rintro e w' ⟨rfl, rfl⟩)
      go_ret
      exact ⟨ret1 (M.sgn_eq (by omega) (by omega)), rfl⟩
theorem cmp_any (h l h' l' : Int) (b : M.B h l) (b' : M.B h' l') (w : World) :
    Calls Try.prog 44 #[.agg #[.int .i64 h, .int .u64 l], .agg #[.int .i64 h', .int .u64 l']] w fun e w' => e = .returned (.int .i64 (M.sgn (M.val h l) (M.val h' l'))) ∧ Below w.heap.size w w' := by
  have H := Lib.hid (M.sgn_val b b')
  clear b b'
  by_cases hh : h = h'
  · have hB : (h != h') = false := by simpa using hh
    have HH := Lib.hid hh
    clear hh
    go_enter Try.func44, Try.ntmps44
    go_wp2_with fail
    refine (cmp47_any _ _ _).mono ?_; rintro e w' ⟨rfl, rfl⟩
    go_wp2_with fail
    go_ret
    exact ⟨ret1 (by rw [H.out, if_pos HH.out]), ((Below.refl _ _).alloc (Nat.le_refl _) _).alloc (by simp) _⟩
  · have hB : (h != h') = true := by simpa using hh
    have HH := Lib.hid hh
    clear hh
    go_enter Try.func44, Try.ntmps44
    go_wp2_with fail
    refine (cmp46_any _ _ _).mono ?_; rintro e w' ⟨rfl, rfl⟩
    go_wp2_with fail
    go_ret
    exact ⟨ret1 (by rw [H.out, if_neg HH.out]), ((Below.refl _ _).alloc (Nat.le_refl _) _).alloc (by simp) _⟩
theorem M.root_ex (v : Int) (h : 0 ≤ v) : ∃ r, M.IsRoot v r := by
  obtain ⟨n, rfl⟩ := Int.eq_ofNat_of_zero_le h
  clear h
  induction n with
  | zero => exact ⟨0, by unfold M.IsRoot; omega⟩
  | succ n ih =>
    obtain ⟨r, h0, h1, h2⟩ := ih
    by_cases k : ((n + 1 : Nat) : Int) < (r + 1) * (r + 1)
    · exact ⟨r, h0, by omega, k⟩
    · refine ⟨r + 1, by omega, by omega, ?_⟩
      rw [Int.mul_add (r + 1 + 1), Int.add_mul (r + 1) 1 (r + 1)]; omega
/-- Squares rise. -/
theorem M.sq_lt {a b : Int} (ha : 0 ≤ a) (h : a < b) : a * a < b * b := by
  have h1 : a * a ≤ a * b := Int.mul_le_mul_of_nonneg_left (by omega) ha
  have h2 : a * b < b * b := Int.mul_lt_mul_of_pos_right h (by omega)
  omega
theorem M.sq_le {a b : Int} (ha : 0 ≤ a) (h : a ≤ b) : a * a ≤ b * b := by
  rcases Int.lt_or_eq_of_le h with h | h
  · exact Int.le_of_lt (M.sq_lt ha h)
  · rw [h]; exact Int.le_refl _
theorem M.root_one {v r s : Int} (h : M.IsRoot v r) (h0 : 0 ≤ s) (h1 : s * s ≤ v) (h2 : v < (s + 1) * (s + 1)) : s = r := by
  obtain ⟨a, b, c⟩ := h
  rcases Int.lt_trichotomy s r with k | k | k
  · have := M.sq_le (a := s + 1) (b := r) (by omega) (by omega); omega
  · exact k
  · have := M.sq_le (a := r + 1) (b := s) (by omega) (by omega); omega
/-- A step of the search from above. -/
theorem M.root_step {v g : Int} (hv : 1 ≤ v) (hg : 1 ≤ g) (i : v < (g + 1) * (g + 1)) (hs : v / g < g) :
    1 ≤ (g + v / g) / 2 ∧ (g + v / g) / 2 < g ∧ v < ((g + v / g) / 2 + 1) * ((g + v / g) / 2 + 1) := by
  have e := Int.mul_ediv_add_emod v g
  have a1 := Int.emod_lt_of_pos v (b := g) (by omega)
  have s0 : 0 ≤ v / g := Int.ediv_nonneg (by omega) (by omega)
  have k1 : g = 1 → v / g = v := fun h => by rw [h]; exact Int.ediv_one v
  obtain ⟨t, ht⟩ : ∃ t, v / g = t := ⟨_, rfl⟩
  rw [ht] at e s0 hs k1 ⊢
  have hgt : v + 1 ≤ g * (t + 1) := by rw [Int.mul_add]; omega
  refine ⟨by omega, by omega, ?_⟩
  obtain ⟨m, hm⟩ : ∃ m, (g + t) / 2 + 1 = m := ⟨_, rfl⟩
  rw [hm]
  have h2 : g + (t + 1) ≤ 2 * m := by omega
  have h3 := M.sq_le (a := g + (t + 1)) (b := 2 * m) (by omega) h2
  have h4 : 4 * (g * (t + 1)) ≤ (g + (t + 1)) * (g + (t + 1)) := by
    have q : 0 ≤ (g - (t + 1)) * (g - (t + 1)) := by
      rcases Int.le_total 0 (g - (t + 1)) with h | h
      · exact Int.mul_nonneg h h
      · exact Int.mul_nonneg_of_nonpos_of_nonpos h h
    generalize t + 1 = u at *
    rw [Int.mul_sub, Int.sub_mul, Int.sub_mul, Int.mul_comm u g] at q
    rw [Int.mul_add, Int.add_mul, Int.add_mul, Int.mul_comm u g]
    omega
  have h5 : 2 * m * (2 * m) = 4 * (m * m) := by rw [Int.mul_assoc, Int.mul_left_comm m 2 m]; omega
  omega
theorem M.root_hi {v g : Int} (hg : 1 ≤ g) (hg2 : g ≤ 9223372036854775808) (i : v < (g + 1) * (g + 1)) : v / 18446744073709551616 < g := by
  have h : (g + 1) * (g + 1) ≤ g * 18446744073709551616 := by
    have : g * g ≤ g * 9223372036854775808 := Int.mul_le_mul_of_nonneg_left hg2 (by omega)
    rw [Int.mul_add, Int.add_mul]; omega
  exact Int.ediv_lt_of_lt_mul (by omega) (by omega)
theorem len_any (h l : Int) (b : M.B h l) (hn : 0 ≤ h) (hh : h < 4611686018427387904) (hv : 0 < M.val h l) : ∃ n : Nat, M.val h l < ((2 ^ n : Nat) : Int) ∧ n ≤ 126 ∧ ∀ w : World,
    Calls Try.prog 57 #[.agg #[.int .i64 h, .int .u64 l]] w fun e w' => e = .returned (.int .i64 (n : Int)) ∧ Below w.heap.size w w' := by
  obtain ⟨h1, h2, h3, h4⟩ := b
  obtain ⟨H, rfl⟩ := Int.eq_ofNat_of_zero_le hn
  obtain ⟨L, rfl⟩ := Int.eq_ofNat_of_zero_le h3
  by_cases z : H = 0
  · subst z
    obtain ⟨l1, l2, l3⟩ := bl_of L (by rintro rfl; simp [M.val] at hv) (by omega)
    refine ⟨Lib.bitLen L, by unfold M.val; omega, by omega, fun w => ?_⟩
    have c := fun w => bits_Len64 (L : Int) w (by omega) (by omega)
    rw [Int.toNat_natCast] at c
    generalize Lib.bitLen L = n at *
    clear l1 l2 hv
    go_enter Try.func57, Try.ntmps57
    go_wp2_with fail
    refine (c _).mono ?_; rintro e w' ⟨rfl, rfl⟩
    go_wp2_with fail
    go_ret
    exact ⟨rfl, (Below.refl _ _).alloc (Nat.le_refl _) _⟩
  · obtain ⟨l1, l2, l3⟩ := bl_of H z (by omega)
    have hb : Lib.bitLen H ≤ 62 := by
      rcases Nat.lt_or_ge 62 (Lib.bitLen H) with q | q
      · have := Nat.pow_le_pow_right (n := 2) (by omega) (show 63 ≤ Lib.bitLen H from q)
        omega
      · exact q
    refine ⟨64 + Lib.bitLen H, ?_, by omega, fun w => ?_⟩
    · rw [Nat.pow_add]; unfold M.val; omega
    have c := fun w => bits_Len64 (H : Int) w (by omega) (by omega)
    rw [Int.toNat_natCast] at c
    generalize Lib.bitLen H = n at *
    have k : ((H : Int) != 0) = true := by simp; omega
    clear l1 l2 hv
    go_enter Try.func57, Try.ntmps57
    go_wp2_with fail
    refine (c _).mono ?_; rintro e w' ⟨rfl, rfl⟩
    go_wp2_with fail
    go_ret
    exact ⟨ret1 (by simp), (Below.refl _ _).alloc (Nat.le_refl _) _⟩
theorem root_no (h l : Int) (n : h < 0 ∨ 4611686018427387904 ≤ h) (w : World) :
    Calls Try.prog 43 #[.agg #[.int .i64 h, .int .u64 l]] w fun e w' => e = .returned (.tuple #[.int .i64 0, .bool false]) ∧ Below w.heap.size w w' := by
  by_cases a : h < 0
  · clear n
    go_enter Try.func43, Try.ntmps43
    go_wp2
    go_ret2
    exact ⟨rfl, (Below.refl _ _).alloc (Nat.le_refl _) _⟩
  · have b : 4611686018427387904 ≤ h := by omega
    have b' : 0 ≤ h := by omega
    clear n a
    go_enter Try.func43, Try.ntmps43
    go_wp2
    go_ret2
    exact ⟨rfl, (Below.refl _ _).alloc (Nat.le_refl _) _⟩
theorem root_zero (w : World) :
    Calls Try.prog 43 #[.agg #[.int .i64 0, .int .u64 0]] w fun e w' => e = .returned (.tuple #[.int .i64 0, .bool true]) ∧ Below w.heap.size w w' := by
  have c := xof_any 0 (by omega) (by omega)
  rw [M.ok0.2.1, M.ok0.2.2] at c
  go_enter Try.func43, Try.ntmps43
  go_wp2_with fail
  go_region_held3 (fun w' => w'.cell? ⟨w.heap.size, 0, none⟩ = some (.int .i64 0) ∧ w'.cell? ⟨w.heap.size, 1, none⟩ = some (.int .u64 0)) (go_keep)
    ((go_at_call 56; refine (c _).mono ?_; rintro e w' ⟨rfl, hb⟩; obtain ⟨hc, hf⟩ := bcell hb))
  all_goals go_wp2
  all_goals go_ret2
  all_goals exact ⟨rfl, bb1 hb (by simp)⟩
set_option maxHeartbeats 1000000 in
theorem root_pos (h l r : Int) (b : M.B h l) (hn : 0 ≤ h) (hh : h < 4611686018427387904) (hv : 0 < M.val h l) (hr : M.IsRoot (M.val h l) r) (w : World) :
    Calls Try.prog 43 #[.agg #[.int .i64 h, .int .u64 l]] w fun e w' => e = .returned (.tuple #[.int .i64 r, .bool true]) ∧ Below w.heap.size w w' := by
  obtain ⟨n, n1, n2, cl⟩ := len_any h l b hn hh hv
  have c := xof_any 0 (by omega) (by omega)
  rw [M.ok0.2.1, M.ok0.2.2] at c
  obtain ⟨h1, h2, h3, h4⟩ := b
  have hV : M.val h l / 18446744073709551616 = h := by unfold M.val; omega
  have hV2 : M.val h l = h * 18446744073709551616 + l := rfl
  have hV3 : M.val h l < 85070591730234615865843651857942052864 := by unfold M.val; omega
  obtain ⟨k, hk⟩ : ∃ k, (n + 1) / 2 = k := ⟨_, rfl⟩
  have hk1 : k ≤ 63 := by omega
  have hk2 : 2 ^ n ≤ 2 ^ k * 2 ^ k := by rw [← Nat.pow_add]; exact Nat.pow_le_pow_right (by omega) (by omega)
  have hk3 : 2 ^ k ≤ 9223372036854775808 := by
    have := Nat.pow_le_pow_right (n := 2) (by omega) hk1; omega
  have hk0 : 0 < 2 ^ k := Nat.two_pow_pos k
  have hk4 : M.val h l < ((2 ^ k : Nat) + 1 : Int) * ((2 ^ k : Nat) + 1) := by
    have : ((2 ^ k : Nat) : Int) * (2 ^ k : Nat) = ((2 ^ k * 2 ^ k : Nat) : Int) := by simp
    rw [Int.mul_add, Int.add_mul]; omega
  have hkI : ((n : Int) + 1) / 2 = (k : Int) := by omega
  obtain ⟨g, hg⟩ : ∃ g : Nat, 2 ^ k = g := ⟨_, rfl⟩
  have hsh : IntKind.u64.wrap (1 * 2 ^ k) = (g : Int) := by
    rw [IntKind.wrap_u64, Int.one_mul, ← hg]
    have : ((2 : Int) ^ k) = ((2 ^ k : Nat) : Int) := by simp
    rw [this]; omega
  have hsh' : IntKind.u64.wrap (2 ^ k) = (g : Int) := by rw [Int.one_mul] at hsh; exact hsh
  rw [hg] at hk4 hk3 hk0
  have HR := Lib.hid hr
  have HV := Lib.hid hV
  have HV2 := Lib.hid hV2
  have HK := Lib.hid hk4
  have z1 : ((h == 0) = true ∧ (l == 0) = false) ∨ (h == 0) = false := by
    rcases Int.lt_or_eq_of_le hn with q | q
    · exact .inr (by simp; omega)
    · exact .inl ⟨by simp; omega, by simp; rintro rfl; rw [← q] at hv; simp [M.val] at hv⟩
  have b1 : decide (h < 0) = false := decide_eq_false (by omega)
  have b2 : decide (4611686018427387904 ≤ h) = false := decide_eq_false (by omega)
  clear hV hV2 hr hk hg hk2 hk4 n1
  rcases z1 with ⟨z1, z2⟩ | z1
  all_goals
    go_enter Try.func43, Try.ntmps43
    go_wp2_with fail
    go_region_held3 (fun w' => w'.cell? ⟨w.heap.size, 0, none⟩ = some (.int .i64 h) ∧ w'.cell? ⟨w.heap.size, 1, none⟩ = some (.int .u64 l)) (go_keep)
      ((go_at_call 56; refine (c _).mono ?_; rintro e w1 ⟨rfl, hb⟩; obtain ⟨hc, hf⟩ := bcell hb))
    have K : Below w.heap.size w w1 := bb1 hb (by simp)
    have hz : w.heap.size < w1.heap.size := by have := hb.size; simp at this; omega
    have d0 := hc w.heap.size 0 (by simp)
    have d1 := hc w.heap.size 1 (by simp)
    simp [World.cell?_alloc_new] at d0 d1
    clear hb hc hf
    go_wp2_with fail
    refine (cl _).mono ?_; rintro e w2 ⟨rfl, hb2⟩
    replace K := K.trans (hb2.mono K.size)
    have d0' := (hb2.cell (p := ⟨w.heap.size, 0, none⟩) hz).trans d0
    have d1' := (hb2.cell (p := ⟨w.heap.size, 1, none⟩) hz).trans d1
    replace hz : w.heap.size < w2.heap.size := Nat.lt_of_lt_of_le hz hb2.size
    clear hb2 d0 d1
    go_wp2_with fail
    clear z1 hkI hsh hsh'
    go_loopw [4] (fun t wr => ∃ a : Int, t = .int .u64 a ∧ 1 ≤ a ∧ a ≤ 9223372036854775808 ∧ Hid (M.val h l < (a + 1) * (a + 1)) ∧ wr.cell? ⟨w.heap.size, 0, none⟩ = some (.int .i64 h) ∧ wr.cell? ⟨w.heap.size, 1, none⟩ = some (.int .u64 l) ∧ Below w.heap.size w wr ∧ w.heap.size < wr.heap.size) (fun t _ => (intOf t).toNat)
    case atStart => exact ⟨g, rfl, by omega, by omega, HK, d0', d1', K, hz⟩
    case round =>
      clear d0' d1' K hz cl c HK
      obtain ⟨a, rfl, a1, a2, i, d0, d1, K, hz⟩ := hrel
      have hi := M.root_hi a1 a2 i.out
      rw [HV.out] at hi
      have cd := div64_any h l a hn h3 h4 hi (by omega)
      rw [← HV2.out] at cd
      obtain ⟨s, hs⟩ : ∃ s, M.val h l / a = s := ⟨_, rfl⟩
      obtain ⟨q, hq⟩ : ∃ s, M.val h l % a = s := ⟨_, rfl⟩
      have s0 : 0 ≤ s := by rw [← hs]; exact Int.ediv_nonneg (by omega) (by omega)
      rw [hs, hq] at cd
      by_cases t : a ≤ s
      · have sq : a * a ≤ M.val h l := by rw [← hs] at t; exact (Int.le_ediv_iff_mul_le (by omega)).1 t
        have a3 : a < 9223372036854775808 := by
          rcases Int.lt_or_le a 9223372036854775808 with k | k
          · exact k
          · have := M.sq_le (a := 9223372036854775808) (b := a) (by omega) k; omega
        have R := Lib.hid (M.root_one HR.out (by omega) sq i.out)
        clear hs hq sq
        go_wp2_with fail
        refine (cd _).mono ?_; rintro e w3 ⟨rfl, hb⟩
        replace K := K.trans (hb.mono (by omega))
        clear hb
        go_wp2_with fail
        go_ret2
        exact ⟨ret1b R.out rfl, K⟩
      · have N := M.root_step (v := M.val h l) (g := a) (by omega) a1 i.out (by omega)
        rw [hs] at N
        obtain ⟨N1, N2, N3⟩ := N
        have N3 := Lib.hid N3
        have s1 : s < a := by omega
        clear hs hq
        go_wp2_with fail
        refine (cd _).mono ?_; rintro e w3 ⟨rfl, hb⟩
        have d0' := (hb.cell (p := ⟨w.heap.size, 0, none⟩) hz).trans d0
        have d1' := (hb.cell (p := ⟨w.heap.size, 1, none⟩) hz).trans d1
        replace K := K.trans (hb.mono (by omega))
        have hz' : w.heap.size < w3.heap.size := Nat.lt_of_lt_of_le hz hb.size
        clear hb
        go_wp2_with fail
        go_roundw
        case rel => exact ⟨(a + s) / 2, rfl, N1, by omega, N3, d0', d1', K, hz'⟩
        case measure => simp [intOf]; omega
/-- Root, told by the root. -/
theorem root_yes (h l r : Int) (b : M.B h l) (hn : 0 ≤ h) (hh : h < 4611686018427387904) (hr : M.IsRoot (M.val h l) r) (w : World) :
    Calls Try.prog 43 #[.agg #[.int .i64 h, .int .u64 l]] w fun e w' => e = .returned (.tuple #[.int .i64 r, .bool true]) ∧ Below w.heap.size w w' := by
  by_cases z : 0 < M.val h l
  · exact root_pos h l r b hn hh z hr w
  · obtain ⟨h1, h2, h3, h4⟩ := b
    obtain rfl : h = 0 := by unfold M.val at z; omega
    obtain rfl : l = 0 := by unfold M.val at z; omega
    obtain rfl := M.root_one hr (s := 0) (by omega) (by decide) (by decide)
    exact root_zero w
end Go.Proofs.Ytdkppkdoconfhaa
