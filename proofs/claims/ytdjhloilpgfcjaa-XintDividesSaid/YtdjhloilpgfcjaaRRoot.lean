/- Contract of the document's Root. -/
import Derived.Test.YtdjhloilpgfcjaaRDiv
import Derived.Test.YtdjhloilpgfcjaaRoot
import Derived.Test.YtdjhloilpgfcjaaAwake
namespace Go.Proofs.Ytdjhloilpgfcjaa
open Go.ChangeShapes Go.WideShapes Go.ChangeAt Go.RowKit
set_option linter.unusedVariables false
set_option linter.unusedSimpArgs false

/-- A variable of two cells. -/
abbrev Keep2 (w : World) (b : Nat) (v u : Value) : Prop := w.cell? ⟨b, 0, none⟩ = some v ∧ w.cell? ⟨b, 1, none⟩ = some u ∧ b < w.heap.size
/-- What holds of the root's upper bits. -/
def M.RootI (v : Int) (j : Nat) (o : Int) : Prop := 0 ≤ o ∧ o * o ≤ v ∧ v < (o + ((2 ^ j : Nat) : Int)) * (o + ((2 ^ j : Nat) : Int)) ∧ o + ((2 ^ j : Nat) : Int) ≤ 9223372036854775808
theorem M.rooti_start {v : Int} (h0 : 0 ≤ v) (h1 : v < 85070591730234615865843651857942052864) : M.RootI v 63 0 := by
  refine ⟨Int.le_refl _, by omega, ?_, by decide⟩
  have e : ((0 : Int) + ((2 ^ 63 : Nat) : Int)) * ((0 : Int) + ((2 ^ 63 : Nat) : Int)) = 85070591730234615865843651857942052864 := by decide
  rw [e]; exact h1
theorem M.rooti_yes {v o : Int} {j : Nat} (h : M.RootI v (j + 1) o) (g : (o + ((2 ^ j : Nat) : Int)) * (o + ((2 ^ j : Nat) : Int)) ≤ v) : M.RootI v j (o + ((2 ^ j : Nat) : Int)) := by
  obtain ⟨h1, h2, h3, h4⟩ := h
  have e := Nat.pow_succ 2 j
  have p := Nat.two_pow_pos j
  have e2 : ((2 ^ (j + 1) : Nat) : Int) = ((2 ^ j : Nat) : Int) + ((2 ^ j : Nat) : Int) := by omega
  rw [e2, ← Int.add_assoc] at h3 h4
  exact ⟨by omega, g, h3, h4⟩
theorem M.rooti_no {v o : Int} {j : Nat} (h : M.RootI v (j + 1) o) (g : v < (o + ((2 ^ j : Nat) : Int)) * (o + ((2 ^ j : Nat) : Int))) : M.RootI v j o := by
  obtain ⟨h1, h2, h3, h4⟩ := h
  have e := Nat.pow_succ 2 j
  have p := Nat.two_pow_pos j
  exact ⟨h1, h2, g, by omega⟩
theorem M.rooti_end {v o r : Int} (h : M.RootI v 0 o) (hr : M.IsRoot v r) : o = r := M.root_one hr h.1 h.2.1 h.2.2.1
theorem M.rooti_x {v o : Int} {j : Nat} (h : M.RootI v (j + 1) o) : 0 ≤ o + ((2 ^ j : Nat) : Int) ∧ o + ((2 ^ j : Nat) : Int) < 9223372036854775808 ∧ 0 ≤ o ∧ o < 9223372036854775808 ∧ (0 : Int) < ((2 ^ j : Nat) : Int) ∧ ((2 ^ j : Nat) : Int) < 9223372036854775808 := by
  obtain ⟨h1, h2, h3, h4⟩ := h
  have e := Nat.pow_succ 2 j
  have p := Nat.two_pow_pos j
  omega
set_option maxRecDepth 100000 in
set_option maxHeartbeats 8000000 in
theorem rroot_yes (h l r : Int) (b : M.B h l) (hn : 0 ≤ h) (hh : h < 4611686018427387904) (hr : M.IsRoot (M.val h l) r) (w : World) :
    Calls Try.prog 29 #[.agg #[.int .i64 h, .int .u64 l]] w fun e w' => e = .returned (.tuple #[.int .i64 r, .bool true]) ∧ Below w.heap.size w w' := by
  have cF := fun w => from_bits h l b w
  have v0 : 0 ≤ M.val h l := by have := b.2.2.1; unfold M.val; omega
  have v1 : M.val h l < 85070591730234615865843651857942052864 := by have := b.2.2.2; unfold M.val; omega
  generalize M.val h l = v at *
  have z0 : decide (v < 0) = false := decide_eq_false (by omega)
  have OV := Lib.hid (show v.natAbs < 2 ^ 126 by omega)
  have HI := Lib.hid (M.rooti_start v0 v1)
  have HR := Lib.hid hr
  clear v0 v1 hr b
  go_enter Try.func29, Try.ntmps29
  go_wp2_with fail
  refine (cF _).mono ?_
  rintro e w1 ⟨A, c, la, he, hr, hC, hz, _, hb⟩
  rw [z0] at he
  subst he
  have NV : NumR w1 v A la := ⟨hr, hC, hz⟩
  have LV := NV.len 126 OV.out
  have K1 := ((Below.refl _ w).alloc (Nat.le_refl _) _).trans (hb.mono (show w.heap.size ≤ _ by simp))
  have lg : ¬ (126 : Int) < (la.length : Int) := by omega
  clear hb hr hC hz
  have f0 : (w1.alloc (.cells #[.bool false, .slice A la.length c] 50)).cell? ⟨w1.heap.size, 0, none⟩ = some (.bool false) := by simp
  have f1 : (w1.alloc (.cells #[.bool false, .slice A la.length c] 50)).cell? ⟨w1.heap.size, 1, none⟩ = some (.slice A la.length c) := by simp
  have KN : Below w1.heap.size w1 (w1.alloc (.cells #[.bool false, .slice A la.length c] 50)) := (Below.refl _ w1).alloc (Nat.le_refl _) _
  have NV2 := NV.up KN
  have K2 := K1.trans (KN.mono K1.size)
  have S2 : w1.heap.size < (w1.alloc (.cells #[.bool false, .slice A la.length c] 50)).heap.size := by simp
  have HF := Lib.hid (And.intro f0 f1)
  have lgd : decide ((126 : Int) < (la.length : Int)) = false := decide_eq_false (by omega)
  clear f0 f1 KN NV K1
  go_wp2_with fail
  generalize w1.alloc (.cells #[.bool false, .slice A la.length c] 50) = W1 at *
  go_loopw [5, 6] (fun o t wr => ∃ (j : Nat) (x : Int), t = .int .i64 ((j : Int) - 1) ∧ o = .int .i64 x ∧ j ≤ 63 ∧ Hid (M.RootI v j x) ∧ Below W1.heap.size W1 wr) (fun _ t _ => (intOf t + 1).toNat)
  case atStart => exact ⟨63, 0, rfl, rfl, by omega, HI, Below.refl _ _⟩
  case round =>
    obtain ⟨j, x, rfl, rfl, hj, hI, hB⟩ := hrel
    rcases Nat.eq_zero_or_pos j with z | z
    · subst z
      have E := Lib.hid (M.rooti_end hI.out HR.out)
      clear hI
      go_wp2_with fail
      go_ret2
      exact ⟨by rw [← E.out]; rfl, K2.trans (hB.mono (by have := K2.size; omega))⟩
    · obtain ⟨k, rfl⟩ : ∃ k, j = k + 1 := ⟨j - 1, by omega⟩
      have ei : (((k + 1 : Nat) : Int) - 1) = (k : Int) := by omega
      rw [ei]
      have X := M.rooti_x hI.out
      have q0 : (0 : Int) ≤ (k : Int) := by omega
      have q1 : (k : Int) < 63 := by omega
      obtain ⟨p, hp⟩ : ∃ p, ((2 ^ k : Nat) : Int) = p := ⟨_, rfl⟩
      have HY := Lib.hid (fun g => M.rooti_yes hI.out g)
      have HN := Lib.hid (fun g => M.rooti_no hI.out g)
      rw [hp] at X HY HN
      have hpw : (2 : Int) ^ k = p := by rw [← hp]; simp
      obtain ⟨x1, x2, x3, x4, x5, x6⟩ := X
      obtain ⟨y, hy⟩ : ∃ y, x + p = y := ⟨_, rfl⟩
      rw [hy] at x1 x2 HY HN
      have wp1 : wrap64 p = p := by unfold wrap64; omega
      have wp2 : wrap64 y = y := by unfold wrap64; omega
      clear hp
      go_upto_region 9 with fail
      clear hpw wp1 wp2 hy
      have cN := fun w => num_any y (by omega) x2 w
      have Oy := Lib.hid (show y.natAbs < 2 ^ 128 by omega)
      have OP := Lib.hid (mul_size Oy.out Oy.out)
      have F0 : wr.cell? ⟨w1.heap.size, 0, none⟩ = some (.bool false) := (hB.cell (p := ⟨w1.heap.size, 0, none⟩) S2).trans HF.out.1
      have F1 : wr.cell? ⟨w1.heap.size, 1, none⟩ = some (.slice A la.length c) := (hB.cell (p := ⟨w1.heap.size, 1, none⟩) S2).trans HF.out.2
      have NW := (NV2.up hB)
      have SW : w1.heap.size < wr.heap.size := Nat.lt_of_lt_of_le S2 hB.size
      obtain ⟨Y, hY⟩ : ∃ Y, y * y = Y := ⟨_, rfl⟩
      have pP : ∀ (w2 : World) (A B : Option Addr) (c e : Nat) (la lb : List Nat), NumR w2 y A la → NumR w2 y B lb → la.length ≤ 128 → lb.length ≤ 128 → Calls Try.prog 43 #[.agg #[.bool (decide (y < 0)), .slice A la.length c], .agg #[.bool (decide (y < 0)), .slice B lb.length e]] w2 (RetNum w2 Y) := by
        intro w2 A B c e la lb N1 N2 L1 L2
        have := prodZ c e N1 N2 (by omega) (by omega)
        rwa [hY] at this
      rw [hY] at OP HY HN
      have oO : ∀ (w2 : World) (A' : Option Addr) (c' : Nat) (l' : List Nat), Below wr.heap.size wr w2 → NumR w2 Y A' l' → l'.length ≤ 256 → Calls Try.prog 45 #[.agg #[.bool (decide (Y < 0)), .slice A' l'.length c'], .agg #[.bool false, .slice A la.length c]] w2 fun e w' => e = .returned (.int .i64 (M.sgn Y v)) ∧ Below w2.heap.size w2 w' := by
        intro w2 A' c' l' hb N1 L1
        have := orderZ c' c N1 (NW.up hb) (by omega) (by omega)
        rwa [z0] at this
      have HpP := Lib.hid pP
      have HoO := Lib.hid oO
      have HF2 := Lib.hid (show Keep2 wr w1.heap.size (.bool false) (.slice A la.length c) from ⟨F0, F1, SW⟩)
      have BW : Below wr.heap.size wr wr.drew := (Below.refl _ wr).drew
      obtain ⟨sg, hsg⟩ : ∃ s, M.sgn Y v = s := ⟨_, rfl⟩
      have HSG : (Y ≤ v → sg ≤ 0) ∧ (v < Y → ¬ sg ≤ 0) := by
        rw [← hsg]
        refine ⟨fun g => ?_, fun g => ?_⟩
        · rcases Int.lt_or_eq_of_le g with g | g
          · have := M.sgn_lt g; omega
          · have := M.sgn_eq (m := Y) (n := v) (by omega) (by omega); omega
        · have := M.sgn_gt g; omega
      rw [hsg] at HoO
      clear hY pP oO F0 F1 hsg z0
      rcases Int.lt_or_le v Y with g | g
      · have g1 := HSG.2 g
        have gb : decide (sg ≤ 0) = false := decide_eq_false g1
        have NEW := Lib.hid (HN.out g)
        clear HSG HN HY g g1
        go_region_held3 (fun w' => Keep2 w' w1.heap.size (.bool false) (.slice A la.length c))
          (first | exact keep2 hbD (by assumption) | exact keep2 hbC (by assumption) | exact keep2 hbB (by assumption) | exact keep2 hbA (by assumption) | exact HF2.out | go_keep)
          ((first
            | (go_at_call 45; refine (HoO.out _ _ cC lC KC NC LC).mono ?_; rintro e wD ⟨rfl, hbD⟩)
            | (go_at_call 43; refine (HpP.out _ _ _ cA cB lA lB (NA.up hbB) NB LA LB).mono ?_; rintro e wC ⟨AC, cC, lC, rfl, hrC, hCC, hzC, _, hbC⟩; have NC : NumR wC Y AC lC := ⟨hrC, hCC, hzC⟩; have LC := NC.len 256 OP.out; have KC := KB.trans (hbC.mono KB.size); clear hrC hCC hzC)
            | (have _tok := NA; go_at_call 44; refine (cN _).mono ?_; rintro e wB ⟨AB, cB, lB, rfl, hrB, hCB, hzB, _, hbB⟩; have NB : NumR wB y AB lB := ⟨hrB, hCB, hzB⟩; have LB := NB.len 128 Oy.out; have KB := KA.trans (hbB.mono KA.size); clear hrB hCB hzB _tok)
            | (go_at_call 44; refine (cN _).mono ?_; rintro e wA ⟨AA, cA, lA, rfl, hrA, hCA, hzA, _, hbA⟩; have NA : NumR wA y AA lA := ⟨hrA, hCA, hzA⟩; have LA := NA.len 128 Oy.out; have KA := BW.trans (hbA.mono BW.size); clear hrA hCA hzA)))
        have KE := KC.trans (hbD.mono KC.size)
        go_wp2_with fail
        exact ⟨⟨k, x, rfl, rfl, by omega, NEW, hB.trans (KE.mono hB.size)⟩, by simp [intOf]⟩
      · have g1 := HSG.1 g
        have gb : decide (sg ≤ 0) = true := decide_eq_true g1
        have NEW := Lib.hid (HY.out g)
        clear HSG HN HY g g1
        go_region_held3 (fun w' => Keep2 w' w1.heap.size (.bool false) (.slice A la.length c))
          (first | exact keep2 hbD (by assumption) | exact keep2 hbC (by assumption) | exact keep2 hbB (by assumption) | exact keep2 hbA (by assumption) | exact HF2.out | go_keep)
          ((first
            | (go_at_call 45; refine (HoO.out _ _ cC lC KC NC LC).mono ?_; rintro e wD ⟨rfl, hbD⟩)
            | (go_at_call 43; refine (HpP.out _ _ _ cA cB lA lB (NA.up hbB) NB LA LB).mono ?_; rintro e wC ⟨AC, cC, lC, rfl, hrC, hCC, hzC, _, hbC⟩; have NC : NumR wC Y AC lC := ⟨hrC, hCC, hzC⟩; have LC := NC.len 256 OP.out; have KC := KB.trans (hbC.mono KB.size); clear hrC hCC hzC)
            | (have _tok := NA; go_at_call 44; refine (cN _).mono ?_; rintro e wB ⟨AB, cB, lB, rfl, hrB, hCB, hzB, _, hbB⟩; have NB : NumR wB y AB lB := ⟨hrB, hCB, hzB⟩; have LB := NB.len 128 Oy.out; have KB := KA.trans (hbB.mono KA.size); clear hrB hCB hzB _tok)
            | (go_at_call 44; refine (cN _).mono ?_; rintro e wA ⟨AA, cA, lA, rfl, hrA, hCA, hzA, _, hbA⟩; have NA : NumR wA y AA lA := ⟨hrA, hCA, hzA⟩; have LA := NA.len 128 Oy.out; have KA := BW.trans (hbA.mono BW.size); clear hrA hCA hzA)))
        have KE := KC.trans (hbD.mono KC.size)
        go_wp2_with fail
        exact ⟨⟨k, y, rfl, rfl, by omega, NEW, hB.trans (KE.mono hB.size)⟩, by simp [intOf]⟩
set_option maxHeartbeats 2000000 in
theorem rroot_no (h l : Int) (b : M.B h l) (n : h < 0 ∨ 4611686018427387904 ≤ h) (w : World) :
    Calls Try.prog 29 #[.agg #[.int .i64 h, .int .u64 l]] w fun e w' => e = .returned (.tuple #[.int .i64 0, .bool false]) ∧ Below w.heap.size w w' := by
  have cF := fun w => from_bits h l b w
  have v0 : M.val h l < 0 ∨ 85070591730234615865843651857942052864 ≤ M.val h l := by
    have h1 := b.2.2.1
    have h2 := b.2.2.2
    rcases n with n | n
    · left; unfold M.val; omega
    · right; unfold M.val; omega
  generalize M.val h l = v at *
  clear b n
  rcases v0 with v0 | v0
  · have z0 : decide (v < 0) = true := decide_eq_true v0
    clear v0
    go_enter Try.func29, Try.ntmps29
    go_wp2_with fail
    refine (cF _).mono ?_
    rintro e w1 ⟨A, c, la, he, hr, hC, hz, _, hb⟩
    rw [z0] at he
    subst he
    have K1 := ((Below.refl _ w).alloc (Nat.le_refl _) _).trans (hb.mono (show w.heap.size ≤ _ by simp))
    clear hb hr hC hz z0
    go_wp2_with fail
    go_ret2
    exact ⟨rfl, K1.alloc K1.size _⟩
  · have z0 : decide (v < 0) = false := decide_eq_false (by omega)
    have HV := Lib.hid v0
    clear v0
    go_enter Try.func29, Try.ntmps29
    go_wp2_with fail
    refine (cF _).mono ?_
    rintro e w1 ⟨A, c, la, he, hr, hC, hz, _, hb⟩
    rw [z0] at he
    subst he
    have K1 := ((Below.refl _ w).alloc (Nat.le_refl _) _).trans (hb.mono (show w.heap.size ≤ _ by simp))
    have lg : 126 < la.length := L.can_len' hC (by have := HV.out; omega)
    have lgd : decide ((126 : Int) < (la.length : Int)) = true := decide_eq_true (by omega)
    have KN : Below w1.heap.size w1 (w1.alloc (.cells #[.bool false, .slice A la.length c] 50)) := (Below.refl _ w1).alloc (Nat.le_refl _) _
    clear hb hr hC hz z0 lg
    go_wp2_with fail
    go_ret2
    exact ⟨rfl, K1.alloc K1.size _⟩
end Go.Proofs.Ytdjhloilpgfcjaa
