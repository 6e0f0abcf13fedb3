/- Contract of the document's Ratio. -/
import Derived.Test.YtdjhloilpgfcjaaThinB
namespace Go.Proofs.Ytdjhloilpgfcjaa
open Go.ChangeShapes Go.WideShapes Go.ChangeAt Go.RowKit
set_option linter.unusedVariables false

theorem rratio_no (h l b h' l' d : Int) (n : b < 1 ∨ d < 1) (w : World) :
    Calls Try.prog 33 #[.agg #[.int .i64 h, .int .u64 l], .int .i64 b, .agg #[.int .i64 h', .int .u64 l'], .int .i64 d] w fun e w' => e = .returned (.tuple #[.int .i64 0, .bool false]) ∧ Below w.heap.size w w' := by
  by_cases hb : b < 1
  · clear n
    go_enter Try.func33, Try.ntmps33
    go_wp2
    go_ret2
    exact ⟨rfl, ((Below.refl _ _).alloc (Nat.le_refl _) _).alloc (by simp) _⟩
  · have hd : d < 1 := by omega
    clear n
    go_enter Try.func33, Try.ntmps33
    go_wp2
    go_ret2
    exact ⟨rfl, ((Below.refl _ _).alloc (Nat.le_refl _) _).alloc (by simp) _⟩
theorem mul_size {x d : Int} (hx : x.natAbs < 2 ^ 128) (hd : d.natAbs < 2 ^ 128) : (x * d).natAbs < 2 ^ 256 := by
  rw [Int.natAbs_mul]
  have h1 := Nat.mul_lt_mul_of_lt_of_le hx (Nat.le_of_lt hd) (by omega)
  calc x.natAbs * d.natAbs < 2 ^ 128 * 2 ^ 128 := h1
    _ = 2 ^ 256 := by decide
set_option maxHeartbeats 4000000 in
theorem rratio_yes (h l b h' l' d : Int) (B1 : M.B h l) (B2 : M.B h' l') (b1 : 1 ≤ b) (b2 : b < 9223372036854775808) (d1 : 1 ≤ d) (d2 : d < 9223372036854775808) (w : World) :
    Calls Try.prog 33 #[.agg #[.int .i64 h, .int .u64 l], .int .i64 b, .agg #[.int .i64 h', .int .u64 l'], .int .i64 d] w fun e w' => e = .returned (.tuple #[.int .i64 (M.sgn (M.val h l * d) (M.val h' l' * b)), .bool true]) ∧ Below w.heap.size w w' := by
  have cFa := fun w => from_bits h l B1 w
  have cFb := fun w => from_bits h' l' B2 w
  have cNd := fun w => num_any d (by omega) d2 w
  have cNb := fun w => num_any b (by omega) b2 w
  have OA := Lib.hid (natAbs_lt (M.ok_val B1))
  have OB := Lib.hid (natAbs_lt (M.ok_val B2))
  have Od := Lib.hid (show d.natAbs < 2 ^ 128 by omega)
  have Ob := Lib.hid (show b.natAbs < 2 ^ 128 by omega)
  clear B1 B2
  generalize M.val h l = x at *
  generalize M.val h' l' = y at *
  have OP := Lib.hid (mul_size OA.out Od.out)
  have OQ := Lib.hid (mul_size OB.out Ob.out)
  obtain ⟨P, hP⟩ : ∃ P, x * d = P := ⟨_, rfl⟩
  obtain ⟨Q, hQ⟩ : ∃ Q, y * b = Q := ⟨_, rfl⟩
  have pP : ∀ {w2 : World} {A B : Option Addr} {c e : Nat} {la lb : List Nat}, NumR w2 x A la → NumR w2 d B lb → la.length ≤ 128 → lb.length ≤ 128 → Calls Try.prog 43 #[.agg #[.bool (decide (x < 0)), .slice A la.length c], .agg #[.bool (decide (d < 0)), .slice B lb.length e]] w2 (RetNum w2 P) := by
    intro w2 A B c e la lb N1 N2 L1 L2
    have := prodZ c e N1 N2 (by omega) (by omega)
    rwa [hP] at this
  have pQ : ∀ {w2 : World} {A B : Option Addr} {c e : Nat} {la lb : List Nat}, NumR w2 y A la → NumR w2 b B lb → la.length ≤ 128 → lb.length ≤ 128 → Calls Try.prog 43 #[.agg #[.bool (decide (y < 0)), .slice A la.length c], .agg #[.bool (decide (b < 0)), .slice B lb.length e]] w2 (RetNum w2 Q) := by
    intro w2 A B c e la lb N1 N2 L1 L2
    have := prodZ c e N1 N2 (by omega) (by omega)
    rwa [hQ] at this
  rw [hP] at OP ⊢
  rw [hQ] at OQ ⊢
  clear hP hQ
  have K : Below w.heap.size w ((w.alloc (.cells #[.int .i64 h, .int .u64 l] 24)).alloc (.cells #[.int .i64 h', .int .u64 l'] 24)) := ((Below.refl _ w).alloc (Nat.le_refl _) _).alloc (by simp) _
  go_enter Try.func33, Try.ntmps33
  go_wp2_with fail
  go_region_held3 (fun w' => w'.cell? ⟨w.heap.size, 0, none⟩ = some (.int .i64 h) ∧ w'.cell? ⟨w.heap.size, 1, none⟩ = some (.int .u64 l) ∧ w'.cell? ⟨w.heap.size + 1, 0, none⟩ = some (.int .i64 h') ∧ w'.cell? ⟨w.heap.size + 1, 1, none⟩ = some (.int .u64 l') ∧ w.heap.size + 1 < w'.heap.size)
    (first | exact keep4 hb7 (by assumption) | exact keep4 hb6 (by assumption) | exact keep4 hb5 (by assumption) | exact keep4 hb4 (by assumption) | exact keep4 hb3 (by assumption) | exact keep4 hb2 (by assumption) | exact keep4 hb1 (by assumption) | go_keep)
    ((first
      | (go_at_call_of 36 (Value.agg #[Value.int IntKind.i64 h, Value.int IntKind.u64 l]); refine (cFa _).mono ?_; rintro e w1 ⟨A1, c1, l1, rfl, hr, hC, hz, _, hb1⟩; have N1 : NumR w1 x A1 l1 := ⟨hr, hC, hz⟩; have L1 := N1.len 128 OA.out; clear hr hC hz)
      | (go_at_call_of 44 (Value.int IntKind.i64 d); refine (cNd _).mono ?_; rintro e w2 ⟨A2, c2, l2, rfl, hr, hC, hz, _, hb2⟩; have N2 : NumR w2 d A2 l2 := ⟨hr, hC, hz⟩; have L2 := N2.len 128 Od.out; clear hr hC hz)
      | (go_at_call_of 43 (Value.agg #[Value.bool (decide (x < 0)), Value.slice A1 l1.length c1]); refine (pP (N1.up hb2) N2 L1 L2).mono ?_; rintro e w3 ⟨A3, c3, l3, rfl, hr, hC, hz, _, hb3⟩; have N3 : NumR w3 P A3 l3 := ⟨hr, hC, hz⟩; have L3 := N3.len 256 OP.out; clear hr hC hz)
      | (go_at_call_of 36 (Value.agg #[Value.int IntKind.i64 h', Value.int IntKind.u64 l']); refine (cFb _).mono ?_; rintro e w4 ⟨A4, c4, l4, rfl, hr, hC, hz, _, hb4⟩; have N4 : NumR w4 y A4 l4 := ⟨hr, hC, hz⟩; have L4 := N4.len 128 OB.out; clear hr hC hz)
      | (go_at_call_of 44 (Value.int IntKind.i64 b); refine (cNb _).mono ?_; rintro e w5 ⟨A5, c5, l5, rfl, hr, hC, hz, _, hb5⟩; have N5 : NumR w5 b A5 l5 := ⟨hr, hC, hz⟩; have L5 := N5.len 128 Ob.out; clear hr hC hz)
      | (go_at_call_of 43 (Value.agg #[Value.bool (decide (y < 0)), Value.slice A4 l4.length c4]); refine (pQ (N4.up hb5) N5 L4 L5).mono ?_; rintro e w6 ⟨A6, c6, l6, rfl, hr, hC, hz, _, hb6⟩; have N6 : NumR w6 Q A6 l6 := ⟨hr, hC, hz⟩; have L6 := N6.len 256 OQ.out; clear hr hC hz)
      | (go_at_call 45; refine (orderZ c3 c6 (((N3.up hb4).up hb5).up hb6) N6 (by omega) (by omega)).mono ?_; rintro e w7 ⟨rfl, hb7⟩)))
  go_wp2_with fail
  have G0 := K.drew
  have G1 := G0.trans (hb1.mono G0.size)
  have G2 := G1.trans (hb2.mono G1.size)
  have G3 := G2.trans (hb3.mono G2.size)
  have G4 := G3.trans (hb4.mono G3.size)
  have G5 := G4.trans (hb5.mono G4.size)
  have G6 := G5.trans (hb6.mono G5.size)
  have G7 := G6.trans (hb7.mono G6.size)
  go_ret2
  exact ⟨rfl, G7⟩
end Go.Proofs.Ytdjhloilpgfcjaa
