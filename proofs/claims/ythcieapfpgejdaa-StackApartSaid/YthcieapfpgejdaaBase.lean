/- Contracts: place, at, fits, down, and the arms for arrays. -/
import Derived.Test.YthcieapfpgejdaaOwn
import Derived.Test.YthcieapfpgejdaaM
import Derived.WalkLawsBesides
import Derived.Deep.DeepCutAuto
import Derived.ChangeKeysEq
namespace Go.Proofs.Ythcieapfpgejdaa
open Go.ChangeShapes Go.WideShapes Go.ChangeAt Go.RowKit
set_option linter.unusedVariables false

theorem size23 : (Try.prog.info? 27).map (·.size) = some 16 := by kernel_rfl
theorem size32 : (Try.prog.info? 61).map (·.size) = some 4 := by kernel_rfl
theorem size3 : (Try.prog.info? 3).map (·.size) = some 1 := by kernel_rfl
theorem zero23 : (Try.prog.info? 27).map (·.zero) = some (some (.agg (M.mat 16 M.zero).toArray)) := by kernel_rfl
theorem zero32 : (Try.prog.info? 61).map (·.zero) = some (some (.agg (M.mat 4 M.zero).toArray)) := by kernel_rfl
theorem s23 (a : Nat → Int) : (Try.prog.info? 27).map (·.size) = some (M.mat 16 a).length := by rw [M.mat_len]; exact size23
theorem s32 (a : Nat → Int) : (Try.prog.info? 61).map (·.size) = some (M.mat 4 a).length := by rw [M.mat_len]; exact size32
theorem agg3 (w : World) : (isAgg 3).run Try.prog w = .ok false w := by kernel_rfl
/-- An array by value. -/
abbrev arr (n : Nat) (a : Nat → Int) : Value := .agg (M.mat n a).toArray

theorem cells3 : Try.prog.cellsOf 3 = 1 := by kernel_rfl
theorem sizeOf3 (w : World) : (sizeOf 3).run Try.prog w = .ok 1 w := by kernel_rfl
theorem run_part_mat {n : Nat} (a : Nat → Int) {i : Nat} (h : i < n) (w : World) : (part 3 (M.mat n a).toArray i).run Try.prog w = .ok (.int .i64 (a i)) w := by
  have : (M.mat n a).toArray[i]? = some (.int .i64 (a i)) := by simpa using M.mat_get (a := a) h
  simp [part, Sem.run_bind, agg3 w, this]
theorem run_eqItems_mat {n : Nat} (a b : Nat → Int) (d : Nat) (w : World) : ∀ is : List Nat, (∀ i ∈ is, i < n) → (Op.eqItems (d + 1) 3 (Try.prog.cellsOf 3) (M.mat n a).toArray (M.mat n b).toArray is).run Try.prog w = .ok (is.all fun i => a i == b i) w
  | [], _ => by simp [Op.eqItems]
  | i :: is, h => by
    have hi : i < n := h i List.mem_cons_self
    have ih := run_eqItems_mat a b d w is (fun j hj => h j (List.mem_cons_of_mem _ hj))
    rw [cells3] at ih ⊢
    unfold Op.eqItems
    simp only [Sem.run_bind, Nat.mul_one, run_part_mat a hi, run_part_mat b hi, Result.andThen_ok, run_equalIn_int w d 3 .i64 .i64 _ _ Try.underlying3]
    cases h : a i == b i
    · simp [h]
    · simpa [h] using ih
theorem run_eq_mat {t : TypeId} {n : Nat} (hu : Try.prog.underlying t = some (.array n 3)) (a b : Nat → Int) (w : World) : (Op.equalIn 10000 t (arr n a) (arr n b)).run Try.prog w = .ok (M.eqB n a b) w := by
  obtain ⟨i, hi⟩ : ∃ i, Try.prog.info? 3 = some i := by
    have := size3
    cases h : Try.prog.info? 3 with
    | none => simp [h] at this
    | some i => exact ⟨i, rfl⟩
  rw [show (10000 : Nat) = 9998 + 1 + 1 from rfl, run_equalIn_array w (9998 + 1) _ _ hu hi]
  exact run_eqItems_mat a b 9998 w (List.range n) (fun j hj => List.mem_range.1 hj)
theorem run_index_mat {t : TypeId} {n : Nat} (hu : Try.prog.underlying t = some (.array n 3)) (a : Nat → Int) {i : Nat} (h : i < n) (w : World) : (Instr.index t (arr n a) (.int .i64 i)).run Try.prog w = .ok (.int .i64 (a i)) w := by
  unfold Instr.index
  have h1 : (0 : Int) ≤ i ∧ (i : Int) < n := by omega
  simp [asIntOf, Sem.run_bind, run_underlying hu, h1, sizeOf3, run_part_mat a h, show ¬ n ≤ i by omega]
section
variable {ops : Array Oper} {Q : Exit → Act → World → Prop} {a : Act} {w : World} {rest : List Oper} {dst : Option Tmp} {ty : TypeId} {pos : String} {after : Array Edge} {K : Act → World → Prop}
theorem wp_eq_mat {t t' : TypeId} {x y : Operand} {gd : Option (Nat × Bool)} {n : Nat} (hu : Try.prog.underlying t = some (.array n 3)) (hg : Try.prog.eqGuardType Try.prog.depth t = false) (p q : Nat → Int) (hx : a.eval x = arr n p) (hy : a.eval y = arr n q)
    (h : K (a.put dst (.bool (M.eqB n p q))) w) : Oper.wp Try.prog ⟨dst, .binOp .eql t x y t', ty, pos, after, gd⟩ a w K Q := by
  unfold Oper.wp execOp
  simp only [hx, hy, Sem.run_bind, run_eqGuard_agg _ _ _ _ _ _ _ hg, run_eql_struct, run_eq_mat hu, Result.andThen_ok]
  exact h
theorem wpList_eq_mat {t t' : TypeId} {x y : Operand} {gd : Option (Nat × Bool)} {n : Nat} (hw : Region.wanted ⟨dst, .binOp .eql t x y t', ty, pos, after, gd⟩ (yielded ops a.tmps) = true) (hu : Try.prog.underlying t = some (.array n 3)) (hg : Try.prog.eqGuardType Try.prog.depth t = false) (p q : Nat → Int) (hx : a.eval x = arr n p) (hy : a.eval y = arr n q)
    (h : wpList Try.prog ops Q rest (a.put dst (.bool (M.eqB n p q))) w) : wpList Try.prog ops Q (⟨dst, .binOp .eql t x y t', ty, pos, after, gd⟩ :: rest) a w :=
  wpList_step fun K hK => by rw [if_pos hw]; exact wp_eq_mat hu hg p q hx hy (hK _ _ h)
end

theorem place_any (i k : Nat) (w : World) (hi : i < 4) (hk : k < 4) : Calls Try.prog 48 #[.int .i64 i, .int .i64 k] w fun e w' => e = .returned (.int .i64 ((i : Int) * 4 + k)) ∧ w = w' := by
  have h1 : (0 : Int) ≤ i := by omega
  have h2 : (0 : Int) ≤ k := by omega
  have h3 : (i : Int) < 4 := by omega
  have h4 : (k : Int) < 4 := by omega
  go_enter Try.func48, Try.ntmps48
  go_wp2_with fail
  go_ret
  exact ⟨rfl, rfl⟩
theorem place_int (i k : Int) (w : World) (hi : 0 ≤ i ∧ i < 4) (hk : 0 ≤ k ∧ k < 4) : Calls Try.prog 48 #[.int .i64 i, .int .i64 k] w fun e w' => e = .returned (.int .i64 (i * 4 + k)) ∧ w = w' := by
  have := place_any i.toNat k.toNat w (by omega) (by omega)
  rw [show ((i.toNat : Nat) : Int) = i by omega, show ((k.toNat : Nat) : Int) = k by omega] at this
  exact this
theorem fits_any (n most : Int) (w : World) (h0 : 0 ≤ most) (h1 : most ≤ 4611686018427387904) : Calls Try.prog 40 #[.int .i64 n, .int .i64 most] w fun e w' => e = .returned (.bool (M.inB most n)) ∧ w = w' := by
  by_cases h2 : -most ≤ n
  · go_enter Try.func40, Try.ntmps40
    go_wp2_with fail
    go_ret
    exact ⟨by simp [M.inB, h2], rfl⟩
  · go_enter Try.func40, Try.ntmps40
    go_wp2_with fail
    go_ret
    exact ⟨by simp [M.inB, show ¬ -most ≤ n by omega], rfl⟩
theorem tdiv_parts (n : Int) : n = 65536 * n.tdiv 65536 + n.tmod 65536 ∧ -65536 < n.tmod 65536 ∧ n.tmod 65536 < 65536 :=
  ⟨(Int.mul_tdiv_add_tmod n 65536).symm, Int.lt_tmod_of_pos n (by decide), Int.tmod_lt_of_pos n (by decide)⟩
theorem down_any (n : Int) (w : World) (h0 : -1152921504606846976 ≤ n) (h1 : n ≤ 1152921504606846976) : Calls Try.prog 42 #[.int .i64 n] w fun e w' => e = .returned (.int .i64 (n / 65536)) ∧ w = w' := by
  go_enter Try.func42, Try.ntmps42
  go_wp2_with fail
  all_goals
    obtain ⟨p1, p2, p3⟩ := tdiv_parts n
    have hs : n.tmod 65536 < 0 ∨ 0 ≤ n.tmod 65536 := by omega
    generalize n.tdiv 65536 = q at *
    generalize n.tmod 65536 = r at *
  · have hr : r < 0 := by assumption
    have e : wrap64 (q - 1) = q - 1 := IntWalk.wrap64_in _ (by omega)
    have e2 : n / 65536 = q - 1 := by omega
    go_ret
    exact ⟨by rw [e, e2]; rfl, rfl⟩
  · have hr : 0 ≤ r := by assumption
    have e2 : n / 65536 = q := by omega
    go_ret
    exact ⟨by rw [e2]; rfl, rfl⟩
set_option maxHeartbeats 1000000 in
theorem at_any (m : Nat → Int) (i k : Nat) (w : World) (hi : i < 4) (hk : k < 4) : Calls Try.prog 41 #[arr 16 m, .int .i64 i, .int .i64 k] w fun e w' => e = .returned (.int .i64 (m (4 * i + k))) ∧ Below w.heap.size w w' := by
  have h1 : (0 : Int) ≤ i := by omega
  have h2 : (0 : Int) ≤ k := by omega
  have h3 : (i : Int) < 4 := by omega
  have h4 : (k : Int) < 4 := by omega
  have O := Own.start w
  have hu := Try.underlying27
  go_enter Try.func41, Try.ntmps41
  go_wp2_with (refine wpList_box_own O (M.mat 16 m) rfl ?_; clear O; intro g w1 O; have c := O.cell 0 rfl (M.mat_get (a := m) (i := 4 * i + k) (by omega)))
  go_ret
  exact ⟨rfl, O.below⟩
def sumV (a b : Nat → Int) (n : Nat) : Value := .int .i64 (M.part a b n)
set_option maxHeartbeats 1000000 in
theorem product_any (a b : Nat → Int) (w : World) (ha : ∀ i, i < 4 → -268435456 ≤ a i ∧ a i ≤ 268435456) (hb : ∀ i, i < 4 → -268435456 ≤ b i ∧ b i ≤ 268435456) :
    Calls Try.prog 46 #[arr 4 a, arr 4 b] w fun e w' => e = .returned (.int .i64 (M.dot a b)) ∧ Below w.heap.size w w' := by
  have O := Own.start w
  have hu := Try.underlying61
  have HA := Lib.hid ha
  have HB := Lib.hid hb
  have HP := Lib.hid (M.part_le ha hb)
  clear ha hb
  go_enter Try.func46, Try.ntmps46
  go_wp2_with (first | (refine wpList_box_own (dst := some 2) O (M.mat 4 a) rfl ?_; clear O; intro g1 w1 O) | (refine wpList_box_own (dst := some 3) O (M.mat 4 b) rfl ?_; clear O; intro g2 w2 O))
  go_loopw [5, 7] (fun u v wr => ∃ k : Nat, k ≤ 4 ∧ v = .int .i64 k ∧ u = .int .i64 (M.part a b k) ∧ Own w wr [(g2, 61, M.mat 4 b), (g1, 61, M.mat 4 a)]) (fun _ v _ => 4 - (intOf v).toNat)
  case atStart => exact ⟨0, by omega, rfl, rfl, O⟩
  case round =>
    clear O
    obtain ⟨k, hk, rfl, rfl, O⟩ := hrel
    have q0 : (0 : Int) ≤ k := by omega
    by_cases hlt : k < 4
    · have q1 : (k : Int) < 4 := by omega
      have hm := M.mul_le (HA.out k hlt) (HB.out k hlt)
      have hp := HP.out k (by omega)
      have hps : M.part a b (k + 1) = M.part a b k + a k * b k := rfl
      have HS := Lib.hid hps
      clear hps
      go_wp2_with fail
      refine region_V (fun w2 => Own w w2 [(g2, 61, M.mat 4 b), (g1, 61, M.mat 4 a)]) [0, 1, 2, 3, 4, 5, 6, 7, 8] [some 10, some 11, some 12, some 13, some 14, some 15, some 16, some 17, some 18] [.int .i64 (M.part a b k), .int .i64 k, .pointer (some ⟨g1, k, none⟩), .int .i64 (a k), .int .i64 k, .pointer (some ⟨g2, k, none⟩), .int .i64 (b k), .int .i64 (a k * b k), .int .i64 (M.part a b (k + 1))] 1 (by kernel_rfl) (by kernel_rfl) (by rfl) (by rfl) (O.drew) (fun F hF => ?_)
      simp only [fillD, Act.put, List.setIfInBounds_toArray, List.set_cons_zero, List.set_cons_succ] at hF
      subst hF
      refine ⟨⟨does_want rfl (by rfl) (fun w' O K hK => ?_), does_want rfl (by rfl) (fun w' O K hK => ?_), does_want rfl (by rfl) (fun w' O K hK => ?_), does_want rfl (by rfl) (fun w' O K hK => ?_), does_want rfl (by rfl) (fun w' O K hK => ?_), does_want rfl (by rfl) (fun w' O K hK => ?_), does_want rfl (by rfl) (fun w' O K hK => ?_), does_want rfl (by rfl) (fun w' O K hK => ?_), does_want rfl (by rfl) (fun w' O K hK => ?_), trivial⟩, fun w' O => ?_⟩
      · go_simp
        exact hK _ O
      · go_simp
        exact hK _ O
      · go_simp
        exact hK _ O
      · have c := O.cell 1 rfl (M.mat_get (a := a) (i := k) hlt)
        go_simp
        exact hK _ O
      · go_simp
        exact hK _ O
      · go_simp
        exact hK _ O
      · have c := O.cell 0 rfl (M.mat_get (a := b) (i := k) hlt)
        go_simp
        exact hK _ O
      · have e : IntKind.i64.wrap (a k * b k) = a k * b k := IntWalk.i64_in _ (by omega)
        go_simp
        exact hK _ O
      · have e : IntKind.i64.wrap (M.part a b k + a k * b k) = M.part a b (k + 1) := by rw [HS.out]; exact IntWalk.i64_in _ (by omega)
        go_simp
        exact hK _ O
      refine wpAny_one (i := 9) (by kernel_rfl) rfl (fun K hK => ?_)
      go_simp
      refine hK _ _ ?_
      clear hK K
      try simp only [Act.put, List.setIfInBounds_toArray, List.set_cons_zero, List.set_cons_succ]
      refine wpAny_done (by kernel_rfl) ?_ _
      go_wp2_with fail
      go_roundw
      case rel => exact ⟨k + 1, by omega, by go_num, rfl, O⟩
      case measure => simp [intOf]; omega
    · have q1 : ¬ (k : Int) < 4 := by omega
      obtain rfl : k = 4 := by omega
      go_wp2_with fail
      go_ret
      exact ⟨rfl, O.below⟩
end Go.Proofs.Ythcieapfpgejdaa
