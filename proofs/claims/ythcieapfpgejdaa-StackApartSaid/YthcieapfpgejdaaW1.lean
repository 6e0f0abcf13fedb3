/- Contracts: isMode, last, below, rightList, Right. -/
import Derived.Test.YthcieapfpgejdaaLs2
namespace Go.Proofs.Ythcieapfpgejdaa
open Go.ChangeShapes Go.WideShapes Go.ChangeAt Go.RowKit
set_option linter.unusedVariables false
set_option linter.unusedSimpArgs false

theorem at_index (d : Nat) {P : Program} {ops : Array Oper} {Q : Exit → Act → World → Prop} {a : Act} {w : World} {rest : List Oper} {ty : TypeId} {pos : String} {after : Array Edge} {t : TypeId} {x y : Operand} {gd : Option (Nat × Bool)} (h : wpList P ops Q (⟨some d, .indexAddr t x y, ty, pos, after, gd⟩ :: rest) a w) : wpList P ops Q (⟨some d, .indexAddr t x y, ty, pos, after, gd⟩ :: rest) a w := h
theorem at_idx (d : Nat) {P : Program} {ops : Array Oper} {Q : Exit → Act → World → Prop} {a : Act} {w : World} {rest : List Oper} {ty : TypeId} {pos : String} {after : Array Edge} {t : TypeId} {x y : Operand} {gd : Option (Nat × Bool)} (h : wpList P ops Q (⟨some d, .index t x y, ty, pos, after, gd⟩ :: rest) a w) : wpList P ops Q (⟨some d, .index t x y, ty, pos, after, gd⟩ :: rest) a w := h
theorem at_lit (d : Nat) {P : Program} {ops : Array Oper} {Q : Exit → Act → World → Prop} {a : Act} {w : World} {rest : List Oper} {ty : TypeId} {pos : String} {after : Array Edge} {t : TypeId} {n : Nat} {x : Array (Nat × Operand)} {gd : Option (Nat × Bool)} (h : wpList P ops Q (⟨some d, .buildSlice t n x, ty, pos, after, gd⟩ :: rest) a w) : wpList P ops Q (⟨some d, .buildSlice t n x, ty, pos, after, gd⟩ :: rest) a w := h
theorem isMode_any (m : Int) (w : World) : Calls Try.prog 30 #[.int .i64 m] w fun e w' => e = .returned (.bool (Stk.isMode m)) ∧ w = w' := by
  go_enter Try.func30, Try.ntmps30
  by_cases h0 : m = 0
  · subst h0
    go_wp2
    go_ret
    exact ⟨rfl, rfl⟩
  · by_cases h1 : m = 1
    · subst h1
      go_wp2
      go_ret
      exact ⟨rfl, rfl⟩
    · have e : Stk.isMode m = false := by simp [Stk.isMode, h0, h1]
      have g0 : (m == 0) = false := by simpa using h0
      have g1 : (m == 1) = false := by simpa using h1
      rw [e]
      clear e
      go_wp2
      go_ret
      exact ⟨rfl, rfl⟩
set_option maxHeartbeats 2000000 in
theorem last_any (x : Ent) (w : World) (hx : Lies w [] x) (hne : x.l ≠ []) (hs : x.l.length ≤ 100) : Calls Try.prog 31 #[x.val] w fun e w' => e = .returned (arr 16 (Stk.last x.l)) ∧ Below w.heap.size w w' := by
  obtain ⟨lo, A, c, l⟩ := x
  have O := OwnL.start w [⟨lo, A, c, l⟩] (by simpa using hx)
  obtain ⟨n, hn⟩ : ∃ n : Nat, l.length = n + 1 := by
    have : l.length ≠ 0 := fun e => hne (List.eq_nil_of_length_eq_zero e)
    exact ⟨l.length - 1, by omega⟩
  have hl : l[n]? = some (Stk.last l) := by
    have := Stk.last_mem hne
    rwa [hn, Nat.add_sub_cancel] at this
  have hc : n + 1 ≤ c := by rw [← hn]; exact hx.1
  have hn9 : n ≤ 100 := by have : l.length ≤ 100 := hs; omega
  have e1 : wrap64 (n : Int) = n := by unfold wrap64; omega
  have HL := Lib.hid hl
  have HN := Lib.hid hn
  clear hl hs
  go_enter Try.func31, Try.ntmps31
  simp only [Ent.val, hn]
  clear hn
  go_wp2_with (first | ((with_reducible refine at_alloc 2 ?_); refine wpList_alloc_ls O (M.mat 16 M.zero) zero23 ?_; clear O; intro g2 w1 O) | ((with_reducible refine at_index 7 ?_); refine wpList_at_ls rfl Try.underlying22 sizeOf27 O 0 rfl rfl (n) rfl (rfl) (by omega) (by have := HN.out; omega) ?_) | ((with_reducible refine at_load 8 ?_); refine wpList_elem_ls rfl O 0 rfl (n) (HL.out) rfl Try.underlying27 rfl size23 ?_) | ((with_reducible refine at_store 2 ?_); refine wpList_put_ls O 0 (M.mat 16 (Stk.last l)) rfl rfl rfl (s23 _) (M.mat_len2 _ _ _) (M.mat_one _ _) ?_; clear O; intro w2 O))
  exact bodyPost_ret (v := arr 16 (Stk.last l)) (res_ls rfl O 0 rfl rfl Try.underlying27 rfl (s23 _)) rfl ⟨rfl, O.below⟩
theorem below_any (x : Ent) (w : World) (hx : Lies w [] x) (hne : x.l ≠ []) (hs : x.l.length ≤ 100) : Calls Try.prog 35 #[x.val] w fun e w' => e = .returned (Ent.val ⟨x.lo, x.A, x.c, x.l.dropLast⟩) ∧ w = w' := by
  obtain ⟨lo, A, c, l⟩ := x
  obtain ⟨n, hn⟩ : ∃ n : Nat, l.length = n + 1 := by
    have : l.length ≠ 0 := fun e => hne (List.eq_nil_of_length_eq_zero e)
    exact ⟨l.length - 1, by omega⟩
  have hc : n + 1 ≤ c := by rw [← hn]; exact hx.1
  have hn9 : n ≤ 100 := by have : l.length ≤ 100 := hs; omega
  have e1 : wrap64 (n : Int) = n := by unfold wrap64; omega
  have e2 := run_cut6 A (n := n + 1) (c := c) (k := n) (by omega)
  have e3 : l.dropLast.length = n := by rw [List.length_dropLast, hn]; rfl
  go_enter Try.func35, Try.ntmps35
  simp only [Ent.val, hn, e3]
  clear hn e3 hx hne hs
  go_wp2
  go_ret
  exact ⟨rfl, rfl⟩
end Go.Proofs.Ythcieapfpgejdaa
