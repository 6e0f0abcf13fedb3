/- The iterator's contract. -/
import Derived.Test.YtheolajpjpnfjaaYd
import Derived.RangeFuncNested
import Derived.RangeFuncLeaves
import Derived.LoopNIn
import Derived.LoopIn
import Derived.TacticsInMore
namespace Go.Proofs.Ytheolajpjpnfjaa
open Go.ChangeShapes Go.WideShapes Go.ChangeAt Go.RowKit
set_option linter.unusedVariables false
set_option linter.unusedSimpArgs false

attribute [local go_sem] Oper.semAt_some
theorem at_load_in (d : Nat) {F : Fence} {m : Nat} {ops : Array Oper} {Q : Exit → Act → World → Prop} {a : Act} {w : World} {rest : List Oper} {ty : TypeId} {pos : String} {after : Array Edge} {t : TypeId} {x : Operand} {gd : Option (Nat × Bool)}
    (h : wpListIn F m Try.prog ops Q (⟨some d, .load t x, ty, pos, after, gd⟩ :: rest) a w) : wpListIn F m Try.prog ops Q (⟨some d, .load t x, ty, pos, after, gd⟩ :: rest) a w := h
set_option maxRecDepth 100000 in
set_option maxHeartbeats 8000000 in
theorem from1_any (m : Nat) (a0 a1 b0 b1 tv f s n k0 : Int) (gl gk : Nat) (xs : List (Int × Int × Int)) (hk0 : 0 ≤ k0) (hn0 : n ≤ 4194320) (hn : k0 + xs.length = n)
    (HP : ∀ (j : Nat) x, xs[j]? = some x → ∀ w, Calls Try.prog 28 #[.agg (wl a0 a1 b0 b1 tv f s n).toArray, .int .i64 (k0 + j)] w fun e w' => e = .returned (arr 3 (sF x)) ∧ Below w.heap.size w w')
    (l : Nat) (J Jx : List (Int × Int × Int) → World → Prop) (hJ : ∀ pre w w', J pre w → Below w.heap.size w w' → J pre w')
    (hY : ∀ pre x W, J pre W → pre.length < xs.length → YieldAt Fence.wide (m - 1) Try.prog l #[arr 3 (sF x)] W fun e W' => (e = .returned (.bool true) ∧ J (pre ++ [x]) W' ∧ W'.heap[gl]? = W.heap[gl]?) ∨ (e = .returned (.bool false) ∧ Jx (pre ++ [x]) W'))
    (W : World) (hl : W.heap[gl]? = some (.cells (wl a0 a1 b0 b1 tv f s n).toArray 52 (0, 0))) (hk : W.heap[gk]? = some (.cells #[.int .i64 k0] 3 (0, 0))) (h0 : J [] W) :
    CallsIn Fence.wide m Try.prog 36 #[.func (.yield l) #[] #[], .pointer (some ⟨gk, 0, none⟩), .pointer (some ⟨gl, 0, none⟩)] W fun e W' => (∃ v, e = .returned v) ∧ ((∃ ys, ys = xs ∧ J ys W') ∨ (∃ pre, pre <+: xs ∧ Jx pre W')) := by
  have hkc : W.cell? ⟨gk, 0, none⟩ = some (.int .i64 k0) := by simp [World.cell?, hk]
  replace hJ := Lib.hid hJ
  replace hY := Lib.hid hY
  replace HP := Lib.hid HP
  have HLN := Lib.hid hn
  clear hk
  refine callsIn_of_wp Try.func36 rfl trivial ?_ rfl
  simp only [Try.ntmps36, List.size_toArray, List.length_cons, List.length_nil, Nat.reduceAdd, Nat.reduceSub, Array.replicate_succ, Array.replicate_zero, List.push_toArray, List.append_toArray, List.nil_append, List.cons_append]
  gi_wp2
  gi_loopw [4] (fun p wr => ∃ j : Nat, p = .int .i64 (k0 + j) ∧ j ≤ xs.length ∧ J (xs.take j) wr ∧ wr.heap[gl]? = some (.cells (wl a0 a1 b0 b1 tv f s n).toArray 52 (0, 0))) (fun p _ => xs.length - (intOf p - k0).toNat)
  case atStart =>
    exact ⟨0, by simp, Nat.zero_le _, h0, hl⟩
  case round =>
    obtain ⟨j, rfl, hj, hJs, hg⟩ := hrel
    have hc : wr.cell? ⟨gl, 7, none⟩ = some (.int .i64 n) := (see1 hg).cell 0 rfl rfl
    by_cases hlt : j < xs.length
    · have c1 : k0 + j < n := by omega
      obtain ⟨x, hx⟩ : ∃ x, xs[j]? = some x := ⟨xs[j], List.getElem?_eq_getElem hlt⟩
      have CP := HP.out j x hx
      gi_wp2_with (first | ((with_reducible refine at_load_in 12 ?_); refine wpListIn_one rfl (by intro c h; cases h) (fun K hK => ?_); refine wp_whole (see1 hg) 0 rfl rfl Try.underlying52 rfl (sWl a0 a1 b0 b1 tv f s n) (hK _ _ ?_)) | (refine ⟨trivial, fun h => (by cases h), ?_⟩; gi_at_call 28; refine (callsIn_wide.2 (CP _)).mono ?_; rintro e w2 ⟨rfl, hb⟩; have hJ2 := hJ.out _ _ _ hJs hb; obtain ⟨fn, tmps, assign, body, hy, hR⟩ := hY.out _ x w2 hJ2 (by rw [List.length_take]; omega); have hg2 := (hb.block gl (Array.getElem?_eq_some_iff.1 hg).1).trans hg))
      refine ⟨fun h => (by cases h), ?_⟩
      refine hR.mono ?_
      rintro e W3 (⟨rfl, hJ3, hk3⟩ | ⟨rfl, hJx3⟩)
      · have W1 : wrap64 (k0 + j + 1) = k0 + j + 1 := IntWalk.wrap64_in _ (by omega)
        gi_wp2
        go_roundw
        case rel => exact ⟨j + 1, by go_num, by omega, by rw [List.take_add_one, hx]; exact hJ3, hk3.trans hg2⟩
        case measure => simp [intOf]; omega
      · gi_wp2
        go_end0
        exact ⟨⟨_, rfl⟩, .inr ⟨xs.take j ++ [x], ⟨xs.drop (j + 1), by rw [List.append_assoc]; exact (cut_at hx).symm⟩, hJx3⟩⟩
    · have c1 : ¬ k0 + j < n := by omega
      gi_wp2
      refine ⟨trivial, ?_⟩
      gi_wp2
      refine ⟨fun f h => (by cases h), ?_⟩
      gi_wp2
      go_end0
      exact ⟨⟨_, rfl⟩, .inl ⟨xs.take j, by rw [List.take_of_length_le (by omega)], hJs⟩⟩
end Go.Proofs.Ytheolajpjpnfjaa
