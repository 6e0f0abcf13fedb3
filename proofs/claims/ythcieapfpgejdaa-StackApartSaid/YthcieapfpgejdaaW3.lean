/- Contract: Right. -/
import Derived.Test.YthcieapfpgejdaaW2
namespace Go.Proofs.Ythcieapfpgejdaa
open Go.ChangeShapes Go.WideShapes Go.ChangeAt Go.RowKit
set_option linter.unusedVariables false
set_option linter.unusedSimpArgs false

theorem size23s : (Try.prog.info? 23).map (·.size) = some 2 := by kernel_rfl
theorem mid2 (m : Int) (L : Nat → Ent) {j : Nat} {u : Value} (h : [(L 0).val, (L 1).val][j]? = some u) : (sv m L)[1 + j]? = some u := by
  rw [Nat.add_comm]
  exact h
/-- The first k lists may be. -/
def okK (k : Nat) (s : Stk) : Prop := ∀ i, i < k → Stk.okL (s.l i) = true
theorem right_of (m : Int) (L : Nat → Ent) (h : Stk.isMode m = true) (hk : okK 2 (stk m L)) : Stk.right (stk m L) = true := Stk.right_iff.2 ⟨Stk.isMode_iff.1 h, hk⟩
theorem right_no (m : Int) (L : Nat → Ent) {i : Nat} (hi : i < 2) (h : Stk.okL (L i).l = false) : Stk.right (stk m L) = false := by
  rw [← Bool.not_eq_true]
  intro h2
  have := (Stk.right_iff.1 h2).2 i hi
  rw [show (stk m L).l i = (L i).l from rfl, h] at this
  cases this
set_option maxHeartbeats 4000000 in
theorem right6_any (m : Int) (L : Nat → Ent) (w : World) (hL : ∀ i, i < 2 → Lies w [] (L i)) : Calls Try.prog 22 #[.agg (sv m L).toArray] w fun e w' => e = .returned (.bool (Stk.right (stk m L))) ∧ Below w.heap.size w w' := by
  have O := OwnL.start w [L 0, L 1] (two_all hL)
  clear hL
  go_enter Try.func22, Try.ntmps22
  cases hm : Stk.isMode m
  · have e : Stk.right (stk m L) = false := by simp [Stk.right, stk, hm]
    rw [e]
    clear e
    have HM := Lib.hid hm
    clear hm
    go_wp2_with (first | ((with_reducible refine at_box 1 ?_); refine wpList_box_ls O (sv m L) rfl ?_; clear O; intro g1 w1 O) | ((with_reducible refine at_load 6 ?_); refine wpList_cell_ls rfl O 0 rfl (rfl) rfl agg3 rfl ?_) | (go_at_call 30; refine (isMode_any m _).mono ?_; rw [HM.out]; rintro e w6 ⟨rfl, rfl⟩))
    go_ret
    exact ⟨rfl, O.below⟩
  · have HM := Lib.hid hm
    clear hm
    go_wp2_with (first | ((with_reducible refine at_box 1 ?_); refine wpList_box_ls O (sv m L) rfl ?_; clear O; intro g1 w1 O) | ((with_reducible refine at_load 6 ?_); refine wpList_cell_ls rfl O 0 rfl (rfl) rfl agg3 rfl ?_) | (go_at_call 30; refine (isMode_any m _).mono ?_; rw [HM.out]; rintro e w6 ⟨rfl, rfl⟩) | ((with_reducible refine at_load 10 ?_); refine wpList_mid_ls rfl O 0 rfl [(L 0).val, (L 1).val] (by intro j u hu; exact mid2 m L hu) rfl Try.underlying23 rfl size23s ?_))
    go_loopw [11] (fun u wr => ∃ k : Nat, k ≤ 2 ∧ u = .int .i64 k ∧ okK k (stk m L) ∧ OwnL w wr [(g1, 25, sv m L)] [L 0, L 1]) (fun u _ => 2 - (intOf u).toNat)
    case atStart => exact ⟨0, by omega, rfl, fun i hi => absurd hi (by omega), O⟩
    case round =>
      clear O
      obtain ⟨k, hk, rfl, hall, O⟩ := hrel
      have HA := Lib.hid hall
      clear hall
      have q0 : (0 : Int) ≤ k := by omega
      by_cases hlt : k < 2
      · have q1 : (k : Int) < 2 := by omega
        cases hr : Stk.okL (L k).l
        · have e : Stk.right (stk m L) = false := right_no m L hlt hr
          have E := Lib.hid e
          clear e
          have HR := Lib.hid hr
          clear hr
          go_wp2_with (first | ((with_reducible refine at_idx 13 ?_); refine wpList_idx rfl Try.underlying23 sizeOf22 agg22 [(L 0).val, (L 1).val] rfl k rfl rfl hlt (sv_at' m L hlt) ?_) | (go_at_call 37; refine (rightList_any (L k) _ (O.ret k (two_at L hlt))).mono ?_; rw [HR.out]; rintro e w6 ⟨rfl, hb⟩; replace O := O.call hb; clear hb))
          go_ret
          exact ⟨congrArg (fun b => Ending.returned (.bool b)) E.out.symm, O.below⟩
        · have HR := Lib.hid hr
          clear hr
          go_wp2_with (first | ((with_reducible refine at_idx 13 ?_); refine wpList_idx rfl Try.underlying23 sizeOf22 agg22 [(L 0).val, (L 1).val] rfl k rfl rfl hlt (sv_at' m L hlt) ?_) | (go_at_call 37; refine (rightList_any (L k) _ (O.ret k (two_at L hlt))).mono ?_; rw [HR.out]; rintro e w6 ⟨rfl, hb⟩; replace O := O.call hb; clear hb))
          go_roundw
          case rel =>
            refine ⟨k + 1, by omega, by go_num, fun i hi => ?_, O⟩
            by_cases e : i = k
            · subst e
              exact HR.out
            · exact HA.out i (by omega)
          case measure => simp [intOf]; omega
      · have q1 : ¬ (k : Int) < 2 := by omega
        obtain rfl : k = 2 := by omega
        have e : Stk.right (stk m L) = true := right_of m L HM.out HA.out
        have E := Lib.hid e
        clear e
        go_wp2
        go_ret
        exact ⟨congrArg (fun b => Ending.returned (.bool b)) E.out.symm, O.below⟩
end Go.Proofs.Ythcieapfpgejdaa
