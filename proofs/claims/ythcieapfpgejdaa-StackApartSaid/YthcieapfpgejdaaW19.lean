/- Contracts: the document's New; small. -/
import Derived.Test.YthcieapfpgejdaaW18
namespace Go.Proofs.Ythcieapfpgejdaa
open Go.ChangeShapes Go.WideShapes Go.ChangeAt Go.RowKit
set_option linter.unusedVariables false
set_option linter.unusedSimpArgs false

theorem built23s (g h : Nat) : Try.prog.built 23 [(0, .slice (some ⟨g, 0, none⟩) 1 1), (1, .slice (some ⟨h, 0, none⟩) 1 1)] = some #[.slice (some ⟨g, 0, none⟩) 1 1, .slice (some ⟨h, 0, none⟩) 1 1] := by kernel_rfl
theorem built25s (g h : Nat) : Try.prog.built 25 [(1, .agg #[.slice (some ⟨g, 0, none⟩) 1 1, .slice (some ⟨h, 0, none⟩) 1 1])] = some #[.int .i64 0, .slice (some ⟨g, 0, none⟩) 1 1, .slice (some ⟨h, 0, none⟩) 1 1] := by kernel_rfl
def twoE (w : World) (g h : Nat) (i : Nat) : Ent := if i = 0 then ⟨w.heap.size, some ⟨g, 0, none⟩, 1, [M.unit]⟩ else ⟨w.heap.size, some ⟨h, 0, none⟩, 1, [M.unit]⟩
set_option maxHeartbeats 4000000 in
theorem rnew_any (w : World) : Calls Try.prog 25 #[] w (RetS w Stk.new) := by
  have O := OwnL.start w [] (by simp)
  have hu2 := Try.underlying25
  go_enter Try.func25, Try.ntmps25
  go_wp2_with (first | ((with_reducible refine at_alloc 0 ?_); refine wpList_alloc_ls O (sv 0 (noL 0)) zero25 ?_; clear O; intro g0 w1 O) | (go_at_call 39; refine (runit_any _).mono ?_; rintro e w6 ⟨rfl, hb⟩; replace O := O.call hb; clear hb) | ((with_reducible refine at_lit 2 ?_); refine wpList_lit_ls rfl O M.unit rfl ?_; clear O; intro ga w7 O) | ((with_reducible refine at_lit 4 ?_); refine wpList_lit_ls rfl O M.unit rfl ?_; clear O; intro gb w7 O) | ((with_reducible refine at_build 5 ?_); refine wpList_build_own [(0, .slice (some ⟨ga, 0, none⟩) 1 1), (1, .slice (some ⟨gb, 0, none⟩) 1 1)] #[.slice (some ⟨ga, 0, none⟩) 1 1, .slice (some ⟨gb, 0, none⟩) 1 1] (by kernel_rfl) (built23s _ _) ?_) | ((with_reducible refine at_build 6 ?_); refine wpList_build_own [(1, .agg #[.slice (some ⟨ga, 0, none⟩) 1 1, .slice (some ⟨gb, 0, none⟩) 1 1])] (sv 0 (twoE w ga gb)).toArray (by kernel_rfl) (built25s _ _) ?_) | ((with_reducible refine at_store 0 ?_); refine wpList_put_ls O 0 (sv (0) (twoE w ga gb)) rfl rfl rfl (s25 _ _) (sv_len _ _ _ _) (sv_one _ _) ?_; clear O; intro w8 O))
  exact bodyPost_ret (v := .agg (sv 0 (twoE w ga gb)).toArray) (res_ls rfl O 0 rfl rfl Try.underlying25 rfl (s25 _ _)) rfl ⟨_, rfl, newS_of (s := Stk.new) O (twoE w ga gb) (fun i hi => by
    rcases i with _ | _ | i
    · simp [twoE]
    · simp [twoE]
    · omega) (fun i hi => by
    rcases i with _ | _ | i
    · exact ⟨rfl, rfl⟩
    · exact ⟨rfl, rfl⟩
    · omega), O.below⟩
theorem small_any (m : Int) (L : Nat → Ent) (w : World) : Calls Try.prog 7 #[.agg (sv m L).toArray] w fun e w' => e = .returned (.bool (decide ((L 0).l.length ≤ 12) && decide ((L 1).l.length ≤ 12))) ∧ Below w.heap.size w w' := by
  have O := OwnL.start w [] (by simp)
  have E0 : (L 0).val = .slice (L 0).A (L 0).l.length (L 0).c := rfl
  have E1 : (L 1).val = .slice (L 1).A (L 1).l.length (L 1).c := rfl
  obtain ⟨a, ha⟩ : ∃ a, (L 0).l.length = a := ⟨_, rfl⟩
  obtain ⟨b, hb⟩ : ∃ b, (L 1).l.length = b := ⟨_, rfl⟩
  rw [ha] at E0 ⊢
  rw [hb] at E1 ⊢
  clear ha hb
  go_enter Try.func7, Try.ntmps7
  by_cases h0 : a ≤ 12
  · have q0 : decide ((a : Int) ≤ 12) = true := by simp; omega
    by_cases h1 : b ≤ 12
    · have q1 : decide ((b : Int) ≤ 12) = true := by simp; omega
      have E : Hid ((decide (a ≤ 12) && decide (b ≤ 12)) = true) := by show _ = _; simp [h0, h1]
      clear h0 h1
      go_wp2_with (first | ((with_reducible refine at_box 1 ?_); refine wpList_box_ls O (sv m L) rfl ?_; clear O; intro g1 w1 O) | ((with_reducible refine at_index 4 ?_); refine wpList_in_ls rfl Try.underlying23 sizeOf22 (by decide) (0) rfl rfl (rfl) (by omega) ?_) | ((with_reducible refine at_load 5 ?_); refine wpList_cell_ls rfl O 0 rfl (rfl) rfl agg22 rfl ?_) | ((with_reducible refine at_index 10 ?_); refine wpList_in_ls rfl Try.underlying23 sizeOf22 (by decide) (1) rfl rfl (rfl) (by omega) ?_) | ((with_reducible refine at_load 11 ?_); refine wpList_cell_ls rfl O 0 rfl (rfl) rfl agg22 rfl ?_))
      go_ret
      exact ⟨congrArg (fun b => Ending.returned (.bool b)) E.out.symm, O.below⟩
    · have q1 : decide ((b : Int) ≤ 12) = false := by simp; omega
      have E : Hid ((decide (a ≤ 12) && decide (b ≤ 12)) = false) := by show _ = _; simp [h0, h1]
      clear h0 h1
      go_wp2_with (first | ((with_reducible refine at_box 1 ?_); refine wpList_box_ls O (sv m L) rfl ?_; clear O; intro g1 w1 O) | ((with_reducible refine at_index 4 ?_); refine wpList_in_ls rfl Try.underlying23 sizeOf22 (by decide) (0) rfl rfl (rfl) (by omega) ?_) | ((with_reducible refine at_load 5 ?_); refine wpList_cell_ls rfl O 0 rfl (rfl) rfl agg22 rfl ?_) | ((with_reducible refine at_index 10 ?_); refine wpList_in_ls rfl Try.underlying23 sizeOf22 (by decide) (1) rfl rfl (rfl) (by omega) ?_) | ((with_reducible refine at_load 11 ?_); refine wpList_cell_ls rfl O 0 rfl (rfl) rfl agg22 rfl ?_))
      go_ret
      exact ⟨congrArg (fun b => Ending.returned (.bool b)) E.out.symm, O.below⟩
  · have q0 : decide ((a : Int) ≤ 12) = false := by simp; omega
    have E : Hid ((decide (a ≤ 12) && decide (b ≤ 12)) = false) := by show _ = _; simp [h0]
    clear h0
    go_wp2_with (first | ((with_reducible refine at_box 1 ?_); refine wpList_box_ls O (sv m L) rfl ?_; clear O; intro g1 w1 O) | ((with_reducible refine at_index 4 ?_); refine wpList_in_ls rfl Try.underlying23 sizeOf22 (by decide) (0) rfl rfl (rfl) (by omega) ?_) | ((with_reducible refine at_load 5 ?_); refine wpList_cell_ls rfl O 0 rfl (rfl) rfl agg22 rfl ?_) | ((with_reducible refine at_index 10 ?_); refine wpList_in_ls rfl Try.underlying23 sizeOf22 (by decide) (1) rfl rfl (rfl) (by omega) ?_) | ((with_reducible refine at_load 11 ?_); refine wpList_cell_ls rfl O 0 rfl (rfl) rfl agg22 rfl ?_))
    go_ret
    exact ⟨congrArg (fun b => Ending.returned (.bool b)) E.out.symm, O.below⟩
end Go.Proofs.Ythcieapfpgejdaa
