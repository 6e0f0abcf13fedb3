/- Contract: Prims and Count, both ways. -/
import Derived.Test.YtadpejblhkcjgaaD4
namespace Go.Proofs.Ytadpejblhkcjgaa
open Go.ChangeShapes Go.WideShapes Go.ChangeAt Go.RowKit
set_option linter.unusedVariables false
set_option linter.unusedSimpArgs false

theorem prims_any (m : Int) (fl : List Bool) {lo : Nat} {A' : Option Addr} {c' : Nat} (first : Bool) (w : World) (hf : Lies w free (bE lo A' c' fl)) : Calls Try.prog 9 #[.int .i64 m, .slice A' fl.length c', .bool first] w (RetP w (P.prims m fl first).1 (P.prims m fl first).2) := by
  by_cases hm : m < 0 ∨ 9 < m
  · have h : P.prims m fl first = ([], 1) := by unfold P.prims; rw [if_pos hm]
    rw [h]
    exact prims_bad m A' _ c' first hm w
  · obtain ⟨k, rfl⟩ : ∃ k : Nat, m = k := ⟨m.toNat, by omega⟩
    by_cases hn : 256 < fl.length
    · have h : P.prims k fl first = ([], 8) := by unfold P.prims; rw [if_neg hm, if_pos hn]
      rw [h]
      exact prims_full k A' _ c' first (by omega) hn w
    · have h : P.prims k fl first = (P.list (P.shp k) fl first, 0) := by unfold P.prims; rw [if_neg hm, if_neg hn]; rfl
      rw [h]
      exact prims_in k fl first (by omega) (by omega) w hf
theorem rprims_any (m : Int) (fl : List Bool) {lo : Nat} {A' : Option Addr} {c' : Nat} (first : Bool) (w : World) (hf : Lies w free (bE lo A' c' fl)) : Calls Try.prog 10 #[.int .i64 m, .slice A' fl.length c', .bool first] w (RetP w (P.prims m fl first).1 (P.prims m fl first).2) := by
  by_cases hm : m < 0 ∨ 9 < m
  · have h : P.prims m fl first = ([], 1) := by unfold P.prims; rw [if_pos hm]
    rw [h]
    exact rprims_bad m A' _ c' first hm w
  · obtain ⟨k, rfl⟩ : ∃ k : Nat, m = k := ⟨m.toNat, by omega⟩
    by_cases hn : 256 < fl.length
    · have h : P.prims k fl first = ([], 8) := by unfold P.prims; rw [if_neg hm, if_pos hn]
      rw [h]
      exact rprims_full k A' _ c' first (by omega) hn w
    · have h : P.prims k fl first = (P.list (P.shp k) fl first, 0) := by unfold P.prims; rw [if_neg hm, if_neg hn]; rfl
      rw [h]
      by_cases h9 : k = 9
      · subst h9
        exact rprims_nine fl first (by omega) w hf
      · exact rprims_in k fl first (by omega) (by omega) w hf
theorem P.prims_len (m : Int) (fl : List Bool) (first : Bool) : (P.prims m fl first).1.length = P.count m fl.length := by
  unfold P.prims P.count
  by_cases hm : m < 0 ∨ 9 < m
  · rw [if_pos hm, if_pos (by omega)]; rfl
  · rw [if_neg hm]
    by_cases hn : 256 < fl.length
    · rw [if_pos hn, if_pos (by omega)]; rfl
    · rw [if_neg hn, if_neg (by omega)]
      simp [P.list]
theorem bools_rep (n : Nat) (b : Bool) : bools (List.replicate n b) = List.replicate n (.bool b) := by simp [bools]
/-- New flags, none of them set. -/
theorem bE_rep (lo : Nat) (A : Option Addr) (n : Nat) : (⟨lo, A, n, n, 1, List.replicate n (.bool false)⟩ : Ent) = bE lo A n (List.replicate n false) := by
  unfold bE
  rw [bools_rep, List.length_replicate]
set_option maxRecDepth 100000 in
set_option maxHeartbeats 4000000 in
theorem rcount_any (m n : Int) (w : World) : Calls Try.prog 13 #[.int .i64 m, .int .i64 n] w fun e w' => e = .returned (.int .i64 (P.count m n : Nat)) ∧ Below w.heap.size w w' := by
  have O := Held.start w [] (by simp)
  by_cases h1 : n < 1
  · have hc : P.count m n = 0 := by
      by_cases hm : m < 0 ∨ 9 < m
      · unfold P.count; rw [if_pos (by omega)]
      · obtain ⟨k, rfl⟩ : ∃ k : Nat, m = k := ⟨m.toNat, by omega⟩
        have := (P.need_pos (show k ≤ 9 by omega)).1
        exact P.count_low (show k ≤ 9 by omega) (by omega)
    rw [hc]
    have q1 : decide ((n : Int) < 1) = true := by simpa using h1
    clear h1 hc
    go_enter Try.func13, Try.ntmps13
    go_wp2_with fail
    go_ret
    exact ⟨rfl, O.below⟩
  have q1 : decide ((n : Int) < 1) = false := by simp; omega
  by_cases h2 : 256 < n
  · have hc : P.count m n = 0 := by unfold P.count; rw [if_pos (by omega)]
    rw [hc]
    have q2 : decide ((256 : Int) < n) = true := by simpa using h2
    clear h1 h2 hc
    go_enter Try.func13, Try.ntmps13
    go_wp2_with fail
    go_ret
    exact ⟨rfl, O.below⟩
  obtain ⟨j, rfl⟩ : ∃ j : Nat, n = j := ⟨n.toNat, by omega⟩
  have q2 : decide ((256 : Int) < j) = false := by simp; omega
  have hj : j ≤ 256 := by omega
  have HC : Hid ((P.prims m (List.replicate j false) false).1.length = P.count m j) := by show _ = _; rw [P.prims_len, List.length_replicate]
  clear h1 h2
  go_enter Try.func13, Try.ntmps13
  go_wp2_with (first | ((with_reducible refine at_make_ 16 ?_); refine wpList_make_h rfl O (.bool false) 1 info4b rfl Try.underlying22 (j) rfl rfl (by omega) (by decide) ?_; clear O; intro A0 w2 O; rw [bE_rep] at O) | (go_at_call 10; have hpr := rprims_any m (List.replicate j false) false _ (O.arg List.mem_cons_self); rw [List.length_replicate] at hpr; refine hpr.mono ?_; clear hpr; rintro e w3 hr; obtain ⟨A, c, l, hl, rfl, O2⟩ := O.gainP hr; clear O hr; have O := O2; clear O2; have HL := Lib.hid hl; clear hl))
  go_ret
  rw [← HC.out, ← HL.out, List.length_map]
  exact ⟨rfl, O.below⟩
end Go.Proofs.Ytadpejblhkcjgaa
