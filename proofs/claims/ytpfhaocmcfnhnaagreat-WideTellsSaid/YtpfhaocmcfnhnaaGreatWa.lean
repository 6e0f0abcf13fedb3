/- Contracts: sign, abs. -/
import Derived.Test.YtpfhaocmcfnhnaaGreatTy
import Derived.Test.YtpfhaocmcfnhnaaGreatDm
namespace Go.Proofs.YtpfhaocmcfnhnaaGreat
open Go.ChangeShapes Go.WideShapes Go.ChangeAt Go.RowKit
set_option linter.unusedVariables false
set_option linter.unusedSimpArgs false

namespace DM
/-- Below 0, 0, above: a number, then what is less than any, then what is less than any part of that. -/
def sg (a b c : Int) : Int := if a < 0 then -1 else if 0 < a then 1 else if b < 0 then -1 else if 0 < b then 1 else if c < 0 then -1 else if 0 < c then 1 else 0
theorem sg_first {q : Nat → Int} {k : Nat} (hk : k < 3) (h0 : ∀ i, i < k → q i = 0) : (q k < 0 → sg (q 0) (q 1) (q 2) = -1) ∧ (0 < q k → sg (q 0) (q 1) (q 2) = 1) := by
 unfold sg
 rcases (by omega : k = 0 ∨ k = 1 ∨ k = 2) with rfl | rfl | rfl
 ·
  refine ⟨fun h => if_pos h, fun h => ?_⟩
  rw [if_neg (by omega), if_pos h]
 ·
  have := h0 0 (by omega)
  refine ⟨fun h => ?_, fun h => ?_⟩
  · rw [if_neg (by omega), if_neg (by omega), if_pos h]
  · rw [if_neg (by omega), if_neg (by omega), if_neg (by omega), if_pos h]
 ·
  have := h0 0 (by omega)
  have := h0 1 (by omega)
  refine ⟨fun h => ?_, fun h => ?_⟩
  · rw [if_neg (by omega), if_neg (by omega), if_neg (by omega), if_neg (by omega), if_pos h]
  · rw [if_neg (by omega), if_neg (by omega), if_neg (by omega), if_neg (by omega), if_neg (by omega), if_pos h]
theorem sg_none {q : Nat → Int} (h0 : ∀ i, i < 3 → q i = 0) : sg (q 0) (q 1) (q 2) = 0 := by
 rw [h0 0 (by omega), h0 1 (by omega), h0 2 (by omega)]
 rfl
theorem sg_neg {a b c : Int} : sg a b c < 0 ↔ a < 0 ∨ (a = 0 ∧ (b < 0 ∨ (b = 0 ∧ c < 0))) := by
 unfold sg
 repeat' split
 all_goals omega
theorem sg_pos {a b c : Int} : 0 < sg a b c ↔ 0 < a ∨ (a = 0 ∧ (0 < b ∨ (b = 0 ∧ 0 < c))) := by
 unfold sg
 repeat' split
 all_goals omega
end DM
set_option maxHeartbeats 2000000 in
theorem sign_any (q : Nat → Int) (w : World) : Calls Tryz.prog 79 #[arr 3 q] w fun e w' => e = .returned (.int .i64 (DM.sg (q 0) (q 1) (q 2))) ∧ Below w.heap.size w w' := by
 have O := Own.start w
 go_enter Tryz.func79, Tryz.ntmps79
 go_wp2_with ((with_reducible refine at_box 1 ?_); refine wpList_box_own O (M.mat 3 (q)) rfl ?_; clear O; intro g1 w1 O)
 go_loopw [3] (fun u wr => ∃ k : Nat, k ≤ 3 ∧ u = .int .i64 k ∧ (∀ i, i < k → q i = 0) ∧ w1 = wr) (fun v _ => 3 - (intOf v).toNat)
 case atStart => exact ⟨0, by omega, rfl, fun i hi => absurd hi (by omega), rfl⟩
 case round =>
  obtain ⟨k, hk, rfl, hall, rfl⟩ := hrel
  have q0 : (0 : Int) ≤ k := by omega
  have HA := Lib.hid hall
  clear hall
  have hB := O.below
  by_cases hlt : k < 3
  ·
   have q1 : (k : Int) < 3 := by omega
   obtain ⟨z, hz⟩ : ∃ z, q k = z := ⟨_, rfl⟩
   have CZ := cell_is (n := 3) hz hlt
   have cz := O.cell 0 rfl CZ.out
   have hF := DM.sg_first hlt HA.out
   rw [hz] at hF
   have HF := Lib.hid hF
   have HZ := Lib.hid hz
   clear hF hz
   rcases (by omega : z < 0 ∨ 0 < z ∨ z = 0) with hd | hd | hd
   ·
    have HE := Lib.hid (HF.out.1 hd)
    have k1 : decide (z < 0) = true := by simpa using hd
    clear hd HF HZ
    go_wp2_with (first | ((with_reducible first | refine at_index_ 9 ?_ | refine at_index_ 13 ?_); refine wpList_ino rfl Tryz.underlying117 sizeOf3 (by decide) (k) rfl rfl (rfl) (by omega) ?_) | ((with_reducible first | refine at_load 10 ?_ | refine at_load 14 ?_); refine wpList_cell_h (v := .int .i64 (z)) rfl O.held 0 rfl CZ.out rfl agg3 rfl ?_))
    go_ret
    exact ⟨by rw [HE.out]; rfl, hB⟩
   ·
    have HE := Lib.hid (HF.out.2 hd)
    have k1 : decide (z < 0) = false := by simp; omega
    have k2 : decide (0 < z) = true := by simpa using hd
    clear hd HF HZ
    go_wp2_with (first | ((with_reducible first | refine at_index_ 9 ?_ | refine at_index_ 13 ?_); refine wpList_ino rfl Tryz.underlying117 sizeOf3 (by decide) (k) rfl rfl (rfl) (by omega) ?_) | ((with_reducible first | refine at_load 10 ?_ | refine at_load 14 ?_); refine wpList_cell_h (v := .int .i64 (z)) rfl O.held 0 rfl CZ.out rfl agg3 rfl ?_))
    go_ret
    exact ⟨by rw [HE.out]; rfl, hB⟩
   ·
    have HE : Hid (q k = 0) := Lib.hid (by rw [HZ.out]; exact hd)
    have k1 : decide (z < 0) = false := by simp; omega
    have k2 : decide (0 < z) = false := by simp; omega
    clear hd HF HZ
    go_wp2_with (first | ((with_reducible first | refine at_index_ 9 ?_ | refine at_index_ 13 ?_); refine wpList_ino rfl Tryz.underlying117 sizeOf3 (by decide) (k) rfl rfl (rfl) (by omega) ?_) | ((with_reducible first | refine at_load 10 ?_ | refine at_load 14 ?_); refine wpList_cell_h (v := .int .i64 (z)) rfl O.held 0 rfl CZ.out rfl agg3 rfl ?_))
    go_roundw
    case rel => exact ⟨k + 1, by omega, by go_num, fun i hi => by
     by_cases e : i = k
     · subst e; exact HE.out
     · exact HA.out i (by omega), trivial⟩
    case measure => simp [intOf]; omega
  ·
   have q1 : ¬ (k : Int) < 3 := by omega
   obtain rfl : k = 3 := by omega
   have HE := Lib.hid (DM.sg_none HA.out)
   clear HA
   go_wp2_with fail
   go_ret
   exact ⟨by rw [HE.out]; rfl, hB⟩
theorem sign3_any (a b c : Int) (w : World) : Calls Tryz.prog 79 #[arr 3 (DM.t3 a b c)] w fun e w' => e = .returned (.int .i64 (DM.sg a b c)) ∧ Below w.heap.size w w' := sign_any (DM.t3 a b c) w
set_option maxHeartbeats 1000000 in
theorem abs_any (n : Int) (h1 : -4611686018427387904 ≤ n) (h2 : n ≤ 4611686018427387904) (w : World) : Calls Tryz.prog 80 #[.int .i64 n] w fun e w' => e = .returned (.int .i64 (DM.abs n)) ∧ w' = w := by
 obtain ⟨m, hm⟩ : ∃ m, 0 - n = m := ⟨_, rfl⟩
 have W1 : wrap64 (0 - n) = m := by rw [← hm]; exact IntWalk.wrap64_in _ (by omega)
 have W2 : wrap64 (-n) = m := by rw [← W1, Int.zero_sub]
 obtain ⟨r, hr⟩ : ∃ r, max n m = r := ⟨_, rfl⟩
 have G := (max_if n m).trans hr
 have HE : Hid (DM.abs n = r) := Lib.hid (by rw [DM.abs, hm, hr])
 clear h1 h2 hm
 go_enter Tryz.func80, Tryz.ntmps80
 go_wp2_with fail
 go_ret
 exact ⟨by rw [HE.out]; rfl, rfl⟩
end Go.Proofs.YtpfhaocmcfnhnaaGreat
