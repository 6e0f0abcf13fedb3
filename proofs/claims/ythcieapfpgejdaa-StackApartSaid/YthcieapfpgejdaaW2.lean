/- Contract: rightList. -/
import Derived.Test.YthcieapfpgejdaaW1
import Derived.Test.YthcieapfpgejdaaRows4
namespace Go.Proofs.Ythcieapfpgejdaa
open Go.ChangeShapes Go.WideShapes Go.ChangeAt Go.RowKit
set_option linter.unusedVariables false
set_option linter.unusedSimpArgs false

theorem okL_no {l : List (Nat → Int)} {k : Nat} {v : Nat → Int} (h : l[k]? = some v) (hv : M.right v = false) : Stk.okL l = false := by
  rw [← Bool.not_eq_true]
  intro h2
  have := (Stk.okL_iff.1 h2).2.2 v (List.mem_of_getElem? h)
  rw [hv] at this
  cases this
/-- The first k of a list may be. -/
def firstOk (k : Nat) (l : List (Nat → Int)) : Prop := ∀ i v, i < k → l[i]? = some v → M.right v = true
theorem firstOk_all {l : List (Nat → Int)} (h : firstOk l.length l) (h1 : 1 ≤ l.length) (h2 : l.length ≤ 8) : Stk.okL l = true :=
  Stk.okL_iff.2 ⟨h1, h2, fun x hx => by
    obtain ⟨i, hi, rfl⟩ := List.getElem_of_mem hx
    exact h i _ hi (List.getElem?_eq_getElem hi)⟩
theorem firstOk_more {l : List (Nat → Int)} {k : Nat} {v : Nat → Int} (h : firstOk k l) (hv : l[k]? = some v) (hr : M.right v = true) : firstOk (k + 1) l := fun i u hi hu => by
  by_cases e : i = k
  · subst e
    rw [hv] at hu
    cases hu
    exact hr
  · exact h i u (by omega) hu
set_option maxHeartbeats 4000000 in
theorem rightList_any (x : Ent) (w : World) (hx : Lies w [] x) : Calls Try.prog 37 #[x.val] w fun e w' => e = .returned (.bool (Stk.okL x.l)) ∧ Below w.heap.size w w' := by
  obtain ⟨lo, A, c, l⟩ := x
  have O := OwnL.start w [⟨lo, A, c, l⟩] (by simpa using hx)
  have hu2 := Try.underlying27
  clear hx
  show Calls Try.prog 37 #[Value.slice A l.length c] w fun e w' => e = .returned (.bool (Stk.okL l)) ∧ Below w.heap.size w w'
  obtain ⟨n, hn⟩ : ∃ n : Nat, l.length = n := ⟨_, rfl⟩
  have HN := Lib.hid hn
  rw [hn]
  clear hn
  go_enter Try.func37, Try.ntmps37
  by_cases h1 : n < 1
  · have q1 : (n : Int) < 1 := by omega
    have e : Stk.okL l = false := by
      have := HN.out
      simp [Stk.okL, show ¬ 1 ≤ l.length by omega]
    rw [e]
    clear e
    go_wp2
    go_ret
    exact ⟨rfl, O.below⟩
  by_cases h2 : 8 < n
  · have q1 : ¬ (n : Int) < 1 := by omega
    have q2 : (8 : Int) < n := by omega
    have e : Stk.okL l = false := by
      have := HN.out
      simp [Stk.okL, show ¬ l.length ≤ 8 by omega]
    rw [e]
    clear e
    go_wp2
    go_ret
    exact ⟨rfl, O.below⟩
  have q1 : ¬ (n : Int) < 1 := by omega
  have q2 : ¬ (8 : Int) < n := by omega
  go_wp2
  clear q1 q2
  go_loopw [15] (fun u wr => ∃ k : Nat, k ≤ n ∧ u = .int .i64 k ∧ firstOk k l ∧ OwnL w wr [] [⟨lo, A, c, l⟩]) (fun u _ => n - (intOf u).toNat)
  case atStart => exact ⟨0, by omega, rfl, fun i _ hi => absurd hi (by omega), O⟩
  case round =>
    clear O
    obtain ⟨k, hk, rfl, hall, O⟩ := hrel
    have HA := Lib.hid hall
    clear hall
    have q0 : (0 : Int) ≤ k := by omega
    by_cases hlt : k < n
    · have q1 : (k : Int) < n := by omega
      obtain ⟨v, hv⟩ : ∃ v, l[k]? = some v := ⟨_, List.getElem?_eq_getElem (by have := HN.out; omega)⟩
      have HV := Lib.hid hv
      clear hv
      cases hr : M.right v
      · have e : Stk.okL l = false := okL_no HV.out hr
        have E := Lib.hid e
        clear e
        have HR := Lib.hid hr
        clear hr
        go_wp2_with (first | ((with_reducible refine at_index 17 ?_); refine wpList_at_ls rfl Try.underlying22 sizeOf27 O 0 rfl rfl (k) rfl (rfl) (by omega) (by have := HN.out; omega) ?_) | ((with_reducible refine at_load 18 ?_); refine wpList_elem_ls rfl O 0 rfl (k) (HV.out) rfl Try.underlying27 rfl size23 ?_) | ((with_reducible refine at_alloc 4 ?_); refine wpList_alloc_ls O (M.mat 16 M.zero) zero23 ?_; clear O; intro g4 w4 O) | ((with_reducible refine at_store 4 ?_); refine wpList_put_ls O 0 (M.mat 16 (v)) rfl rfl rfl (s23 _) (M.mat_len2 _ _ _) (M.mat_one _ _) ?_; clear O; intro w5 O) | ((with_reducible refine at_load 19 ?_); refine wpList_rowg_ls rfl O 0 rfl rfl Try.underlying27 rfl (s23 _) ?_) | (go_at_call 34; refine (right_any v _).mono ?_; rw [HR.out]; rintro e w6 ⟨rfl, hb⟩; replace O := O.call hb; clear hb))
        go_ret
        exact ⟨congrArg (fun b => Ending.returned (.bool b)) E.out.symm, O.below⟩
      · have HR := Lib.hid hr
        clear hr
        go_wp2_with (first | ((with_reducible refine at_index 17 ?_); refine wpList_at_ls rfl Try.underlying22 sizeOf27 O 0 rfl rfl (k) rfl (rfl) (by omega) (by have := HN.out; omega) ?_) | ((with_reducible refine at_load 18 ?_); refine wpList_elem_ls rfl O 0 rfl (k) (HV.out) rfl Try.underlying27 rfl size23 ?_) | ((with_reducible refine at_alloc 4 ?_); refine wpList_alloc_ls O (M.mat 16 M.zero) zero23 ?_; clear O; intro g4 w4 O) | ((with_reducible refine at_store 4 ?_); refine wpList_put_ls O 0 (M.mat 16 (v)) rfl rfl rfl (s23 _) (M.mat_len2 _ _ _) (M.mat_one _ _) ?_; clear O; intro w5 O) | ((with_reducible refine at_load 19 ?_); refine wpList_rowg_ls rfl O 0 rfl rfl Try.underlying27 rfl (s23 _) ?_) | (go_at_call 34; refine (right_any v _).mono ?_; rw [HR.out]; rintro e w6 ⟨rfl, hb⟩; replace O := O.call hb; clear hb))
        go_roundw
        case rel => exact ⟨k + 1, by omega, by go_num, firstOk_more HA.out HV.out HR.out, O.tail⟩
        case measure => simp [intOf]; omega
    · have q1 : ¬ (k : Int) < n := by omega
      obtain rfl : k = n := by omega
      have e : Stk.okL l = true := firstOk_all (by rw [HN.out]; exact HA.out) (by rw [HN.out]; omega) (by rw [HN.out]; omega)
      have E := Lib.hid e
      clear e
      go_wp2
      go_ret
      exact ⟨congrArg (fun b => Ending.returned (.bool b)) E.out.symm, O.below⟩
end Go.Proofs.Ythcieapfpgejdaa
