/- Contracts: withPixels, those. -/
import Derived.Test.YthioeohmnlppcaaWd
namespace Go.Proofs.Ythioeohmnlppcaa
open Go.ChangeShapes Go.WideShapes Go.ChangeAt Go.RowKit
set_option linter.unusedVariables false
set_option linter.unusedSimpArgs false

namespace RC
theorem those_step {l : List (Nat → Int)} {k : Nat} {x : Nat → Int} (h : l[k]? = some x) : those (l.take (k + 1)) = those (l.take k) ++ (if right x then [x] else []) := by
  unfold those
  rw [List.take_add_one, h, Option.toList_some, List.filter_append]
  cases hr : right x <;> simp [hr]
theorem those_in {l : List (Nat → Int)} {k : Nat} {x : Nat → Int} (h : l[k]? = some x) (hr : right x = true) : those (l.take (k + 1)) = those (l.take k) ++ [x] := by rw [those_step h, hr]; rfl
theorem those_out {l : List (Nat → Int)} {k : Nat} {x : Nat → Int} (h : l[k]? = some x) (hr : right x = false) : those (l.take (k + 1)) = those (l.take k) := by
  rw [those_step h, hr]
  exact List.append_nil _
theorem those_end (l : List (Nat → Int)) : those (l.take l.length) = those l := by rw [List.take_length]
theorem those_lim (l : List (Nat → Int)) (k : Nat) : (those (l.take k)).length ≤ l.length := by
  have := those_len (l.take k)
  rw [List.length_take] at this
  omega
end RC
set_option maxRecDepth 100000 in
set_option maxHeartbeats 8000000 in
theorem withPixels_any (l : List (Nat → Int)) (h9 : l.length ≤ 1000) {lo : Nat} {A : Option Addr} {c : Nat} (w : World) (hL : Lies w free (rE lo A c l)) : Calls Try.prog 25 #[.slice A l.length c] w (RetR w (RC.those l)) := by
  have O := Held.start w [rE lo A c l] (by simpa using hL)
  clear hL
  go_enter Try.func25, Try.ntmps25
  go_wp2_with fail
  go_loopw [3, 8] (fun u t wr => ∃ (k : Nat) (L : List (Nat → Int)) (RA : Option Addr) (Rc : Nat), k ≤ l.length ∧ t = .int .i64 k ∧ u = .slice RA L.length Rc ∧ RC.those (l.take k) = L ∧ Held w wr [] (rR RA Rc L) [rE lo A c l]) (fun _ t _ => l.length - (intOf t).toNat)
  case atStart => exact ⟨0, [], none, 0, Nat.zero_le _, rfl, rfl, rfl, O.fresh 23 4⟩
  case round =>
    clear O
    obtain ⟨k, L, RA, Rc, hk, rfl, rfl, hT, O⟩ := hrel
    have n1 : L.length ≤ 1000 := by rw [← hT]; exact Nat.le_trans (RC.those_lim l k) h9
    have HT := Lib.hid hT
    clear hT
    have q0 : (0 : Int) ≤ k := by omega
    by_cases hlt : k < l.length
    · have q1 : (k : Int) < l.length := by omega
      obtain ⟨x, hx⟩ : ∃ x, l[k]? = some x := ⟨_, List.getElem?_eq_getElem hlt⟩
      have C := fun w => right_any x w
      have HX := Lib.hid hx
      clear hx
      cases hr : RC.right x
      · have HS : Hid (RC.those (l.take (k + 1)) = L) := Lib.hid (by rw [RC.those_out HX.out hr]; exact HT.out)
        rw [hr] at C
        clear hr
        go_wp2_with (first | ((with_reducible refine at_index_ 10 ?_); refine wpList_at_h rfl Try.underlying34 sizeOfR _ (O.mem List.mem_cons_self) rfl (k) rfl (rfl) (by omega) rfl ?_) | ((with_reducible refine at_load 11 ?_); refine wpList_elem_h rfl _ (O.mem List.mem_cons_self) (k * 4) (M.mat 4 (x)) (rC_at HX.out) (by rw [M.mat_len]; decide) rfl Try.underlying23 rfl (sR _) ?_) | ((with_reducible refine at_alloc 5 ?_); refine wpList_alloc_h O (M.mat 4 M.zero) zeroR ?_; clear O; intro g5 v1 O) | ((with_reducible refine at_store 5 ?_); refine wpList_put_h O 0 (M.mat 4 (x)) rfl rfl rfl (sR _) (M.mat_len2 _ _ _) (M.mat_one _ _) ?_; clear O; intro v2 O) | ((with_reducible refine at_load 12 ?_); refine wpList_rowg_h rfl O 0 rfl rfl Try.underlying23 rfl (sR _) ?_) | (go_at_call 10; refine (C _).mono ?_; rintro e v3 ⟨rfl, hb⟩; replace O := O.call hb; clear hb))
        have O2 := O.tail
        clear O
        have O := O2
        clear O2
        go_roundw
        case rel => exact ⟨k + 1, L, RA, Rc, by omega, by go_num, by first | rfl | simp, HS.out, O⟩
        case measure => simp [intOf]; omega
      · have HS : Hid (RC.those (l.take (k + 1)) = L ++ [x]) := Lib.hid (by rw [RC.those_in HX.out hr, HT.out])
        rw [hr] at C
        clear hr
        go_wp2_with (first | ((with_reducible refine at_index_ 10 ?_); refine wpList_at_h rfl Try.underlying34 sizeOfR _ (O.mem List.mem_cons_self) rfl (k) rfl (rfl) (by omega) rfl ?_) | ((with_reducible refine at_load 11 ?_); refine wpList_elem_h rfl _ (O.mem List.mem_cons_self) (k * 4) (M.mat 4 (x)) (rC_at HX.out) (by rw [M.mat_len]; decide) rfl Try.underlying23 rfl (sR _) ?_) | ((with_reducible refine at_alloc 5 ?_); refine wpList_alloc_h O (M.mat 4 M.zero) zeroR ?_; clear O; intro g5 v1 O) | ((with_reducible refine at_store 5 ?_); refine wpList_put_h O 0 (M.mat 4 (x)) rfl rfl rfl (sR _) (M.mat_len2 _ _ _) (M.mat_one _ _) ?_; clear O; intro v2 O) | ((with_reducible refine at_load 12 ?_); refine wpList_rowg_h rfl O 0 rfl rfl Try.underlying23 rfl (sR _) ?_) | (go_at_call 10; refine (C _).mono ?_; rintro e v3 ⟨rfl, hb⟩; replace O := O.call hb; clear hb) | ((with_reducible refine at_load 15 ?_); refine wpList_rowg_h rfl O 0 rfl rfl Try.underlying23 rfl (sR _) ?_) | ((with_reducible refine at_lit 16 ?_); refine wpList_lit_h rfl O 4 (.agg (M.mat 4 M.zero).toArray) infoR Try.underlying34 ([(0, arr 4 x)]) (rC [x]) rfl (rC_len _) (by decide) (by decide) (by kernel_rfl) ?_; clear O; intro gl u5 O) | ((with_reducible refine at_app 17 ?_); refine wpList_app_big rfl O (.agg (M.mat 4 M.zero).toArray) 32 infoRb rfl (Nat.succ_pos _) Try.underlying34 rfl _ (O.mem List.mem_cons_self) rfl rfl (rC_one _) (by dsimp only [rR]; omega) (by decide) ?_; clear O; intro va u6 O; obtain ⟨TA, Tc, e1, O2⟩ := rR_of (O.pick (es' := [rE lo A c l]) (fun y hy => List.mem_cons_of_mem _ hy)); subst e1; clear O; have O := O2; clear O2))
        have O2 := O.tail
        clear O
        have O := O2
        clear O2
        go_roundw
        case rel => exact ⟨k + 1, L ++ [x], TA, Tc, by omega, by go_num, by first | rfl | simp, HS.out, O⟩
        case measure => simp [intOf]; omega
    · have q1 : ¬ (k : Int) < l.length := by omega
      obtain rfl : k = l.length := by omega
      have HE : Hid (RC.those l = L) := Lib.hid (by rw [← RC.those_end l]; exact HT.out)
      clear HT
      go_wp2_with fail
      go_ret
      rw [HE.out]
      exact retR_done O
set_option maxRecDepth 100000 in
set_option maxHeartbeats 8000000 in
theorem those_any (l : List (Nat → Int)) (h9 : l.length ≤ 1000) {lo : Nat} {A : Option Addr} {c : Nat} (w : World) (hL : Lies w free (rE lo A c l)) : Calls Try.prog 26 #[.slice A l.length c] w (RetR w (RC.those l)) := by
  have O := Held.start w [rE lo A c l] (by simpa using hL)
  clear hL
  go_enter Try.func26, Try.ntmps26
  go_wp2_with fail
  go_loopw [3, 4] (fun u t wr => ∃ (k : Nat) (L : List (Nat → Int)) (RA : Option Addr) (Rc : Nat), k ≤ l.length ∧ t = .int .i64 k ∧ u = .slice RA L.length Rc ∧ RC.those (l.take k) = L ∧ Held w wr [] (rR RA Rc L) [rE lo A c l]) (fun _ t _ => l.length - (intOf t).toNat)
  case atStart => exact ⟨0, [], none, 0, Nat.zero_le _, rfl, rfl, rfl, O.fresh 23 4⟩
  case round =>
    clear O
    obtain ⟨k, L, RA, Rc, hk, rfl, rfl, hT, O⟩ := hrel
    have n1 : L.length ≤ 1000 := by rw [← hT]; exact Nat.le_trans (RC.those_lim l k) h9
    have HT := Lib.hid hT
    clear hT
    have q0 : (0 : Int) ≤ k := by omega
    by_cases hlt : k < l.length
    · have q1 : (k : Int) < l.length := by omega
      obtain ⟨x, hx⟩ : ∃ x, l[k]? = some x := ⟨_, List.getElem?_eq_getElem hlt⟩
      have C := fun w => rright_any x w
      have HX := Lib.hid hx
      clear hx
      cases hr : RC.right x
      · have HS : Hid (RC.those (l.take (k + 1)) = L) := Lib.hid (by rw [RC.those_out HX.out hr]; exact HT.out)
        rw [hr] at C
        clear hr
        go_wp2_with (first | ((with_reducible refine at_index_ 13 ?_); refine wpList_at_h rfl Try.underlying34 sizeOfR _ (O.mem List.mem_cons_self) rfl (k) rfl (rfl) (by omega) rfl ?_) | ((with_reducible refine at_load 14 ?_); refine wpList_elem_h rfl _ (O.mem List.mem_cons_self) (k * 4) (M.mat 4 (x)) (rC_at HX.out) (by rw [M.mat_len]; decide) rfl Try.underlying23 rfl (sR _) ?_) | (go_at_call 11; refine (C _).mono ?_; rintro e v3 ⟨rfl, hb⟩; replace O := O.call hb; clear hb))
        go_roundw
        case rel => exact ⟨k + 1, L, RA, Rc, by omega, by go_num, by first | rfl | simp, HS.out, O⟩
        case measure => simp [intOf]; omega
      · have HS : Hid (RC.those (l.take (k + 1)) = L ++ [x]) := Lib.hid (by rw [RC.those_in HX.out hr, HT.out])
        rw [hr] at C
        clear hr
        go_wp2_with (first | ((with_reducible refine at_index_ 13 ?_); refine wpList_at_h rfl Try.underlying34 sizeOfR _ (O.mem List.mem_cons_self) rfl (k) rfl (rfl) (by omega) rfl ?_) | ((with_reducible refine at_load 14 ?_); refine wpList_elem_h rfl _ (O.mem List.mem_cons_self) (k * 4) (M.mat 4 (x)) (rC_at HX.out) (by rw [M.mat_len]; decide) rfl Try.underlying23 rfl (sR _) ?_) | (go_at_call 11; refine (C _).mono ?_; rintro e v3 ⟨rfl, hb⟩; replace O := O.call hb; clear hb) | ((with_reducible refine at_index_ 19 ?_); refine wpList_at_h rfl Try.underlying34 sizeOfR _ (O.mem List.mem_cons_self) rfl (k) rfl (rfl) (by omega) rfl ?_) | ((with_reducible refine at_load 20 ?_); refine wpList_elem_h rfl _ (O.mem List.mem_cons_self) (k * 4) (M.mat 4 (x)) (rC_at HX.out) (by rw [M.mat_len]; decide) rfl Try.underlying23 rfl (sR _) ?_) | ((with_reducible refine at_lit 21 ?_); refine wpList_lit_h rfl O 4 (.agg (M.mat 4 M.zero).toArray) infoR Try.underlying34 ([(0, arr 4 x)]) (rC [x]) rfl (rC_len _) (by decide) (by decide) (by kernel_rfl) ?_; clear O; intro gl u5 O) | ((with_reducible refine at_app 22 ?_); refine wpList_app_big rfl O (.agg (M.mat 4 M.zero).toArray) 32 infoRb rfl (Nat.succ_pos _) Try.underlying34 rfl _ (O.mem List.mem_cons_self) rfl rfl (rC_one _) (by dsimp only [rR]; omega) (by decide) ?_; clear O; intro va u6 O; obtain ⟨TA, Tc, e1, O2⟩ := rR_of (O.pick (es' := [rE lo A c l]) (fun y hy => List.mem_cons_of_mem _ hy)); subst e1; clear O; have O := O2; clear O2))
        go_roundw
        case rel => exact ⟨k + 1, L ++ [x], TA, Tc, by omega, by go_num, by first | rfl | simp, HS.out, O⟩
        case measure => simp [intOf]; omega
    · have q1 : ¬ (k : Int) < l.length := by omega
      obtain rfl : k = l.length := by omega
      have HE : Hid (RC.those l = L) := Lib.hid (by rw [← RC.those_end l]; exact HT.out)
      clear HT
      go_wp2_with fail
      go_ret
      rw [HE.out]
      exact retR_done O
end Go.Proofs.Ythioeohmnlppcaa
