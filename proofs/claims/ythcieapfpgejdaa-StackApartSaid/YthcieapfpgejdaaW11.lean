/- Contract: the document's Right. -/
import Derived.Test.YthcieapfpgejdaaW10
namespace Go.Proofs.Ythcieapfpgejdaa
open Go.ChangeShapes Go.WideShapes Go.ChangeAt Go.RowKit
set_option linter.unusedVariables false
set_option linter.unusedSimpArgs false

theorem not_mode {m : Int} (h : Stk.isMode m = false) : (m != 0) = true ∧ (m != 1) = true := by
  simp only [Stk.isMode, Bool.or_eq_false_iff, decide_eq_false_iff_not] at h
  simpa using h
set_option maxRecDepth 100000 in
set_option maxHeartbeats 8000000 in
theorem rright6_any (m : Int) (L : Nat → Ent) (w : World) (hL : ∀ i, i < 2 → Lies w [] (L i)) : Calls Try.prog 23 #[.agg (sv m L).toArray] w fun e w' => e = .returned (.bool (Stk.right (stk m L))) ∧ Below w.heap.size w w' := by
  have O := OwnL.start w [L 0, L 1] (two_all hL)
  have hu2 := Try.underlying27
  clear hL
  go_enter Try.func23, Try.ntmps23
  cases hm : Stk.isMode m
  · have E : Hid (Stk.right (stk m L) = false) := by show _ = _; simp [Stk.right, stk, hm]
    obtain ⟨b0, b1⟩ := not_mode hm
    clear hm
    go_wp2_with (first | ((with_reducible refine at_box 1 ?_); refine wpList_box_ls O (sv m L) rfl ?_; clear O; intro g1 w1 O) | ((with_reducible refine at_load 6 ?_); refine wpList_cell_ls rfl O 0 rfl (rfl) rfl agg3 rfl ?_) | ((with_reducible refine at_load 10 ?_); refine wpList_cell_ls rfl O 0 rfl (rfl) rfl agg3 rfl ?_))
    go_ret
    exact ⟨congrArg (fun b => Ending.returned (.bool b)) E.out.symm, O.below⟩
  have HM := Lib.hid hm
  rcases Stk.isMode_iff.1 hm with rfl | rfl
  · clear hm
    go_wp2_with (first | ((with_reducible refine at_box 1 ?_); refine wpList_box_ls O (sv 0 L) rfl ?_; clear O; intro g1 w1 O) | ((with_reducible refine at_load 6 ?_); refine wpList_cell_ls rfl O 0 rfl (rfl) rfl agg3 rfl ?_) | ((with_reducible refine at_load 10 ?_); refine wpList_cell_ls rfl O 0 rfl (rfl) rfl agg3 rfl ?_))
    go_loopw [3] (fun u wr => ∃ k : Nat, k ≤ 2 ∧ u = .int .i64 k ∧ okK k (stk 0 L) ∧ OwnL w wr [(g1, 25, sv 0 L)] [L 0, L 1]) (fun u _ => 2 - (intOf u).toNat)
    case atStart => exact ⟨0, by omega, rfl, fun i hi => absurd hi (by omega), O⟩
    case round =>
      clear O
      obtain ⟨k, hk, rfl, hall, O⟩ := hrel
      have HA := Lib.hid hall
      clear hall
      have q0 : (0 : Int) ≤ k := by omega
      by_cases hlt : k < 2
      · have q1 : (k : Int) < 2 := by omega
        have EV : (L k).val = .slice (L k).A (L k).l.length (L k).c := rfl
        have hv1 := sv_at 0 L hlt
        obtain ⟨n, hn⟩ : ∃ n, (L k).l.length = n := ⟨_, rfl⟩
        rw [hn] at EV
        have HN := Lib.hid hn
        clear hn
        by_cases h1 : n < 1
        · have q2 : (n : Int) < 1 := by omega
          have E : Hid (Stk.right (stk 0 L) = false) := right_no 0 L hlt (by have := HN.out; simp [Stk.okL, show ¬ 1 ≤ (L k).l.length by omega])
          go_wp2_with (first | ((with_reducible refine at_index 19 ?_); refine wpList_in_ls rfl Try.underlying23 sizeOf22 (by decide) (k) rfl rfl (rfl) (hlt) ?_) | ((with_reducible refine at_load 20 ?_); refine wpList_cell_ls rfl O 0 rfl (hv1) rfl agg22 rfl ?_) | ((with_reducible refine at_index 26 ?_); refine wpList_in_ls rfl Try.underlying23 sizeOf22 (by decide) (k) rfl rfl (rfl) (hlt) ?_) | ((with_reducible refine at_load 27 ?_); refine wpList_cell_ls rfl O 0 rfl (hv1) rfl agg22 rfl ?_))
          go_ret
          exact ⟨congrArg (fun b => Ending.returned (.bool b)) E.out.symm, O.below⟩
        have q2 : ¬ (n : Int) < 1 := by omega
        by_cases h2 : 8 < n
        · have q3 : (8 : Int) < n := by omega
          have E : Hid (Stk.right (stk 0 L) = false) := right_no 0 L hlt (by have := HN.out; simp [Stk.okL, show ¬ (L k).l.length ≤ 8 by omega])
          go_wp2_with (first | ((with_reducible refine at_index 19 ?_); refine wpList_in_ls rfl Try.underlying23 sizeOf22 (by decide) (k) rfl rfl (rfl) (hlt) ?_) | ((with_reducible refine at_load 20 ?_); refine wpList_cell_ls rfl O 0 rfl (hv1) rfl agg22 rfl ?_) | ((with_reducible refine at_index 26 ?_); refine wpList_in_ls rfl Try.underlying23 sizeOf22 (by decide) (k) rfl rfl (rfl) (hlt) ?_) | ((with_reducible refine at_load 27 ?_); refine wpList_cell_ls rfl O 0 rfl (hv1) rfl agg22 rfl ?_))
          go_ret
          exact ⟨congrArg (fun b => Ending.returned (.bool b)) E.out.symm, O.below⟩
        have q3 : ¬ (8 : Int) < n := by omega
        go_wp2_with (first | ((with_reducible refine at_index 19 ?_); refine wpList_in_ls rfl Try.underlying23 sizeOf22 (by decide) (k) rfl rfl (rfl) (hlt) ?_) | ((with_reducible refine at_load 20 ?_); refine wpList_cell_ls rfl O 0 rfl (hv1) rfl agg22 rfl ?_) | ((with_reducible refine at_index 26 ?_); refine wpList_in_ls rfl Try.underlying23 sizeOf22 (by decide) (k) rfl rfl (rfl) (hlt) ?_) | ((with_reducible refine at_load 27 ?_); refine wpList_cell_ls rfl O 0 rfl (hv1) rfl agg22 rfl ?_))
        clear q2 q3
        have hln := twoL_at L [] hlt
        go_loopw [4] (fun u wr => ∃ j : Nat, j ≤ n ∧ u = .int .i64 j ∧ firstOk j (L k).l ∧ OwnL w wr [(g1, 25, sv 0 L)] [L 0, L 1]) (fun u _ => n - (intOf u).toNat)
        case atStart => exact ⟨0, by omega, rfl, fun i _ hi => absurd hi (by omega), O⟩
        case round =>
          clear O
          obtain ⟨j, hj, rfl, hall, O⟩ := hrel
          have HB := Lib.hid hall
          clear hall
          have q5 : (0 : Int) ≤ j := by omega
          by_cases hjn : j < n
          · have q6 : (j : Int) < n := by omega
            obtain ⟨v, hv⟩ : ∃ v, (L k).l[j]? = some v := ⟨_, List.getElem?_eq_getElem (by have := HN.out; omega)⟩
            have HV := Lib.hid hv
            clear hv
            cases hr : M.right v
            · have E : Hid (Stk.right (stk 0 L) = false) := right_no 0 L hlt (okL_no HV.out hr)
              have HR := Lib.hid hr
              clear hr
              go_wp2_with (first | ((with_reducible refine at_index 34 ?_); refine wpList_in_ls rfl Try.underlying23 sizeOf22 (by decide) (k) rfl rfl (rfl) (hlt) ?_) | ((with_reducible refine at_load 35 ?_); refine wpList_cell_ls rfl O 0 rfl (hv1) rfl agg22 rfl ?_) | ((with_reducible refine at_index 42 ?_); refine wpList_in_ls rfl Try.underlying23 sizeOf22 (by decide) (k) rfl rfl (rfl) (hlt) ?_) | ((with_reducible refine at_load 43 ?_); refine wpList_cell_ls rfl O 0 rfl (hv1) rfl agg22 rfl ?_) | ((with_reducible refine at_index 45 ?_); refine wpList_at_ls rfl Try.underlying22 sizeOf27 O k hln rfl j rfl rfl hjn (by have := HN.out; omega) ?_) | ((with_reducible refine at_load 46 ?_); refine wpList_elem_ls rfl O k hln j HV.out rfl Try.underlying27 rfl size23 ?_) | (go_at_call 28; refine (rright_any v _).mono ?_; rw [HR.out]; rintro e w6 ⟨rfl, hb⟩; replace O := O.call hb; clear hb))
              go_ret
              exact ⟨congrArg (fun b => Ending.returned (.bool b)) E.out.symm, O.below⟩
            · have HR := Lib.hid hr
              clear hr
              go_wp2_with (first | ((with_reducible refine at_index 34 ?_); refine wpList_in_ls rfl Try.underlying23 sizeOf22 (by decide) (k) rfl rfl (rfl) (hlt) ?_) | ((with_reducible refine at_load 35 ?_); refine wpList_cell_ls rfl O 0 rfl (hv1) rfl agg22 rfl ?_) | ((with_reducible refine at_index 42 ?_); refine wpList_in_ls rfl Try.underlying23 sizeOf22 (by decide) (k) rfl rfl (rfl) (hlt) ?_) | ((with_reducible refine at_load 43 ?_); refine wpList_cell_ls rfl O 0 rfl (hv1) rfl agg22 rfl ?_) | ((with_reducible refine at_index 45 ?_); refine wpList_at_ls rfl Try.underlying22 sizeOf27 O k hln rfl j rfl rfl hjn (by have := HN.out; omega) ?_) | ((with_reducible refine at_load 46 ?_); refine wpList_elem_ls rfl O k hln j HV.out rfl Try.underlying27 rfl size23 ?_) | (go_at_call 28; refine (rright_any v _).mono ?_; rw [HR.out]; rintro e w6 ⟨rfl, hb⟩; replace O := O.call hb; clear hb))
              go_roundw
              case rel => exact ⟨j + 1, by omega, by go_num, firstOk_more HB.out HV.out HR.out, O⟩
              case measure => simp [intOf]; omega
          · have q6 : ¬ (j : Int) < n := by omega
            obtain rfl : j = n := by omega
            have HQ : Hid (Stk.okL (L k).l = true) := firstOk_all (by rw [HN.out]; exact HB.out) (by rw [HN.out]; omega) (by rw [HN.out]; omega)
            go_wp2_with (first | ((with_reducible refine at_index 34 ?_); refine wpList_in_ls rfl Try.underlying23 sizeOf22 (by decide) (k) rfl rfl (rfl) (hlt) ?_) | ((with_reducible refine at_load 35 ?_); refine wpList_cell_ls rfl O 0 rfl (hv1) rfl agg22 rfl ?_))
            go_roundw
            case rel =>
              refine ⟨k + 1, by omega, by go_num, fun i hi => ?_, O⟩
              by_cases e : i = k
              · subst e
                exact HQ.out
              · exact HA.out i (by omega)
            case measure => simp [intOf]; omega
      · have q1 : ¬ (k : Int) < 2 := by omega
        obtain rfl : k = 2 := by omega
        have E : Hid (Stk.right (stk 0 L) = true) := right_of 0 L HM.out HA.out
        go_wp2
        go_ret
        exact ⟨congrArg (fun b => Ending.returned (.bool b)) E.out.symm, O.below⟩
  · clear hm
    go_wp2_with (first | ((with_reducible refine at_box 1 ?_); refine wpList_box_ls O (sv 1 L) rfl ?_; clear O; intro g1 w1 O) | ((with_reducible refine at_load 6 ?_); refine wpList_cell_ls rfl O 0 rfl (rfl) rfl agg3 rfl ?_) | ((with_reducible refine at_load 10 ?_); refine wpList_cell_ls rfl O 0 rfl (rfl) rfl agg3 rfl ?_))
    go_loopw [3] (fun u wr => ∃ k : Nat, k ≤ 2 ∧ u = .int .i64 k ∧ okK k (stk 1 L) ∧ OwnL w wr [(g1, 25, sv 1 L)] [L 0, L 1]) (fun u _ => 2 - (intOf u).toNat)
    case atStart => exact ⟨0, by omega, rfl, fun i hi => absurd hi (by omega), O⟩
    case round =>
      clear O
      obtain ⟨k, hk, rfl, hall, O⟩ := hrel
      have HA := Lib.hid hall
      clear hall
      have q0 : (0 : Int) ≤ k := by omega
      by_cases hlt : k < 2
      · have q1 : (k : Int) < 2 := by omega
        have EV : (L k).val = .slice (L k).A (L k).l.length (L k).c := rfl
        have hv1 := sv_at 1 L hlt
        obtain ⟨n, hn⟩ : ∃ n, (L k).l.length = n := ⟨_, rfl⟩
        rw [hn] at EV
        have HN := Lib.hid hn
        clear hn
        by_cases h1 : n < 1
        · have q2 : (n : Int) < 1 := by omega
          have E : Hid (Stk.right (stk 1 L) = false) := right_no 1 L hlt (by have := HN.out; simp [Stk.okL, show ¬ 1 ≤ (L k).l.length by omega])
          go_wp2_with (first | ((with_reducible refine at_index 19 ?_); refine wpList_in_ls rfl Try.underlying23 sizeOf22 (by decide) (k) rfl rfl (rfl) (hlt) ?_) | ((with_reducible refine at_load 20 ?_); refine wpList_cell_ls rfl O 0 rfl (hv1) rfl agg22 rfl ?_) | ((with_reducible refine at_index 26 ?_); refine wpList_in_ls rfl Try.underlying23 sizeOf22 (by decide) (k) rfl rfl (rfl) (hlt) ?_) | ((with_reducible refine at_load 27 ?_); refine wpList_cell_ls rfl O 0 rfl (hv1) rfl agg22 rfl ?_))
          go_ret
          exact ⟨congrArg (fun b => Ending.returned (.bool b)) E.out.symm, O.below⟩
        have q2 : ¬ (n : Int) < 1 := by omega
        by_cases h2 : 8 < n
        · have q3 : (8 : Int) < n := by omega
          have E : Hid (Stk.right (stk 1 L) = false) := right_no 1 L hlt (by have := HN.out; simp [Stk.okL, show ¬ (L k).l.length ≤ 8 by omega])
          go_wp2_with (first | ((with_reducible refine at_index 19 ?_); refine wpList_in_ls rfl Try.underlying23 sizeOf22 (by decide) (k) rfl rfl (rfl) (hlt) ?_) | ((with_reducible refine at_load 20 ?_); refine wpList_cell_ls rfl O 0 rfl (hv1) rfl agg22 rfl ?_) | ((with_reducible refine at_index 26 ?_); refine wpList_in_ls rfl Try.underlying23 sizeOf22 (by decide) (k) rfl rfl (rfl) (hlt) ?_) | ((with_reducible refine at_load 27 ?_); refine wpList_cell_ls rfl O 0 rfl (hv1) rfl agg22 rfl ?_))
          go_ret
          exact ⟨congrArg (fun b => Ending.returned (.bool b)) E.out.symm, O.below⟩
        have q3 : ¬ (8 : Int) < n := by omega
        go_wp2_with (first | ((with_reducible refine at_index 19 ?_); refine wpList_in_ls rfl Try.underlying23 sizeOf22 (by decide) (k) rfl rfl (rfl) (hlt) ?_) | ((with_reducible refine at_load 20 ?_); refine wpList_cell_ls rfl O 0 rfl (hv1) rfl agg22 rfl ?_) | ((with_reducible refine at_index 26 ?_); refine wpList_in_ls rfl Try.underlying23 sizeOf22 (by decide) (k) rfl rfl (rfl) (hlt) ?_) | ((with_reducible refine at_load 27 ?_); refine wpList_cell_ls rfl O 0 rfl (hv1) rfl agg22 rfl ?_))
        clear q2 q3
        have hln := twoL_at L [] hlt
        go_loopw [4] (fun u wr => ∃ j : Nat, j ≤ n ∧ u = .int .i64 j ∧ firstOk j (L k).l ∧ OwnL w wr [(g1, 25, sv 1 L)] [L 0, L 1]) (fun u _ => n - (intOf u).toNat)
        case atStart => exact ⟨0, by omega, rfl, fun i _ hi => absurd hi (by omega), O⟩
        case round =>
          clear O
          obtain ⟨j, hj, rfl, hall, O⟩ := hrel
          have HB := Lib.hid hall
          clear hall
          have q5 : (0 : Int) ≤ j := by omega
          by_cases hjn : j < n
          · have q6 : (j : Int) < n := by omega
            obtain ⟨v, hv⟩ : ∃ v, (L k).l[j]? = some v := ⟨_, List.getElem?_eq_getElem (by have := HN.out; omega)⟩
            have HV := Lib.hid hv
            clear hv
            cases hr : M.right v
            · have E : Hid (Stk.right (stk 1 L) = false) := right_no 1 L hlt (okL_no HV.out hr)
              have HR := Lib.hid hr
              clear hr
              go_wp2_with (first | ((with_reducible refine at_index 34 ?_); refine wpList_in_ls rfl Try.underlying23 sizeOf22 (by decide) (k) rfl rfl (rfl) (hlt) ?_) | ((with_reducible refine at_load 35 ?_); refine wpList_cell_ls rfl O 0 rfl (hv1) rfl agg22 rfl ?_) | ((with_reducible refine at_index 42 ?_); refine wpList_in_ls rfl Try.underlying23 sizeOf22 (by decide) (k) rfl rfl (rfl) (hlt) ?_) | ((with_reducible refine at_load 43 ?_); refine wpList_cell_ls rfl O 0 rfl (hv1) rfl agg22 rfl ?_) | ((with_reducible refine at_index 45 ?_); refine wpList_at_ls rfl Try.underlying22 sizeOf27 O k hln rfl j rfl rfl hjn (by have := HN.out; omega) ?_) | ((with_reducible refine at_load 46 ?_); refine wpList_elem_ls rfl O k hln j HV.out rfl Try.underlying27 rfl size23 ?_) | (go_at_call 28; refine (rright_any v _).mono ?_; rw [HR.out]; rintro e w6 ⟨rfl, hb⟩; replace O := O.call hb; clear hb))
              go_ret
              exact ⟨congrArg (fun b => Ending.returned (.bool b)) E.out.symm, O.below⟩
            · have HR := Lib.hid hr
              clear hr
              go_wp2_with (first | ((with_reducible refine at_index 34 ?_); refine wpList_in_ls rfl Try.underlying23 sizeOf22 (by decide) (k) rfl rfl (rfl) (hlt) ?_) | ((with_reducible refine at_load 35 ?_); refine wpList_cell_ls rfl O 0 rfl (hv1) rfl agg22 rfl ?_) | ((with_reducible refine at_index 42 ?_); refine wpList_in_ls rfl Try.underlying23 sizeOf22 (by decide) (k) rfl rfl (rfl) (hlt) ?_) | ((with_reducible refine at_load 43 ?_); refine wpList_cell_ls rfl O 0 rfl (hv1) rfl agg22 rfl ?_) | ((with_reducible refine at_index 45 ?_); refine wpList_at_ls rfl Try.underlying22 sizeOf27 O k hln rfl j rfl rfl hjn (by have := HN.out; omega) ?_) | ((with_reducible refine at_load 46 ?_); refine wpList_elem_ls rfl O k hln j HV.out rfl Try.underlying27 rfl size23 ?_) | (go_at_call 28; refine (rright_any v _).mono ?_; rw [HR.out]; rintro e w6 ⟨rfl, hb⟩; replace O := O.call hb; clear hb))
              go_roundw
              case rel => exact ⟨j + 1, by omega, by go_num, firstOk_more HB.out HV.out HR.out, O⟩
              case measure => simp [intOf]; omega
          · have q6 : ¬ (j : Int) < n := by omega
            obtain rfl : j = n := by omega
            have HQ : Hid (Stk.okL (L k).l = true) := firstOk_all (by rw [HN.out]; exact HB.out) (by rw [HN.out]; omega) (by rw [HN.out]; omega)
            go_wp2_with (first | ((with_reducible refine at_index 34 ?_); refine wpList_in_ls rfl Try.underlying23 sizeOf22 (by decide) (k) rfl rfl (rfl) (hlt) ?_) | ((with_reducible refine at_load 35 ?_); refine wpList_cell_ls rfl O 0 rfl (hv1) rfl agg22 rfl ?_))
            go_roundw
            case rel =>
              refine ⟨k + 1, by omega, by go_num, fun i hi => ?_, O⟩
              by_cases e : i = k
              · subst e
                exact HQ.out
              · exact HA.out i (by omega)
            case measure => simp [intOf]; omega
      · have q1 : ¬ (k : Int) < 2 := by omega
        obtain rfl : k = 2 := by omega
        have E : Hid (Stk.right (stk 1 L) = true) := right_of 1 L HM.out HA.out
        go_wp2
        go_ret
        exact ⟨congrArg (fun b => Ending.returned (.bool b)) E.out.symm, O.below⟩
end Go.Proofs.Ythcieapfpgejdaa
