/- Contract: Same. -/
import Derived.Test.YthcieapfpgejdaaW19
namespace Go.Proofs.Ythcieapfpgejdaa
open Go.ChangeShapes Go.WideShapes Go.ChangeAt Go.RowKit
set_option linter.unusedVariables false
set_option linter.unusedSimpArgs false

set_option maxRecDepth 100000 in
set_option maxHeartbeats 8000000 in
theorem same_any (m : Int) (L L' : Nat → Ent) (w : World) (hL : ∀ i, i < 2 → Lies w [] (L i)) (hL' : ∀ i, i < 2 → Lies w [] (L' i)) (he : ∀ i, i < 2 → (L' i).l = (L i).l) (hs : ∀ i, i < 2 → (L i).l.length ≤ 100) : Calls Try.prog 13 #[.agg (sv m L).toArray, .agg (sv m L').toArray] w fun e w' => e = .returned (.bool true) ∧ Below w.heap.size w w' := by
  have O := OwnL.start w [L 0, L 1, L' 0, L' 1] (by
    intro x hx
    simp only [List.mem_cons, List.not_mem_nil, or_false] at hx
    rcases hx with rfl | rfl | rfl | rfl
    · exact hL 0 (by decide)
    · exact hL 1 (by decide)
    · exact hL' 0 (by decide)
    · exact hL' 1 (by decide))
  have hu2 := Try.underlying27
  have HE := Lib.hid he
  have HS := Lib.hid hs
  clear hL hL' he hs
  have gm : (m != m) = false := by simp
  go_enter Try.func13, Try.ntmps13
  go_wp2_with (first | ((with_reducible refine at_box 2 ?_); refine wpList_box_ls O (sv m L) rfl ?_; clear O; intro g2 w1 O) | ((with_reducible refine at_box 3 ?_); refine wpList_box_ls O (sv m L') rfl ?_; clear O; intro g3 w2 O) | ((with_reducible refine at_load 8 ?_); refine wpList_cell_ls rfl O 1 rfl (rfl) rfl agg3 rfl ?_) | ((with_reducible refine at_load 10 ?_); refine wpList_cell_ls rfl O 0 rfl (rfl) rfl agg3 rfl ?_))
  clear gm
  have hB : OwnL w w2 [(g3, 25, sv m L'), (g2, 25, sv m L)] [L 0, L 1, L' 0, L' 1] := O
  go_loopw [5] (fun u wr => ∃ k : Nat, k ≤ 2 ∧ u = .int .i64 k ∧ OwnL w wr [(g3, 25, sv m L'), (g2, 25, sv m L)] [L 0, L 1, L' 0, L' 1]) (fun u _ => 2 - (intOf u).toNat)
  case atStart => exact ⟨0, by omega, rfl, O⟩
  case round =>
    clear O hB
    obtain ⟨k, hk, rfl, O⟩ := hrel
    have q0 : (0 : Int) ≤ k := by omega
    by_cases hlt : k < 2
    · have q1 : (k : Int) < 2 := by omega
      obtain ⟨n, hn⟩ : ∃ n, (L k).l.length = n := ⟨_, rfl⟩
      have hn100 : n ≤ 100 := by rw [← hn]; exact HS.out k hlt
      have hn' : (L' k).l.length = n := by rw [HE.out k hlt]; exact hn
      have EV : (L k).val = .slice (L k).A n (L k).c := by rw [← hn]; rfl
      have EV' : (L' k).val = .slice (L' k).A n (L' k).c := by rw [← hn']; rfl
      have c1 : (sv m L)[1 + k]? = some (.slice (L k).A n (L k).c) := (sv_at _ _ hlt).trans (congrArg some EV)
      have c2 : (sv m L')[1 + k]? = some (.slice (L' k).A n (L' k).c) := (sv_at _ _ hlt).trans (congrArg some EV')
      have hl1 : [L 0, L 1, L' 0, L' 1][k]? = some (L k) := twoL_at L _ hlt
      have hl2 : [L 0, L 1, L' 0, L' 1][2 + k]? = some (L' k) := by
        rcases k with _ | _ | k
        · rfl
        · rfl
        · omega
      have HN := Lib.hid hn
      have HN' := Lib.hid hn'
      clear hn hn' EV EV'
      go_wp2_with fail
      refine region_T (fun w2 => OwnL w w2 [(g3, 25, sv m L'), (g2, 25, sv m L)] [L 0, L 1, L' 0, L' 1]) [0, 1, 2, 3, 4, 5, 6, 7, 8, 9, 10] 12 [some 16, some 17, some 18, some 19, some 20, some 21, some 22, some 23, some 24, some 25, some 26] [.int .i64 k, .pointer (some ⟨g2, 1, none⟩), .pointer (some ⟨g2, 1 + k, none⟩), .slice (L k).A n (L k).c, .int .i64 n, .int .i64 k, .pointer (some ⟨g3, 1, none⟩), .pointer (some ⟨g3, 1 + k, none⟩), .slice (L' k).A n (L' k).c, .int .i64 n, .bool false] 0 (by kernel_rfl) (by rfl) (by kernel_rfl) (by rfl) (by rfl) (O.drew) (fun F hF => ?_)
      simp only [fillD, Act.put, List.setIfInBounds_toArray, List.set_cons_zero, List.set_cons_succ] at hF
      subst hF
      refine ⟨⟨does_want rfl (by rfl) (fun w' O K hK => ?_), does_want rfl (by rfl) (fun w' O K hK => ?_), does_want rfl (by rfl) (fun w' O K hK => ?_), does_want rfl (by rfl) (fun w' O K hK => ?_), does_want rfl (by rfl) (fun w' O K hK => ?_), does_want rfl (by rfl) (fun w' O K hK => ?_), does_want rfl (by rfl) (fun w' O K hK => ?_), does_want rfl (by rfl) (fun w' O K hK => ?_), does_want rfl (by rfl) (fun w' O K hK => ?_), does_want rfl (by rfl) (fun w' O K hK => ?_), does_want rfl (by rfl) (fun w' O K hK => ?_), trivial⟩, fun w' O => ?_⟩
      · go_simp
        exact hK _ O
      · go_simp
        exact hK _ O
      · exact wp_in_ls Try.underlying23 sizeOf22 (by decide) k rfl rfl rfl hlt (hK _ O)
      · exact wp_cell_ls O 1 rfl c1 rfl agg22 rfl (hK _ O)
      · go_simp
        exact hK _ O
      · go_simp
        exact hK _ O
      · go_simp
        exact hK _ O
      · exact wp_in_ls Try.underlying23 sizeOf22 (by decide) k rfl rfl rfl hlt (hK _ O)
      · exact wp_cell_ls O 0 rfl c2 rfl agg22 rfl (hK _ O)
      · go_simp
        exact hK _ O
      · have gn : ((n : Int) != (n : Int)) = false := by simp
        go_simp
        exact hK _ O
      refine wpAny_done (by kernel_rfl) ?_ _
      go_wp2_with fail
      go_loopw [6] (fun u wr => ∃ j : Nat, j ≤ n ∧ u = .int .i64 j ∧ OwnL w wr [(g3, 25, sv m L'), (g2, 25, sv m L)] [L 0, L 1, L' 0, L' 1]) (fun u _ => n - (intOf u).toNat)
      case atStart => exact ⟨0, by omega, rfl, O⟩
      case round =>
        clear O
        obtain ⟨j, hj, rfl, O⟩ := hrel
        have q5 : (0 : Int) ≤ j := by omega
        by_cases hjn : j < n
        · have q6 : (j : Int) < n := by omega
          obtain ⟨v, hv⟩ : ∃ v, (L k).l[j]? = some v := ⟨_, List.getElem?_eq_getElem (by have := HN.out; omega)⟩
          have HV := Lib.hid hv
          have HV' : Hid ((L' k).l[j]? = some v) := by show _ = _; rw [HE.out k hlt]; exact hv
          clear hv
          go_wp2_with (first | ((with_reducible refine at_index 30 ?_); refine wpList_in_ls rfl Try.underlying23 sizeOf22 (by decide) (k) rfl rfl (rfl) (hlt) ?_) | ((with_reducible refine at_load 31 ?_); refine wpList_cell_ls rfl O 1 rfl (c1) rfl agg22 rfl ?_))
          refine region_T (fun w2 => OwnL w w2 [(g3, 25, sv m L'), (g2, 25, sv m L)] [L 0, L 1, L' 0, L' 1]) [0, 1, 2, 3, 4, 5, 6, 7, 8, 9, 10, 11, 12, 13, 14] 12 [some 36, some 37, some 38, some 39, some 40, some 41, some 42, some 43, some 44, some 45, some 46, some 47, some 48, some 49, some 50] [.int .i64 k, .pointer (some ⟨g2, 1, none⟩), .pointer (some ⟨g2, 1 + k, none⟩), .slice (L k).A n (L k).c, .int .i64 j, .pointer (some ((adr (L k).A).add (j * 16))), arr 16 v, .int .i64 k, .pointer (some ⟨g3, 1, none⟩), .pointer (some ⟨g3, 1 + k, none⟩), .slice (L' k).A n (L' k).c, .int .i64 j, .pointer (some ((adr (L' k).A).add (j * 16))), arr 16 v, .bool false] 0 (by kernel_rfl) (by rfl) (by kernel_rfl) (by rfl) (by rfl) (O.drew) (fun F hF => ?_)
          simp only [fillD, Act.put, List.setIfInBounds_toArray, List.set_cons_zero, List.set_cons_succ] at hF
          subst hF
          refine ⟨⟨does_want rfl (by rfl) (fun w' O K hK => ?_), does_want rfl (by rfl) (fun w' O K hK => ?_), does_want rfl (by rfl) (fun w' O K hK => ?_), does_want rfl (by rfl) (fun w' O K hK => ?_), does_want rfl (by rfl) (fun w' O K hK => ?_), does_want rfl (by rfl) (fun w' O K hK => ?_), does_want rfl (by rfl) (fun w' O K hK => ?_), does_want rfl (by rfl) (fun w' O K hK => ?_), does_want rfl (by rfl) (fun w' O K hK => ?_), does_want rfl (by rfl) (fun w' O K hK => ?_), does_want rfl (by rfl) (fun w' O K hK => ?_), does_want rfl (by rfl) (fun w' O K hK => ?_), does_want rfl (by rfl) (fun w' O K hK => ?_), does_want rfl (by rfl) (fun w' O K hK => ?_), does_want rfl (by rfl) (fun w' O K hK => ?_), trivial⟩, fun w' O => ?_⟩
          · go_simp
            exact hK _ O
          · go_simp
            exact hK _ O
          · exact wp_in_ls Try.underlying23 sizeOf22 (by decide) k rfl rfl rfl hlt (hK _ O)
          · exact wp_cell_ls O 1 rfl c1 rfl agg22 rfl (hK _ O)
          · go_simp
            exact hK _ O
          · exact wp_at_ls Try.underlying22 sizeOf27 O k hl1 rfl j rfl rfl hjn (by have := HN.out; omega) (hK _ O)
          · exact wp_elem_ls O k hl1 j HV.out rfl Try.underlying27 rfl size23 (hK _ O)
          · go_simp
            exact hK _ O
          · go_simp
            exact hK _ O
          · exact wp_in_ls Try.underlying23 sizeOf22 (by decide) k rfl rfl rfl hlt (hK _ O)
          · exact wp_cell_ls O 0 rfl c2 rfl agg22 rfl (hK _ O)
          · go_simp
            exact hK _ O
          · exact wp_at_ls Try.underlying22 sizeOf27 O (2 + k) hl2 rfl j rfl rfl hjn (by have := HN'.out; omega) (hK _ O)
          · exact wp_elem_ls O (2 + k) hl2 j HV'.out rfl Try.underlying27 rfl size23 (hK _ O)
          · refine wp_neq_mat Try.underlying27 Try.eqGuardType27 v v rfl rfl ?_
            rw [M.eqB_refl]
            exact hK _ O
          refine wpAny_done (by kernel_rfl) ?_ _
          go_wp2_with fail
          go_roundw
          case rel => exact ⟨j + 1, by omega, by go_num, O⟩
          case measure => simp [intOf]; omega
        · have q6 : ¬ (j : Int) < n := by omega
          obtain rfl : j = n := by omega
          go_wp2_with (first | ((with_reducible refine at_index 30 ?_); refine wpList_in_ls rfl Try.underlying23 sizeOf22 (by decide) (k) rfl rfl (rfl) (hlt) ?_) | ((with_reducible refine at_load 31 ?_); refine wpList_cell_ls rfl O 1 rfl (c1) rfl agg22 rfl ?_))
          go_roundw
          case rel => exact ⟨k + 1, by omega, by go_num, O⟩
          case measure => simp [intOf]; omega
    · have q1 : ¬ (k : Int) < 2 := by omega
      obtain rfl : k = 2 := by omega
      go_wp2
      go_ret
      exact ⟨rfl, O.below⟩
end Go.Proofs.Ythcieapfpgejdaa
