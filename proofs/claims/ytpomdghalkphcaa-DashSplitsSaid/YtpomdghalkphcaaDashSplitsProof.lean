/-
  DashSplits: for every dash and any number up to 1000: a pixel is in a run just if it is lit; no two runs touch.
-/
import Derived.Test.YtpomdghalkphcaaHx
import Derived.Deep.DeepCutAuto
namespace Go.Proofs.Ytpomdghalkphcaa.dashSplits
open Go.ChangeShapes Go.WideShapes Go.ChangeAt Go.RowKit
set_option linter.unusedVariables false
set_option linter.unusedSimpArgs false

theorem own : ownKnob Try.prog.godebug = none := by kernel_rfl

set_option maxRecDepth 100000 in
set_option maxHeartbeats 16000000 in
theorem walk (w : World) (d : Nat → Int) (n : Int) :
    Calls Try.prog 6 #[arr 3 d, .int .i64 n] w fun e w' => e = .returned (.bool true) ∧ Below w.heap.size w w' := by
  have O := Held.start w [] (by simp)
  have DR := fun w => rright_any d w
  cases h1 : HM.right d
  · rw [h1] at DR
    clear h1
    go_enter Try.func6, Try.ntmps6
    go_wp2_with (first | ((with_reducible refine at_box 2 ?_); refine wpList_box_h O (M.mat 3 (d)) rfl ?_; clear O; intro g2 w1 O) | ((with_reducible refine at_load 9 ?_); refine wpList_rowg_h rfl O 0 rfl rfl Try.underlying23 rfl (sH _) ?_) | (go_at_call 8; refine (DR _).mono ?_; rintro e w4 ⟨rfl, hb⟩; replace O := O.call hb; clear hb) | (go_at_call 10; refine (awake_any _).mono ?_; rintro e w20 ⟨rfl, hb⟩; replace O := O.call hb; clear hb))
    go_ret
    exact ⟨rfl, O.below⟩
  cases c1 : decide (n < 0)
  case true =>
    rw [h1] at DR
    clear h1
    go_enter Try.func6, Try.ntmps6
    go_wp2_with (first | ((with_reducible refine at_box 2 ?_); refine wpList_box_h O (M.mat 3 (d)) rfl ?_; clear O; intro g2 w1 O) | ((with_reducible refine at_load 9 ?_); refine wpList_rowg_h rfl O 0 rfl rfl Try.underlying23 rfl (sH _) ?_) | (go_at_call 8; refine (DR _).mono ?_; rintro e w4 ⟨rfl, hb⟩; replace O := O.call hb; clear hb) | (go_at_call 10; refine (awake_any _).mono ?_; rintro e w20 ⟨rfl, hb⟩; replace O := O.call hb; clear hb))
    go_ret
    exact ⟨rfl, O.below⟩
  cases c2 : decide (1000 < n)
  case true =>
    rw [h1] at DR
    clear h1
    go_enter Try.func6, Try.ntmps6
    go_wp2_with (first | ((with_reducible refine at_box 2 ?_); refine wpList_box_h O (M.mat 3 (d)) rfl ?_; clear O; intro g2 w1 O) | ((with_reducible refine at_load 9 ?_); refine wpList_rowg_h rfl O 0 rfl rfl Try.underlying23 rfl (sH _) ?_) | (go_at_call 8; refine (DR _).mono ?_; rintro e w4 ⟨rfl, hb⟩; replace O := O.call hb; clear hb) | (go_at_call 10; refine (awake_any _).mono ?_; rintro e w20 ⟨rfl, hb⟩; replace O := O.call hb; clear hb))
    go_ret
    exact ⟨rfl, O.below⟩
  obtain ⟨m, rfl⟩ : ∃ m : Nat, n = m := ⟨n.toNat, by have := of_decide_eq_false c1; omega⟩
  have hm : m ≤ 1000 := by have := of_decide_eq_false c2; omega
  have PRN := fun w => pruns_any d h1 m (by omega) w
  have PL := Lib.hid (fun (k : Nat) (hk : k ≤ 1000) w => plit_any d k h1 (by omega) w)
  rw [h1] at DR
  clear h1
  have HF : Hid (∀ k : Nat, (fun k : Nat => HM.litF d k) k = HM.litF d k) := Lib.hid (fun k => rfl)
  generalize (fun k : Nat => HM.litF d k) = f at *
  have HIS := Lib.hid (HM.runs_is f m)
  have hlen := HM.runs_len f m
  generalize HM.runs f m = L at *
  unfold RetT at PRN
  go_enter Try.func6, Try.ntmps6
  go_wp2_with (first | ((with_reducible refine at_box 2 ?_); refine wpList_box_h O (M.mat 3 (d)) rfl ?_; clear O; intro g2 w1 O) | ((with_reducible refine at_load 9 ?_); refine wpList_rowg_h rfl O 0 rfl rfl Try.underlying23 rfl (sH _) ?_) | (go_at_call 8; refine (DR _).mono ?_; rintro e w4 ⟨rfl, hb⟩; replace O := O.call hb; clear hb) | ((with_reducible refine at_load 21 ?_); refine wpList_rowg_h rfl O 0 rfl rfl Try.underlying23 rfl (sH _) ?_) | (go_at_call 16; refine (PRN _).mono ?_; rintro e w5 ⟨VA, vc, rfl, hV, hb⟩; have O2 := O.gain hb hV; clear O hb hV; have O := O2; clear O2))
  obtain ⟨lo, hlo⟩ : ∃ lo, w.heap.size = lo := ⟨_, rfl⟩
  rw [hlo] at O
  clear hlo PRN DR c1 c2
  have HLEN := Lib.hid (And.intro hlen hm)
  clear hlen hm
  go_loopw [6] (fun t6 wr => ∃ i : Nat, i ≤ L.length ∧ t6 = .int .i64 (i : Int) ∧ Held w wr [(g2, 23, M.mat 3 d)] nilRow [tE lo VA vc L]) (fun t6 _ => L.length - (intOf t6).toNat)
  case atStart => exact ⟨0, Nat.zero_le _, rfl, O⟩
  case round =>
    clear O
    obtain ⟨i, hi, rfl, O⟩ := hrel
    have q0 : (0 : Int) ≤ i := by omega
    by_cases hlt : i < L.length
    · have q1 : (i : Int) < L.length := by omega
      obtain ⟨⟨x1, x2⟩, hx⟩ : ∃ x, L[i]? = some x := ⟨_, List.getElem?_eq_getElem hlt⟩
      have HX := Lib.hid hx
      have hb := HIS.out.2.1 _ (List.mem_of_getElem? hx)
      dsimp only at hb
      have hl1 := HLEN.out.1
      have hl2 := HLEN.out.2
      have c3 : decide (x2 ≤ x1) = false := decide_eq_false (by omega)
      have c4 : decide (m < x2) = false := decide_eq_false (by omega)
      have W9 : wrap64 ((i : Int) + 1) = (i : Int) + 1 := IntWalk.wrap64_in _ (by omega)
      have HC := Lib.hid (And.intro hlt W9)
      rcases Nat.eq_zero_or_pos i with rfl | hpos
      · clear hx hb hl1 hl2 W9 hi
        go_wp2_with fail
        refine region_T ((fun w2 => Held w w2 [(g2, 23, M.mat 3 d)] nilRow [tE lo VA vc L])) [0, 1, 2, 3, 4, 5, 6, 7, 8, 9, 10, 11, 12, 13, 14, 15, 16, 17, 18, 19, 20, 21, 22, 23, 24, 25, 26, 27, 28, 29, 30, 31, 32, 33, 34, 35, 36, 37, 38, 39, 40, 41, 42, 43, 44, 45] 12 [some 30, some 31, some 32, some 33, some 34, some 35, some 36, some 37, some 38, some 39, some 40, some 41, some 42, some 43, some 44, some 45, some 46, some 47, some 48, some 49, some 50, some 51, some 52, some 53, some 54, some 55, some 56, some 57, some 58, some 59, some 60, some 61, some 62, some 63, some 64, some 65, some 66, some 67, some 68, some 69, some 70, some 71, some 72, some 73, some 74, some 75] [.slice VA L.length vc, .int .i64 ((0 : Nat) : Int), .pointer (some ((adr VA).add (0 * 2))), .pointer (some ((adr VA).add (0 * 2 + 0))), .int .i64 (x1 : Int), .bool false, .bool false, .slice VA L.length vc, .int .i64 ((0 : Nat) : Int), .pointer (some ((adr VA).add (0 * 2))), .pointer (some ((adr VA).add (0 * 2 + 0))), .int .i64 (x1 : Int), .slice VA L.length vc, .int .i64 ((0 : Nat) : Int), .pointer (some ((adr VA).add (0 * 2))), .pointer (some ((adr VA).add (0 * 2 + 1))), .int .i64 (x2 : Int), .bool false, .bool false, .bool false, .slice VA L.length vc, .int .i64 ((0 : Nat) : Int), .pointer (some ((adr VA).add (0 * 2))), .pointer (some ((adr VA).add (0 * 2 + 1))), .int .i64 (x2 : Int), .int .i64 (m : Int), .bool false, .bool false, .bool false, .int .i64 ((0 : Nat) : Int), .bool false, .bool false, undef, undef, undef, undef, undef, undef, undef, undef, undef, undef, undef, undef, .bool false, .bool false] 0 (by kernel_rfl) (by rfl) (by kernel_rfl) (by rfl) (by rfl) (O.drew) (fun F hF => ?_)
        simp only [fillD, Act.put, List.setIfInBounds_toArray, List.set_cons_zero, List.set_cons_succ] at hF
        subst hF
        refine ⟨⟨does_want rfl (by rfl) (fun w' O K hK => ?_), does_want rfl (by rfl) (fun w' O K hK => ?_), does_want rfl (by rfl) (fun w' O K hK => ?_), does_want rfl (by rfl) (fun w' O K hK => ?_), does_want rfl (by rfl) (fun w' O K hK => ?_), does_want rfl (by rfl) (fun w' O K hK => ?_), does_want rfl (by rfl) (fun w' O K hK => ?_), does_want rfl (by rfl) (fun w' O K hK => ?_), does_want rfl (by rfl) (fun w' O K hK => ?_), does_want rfl (by rfl) (fun w' O K hK => ?_), does_want rfl (by rfl) (fun w' O K hK => ?_), does_want rfl (by rfl) (fun w' O K hK => ?_), does_want rfl (by rfl) (fun w' O K hK => ?_), does_want rfl (by rfl) (fun w' O K hK => ?_), does_want rfl (by rfl) (fun w' O K hK => ?_), does_want rfl (by rfl) (fun w' O K hK => ?_), does_want rfl (by rfl) (fun w' O K hK => ?_), does_want rfl (by rfl) (fun w' O K hK => ?_), does_want rfl (by rfl) (fun w' O K hK => ?_), does_want rfl (by rfl) (fun w' O K hK => ?_), does_want rfl (by rfl) (fun w' O K hK => ?_), does_want rfl (by rfl) (fun w' O K hK => ?_), does_want rfl (by rfl) (fun w' O K hK => ?_), does_want rfl (by rfl) (fun w' O K hK => ?_), does_want rfl (by rfl) (fun w' O K hK => ?_), does_want rfl (by rfl) (fun w' O K hK => ?_), does_want rfl (by rfl) (fun w' O K hK => ?_), does_want rfl (by rfl) (fun w' O K hK => ?_), does_want rfl (by rfl) (fun w' O K hK => ?_), does_want rfl (by rfl) (fun w' O K hK => ?_), does_want rfl (by rfl) (fun w' O K hK => ?_), does_want rfl (by rfl) (fun w' O K hK => ?_), does_skip rfl (by rfl), does_skip rfl (by rfl), does_skip rfl (by rfl), does_skip rfl (by rfl), does_skip rfl (by rfl), does_skip rfl (by rfl), does_skip rfl (by rfl), does_skip rfl (by rfl), does_skip rfl (by rfl), does_skip rfl (by rfl), does_skip rfl (by rfl), does_skip rfl (by rfl), does_want rfl (by rfl) (fun w' O K hK => ?_), does_want rfl (by rfl) (fun w' O K hK => ?_), trivial⟩, fun w' O => ?_⟩
        · go_simp
          exact hK _ O
        · go_simp
          exact hK _ O
        · exact wp_at_h Try.underlying31 sizeOfD _ (O.mem List.mem_cons_self) rfl (0) rfl rfl (by omega) rfl (hK _ O)
        · exact wp_ina Try.underlying33 sizeOf3 (by decide) 0 rfl rfl rfl (by decide) (by rw [adr_two]; exact hK _ O)
        · exact wp_ecell_h _ (O.mem List.mem_cons_self) (0 * 2 + 0) (tC_at HX.out 0 _ rfl) rfl agg3 rfl (hK _ O)
        · go_simp
          first | exact hK _ O | (simp only [Int.natCast_nonneg]; exact hK _ O) | (simp [Int.natCast_nonneg]; exact hK _ O)
        · go_simp
          exact hK _ O
        · go_simp
          exact hK _ O
        · go_simp
          exact hK _ O
        · exact wp_at_h Try.underlying31 sizeOfD _ (O.mem List.mem_cons_self) rfl (0) rfl rfl (by omega) rfl (hK _ O)
        · exact wp_ina Try.underlying33 sizeOf3 (by decide) 0 rfl rfl rfl (by decide) (by rw [adr_two]; exact hK _ O)
        · exact wp_ecell_h _ (O.mem List.mem_cons_self) (0 * 2 + 0) (tC_at HX.out 0 _ rfl) rfl agg3 rfl (hK _ O)
        · go_simp
          exact hK _ O
        · go_simp
          exact hK _ O
        · exact wp_at_h Try.underlying31 sizeOfD _ (O.mem List.mem_cons_self) rfl (0) rfl rfl (by omega) rfl (hK _ O)
        · exact wp_ina Try.underlying33 sizeOf3 (by decide) 1 rfl rfl rfl (by decide) (by rw [adr_two]; exact hK _ O)
        · exact wp_ecell_h _ (O.mem List.mem_cons_self) (0 * 2 + 1) (tC_at HX.out 1 _ rfl) rfl agg3 rfl (hK _ O)
        · go_simp
          first | exact hK _ O | (simp only [c3]; exact hK _ O) | (simp [c3]; exact hK _ O)
        · go_simp
          exact hK _ O
        · go_simp
          exact hK _ O
        · go_simp
          exact hK _ O
        · go_simp
          exact hK _ O
        · exact wp_at_h Try.underlying31 sizeOfD _ (O.mem List.mem_cons_self) rfl (0) rfl rfl (by omega) rfl (hK _ O)
        · exact wp_ina Try.underlying33 sizeOf3 (by decide) 1 rfl rfl rfl (by decide) (by rw [adr_two]; exact hK _ O)
        · exact wp_ecell_h _ (O.mem List.mem_cons_self) (0 * 2 + 1) (tC_at HX.out 1 _ rfl) rfl agg3 rfl (hK _ O)
        · go_simp
          exact hK _ O
        · go_simp
          first | exact hK _ O | (simp only [c4]; exact hK _ O) | (simp [c4]; exact hK _ O)
        · go_simp
          exact hK _ O
        · go_simp
          exact hK _ O
        · go_simp
          exact hK _ O
        · go_simp
          first | exact hK _ O | (simp only [Int.lt_irrefl]; exact hK _ O) | (simp [Int.lt_irrefl]; exact hK _ O)
        · go_simp
          exact hK _ O
        · go_simp
          exact hK _ O
        · go_simp
          exact hK _ O
        refine wpAny_done (by kernel_rfl) ?_ _
        go_wp2_with fail
        go_roundw
        case rel => exact ⟨0 + 1, HC.out.1, by go_num, O⟩
        case measure => simp [intOf]; have := HC.out.1; omega
      · obtain ⟨j, hj⟩ : ∃ j, i = j + 1 := ⟨i - 1, by omega⟩
        have hjl : j < L.length := by omega
        obtain ⟨⟨y1, y2⟩, hy⟩ : ∃ y, L[j]? = some y := ⟨_, List.getElem?_eq_getElem hjl⟩
        have HY := Lib.hid hy
        have hs := HM.sep_at HIS.out hy (by rw [← hj]; exact hx)
        dsimp only at hs
        have c6 : decide (x1 ≤ y2) = false := decide_eq_false (by omega)
        have c5 : decide (0 < i) = true := decide_eq_true hpos
        have W8 : Hid (IntKind.i64.wrap ((i : Int) - 1) = (j : Int)) := Lib.hid (by rw [show (i : Int) - 1 = (j : Int) by omega]; exact IntWalk.i64_in _ (by omega))
        have HJ := Lib.hid hj
        clear hx hb hl1 hl2 W9 hi hy hs hpos hj hlt
        go_wp2_with fail
        refine region_T ((fun w2 => Held w w2 [(g2, 23, M.mat 3 d)] nilRow [tE lo VA vc L])) [0, 1, 2, 3, 4, 5, 6, 7, 8, 9, 10, 11, 12, 13, 14, 15, 16, 17, 18, 19, 20, 21, 22, 23, 24, 25, 26, 27, 28, 29, 30, 31, 32, 33, 34, 35, 36, 37, 38, 39, 40, 41, 42, 43, 44, 45] 12 [some 30, some 31, some 32, some 33, some 34, some 35, some 36, some 37, some 38, some 39, some 40, some 41, some 42, some 43, some 44, some 45, some 46, some 47, some 48, some 49, some 50, some 51, some 52, some 53, some 54, some 55, some 56, some 57, some 58, some 59, some 60, some 61, some 62, some 63, some 64, some 65, some 66, some 67, some 68, some 69, some 70, some 71, some 72, some 73, some 74, some 75] [.slice VA L.length vc, .int .i64 ((i : Nat) : Int), .pointer (some ((adr VA).add (i * 2))), .pointer (some ((adr VA).add (i * 2 + 0))), .int .i64 (x1 : Int), .bool false, .bool false, .slice VA L.length vc, .int .i64 ((i : Nat) : Int), .pointer (some ((adr VA).add (i * 2))), .pointer (some ((adr VA).add (i * 2 + 0))), .int .i64 (x1 : Int), .slice VA L.length vc, .int .i64 ((i : Nat) : Int), .pointer (some ((adr VA).add (i * 2))), .pointer (some ((adr VA).add (i * 2 + 1))), .int .i64 (x2 : Int), .bool false, .bool false, .bool false, .slice VA L.length vc, .int .i64 ((i : Nat) : Int), .pointer (some ((adr VA).add (i * 2))), .pointer (some ((adr VA).add (i * 2 + 1))), .int .i64 (x2 : Int), .int .i64 (m : Int), .bool false, .bool false, .bool false, .int .i64 ((i : Nat) : Int), .bool true, .bool true, .slice VA L.length vc, .int .i64 ((i : Nat) : Int), .pointer (some ((adr VA).add (i * 2))), .pointer (some ((adr VA).add (i * 2 + 0))), .int .i64 (x1 : Int), .slice VA L.length vc, .int .i64 ((i : Nat) : Int), .int .i64 (j : Int), .pointer (some ((adr VA).add (j * 2))), .pointer (some ((adr VA).add (j * 2 + 1))), .int .i64 (y2 : Int), .bool false, .bool false, .bool false] 0 (by kernel_rfl) (by rfl) (by kernel_rfl) (by rfl) (by rfl) (O.drew) (fun F hF => ?_)
        simp only [fillD, Act.put, List.setIfInBounds_toArray, List.set_cons_zero, List.set_cons_succ] at hF
        subst hF
        refine ⟨⟨does_want rfl (by rfl) (fun w' O K hK => ?_), does_want rfl (by rfl) (fun w' O K hK => ?_), does_want rfl (by rfl) (fun w' O K hK => ?_), does_want rfl (by rfl) (fun w' O K hK => ?_), does_want rfl (by rfl) (fun w' O K hK => ?_), does_want rfl (by rfl) (fun w' O K hK => ?_), does_want rfl (by rfl) (fun w' O K hK => ?_), does_want rfl (by rfl) (fun w' O K hK => ?_), does_want rfl (by rfl) (fun w' O K hK => ?_), does_want rfl (by rfl) (fun w' O K hK => ?_), does_want rfl (by rfl) (fun w' O K hK => ?_), does_want rfl (by rfl) (fun w' O K hK => ?_), does_want rfl (by rfl) (fun w' O K hK => ?_), does_want rfl (by rfl) (fun w' O K hK => ?_), does_want rfl (by rfl) (fun w' O K hK => ?_), does_want rfl (by rfl) (fun w' O K hK => ?_), does_want rfl (by rfl) (fun w' O K hK => ?_), does_want rfl (by rfl) (fun w' O K hK => ?_), does_want rfl (by rfl) (fun w' O K hK => ?_), does_want rfl (by rfl) (fun w' O K hK => ?_), does_want rfl (by rfl) (fun w' O K hK => ?_), does_want rfl (by rfl) (fun w' O K hK => ?_), does_want rfl (by rfl) (fun w' O K hK => ?_), does_want rfl (by rfl) (fun w' O K hK => ?_), does_want rfl (by rfl) (fun w' O K hK => ?_), does_want rfl (by rfl) (fun w' O K hK => ?_), does_want rfl (by rfl) (fun w' O K hK => ?_), does_want rfl (by rfl) (fun w' O K hK => ?_), does_want rfl (by rfl) (fun w' O K hK => ?_), does_want rfl (by rfl) (fun w' O K hK => ?_), does_want rfl (by rfl) (fun w' O K hK => ?_), does_want rfl (by rfl) (fun w' O K hK => ?_), does_want rfl (by rfl) (fun w' O K hK => ?_), does_want rfl (by rfl) (fun w' O K hK => ?_), does_want rfl (by rfl) (fun w' O K hK => ?_), does_want rfl (by rfl) (fun w' O K hK => ?_), does_want rfl (by rfl) (fun w' O K hK => ?_), does_want rfl (by rfl) (fun w' O K hK => ?_), does_want rfl (by rfl) (fun w' O K hK => ?_), does_want rfl (by rfl) (fun w' O K hK => ?_), does_want rfl (by rfl) (fun w' O K hK => ?_), does_want rfl (by rfl) (fun w' O K hK => ?_), does_want rfl (by rfl) (fun w' O K hK => ?_), does_want rfl (by rfl) (fun w' O K hK => ?_), does_want rfl (by rfl) (fun w' O K hK => ?_), does_want rfl (by rfl) (fun w' O K hK => ?_), trivial⟩, fun w' O => ?_⟩
        · go_simp
          exact hK _ O
        · go_simp
          exact hK _ O
        · exact wp_at_h Try.underlying31 sizeOfD _ (O.mem List.mem_cons_self) rfl (i) rfl rfl (by omega) rfl (hK _ O)
        · exact wp_ina Try.underlying33 sizeOf3 (by decide) 0 rfl rfl rfl (by decide) (by rw [adr_two]; exact hK _ O)
        · exact wp_ecell_h _ (O.mem List.mem_cons_self) (i * 2 + 0) (tC_at HX.out 0 _ rfl) rfl agg3 rfl (hK _ O)
        · go_simp
          first | exact hK _ O | (simp only [Int.natCast_nonneg]; exact hK _ O) | (simp [Int.natCast_nonneg]; exact hK _ O)
        · go_simp
          exact hK _ O
        · go_simp
          exact hK _ O
        · go_simp
          exact hK _ O
        · exact wp_at_h Try.underlying31 sizeOfD _ (O.mem List.mem_cons_self) rfl (i) rfl rfl (by omega) rfl (hK _ O)
        · exact wp_ina Try.underlying33 sizeOf3 (by decide) 0 rfl rfl rfl (by decide) (by rw [adr_two]; exact hK _ O)
        · exact wp_ecell_h _ (O.mem List.mem_cons_self) (i * 2 + 0) (tC_at HX.out 0 _ rfl) rfl agg3 rfl (hK _ O)
        · go_simp
          exact hK _ O
        · go_simp
          exact hK _ O
        · exact wp_at_h Try.underlying31 sizeOfD _ (O.mem List.mem_cons_self) rfl (i) rfl rfl (by omega) rfl (hK _ O)
        · exact wp_ina Try.underlying33 sizeOf3 (by decide) 1 rfl rfl rfl (by decide) (by rw [adr_two]; exact hK _ O)
        · exact wp_ecell_h _ (O.mem List.mem_cons_self) (i * 2 + 1) (tC_at HX.out 1 _ rfl) rfl agg3 rfl (hK _ O)
        · go_simp
          first | exact hK _ O | (simp only [c3]; exact hK _ O) | (simp [c3]; exact hK _ O)
        · go_simp
          exact hK _ O
        · go_simp
          exact hK _ O
        · go_simp
          exact hK _ O
        · go_simp
          exact hK _ O
        · exact wp_at_h Try.underlying31 sizeOfD _ (O.mem List.mem_cons_self) rfl (i) rfl rfl (by omega) rfl (hK _ O)
        · exact wp_ina Try.underlying33 sizeOf3 (by decide) 1 rfl rfl rfl (by decide) (by rw [adr_two]; exact hK _ O)
        · exact wp_ecell_h _ (O.mem List.mem_cons_self) (i * 2 + 1) (tC_at HX.out 1 _ rfl) rfl agg3 rfl (hK _ O)
        · go_simp
          exact hK _ O
        · go_simp
          first | exact hK _ O | (simp only [c4]; exact hK _ O) | (simp [c4]; exact hK _ O)
        · go_simp
          exact hK _ O
        · go_simp
          exact hK _ O
        · go_simp
          exact hK _ O
        · go_simp
          first | exact hK _ O | (simp only [c5]; exact hK _ O) | (simp [c5]; exact hK _ O)
        · go_simp
          exact hK _ O
        · go_simp
          exact hK _ O
        · go_simp
          exact hK _ O
        · exact wp_at_h Try.underlying31 sizeOfD _ (O.mem List.mem_cons_self) rfl (i) rfl rfl (by omega) rfl (hK _ O)
        · exact wp_ina Try.underlying33 sizeOf3 (by decide) 0 rfl rfl rfl (by decide) (by rw [adr_two]; exact hK _ O)
        · exact wp_ecell_h _ (O.mem List.mem_cons_self) (i * 2 + 0) (tC_at HX.out 0 _ rfl) rfl agg3 rfl (hK _ O)
        · go_simp
          exact hK _ O
        · go_simp
          exact hK _ O
        · go_simp
          first | exact hK _ O | (rw [W8.out]; exact hK _ O) | (simp [W8.out]; exact hK _ O)
        · exact wp_at_h Try.underlying31 sizeOfD _ (O.mem List.mem_cons_self) rfl (j) rfl rfl (by omega) rfl (hK _ O)
        · exact wp_ina Try.underlying33 sizeOf3 (by decide) 1 rfl rfl rfl (by decide) (by rw [adr_two]; exact hK _ O)
        · exact wp_ecell_h _ (O.mem List.mem_cons_self) (j * 2 + 1) (tC_at HY.out 1 _ rfl) rfl agg3 rfl (hK _ O)
        · go_simp
          first | exact hK _ O | (simp only [c6]; exact hK _ O) | (simp [c6]; exact hK _ O)
        · go_simp
          exact hK _ O
        · go_simp
          exact hK _ O
        refine wpAny_done (by kernel_rfl) ?_ _
        go_wp2_with fail
        go_roundw
        case rel => exact ⟨i + 1, HC.out.1, congrArg (Value.int IntKind.i64) HC.out.2, O⟩
        case measure => rw [HC.out.2]; simp only [intOf]; have := HC.out.1; omega
    · have q1 : ¬ (i : Int) < L.length := by omega
      obtain rfl : i = L.length := by omega
      clear hi hlt q0
      go_wp2_with fail
      clear q1
      go_loopw [7, 8] (fun t7 t8 wr => ∃ j k : Nat, j ≤ L.length ∧ k ≤ m ∧ t7 = .int .i64 (j : Int) ∧ t8 = .int .i64 (k : Int) ∧ (∀ a y, a < j → L[a]? = some y → y.2 ≤ k) ∧ Held w wr [(g2, 23, M.mat 3 d)] nilRow [tE lo VA vc L]) (fun t7 t8 _ => m - (intOf t8).toNat)
      case atStart => exact ⟨0, 0, Nat.zero_le _, Nat.zero_le _, rfl, rfl, fun a y h => absurd h (Nat.not_lt_zero a), O⟩
      case round =>
        clear O
        obtain ⟨j0, k, hj0, hk, rfl, rfl, hall, O⟩ := hrel
        replace hall := Lib.hid hall
        by_cases hlt : k < m
        · have q1 : (k : Int) < m := by omega
          go_wp2_with fail
          clear q1
          go_loopw [7] (fun t7 wr => ∃ j : Nat, j ≤ L.length ∧ t7 = .int .i64 (j : Int) ∧ (∀ a y, a < j → L[a]? = some y → y.2 ≤ k) ∧ Held w wr [(g2, 23, M.mat 3 d)] nilRow [tE lo VA vc L]) (fun t7 _ => L.length - (intOf t7).toNat)
          case atStart => exact ⟨j0, hj0, rfl, hall.out, O⟩
          case round =>
            clear O hall hj0
            obtain ⟨j, hj, rfl, hall, O⟩ := hrel
            replace hall := Lib.hid hall
            have PK := PL.out k (by have := HLEN.out.2; omega)
            rw [← HF.out k] at PK
            have q0 : (0 : Int) ≤ j := by omega
            have q2 : (0 : Int) ≤ k := by omega
            have W7 : wrap64 ((k : Int) + 1) = (k : Int) + 1 := IntWalk.wrap64_in _ (by have := HLEN.out.2; omega)
            have HK := Lib.hid (And.intro hlt W7)
            clear W7
            by_cases hjl : j < L.length
            · have q1 : (j : Int) < L.length := by omega
              obtain ⟨⟨x1, x2⟩, hx⟩ : ∃ x, L[j]? = some x := ⟨_, List.getElem?_eq_getElem hjl⟩
              have HX := Lib.hid hx
              have W9 : wrap64 ((j : Int) + 1) = (j : Int) + 1 := IntWalk.wrap64_in _ (by have := HLEN.out; omega)
              have HC := Lib.hid (And.intro hjl W9)
              clear W9
              by_cases he : x2 ≤ k
              · have c3 : decide (x2 ≤ k) = true := decide_eq_true he
                have HA : Hid (∀ a y, a < j + 1 → L[a]? = some y → y.2 ≤ k) := Lib.hid (fun a y ha hy => by
                  rcases Nat.lt_or_ge a j with h | h
                  · exact hall.out a y h hy
                  · have e : a = j := by omega
                    subst e
                    rw [HX.out, Option.some.injEq] at hy
                    rw [← hy]
                    exact he)
                clear hx he hj hlt hk hjl PK
                go_wp2_with (first | ((with_reducible refine at_index_ 88 ?_); refine wpList_at_h rfl Try.underlying31 sizeOfD _ (O.mem List.mem_cons_self) rfl j rfl rfl HC.out.1 rfl ?_) | ((with_reducible refine at_index_ 89 ?_); refine wpList_ina rfl Try.underlying33 sizeOf3 (by decide) 1 rfl rfl rfl (by decide) ?_) | ((with_reducible refine at_load 90 ?_); refine wpList_ecell_h (v := .int .i64 (x2 : Int)) rfl _ (O.mem List.mem_cons_self) (j * 2 + 1) (tC_at HX.out 1 _ rfl) (by rw [← adr_two]; rfl) agg3 rfl ?_))
                go_roundw
                case rel => exact ⟨j + 1, HC.out.1, congrArg (Value.int IntKind.i64) HC.out.2, HA.out, O⟩
                case measure => rw [HC.out.2]; simp only [intOf]; have := HC.out.1; omega
              · have c3 : decide (x2 ≤ k) = false := decide_eq_false he
                rw [HM.lit_at HIS.out hlt hx hall.out (by dsimp only; omega)] at PK
                dsimp only at PK
                have HJ := Lib.hid hj
                clear hx he hj hlt hk hjl
                cases c4 : decide (x1 ≤ k)
                all_goals
                  rw [c4] at PK
                  go_wp2_with (first | ((with_reducible refine at_index_ 88 ?_); refine wpList_at_h rfl Try.underlying31 sizeOfD _ (O.mem List.mem_cons_self) rfl j rfl rfl HC.out.1 rfl ?_) | ((with_reducible refine at_index_ 89 ?_); refine wpList_ina rfl Try.underlying33 sizeOf3 (by decide) 1 rfl rfl rfl (by decide) ?_) | ((with_reducible refine at_load 90 ?_); refine wpList_ecell_h (v := .int .i64 (x2 : Int)) rfl _ (O.mem List.mem_cons_self) (j * 2 + 1) (tC_at HX.out 1 _ rfl) (by rw [← adr_two]; rfl) agg3 rfl ?_) | ((with_reducible refine at_load 96 ?_); refine wpList_rowg_h rfl O 0 rfl rfl Try.underlying23 rfl (sH _) ?_) | (go_at_call 11; refine (PK _).mono ?_; rintro e w9 ⟨rfl, hb⟩; replace O := O.call hb; clear hb) | ((with_reducible refine at_index_ 106 ?_); refine wpList_at_h rfl Try.underlying31 sizeOfD _ (O.mem List.mem_cons_self) rfl j rfl rfl HC.out.1 rfl ?_) | ((with_reducible refine at_index_ 107 ?_); refine wpList_ina rfl Try.underlying33 sizeOf3 (by decide) 0 rfl rfl rfl (by decide) ?_) | ((with_reducible refine at_load 108 ?_); refine wpList_ecell_h (v := .int .i64 (x1 : Int)) rfl _ (O.mem List.mem_cons_self) (j * 2 + 0) (tC_at HX.out 0 _ rfl) (by rw [← adr_two]; rfl) agg3 rfl ?_))
                  go_roundw
                  case rel => exact ⟨j, k + 1, HJ.out, HK.out.1, rfl, congrArg (Value.int IntKind.i64) HK.out.2, fun a y ha hy => Nat.le_succ_of_le (hall.out a y ha hy), O⟩
                  case measure => rw [HK.out.2]; simp only [intOf]; have := HK.out.1; omega
            · have q1 : ¬ (j : Int) < L.length := by omega
              obtain rfl : j = L.length := by omega
              rw [HM.lit_end HIS.out hlt hall.out] at PK
              have HJ := Lib.hid hj
              clear hj hlt hk hjl
              go_wp2_with (first | ((with_reducible refine at_load 96 ?_); refine wpList_rowg_h rfl O 0 rfl rfl Try.underlying23 rfl (sH _) ?_) | (go_at_call 11; refine (PK _).mono ?_; rintro e w9 ⟨rfl, hb⟩; replace O := O.call hb; clear hb))
              go_roundw
              case rel => exact ⟨L.length, k + 1, HJ.out, HK.out.1, rfl, congrArg (Value.int IntKind.i64) HK.out.2, fun a y ha hy => Nat.le_succ_of_le (hall.out a y ha hy), O⟩
              case measure => rw [HK.out.2]; simp only [intOf]; have := HK.out.1; omega
        · have q1 : ¬ (k : Int) < m := by omega
          obtain rfl : k = m := by omega
          clear hlt hk
          go_wp2_with (go_at_call 10; refine (awake_any _).mono ?_; rintro e w20 ⟨rfl, hb⟩; replace O := O.call hb; clear hb)
          go_ret
          exact ⟨rfl, O.below⟩

theorem readable : ∀ t ∈ Try.f6.params.toList, Try.prog.readableRec t = true ∧ t < Try.prog.types.size := by
  intro t ht
  rw [Try.params6] at ht
  simp only [List.mem_cons, List.not_mem_nil, or_false] at ht
  repeat (first | (rcases ht with rfl | ht; exact ⟨by kernel_rfl, of_decide_eq_true (by kernel_rfl)⟩) | (subst ht; exact ⟨by kernel_rfl, of_decide_eq_true (by kernel_rfl)⟩))
set_option maxRecDepth 100000 in
theorem lifted (os : Os) (started : os.Started) (H : Type) (enc : TypeId × Value → H) :
    ReturnsInHanded {} Try.checked os 6 .any (Rows.dashSplitsSpec.pre6 enc Try.prog Try.f6 Rows.dashSplitsRow.domain false) (Rows.dashSplitsSpec.post enc Try.prog Try.f6 false true false false) := by
  refine returnsInHanded_of_change (C := Try.checked) own started (by kernel_rfl) Try.func6
    (ChangeSpec.witness6 (enc := enc) (C := Try.checked) false ⟨#[], #[.agg #[.int .i64 0, .int .i64 0, .int .i64 0], .int .i64 0], []⟩ 8 (by kernel_rfl) (by kernel_rfl) (by kernel_rfl) (by kernel_rfl)) ?_
  intro W base args ds gs before hval0 hW hcnd _
  have hval : ∀ (j : Nat) t v, Try.f6.params[j]? = some t → args[j]? = some v → Value.okWide Try.prog W .any base t v := hval0
  have hW' := hW
  obtain ⟨p, q, hA0, hV, rfl, hfz, hnd⟩ := hW
  have hA : DataW.TrodAll enc Try.prog W 0 (fun _ => true) true Try.f6.params.toList args.toList ds p := hA0
  rw [Try.params6] at hA hval
  have hlt : ∀ x ∈ p ++ q, x.block < W.heap.size := fun x hx => hW'.lt x hx
  obtain ⟨v0, vs0, d0, ds0, p0, q0, hargs, rfl, rfl, h0, rr0⟩ := trodAll_cons hA
  obtain ⟨v1, vs1, d1, ds1, p1, q1, rfl, rfl, rfl, h1, rr1⟩ := trodAll_cons rr0
  obtain ⟨rfl, rfl, rfl⟩ := trodAll_nil rr1
  obtain rfl : args = #[v0, v1] := by cases args; simp_all
  obtain ⟨rfl, rfl⟩ := trodVars_none hV
  obtain ⟨a0, rfl⟩ := openDash (hval 0 23 v0 rfl rfl) h0
  obtain ⟨i1, rfl, rfl, rfl, x1⟩ := open_int Try.underlying3 (hval 1 3 v1 rfl rfl) h1
  clear hA0 hval0
  refine (walk W a0 i1).mono fun e W' ⟨he, hg⟩ => ?_
  subst he
  exact ⟨_, rfl, post_true (tb := 4) laid readable (by kernel_rfl) Try.underlying4 rfl (fun l hl => by
    match l, hl with
    | [_, _], _ => exact ⟨rfl, rfl, rfl⟩) hW' hg⟩

theorem over : Rows.dashSplitsRow.holds Try.pinned (OpenSpec.ofChange Rows.dashSplitsSpec) :=
  OpenClaim.holds_of_wide 6 Try.f6 rfl rfl rfl rfl rfl rfl rfl ⟨rfl, rfl, rfl, rfl, rfl⟩ rfl rfl rfl rfl rfl (by kernel_rfl) Try.func6 (by kernel_rfl)
    (of_decide_eq_true (by kernel_rfl)) (by unfold Func.isWrapper; first | (rw [if_pos (by decide +kernel)]; kernel_rfl) | (rw [if_neg (by decide +kernel)]; exact ⟨rfl, rfl⟩))
    (fun os started H enc _ => lifted os started H enc)

theorem proved : Rows.DashSplitsSaid :=
  over
#print axioms proved
end Go.Proofs.Ytpomdghalkphcaa.dashSplits
