/- Contract of Turn. -/
import Derived.Test.YtidaffgfhmbomaaMul4
namespace Go.Proofs.Ytidaffgfhmbomaa
open Go.ChangeShapes Go.WideShapes Go.ChangeAt Go.RowKit
set_option linter.unusedVariables false
set_option linter.unusedSimpArgs false

namespace M
/-- The same, and across, behind so many quarters. -/
def cosN : Nat → Int
  | 0 => 65536 | 1 => 0 | 2 => -65536 | _ => 0
def sinN : Nat → Int
  | 0 => 0 | 1 => 65536 | 2 => 0 | _ => -65536
def rot (n l : Nat) (c s : Int) (j : Nat) : Int := if j = n * 4 + n ∨ j = l * 4 + l then c else if j = n * 4 + l then -s else if j = l * 4 + n then s else unit j
def turnA (a r : Nat) : Nat → Int := rot ((a + 1) % 3) ((a + 2) % 3) (cosN r) (sinN r)
def quarters (q : Int) : Nat := (q % 4).toNat
def turn (axis q : Int) : (Nat → Int) × Int := if 0 ≤ axis ∧ axis < 3 then (turnA axis.toNat (quarters q), 0) else (zero, 1)
theorem cos_next (k : Nat) (h : k < 3) : cosN (k + 1) = -(sinN k) ∧ sinN (k + 1) = cosN k := by
  match k, h with
  | 0, _ => exact ⟨rfl, rfl⟩
  | 1, _ => exact ⟨rfl, rfl⟩
  | 2, _ => exact ⟨rfl, rfl⟩
theorem cos_rng (k : Nat) : (-65536 ≤ cosN k ∧ cosN k ≤ 65536) ∧ -65536 ≤ sinN k ∧ sinN k ≤ 65536 := by
  match k with
  | 0 => decide
  | 1 => decide
  | 2 => decide
  | k + 3 => exact ⟨⟨by simp [cosN], by simp [cosN]⟩, by simp [sinN], by simp [sinN]⟩
theorem quarters_lt (q : Int) : quarters q < 4 := by unfold quarters; omega
theorem quarters_eq (q : Int) : q % 4 = (quarters q : Int) := by unfold quarters; omega
end M
set_option maxHeartbeats 4000000 in
theorem turn_no (axis q : Int) (h : axis < 0 ∨ 3 ≤ axis) (w : World) : Calls Try.prog 22 #[.int .i64 axis, .int .i64 q] w (RetTwo 16 w (M.turn axis q)) := by
  have O := Own.start w
  have hu2 := Try.underlying23
  have E : M.turn axis q = (M.zero, 1) := by unfold M.turn; rw [if_neg (by omega)]
  have HE := Lib.hid E
  clear E
  by_cases h0 : axis < 0
  · clear h
    go_enter Try.func22, Try.ntmps22
    go_wp2_with (first | ((with_reducible refine at_alloc 4 ?_); refine wpList_alloc_own O (M.mat 16 M.zero) zero23 ?_; clear O; intro g4 w1 O) | ((with_reducible refine at_build 17 ?_); refine wpList_build_own [] (M.mat 16 M.zero).toArray ?_ built23z ?_; (focus simp)) | ((with_reducible refine at_store 4 ?_); refine wpList_put_own O 0 (M.mat 16 (M.zero)) rfl rfl rfl (s23 _) (M.mat_len2 _ _ _) (M.mat_one _ _) ?_; clear O; intro w1 O))
    exact bodyPost_ret (v := .tuple #[arr 16 M.zero, .int .i64 1]) (res_cell2 rfl O 0 rfl rfl Try.underlying23 (s23 _) rfl) rfl ⟨by rw [HE.out], O.below⟩
  · have h3 : 3 ≤ axis := by omega
    clear h
    go_enter Try.func22, Try.ntmps22
    go_wp2_with (first | ((with_reducible refine at_alloc 4 ?_); refine wpList_alloc_own O (M.mat 16 M.zero) zero23 ?_; clear O; intro g4 w1 O) | ((with_reducible refine at_build 17 ?_); refine wpList_build_own [] (M.mat 16 M.zero).toArray ?_ built23z ?_; (focus simp)) | ((with_reducible refine at_store 4 ?_); refine wpList_put_own O 0 (M.mat 16 (M.zero)) rfl rfl rfl (s23 _) (M.mat_len2 _ _ _) (M.mat_one _ _) ?_; clear O; intro w1 O))
    exact bodyPost_ret (v := .tuple #[arr 16 M.zero, .int .i64 1]) (res_cell2 rfl O 0 rfl rfl Try.underlying23 (s23 _) rfl) rfl ⟨by rw [HE.out], O.below⟩
theorem and3 (n : Int) : bits .and .i64 n 3 = n % 4 := by
  have h3 : (BitVec.ofInt 64 3).toNat = 2 ^ 2 - 1 := by decide
  show IntKind.i64.wrap (((BitVec.ofInt 64 n &&& BitVec.ofInt 64 3).toNat : Nat) : Int) = n % 4
  rw [BitVec.toNat_and, BitVec.toNat_ofInt, h3, Nat.and_two_pow_sub_one_eq_mod, IntKind.wrap_i64]
  omega
theorem turn_cells_0 (c s : Int) : (((((M.mat 16 M.unit).set 5 (.int .i64 c)).set 6 (.int .i64 (-s))).set 9 (.int .i64 s)).set 10 (.int .i64 c)) = M.mat 16 (M.rot 1 2 c s) := by rfl
set_option maxHeartbeats 8000000 in
theorem turn_0 (q : Int) (w : World) : Calls Try.prog 22 #[.int .i64 0, .int .i64 q] w (RetTwo 16 w (M.turn 0 q)) := by
  have O := Own.start w
  have hu2 := Try.underlying23
  have E : M.turn 0 q = (M.rot 1 2 (M.cosN (M.quarters q)) (M.sinN (M.quarters q)), 0) := by unfold M.turn; rw [if_pos (by decide)]; rfl
  have HE := Lib.hid E
  clear E
  have hq : bits .and .i64 q 3 = (M.quarters q : Int) := by rw [and3, M.quarters_eq]
  have hr := M.quarters_lt q
  generalize M.quarters q = r at *
  have q0 : (0 : Int) ≤ r := by omega
  have q1 : (r : Int) < 4 := by omega
  go_enter Try.func22, Try.ntmps22
  go_wp2_with ((with_reducible refine at_alloc 4 ?_); refine wpList_alloc_own O (M.mat 16 M.zero) zero23 ?_; clear O; intro g4 w1 O)
  clear hq
  obtain ⟨wo, rfl⟩ : ∃ wo : World, wo = w1 := ⟨_, rfl⟩
  go_loopw [6, 7, 20] (fun u v x wr => ∃ k : Nat, k ≤ r ∧ u = .int .i64 (M.cosN k) ∧ v = .int .i64 (M.sinN k) ∧ x = .int .i64 k ∧ wo = wr) (fun _ _ x _ => r - (intOf x).toNat)
  case atStart => exact ⟨0, by omega, rfl, rfl, rfl, rfl⟩
  case round =>
    obtain ⟨k, hk, rfl, rfl, rfl, rfl⟩ := hrel
    have q2 : (0 : Int) ≤ k := by omega
    obtain ⟨⟨b1, b2⟩, b3, b4⟩ := M.cos_rng k
    by_cases hlt : k < r
    · have q3 : (k : Int) < r := by omega
      have HN := Lib.hid (M.cos_next k (by omega))
      go_wp2_with fail
      go_roundw
      case rel => exact ⟨k + 1, by omega, by rw [HN.out.1], by rw [HN.out.2], by go_num, trivial⟩
      case measure => simp [intOf]; omega
    · have q3 : ¬ (k : Int) < r := by omega
      obtain rfl : r = k := by omega
      generalize M.cosN r = c at *
      generalize M.sinN r = s at *
      go_wp2_with (first | (go_at_call 16; refine (unit_any _).mono ?_; rintro e w1 ⟨rfl, hb⟩; replace O := O.call hb; clear hb) | ((with_reducible refine at_alloc 8 ?_); refine wpList_alloc_own O (M.mat 16 M.zero) zero23 ?_; clear O; intro g8 w1 O) | ((with_reducible refine at_store 8 ?_); refine wpList_put_own O 0 (M.mat 16 (M.unit)) rfl rfl rfl (s23 _) (M.mat_len2 _ _ _) (M.mat_one _ _) ?_; clear O; intro w1 O))
      refine region_W (fun b w2 => Own w w2 [(g8, 23, cond b ((M.mat 16 M.unit).set 5 (.int .i64 (c))) (M.mat 16 M.unit)), (g4, 23, M.mat 16 M.zero)]) 10 [0, 1, 2, 3, 4, 5, 6, 7, 8, 9, 10, 11] [some 33, some 34, some 35, some 36, some 37, some 38, some 39, some 40, some 41, some 42, none, some 43] [.int .i64 1, .int .i64 1, .int .i64 5, .int .i64 1, .int .i64 2, .int .i64 6, .int .i64 c, .int .i64 s, .int .i64 (-s), .pointer (some ⟨g8, 5, none⟩), undef, .pointer (some ⟨g8, 6, none⟩)] 1 (by kernel_rfl) (by kernel_rfl) (by rfl) (by rfl) (by decide) (O.drew) (fun F hF => ?_)
      simp only [fillD, Act.put, List.setIfInBounds_toArray, List.set_cons_zero, List.set_cons_succ] at hF
      subst hF
      refine ⟨⟨does_other (by decide) (fun b => does_want rfl (by rfl) (fun w' O K hK => ?_)), does_other (by decide) (fun b => does_want rfl (by rfl) (fun w' O K hK => ?_)), does_other (by decide) (fun b => does_want rfl (by rfl) (fun w' O K hK => ?_)), does_other (by decide) (fun b => does_want rfl (by rfl) (fun w' O K hK => ?_)), does_other (by decide) (fun b => does_want rfl (by rfl) (fun w' O K hK => ?_)), does_other (by decide) (fun b => does_want rfl (by rfl) (fun w' O K hK => ?_)), does_other (by decide) (fun b => does_want rfl (by rfl) (fun w' O K hK => ?_)), does_other (by decide) (fun b => does_want rfl (by rfl) (fun w' O K hK => ?_)), does_other (by decide) (fun b => does_want rfl (by rfl) (fun w' O K hK => ?_)), does_other (by decide) (fun b => does_want rfl (by rfl) (fun w' O K hK => ?_)), does_store rfl rfl (by rfl) (fun w' O K hK => ?_), does_other (by decide) (fun b => does_want rfl (by rfl) (fun w' O K hK => ?_)), trivial⟩, fun w' O => ?_⟩
      · go_simp
        exact hK _ O
      · go_simp
        exact hK _ O
      · go_simp
        go_at_call 26
        refine (place_int 1 1 _ (by decide) (by decide)).mono ?_
        rintro e w2 ⟨rfl, rfl⟩
        exact hK _ O
      · go_simp
        exact hK _ O
      · go_simp
        exact hK _ O
      · go_simp
        go_at_call 26
        refine (place_int 1 2 _ (by decide) (by decide)).mono ?_
        rintro e w2 ⟨rfl, rfl⟩
        exact hK _ O
      · go_simp
        exact hK _ O
      · go_simp
        exact hK _ O
      · have e : IntKind.i64.wrap (-s) = -s := IntWalk.i64_in _ (by omega)
        go_simp
        exact hK _ O
      · exact wp_index_own Try.underlying23 sizeOf3 (by decide) 5 rfl rfl (by decide) (by decide) (hK _ O)
      · refine wp_set_own O 0 (.int .i64 (c)) rfl (by simp [M.mat_len]) rfl rfl size3 rfl rfl fun w9 O9 => hK _ ?_
        exact O9
      · exact wp_index_own Try.underlying23 sizeOf3 (by decide) 6 rfl rfl (by decide) (by decide) (hK _ O)
      refine wpAny_want (i := 12) (by kernel_rfl) rfl (by rfl) (fun K hK => ?_)
      refine wp_set_own O 0 (.int .i64 (-s)) rfl (by simp [M.mat_len]) rfl rfl size3 rfl rfl fun w9 O9 => hK _ _ ?_
      clear O
      have O := O9
      clear O9
      clear hK K
      try simp only [Act.put, List.setIfInBounds_toArray, List.set_cons_zero, List.set_cons_succ]
      refine wpAny_done (by kernel_rfl) ?_ _
      go_wp2_with fail
      refine region_W (fun b w2 => Own w w2 [(g8, 23, cond b ((((M.mat 16 M.unit).set 5 (.int .i64 c)).set 6 (.int .i64 (-s))).set 9 (.int .i64 (s))) (((M.mat 16 M.unit).set 5 (.int .i64 c)).set 6 (.int .i64 (-s)))), (g4, 23, M.mat 16 M.zero)]) 9 [0, 1, 2, 3, 4, 5, 6, 7, 8, 9, 10] [some 44, some 45, some 46, some 47, some 48, some 49, some 50, some 51, some 52, none, some 53] [.int .i64 2, .int .i64 1, .int .i64 9, .int .i64 2, .int .i64 2, .int .i64 10, .int .i64 s, .int .i64 c, .pointer (some ⟨g8, 9, none⟩), undef, .pointer (some ⟨g8, 10, none⟩)] 1 (by kernel_rfl) (by kernel_rfl) (by rfl) (by rfl) (by decide) (O.drew) (fun F hF => ?_)
      simp only [fillD, Act.put, List.setIfInBounds_toArray, List.set_cons_zero, List.set_cons_succ] at hF
      subst hF
      refine ⟨⟨does_other (by decide) (fun b => does_want rfl (by rfl) (fun w' O K hK => ?_)), does_other (by decide) (fun b => does_want rfl (by rfl) (fun w' O K hK => ?_)), does_other (by decide) (fun b => does_want rfl (by rfl) (fun w' O K hK => ?_)), does_other (by decide) (fun b => does_want rfl (by rfl) (fun w' O K hK => ?_)), does_other (by decide) (fun b => does_want rfl (by rfl) (fun w' O K hK => ?_)), does_other (by decide) (fun b => does_want rfl (by rfl) (fun w' O K hK => ?_)), does_other (by decide) (fun b => does_want rfl (by rfl) (fun w' O K hK => ?_)), does_other (by decide) (fun b => does_want rfl (by rfl) (fun w' O K hK => ?_)), does_other (by decide) (fun b => does_want rfl (by rfl) (fun w' O K hK => ?_)), does_store rfl rfl (by rfl) (fun w' O K hK => ?_), does_other (by decide) (fun b => does_want rfl (by rfl) (fun w' O K hK => ?_)), trivial⟩, fun w' O => ?_⟩
      · go_simp
        exact hK _ O
      · go_simp
        exact hK _ O
      · go_simp
        go_at_call 26
        refine (place_int 2 1 _ (by decide) (by decide)).mono ?_
        rintro e w2 ⟨rfl, rfl⟩
        exact hK _ O
      · go_simp
        exact hK _ O
      · go_simp
        exact hK _ O
      · go_simp
        go_at_call 26
        refine (place_int 2 2 _ (by decide) (by decide)).mono ?_
        rintro e w2 ⟨rfl, rfl⟩
        exact hK _ O
      · go_simp
        exact hK _ O
      · go_simp
        exact hK _ O
      · exact wp_index_own Try.underlying23 sizeOf3 (by decide) 9 rfl rfl (by decide) (by decide) (hK _ O)
      · refine wp_set_own O 0 (.int .i64 (s)) rfl (by simp [M.mat_len]) rfl rfl size3 rfl rfl fun w9 O9 => hK _ ?_
        exact O9
      · exact wp_index_own Try.underlying23 sizeOf3 (by decide) 10 rfl rfl (by decide) (by decide) (hK _ O)
      refine wpAny_want (i := 11) (by kernel_rfl) rfl (by rfl) (fun K hK => ?_)
      refine wp_set_own O 0 (.int .i64 (c)) rfl (by simp [M.mat_len]) rfl rfl size3 rfl rfl fun w9 O9 => hK _ _ ?_
      clear O
      have O := O9
      clear O9
      clear hK K
      try simp only [Act.put, List.setIfInBounds_toArray, List.set_cons_zero, List.set_cons_succ]
      refine wpAny_done (by kernel_rfl) ?_ _
      have O2 : Own w w9 [(g8, 23, M.mat 16 (M.rot 1 2 c s)), (g4, 23, M.mat 16 M.zero)] := by rw [← turn_cells_0]; exact O
      clear O
      have O := O2
      clear O2
      go_wp2_with (first | ((with_reducible refine at_load 54 ?_); refine wpList_row_own O 0 rfl rfl Try.underlying23 (s23 _) ?_) | ((with_reducible refine at_store 4 ?_); refine wpList_put_own O 1 (M.mat 16 (M.rot 1 2 c s)) rfl rfl rfl (s23 _) (M.mat_len2 _ _ _) (M.mat_one _ _) ?_; clear O; intro w1 O))
      exact bodyPost_ret (v := .tuple #[arr 16 (M.rot 1 2 c s), .int .i64 0]) (res_cell2 rfl O 1 rfl rfl Try.underlying23 (s23 _) rfl) rfl ⟨by rw [HE.out], O.below⟩
theorem turn_cells_1 (c s : Int) : (((((M.mat 16 M.unit).set 10 (.int .i64 c)).set 8 (.int .i64 (-s))).set 2 (.int .i64 s)).set 0 (.int .i64 c)) = M.mat 16 (M.rot 2 0 c s) := by rfl
set_option maxHeartbeats 8000000 in
theorem turn_1 (q : Int) (w : World) : Calls Try.prog 22 #[.int .i64 1, .int .i64 q] w (RetTwo 16 w (M.turn 1 q)) := by
  have O := Own.start w
  have hu2 := Try.underlying23
  have E : M.turn 1 q = (M.rot 2 0 (M.cosN (M.quarters q)) (M.sinN (M.quarters q)), 0) := by unfold M.turn; rw [if_pos (by decide)]; rfl
  have HE := Lib.hid E
  clear E
  have hq : bits .and .i64 q 3 = (M.quarters q : Int) := by rw [and3, M.quarters_eq]
  have hr := M.quarters_lt q
  generalize M.quarters q = r at *
  have q0 : (0 : Int) ≤ r := by omega
  have q1 : (r : Int) < 4 := by omega
  go_enter Try.func22, Try.ntmps22
  go_wp2_with ((with_reducible refine at_alloc 4 ?_); refine wpList_alloc_own O (M.mat 16 M.zero) zero23 ?_; clear O; intro g4 w1 O)
  clear hq
  obtain ⟨wo, rfl⟩ : ∃ wo : World, wo = w1 := ⟨_, rfl⟩
  go_loopw [6, 7, 20] (fun u v x wr => ∃ k : Nat, k ≤ r ∧ u = .int .i64 (M.cosN k) ∧ v = .int .i64 (M.sinN k) ∧ x = .int .i64 k ∧ wo = wr) (fun _ _ x _ => r - (intOf x).toNat)
  case atStart => exact ⟨0, by omega, rfl, rfl, rfl, rfl⟩
  case round =>
    obtain ⟨k, hk, rfl, rfl, rfl, rfl⟩ := hrel
    have q2 : (0 : Int) ≤ k := by omega
    obtain ⟨⟨b1, b2⟩, b3, b4⟩ := M.cos_rng k
    by_cases hlt : k < r
    · have q3 : (k : Int) < r := by omega
      have HN := Lib.hid (M.cos_next k (by omega))
      go_wp2_with fail
      go_roundw
      case rel => exact ⟨k + 1, by omega, by rw [HN.out.1], by rw [HN.out.2], by go_num, trivial⟩
      case measure => simp [intOf]; omega
    · have q3 : ¬ (k : Int) < r := by omega
      obtain rfl : r = k := by omega
      generalize M.cosN r = c at *
      generalize M.sinN r = s at *
      go_wp2_with (first | (go_at_call 16; refine (unit_any _).mono ?_; rintro e w1 ⟨rfl, hb⟩; replace O := O.call hb; clear hb) | ((with_reducible refine at_alloc 8 ?_); refine wpList_alloc_own O (M.mat 16 M.zero) zero23 ?_; clear O; intro g8 w1 O) | ((with_reducible refine at_store 8 ?_); refine wpList_put_own O 0 (M.mat 16 (M.unit)) rfl rfl rfl (s23 _) (M.mat_len2 _ _ _) (M.mat_one _ _) ?_; clear O; intro w1 O))
      refine region_W (fun b w2 => Own w w2 [(g8, 23, cond b ((M.mat 16 M.unit).set 10 (.int .i64 (c))) (M.mat 16 M.unit)), (g4, 23, M.mat 16 M.zero)]) 10 [0, 1, 2, 3, 4, 5, 6, 7, 8, 9, 10, 11] [some 33, some 34, some 35, some 36, some 37, some 38, some 39, some 40, some 41, some 42, none, some 43] [.int .i64 2, .int .i64 2, .int .i64 10, .int .i64 2, .int .i64 0, .int .i64 8, .int .i64 c, .int .i64 s, .int .i64 (-s), .pointer (some ⟨g8, 10, none⟩), undef, .pointer (some ⟨g8, 8, none⟩)] 1 (by kernel_rfl) (by kernel_rfl) (by rfl) (by rfl) (by decide) (O.drew) (fun F hF => ?_)
      simp only [fillD, Act.put, List.setIfInBounds_toArray, List.set_cons_zero, List.set_cons_succ] at hF
      subst hF
      refine ⟨⟨does_other (by decide) (fun b => does_want rfl (by rfl) (fun w' O K hK => ?_)), does_other (by decide) (fun b => does_want rfl (by rfl) (fun w' O K hK => ?_)), does_other (by decide) (fun b => does_want rfl (by rfl) (fun w' O K hK => ?_)), does_other (by decide) (fun b => does_want rfl (by rfl) (fun w' O K hK => ?_)), does_other (by decide) (fun b => does_want rfl (by rfl) (fun w' O K hK => ?_)), does_other (by decide) (fun b => does_want rfl (by rfl) (fun w' O K hK => ?_)), does_other (by decide) (fun b => does_want rfl (by rfl) (fun w' O K hK => ?_)), does_other (by decide) (fun b => does_want rfl (by rfl) (fun w' O K hK => ?_)), does_other (by decide) (fun b => does_want rfl (by rfl) (fun w' O K hK => ?_)), does_other (by decide) (fun b => does_want rfl (by rfl) (fun w' O K hK => ?_)), does_store rfl rfl (by rfl) (fun w' O K hK => ?_), does_other (by decide) (fun b => does_want rfl (by rfl) (fun w' O K hK => ?_)), trivial⟩, fun w' O => ?_⟩
      · go_simp
        exact hK _ O
      · go_simp
        exact hK _ O
      · go_simp
        go_at_call 26
        refine (place_int 2 2 _ (by decide) (by decide)).mono ?_
        rintro e w2 ⟨rfl, rfl⟩
        exact hK _ O
      · go_simp
        exact hK _ O
      · go_simp
        exact hK _ O
      · go_simp
        go_at_call 26
        refine (place_int 2 0 _ (by decide) (by decide)).mono ?_
        rintro e w2 ⟨rfl, rfl⟩
        exact hK _ O
      · go_simp
        exact hK _ O
      · go_simp
        exact hK _ O
      · have e : IntKind.i64.wrap (-s) = -s := IntWalk.i64_in _ (by omega)
        go_simp
        exact hK _ O
      · exact wp_index_own Try.underlying23 sizeOf3 (by decide) 10 rfl rfl (by decide) (by decide) (hK _ O)
      · refine wp_set_own O 0 (.int .i64 (c)) rfl (by simp [M.mat_len]) rfl rfl size3 rfl rfl fun w9 O9 => hK _ ?_
        exact O9
      · exact wp_index_own Try.underlying23 sizeOf3 (by decide) 8 rfl rfl (by decide) (by decide) (hK _ O)
      refine wpAny_want (i := 12) (by kernel_rfl) rfl (by rfl) (fun K hK => ?_)
      refine wp_set_own O 0 (.int .i64 (-s)) rfl (by simp [M.mat_len]) rfl rfl size3 rfl rfl fun w9 O9 => hK _ _ ?_
      clear O
      have O := O9
      clear O9
      clear hK K
      try simp only [Act.put, List.setIfInBounds_toArray, List.set_cons_zero, List.set_cons_succ]
      refine wpAny_done (by kernel_rfl) ?_ _
      go_wp2_with fail
      refine region_W (fun b w2 => Own w w2 [(g8, 23, cond b ((((M.mat 16 M.unit).set 10 (.int .i64 c)).set 8 (.int .i64 (-s))).set 2 (.int .i64 (s))) (((M.mat 16 M.unit).set 10 (.int .i64 c)).set 8 (.int .i64 (-s)))), (g4, 23, M.mat 16 M.zero)]) 9 [0, 1, 2, 3, 4, 5, 6, 7, 8, 9, 10] [some 44, some 45, some 46, some 47, some 48, some 49, some 50, some 51, some 52, none, some 53] [.int .i64 0, .int .i64 2, .int .i64 2, .int .i64 0, .int .i64 0, .int .i64 0, .int .i64 s, .int .i64 c, .pointer (some ⟨g8, 2, none⟩), undef, .pointer (some ⟨g8, 0, none⟩)] 1 (by kernel_rfl) (by kernel_rfl) (by rfl) (by rfl) (by decide) (O.drew) (fun F hF => ?_)
      simp only [fillD, Act.put, List.setIfInBounds_toArray, List.set_cons_zero, List.set_cons_succ] at hF
      subst hF
      refine ⟨⟨does_other (by decide) (fun b => does_want rfl (by rfl) (fun w' O K hK => ?_)), does_other (by decide) (fun b => does_want rfl (by rfl) (fun w' O K hK => ?_)), does_other (by decide) (fun b => does_want rfl (by rfl) (fun w' O K hK => ?_)), does_other (by decide) (fun b => does_want rfl (by rfl) (fun w' O K hK => ?_)), does_other (by decide) (fun b => does_want rfl (by rfl) (fun w' O K hK => ?_)), does_other (by decide) (fun b => does_want rfl (by rfl) (fun w' O K hK => ?_)), does_other (by decide) (fun b => does_want rfl (by rfl) (fun w' O K hK => ?_)), does_other (by decide) (fun b => does_want rfl (by rfl) (fun w' O K hK => ?_)), does_other (by decide) (fun b => does_want rfl (by rfl) (fun w' O K hK => ?_)), does_store rfl rfl (by rfl) (fun w' O K hK => ?_), does_other (by decide) (fun b => does_want rfl (by rfl) (fun w' O K hK => ?_)), trivial⟩, fun w' O => ?_⟩
      · go_simp
        exact hK _ O
      · go_simp
        exact hK _ O
      · go_simp
        go_at_call 26
        refine (place_int 0 2 _ (by decide) (by decide)).mono ?_
        rintro e w2 ⟨rfl, rfl⟩
        exact hK _ O
      · go_simp
        exact hK _ O
      · go_simp
        exact hK _ O
      · go_simp
        go_at_call 26
        refine (place_int 0 0 _ (by decide) (by decide)).mono ?_
        rintro e w2 ⟨rfl, rfl⟩
        exact hK _ O
      · go_simp
        exact hK _ O
      · go_simp
        exact hK _ O
      · exact wp_index_own Try.underlying23 sizeOf3 (by decide) 2 rfl rfl (by decide) (by decide) (hK _ O)
      · refine wp_set_own O 0 (.int .i64 (s)) rfl (by simp [M.mat_len]) rfl rfl size3 rfl rfl fun w9 O9 => hK _ ?_
        exact O9
      · exact wp_index_own Try.underlying23 sizeOf3 (by decide) 0 rfl rfl (by decide) (by decide) (hK _ O)
      refine wpAny_want (i := 11) (by kernel_rfl) rfl (by rfl) (fun K hK => ?_)
      refine wp_set_own O 0 (.int .i64 (c)) rfl (by simp [M.mat_len]) rfl rfl size3 rfl rfl fun w9 O9 => hK _ _ ?_
      clear O
      have O := O9
      clear O9
      clear hK K
      try simp only [Act.put, List.setIfInBounds_toArray, List.set_cons_zero, List.set_cons_succ]
      refine wpAny_done (by kernel_rfl) ?_ _
      have O2 : Own w w9 [(g8, 23, M.mat 16 (M.rot 2 0 c s)), (g4, 23, M.mat 16 M.zero)] := by rw [← turn_cells_1]; exact O
      clear O
      have O := O2
      clear O2
      go_wp2_with (first | ((with_reducible refine at_load 54 ?_); refine wpList_row_own O 0 rfl rfl Try.underlying23 (s23 _) ?_) | ((with_reducible refine at_store 4 ?_); refine wpList_put_own O 1 (M.mat 16 (M.rot 2 0 c s)) rfl rfl rfl (s23 _) (M.mat_len2 _ _ _) (M.mat_one _ _) ?_; clear O; intro w1 O))
      exact bodyPost_ret (v := .tuple #[arr 16 (M.rot 2 0 c s), .int .i64 0]) (res_cell2 rfl O 1 rfl rfl Try.underlying23 (s23 _) rfl) rfl ⟨by rw [HE.out], O.below⟩
theorem turn_cells_2 (c s : Int) : (((((M.mat 16 M.unit).set 0 (.int .i64 c)).set 1 (.int .i64 (-s))).set 4 (.int .i64 s)).set 5 (.int .i64 c)) = M.mat 16 (M.rot 0 1 c s) := by rfl
set_option maxHeartbeats 8000000 in
theorem turn_2 (q : Int) (w : World) : Calls Try.prog 22 #[.int .i64 2, .int .i64 q] w (RetTwo 16 w (M.turn 2 q)) := by
  have O := Own.start w
  have hu2 := Try.underlying23
  have E : M.turn 2 q = (M.rot 0 1 (M.cosN (M.quarters q)) (M.sinN (M.quarters q)), 0) := by unfold M.turn; rw [if_pos (by decide)]; rfl
  have HE := Lib.hid E
  clear E
  have hq : bits .and .i64 q 3 = (M.quarters q : Int) := by rw [and3, M.quarters_eq]
  have hr := M.quarters_lt q
  generalize M.quarters q = r at *
  have q0 : (0 : Int) ≤ r := by omega
  have q1 : (r : Int) < 4 := by omega
  go_enter Try.func22, Try.ntmps22
  go_wp2_with ((with_reducible refine at_alloc 4 ?_); refine wpList_alloc_own O (M.mat 16 M.zero) zero23 ?_; clear O; intro g4 w1 O)
  clear hq
  obtain ⟨wo, rfl⟩ : ∃ wo : World, wo = w1 := ⟨_, rfl⟩
  go_loopw [6, 7, 20] (fun u v x wr => ∃ k : Nat, k ≤ r ∧ u = .int .i64 (M.cosN k) ∧ v = .int .i64 (M.sinN k) ∧ x = .int .i64 k ∧ wo = wr) (fun _ _ x _ => r - (intOf x).toNat)
  case atStart => exact ⟨0, by omega, rfl, rfl, rfl, rfl⟩
  case round =>
    obtain ⟨k, hk, rfl, rfl, rfl, rfl⟩ := hrel
    have q2 : (0 : Int) ≤ k := by omega
    obtain ⟨⟨b1, b2⟩, b3, b4⟩ := M.cos_rng k
    by_cases hlt : k < r
    · have q3 : (k : Int) < r := by omega
      have HN := Lib.hid (M.cos_next k (by omega))
      go_wp2_with fail
      go_roundw
      case rel => exact ⟨k + 1, by omega, by rw [HN.out.1], by rw [HN.out.2], by go_num, trivial⟩
      case measure => simp [intOf]; omega
    · have q3 : ¬ (k : Int) < r := by omega
      obtain rfl : r = k := by omega
      generalize M.cosN r = c at *
      generalize M.sinN r = s at *
      go_wp2_with (first | (go_at_call 16; refine (unit_any _).mono ?_; rintro e w1 ⟨rfl, hb⟩; replace O := O.call hb; clear hb) | ((with_reducible refine at_alloc 8 ?_); refine wpList_alloc_own O (M.mat 16 M.zero) zero23 ?_; clear O; intro g8 w1 O) | ((with_reducible refine at_store 8 ?_); refine wpList_put_own O 0 (M.mat 16 (M.unit)) rfl rfl rfl (s23 _) (M.mat_len2 _ _ _) (M.mat_one _ _) ?_; clear O; intro w1 O))
      refine region_W (fun b w2 => Own w w2 [(g8, 23, cond b ((M.mat 16 M.unit).set 0 (.int .i64 (c))) (M.mat 16 M.unit)), (g4, 23, M.mat 16 M.zero)]) 10 [0, 1, 2, 3, 4, 5, 6, 7, 8, 9, 10, 11] [some 33, some 34, some 35, some 36, some 37, some 38, some 39, some 40, some 41, some 42, none, some 43] [.int .i64 0, .int .i64 0, .int .i64 0, .int .i64 0, .int .i64 1, .int .i64 1, .int .i64 c, .int .i64 s, .int .i64 (-s), .pointer (some ⟨g8, 0, none⟩), undef, .pointer (some ⟨g8, 1, none⟩)] 1 (by kernel_rfl) (by kernel_rfl) (by rfl) (by rfl) (by decide) (O.drew) (fun F hF => ?_)
      simp only [fillD, Act.put, List.setIfInBounds_toArray, List.set_cons_zero, List.set_cons_succ] at hF
      subst hF
      refine ⟨⟨does_other (by decide) (fun b => does_want rfl (by rfl) (fun w' O K hK => ?_)), does_other (by decide) (fun b => does_want rfl (by rfl) (fun w' O K hK => ?_)), does_other (by decide) (fun b => does_want rfl (by rfl) (fun w' O K hK => ?_)), does_other (by decide) (fun b => does_want rfl (by rfl) (fun w' O K hK => ?_)), does_other (by decide) (fun b => does_want rfl (by rfl) (fun w' O K hK => ?_)), does_other (by decide) (fun b => does_want rfl (by rfl) (fun w' O K hK => ?_)), does_other (by decide) (fun b => does_want rfl (by rfl) (fun w' O K hK => ?_)), does_other (by decide) (fun b => does_want rfl (by rfl) (fun w' O K hK => ?_)), does_other (by decide) (fun b => does_want rfl (by rfl) (fun w' O K hK => ?_)), does_other (by decide) (fun b => does_want rfl (by rfl) (fun w' O K hK => ?_)), does_store rfl rfl (by rfl) (fun w' O K hK => ?_), does_other (by decide) (fun b => does_want rfl (by rfl) (fun w' O K hK => ?_)), trivial⟩, fun w' O => ?_⟩
      · go_simp
        exact hK _ O
      · go_simp
        exact hK _ O
      · go_simp
        go_at_call 26
        refine (place_int 0 0 _ (by decide) (by decide)).mono ?_
        rintro e w2 ⟨rfl, rfl⟩
        exact hK _ O
      · go_simp
        exact hK _ O
      · go_simp
        exact hK _ O
      · go_simp
        go_at_call 26
        refine (place_int 0 1 _ (by decide) (by decide)).mono ?_
        rintro e w2 ⟨rfl, rfl⟩
        exact hK _ O
      · go_simp
        exact hK _ O
      · go_simp
        exact hK _ O
      · have e : IntKind.i64.wrap (-s) = -s := IntWalk.i64_in _ (by omega)
        go_simp
        exact hK _ O
      · exact wp_index_own Try.underlying23 sizeOf3 (by decide) 0 rfl rfl (by decide) (by decide) (hK _ O)
      · refine wp_set_own O 0 (.int .i64 (c)) rfl (by simp [M.mat_len]) rfl rfl size3 rfl rfl fun w9 O9 => hK _ ?_
        exact O9
      · exact wp_index_own Try.underlying23 sizeOf3 (by decide) 1 rfl rfl (by decide) (by decide) (hK _ O)
      refine wpAny_want (i := 12) (by kernel_rfl) rfl (by rfl) (fun K hK => ?_)
      refine wp_set_own O 0 (.int .i64 (-s)) rfl (by simp [M.mat_len]) rfl rfl size3 rfl rfl fun w9 O9 => hK _ _ ?_
      clear O
      have O := O9
      clear O9
      clear hK K
      try simp only [Act.put, List.setIfInBounds_toArray, List.set_cons_zero, List.set_cons_succ]
      refine wpAny_done (by kernel_rfl) ?_ _
      go_wp2_with fail
      refine region_W (fun b w2 => Own w w2 [(g8, 23, cond b ((((M.mat 16 M.unit).set 0 (.int .i64 c)).set 1 (.int .i64 (-s))).set 4 (.int .i64 (s))) (((M.mat 16 M.unit).set 0 (.int .i64 c)).set 1 (.int .i64 (-s)))), (g4, 23, M.mat 16 M.zero)]) 9 [0, 1, 2, 3, 4, 5, 6, 7, 8, 9, 10] [some 44, some 45, some 46, some 47, some 48, some 49, some 50, some 51, some 52, none, some 53] [.int .i64 1, .int .i64 0, .int .i64 4, .int .i64 1, .int .i64 1, .int .i64 5, .int .i64 s, .int .i64 c, .pointer (some ⟨g8, 4, none⟩), undef, .pointer (some ⟨g8, 5, none⟩)] 1 (by kernel_rfl) (by kernel_rfl) (by rfl) (by rfl) (by decide) (O.drew) (fun F hF => ?_)
      simp only [fillD, Act.put, List.setIfInBounds_toArray, List.set_cons_zero, List.set_cons_succ] at hF
      subst hF
      refine ⟨⟨does_other (by decide) (fun b => does_want rfl (by rfl) (fun w' O K hK => ?_)), does_other (by decide) (fun b => does_want rfl (by rfl) (fun w' O K hK => ?_)), does_other (by decide) (fun b => does_want rfl (by rfl) (fun w' O K hK => ?_)), does_other (by decide) (fun b => does_want rfl (by rfl) (fun w' O K hK => ?_)), does_other (by decide) (fun b => does_want rfl (by rfl) (fun w' O K hK => ?_)), does_other (by decide) (fun b => does_want rfl (by rfl) (fun w' O K hK => ?_)), does_other (by decide) (fun b => does_want rfl (by rfl) (fun w' O K hK => ?_)), does_other (by decide) (fun b => does_want rfl (by rfl) (fun w' O K hK => ?_)), does_other (by decide) (fun b => does_want rfl (by rfl) (fun w' O K hK => ?_)), does_store rfl rfl (by rfl) (fun w' O K hK => ?_), does_other (by decide) (fun b => does_want rfl (by rfl) (fun w' O K hK => ?_)), trivial⟩, fun w' O => ?_⟩
      · go_simp
        exact hK _ O
      · go_simp
        exact hK _ O
      · go_simp
        go_at_call 26
        refine (place_int 1 0 _ (by decide) (by decide)).mono ?_
        rintro e w2 ⟨rfl, rfl⟩
        exact hK _ O
      · go_simp
        exact hK _ O
      · go_simp
        exact hK _ O
      · go_simp
        go_at_call 26
        refine (place_int 1 1 _ (by decide) (by decide)).mono ?_
        rintro e w2 ⟨rfl, rfl⟩
        exact hK _ O
      · go_simp
        exact hK _ O
      · go_simp
        exact hK _ O
      · exact wp_index_own Try.underlying23 sizeOf3 (by decide) 4 rfl rfl (by decide) (by decide) (hK _ O)
      · refine wp_set_own O 0 (.int .i64 (s)) rfl (by simp [M.mat_len]) rfl rfl size3 rfl rfl fun w9 O9 => hK _ ?_
        exact O9
      · exact wp_index_own Try.underlying23 sizeOf3 (by decide) 5 rfl rfl (by decide) (by decide) (hK _ O)
      refine wpAny_want (i := 11) (by kernel_rfl) rfl (by rfl) (fun K hK => ?_)
      refine wp_set_own O 0 (.int .i64 (c)) rfl (by simp [M.mat_len]) rfl rfl size3 rfl rfl fun w9 O9 => hK _ _ ?_
      clear O
      have O := O9
      clear O9
      clear hK K
      try simp only [Act.put, List.setIfInBounds_toArray, List.set_cons_zero, List.set_cons_succ]
      refine wpAny_done (by kernel_rfl) ?_ _
      have O2 : Own w w9 [(g8, 23, M.mat 16 (M.rot 0 1 c s)), (g4, 23, M.mat 16 M.zero)] := by rw [← turn_cells_2]; exact O
      clear O
      have O := O2
      clear O2
      go_wp2_with (first | ((with_reducible refine at_load 54 ?_); refine wpList_row_own O 0 rfl rfl Try.underlying23 (s23 _) ?_) | ((with_reducible refine at_store 4 ?_); refine wpList_put_own O 1 (M.mat 16 (M.rot 0 1 c s)) rfl rfl rfl (s23 _) (M.mat_len2 _ _ _) (M.mat_one _ _) ?_; clear O; intro w1 O))
      exact bodyPost_ret (v := .tuple #[arr 16 (M.rot 0 1 c s), .int .i64 0]) (res_cell2 rfl O 1 rfl rfl Try.underlying23 (s23 _) rfl) rfl ⟨by rw [HE.out], O.below⟩
theorem turn_any (axis q : Int) (w : World) : Calls Try.prog 22 #[.int .i64 axis, .int .i64 q] w (RetTwo 16 w (M.turn axis q)) := by
  by_cases h : axis < 0 ∨ 3 ≤ axis
  · exact turn_no axis q h w
  · obtain rfl | rfl | rfl : axis = 0 ∨ axis = 1 ∨ axis = 2 := by omega
    · exact turn_0 q w
    · exact turn_1 q w
    · exact turn_2 q w
end Go.Proofs.Ytidaffgfhmbomaa
