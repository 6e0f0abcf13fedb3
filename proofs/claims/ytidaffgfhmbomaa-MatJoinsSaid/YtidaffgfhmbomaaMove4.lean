/- Contract of Move, twice. -/
import Derived.Test.YtidaffgfhmbomaaMul4
namespace Go.Proofs.Ytidaffgfhmbomaa
open Go.ChangeShapes Go.WideShapes Go.ChangeAt Go.RowKit
set_option linter.unusedVariables false
set_option linter.unusedSimpArgs false

namespace M
/-- The way to move. -/
def way (x y z : Int) : Nat → Int
  | 0 => x | 1 => y | 2 => z | _ => 0
/-- Unit, with the first k numbers of the way laid. -/
def mvK (x y z : Int) (k j : Nat) : Int := if j % 4 = 3 ∧ j / 4 < k then way x y z (j / 4) * 65536 else unit j
def mv (x y z : Int) : Nat → Int := mvK x y z 3
def move (x y z : Int) : (Nat → Int) × Int := if inB 4096 x && inB 4096 y && inB 4096 z then (mv x y z, 0) else (zero, 4)
theorem mvK_set (x y z : Int) (k : Nat) (hk : k < 3) : (mat 16 (mvK x y z k)).set (k * 4 + 3) (.int .i64 (way x y z k * 65536)) = mat 16 (mvK x y z (k + 1)) := by
  refine mat_set_to (by omega) ?_ fun j hj hne => ?_
  · have e : (k * 4 + 3) % 4 = 3 := by omega
    have e2 : (k * 4 + 3) / 4 = k := by omega
    simp only [mvK, e, e2]
    rw [if_pos ⟨trivial, by omega⟩]
  · simp only [mvK]
    by_cases h : j % 4 = 3 ∧ j / 4 < k
    · rw [if_pos h, if_pos (by omega)]
    · rw [if_neg h, if_neg (by omega)]
theorem mvK_0 (x y z : Int) : mat 16 (mvK x y z 0) = mat 16 unit := mat_ext fun j hj => by simp [mvK]
theorem mv_cells (x y z : Int) : ((((mat 16 unit).set 3 (.int .i64 (x * 65536))).set 7 (.int .i64 (y * 65536))).set 11 (.int .i64 (z * 65536))) = mat 16 (mv x y z) := by rfl
theorem way_among (x y z : Int) : allB 4 4096 (way x y z) = (inB 4096 x && inB 4096 y && inB 4096 z) := by
  rw [Bool.eq_iff_iff, allB_iff, Bool.and_eq_true, Bool.and_eq_true, inB_iff, inB_iff, inB_iff]
  constructor
  · intro h
    exact ⟨⟨h 0 (by decide), h 1 (by decide)⟩, h 2 (by decide)⟩
  · rintro ⟨⟨h0, h1⟩, h2⟩ i hi
    match i, hi with
    | 0, _ => exact h0
    | 1, _ => exact h1
    | 2, _ => exact h2
    | 3, _ => exact ⟨by show -4096 ≤ (0 : Int); decide, by show (0 : Int) ≤ 4096; decide⟩
theorem way_rng {x y z : Int} (h : allB 4 4096 (way x y z) = true) (k : Nat) (hk : k < 3) : -4096 ≤ way x y z k ∧ way x y z k ≤ 4096 := allB_iff.1 h k (by omega)
end M
set_option maxHeartbeats 8000000 in
theorem move_any (x y z : Int) (w : World) : Calls Try.prog 20 #[.int .i64 x, .int .i64 y, .int .i64 z] w (RetTwo 16 w (M.move x y z)) := by
  have O := Own.start w
  have hu2 := Try.underlying23
  have hu3 := Try.underlying32
  have E : M.move x y z = if M.allB 4 4096 (M.way x y z) then (M.mv x y z, 0) else (M.zero, 4) := by rw [M.way_among]; rfl
  have HE := Lib.hid E
  clear E
  cases hc : M.allB 4 4096 (M.way x y z)
  · rw [hc] at HE
    go_enter Try.func20, Try.ntmps20
    go_wp2_with (first | ((with_reducible refine at_alloc 6 ?_); refine wpList_alloc_own O (M.mat 16 M.zero) zero23 ?_; clear O; intro g6 w1 O) | ((with_reducible refine at_alloc 8 ?_); refine wpList_alloc_own O (M.mat 4 M.zero) zero32 ?_; clear O; intro g8 w1 O) | ((with_reducible refine at_store 8 ?_); refine wpList_put_own O 0 (M.mat 4 (M.way x y z)) rfl rfl rfl (s32 _) (M.mat_len2 _ _ _) (M.mat_one _ _) ?_; clear O; intro w1 O) | ((with_reducible refine at_load 15 ?_); refine wpList_row_own O 0 rfl rfl Try.underlying32 (s32 _) ?_) | (go_at_call 31; refine (among_any (M.way x y z) _ _ (by decide) (by decide)).mono ?_; rintro e w1 ⟨rfl, hb⟩; replace O := O.call hb; clear hb) | ((with_reducible refine at_build 18 ?_); refine wpList_build_own [] (M.mat 16 M.zero).toArray ?_ built23z ?_; (focus simp)) | ((with_reducible refine at_store 6 ?_); refine wpList_put_own O 1 (M.mat 16 (M.zero)) rfl rfl rfl (s23 _) (M.mat_len2 _ _ _) (M.mat_one _ _) ?_; clear O; intro w1 O))
    exact bodyPost_ret (v := .tuple #[arr 16 M.zero, .int .i64 4]) (res_cell2 rfl O 1 rfl rfl Try.underlying23 (s23 _) rfl) rfl ⟨by rw [HE.out]; rfl, O.below⟩
  · have HR := Lib.hid (M.way_rng hc)
    rw [hc] at HE
    go_enter Try.func20, Try.ntmps20
    go_wp2_with (first | ((with_reducible refine at_alloc 6 ?_); refine wpList_alloc_own O (M.mat 16 M.zero) zero23 ?_; clear O; intro g6 w1 O) | ((with_reducible refine at_alloc 8 ?_); refine wpList_alloc_own O (M.mat 4 M.zero) zero32 ?_; clear O; intro g8 w1 O) | ((with_reducible refine at_store 8 ?_); refine wpList_put_own O 0 (M.mat 4 (M.way x y z)) rfl rfl rfl (s32 _) (M.mat_len2 _ _ _) (M.mat_one _ _) ?_; clear O; intro w1 O) | ((with_reducible refine at_load 15 ?_); refine wpList_row_own O 0 rfl rfl Try.underlying32 (s32 _) ?_) | (go_at_call 31; refine (among_any (M.way x y z) _ _ (by decide) (by decide)).mono ?_; rintro e w1 ⟨rfl, hb⟩; replace O := O.call hb; clear hb) | (go_at_call 16; refine (unit_any _).mono ?_; rintro e w1 ⟨rfl, hb⟩; replace O := O.call hb; clear hb) | ((with_reducible refine at_alloc 9 ?_); refine wpList_alloc_own O (M.mat 16 M.zero) zero23 ?_; clear O; intro g9 w1 O) | ((with_reducible refine at_store 9 ?_); refine wpList_put_own O 0 (M.mat 16 (M.unit)) rfl rfl rfl (s23 _) (M.mat_len2 _ _ _) (M.mat_one _ _) ?_; clear O; intro w1 O))
    clear hc
    obtain ⟨wo, rfl⟩ : ∃ wo : World, wo = w1 := ⟨_, rfl⟩
    go_loopw [20] (fun u wr => ∃ k : Nat, k ≤ 3 ∧ u = .int .i64 k ∧ Own w wr [(g9, 23, M.mat 16 (M.mvK x y z k)), (g8, 32, M.mat 4 (M.way x y z)), (g6, 23, M.mat 16 M.zero)]) (fun u _ => 3 - (intOf u).toNat)
    case atStart => exact ⟨0, by omega, rfl, by rw [M.mvK_0]; exact O⟩
    case round =>
      clear O
      obtain ⟨k, hk, rfl, O⟩ := hrel
      have q0 : (0 : Int) ≤ k := by omega
      by_cases hlt : k < 3
      · have q1 : (k : Int) < 3 := by omega
        have b := HR.out k hlt
        go_wp2_with fail
        refine region_V (fun w2 => Own w w2 [(g9, 23, M.mat 16 (M.mvK x y z k)), (g8, 32, M.mat 4 (M.way x y z)), (g6, 23, M.mat 16 M.zero)]) [0, 1, 2, 3, 4, 5, 6] [some 23, some 24, some 25, some 26, some 27, some 28, some 29] [.int .i64 k, .int .i64 ((k : Int) * 4 + 3), .int .i64 k, .pointer (some ⟨g8, k, none⟩), .int .i64 (M.way x y z k), .int .i64 (M.way x y z k * 65536), .pointer (some ⟨g9, k * 4 + 3, none⟩)] 1 (by kernel_rfl) (by kernel_rfl) (by rfl) (by rfl) (O.drew) (fun F hF => ?_)
        simp only [fillD, Act.put, List.setIfInBounds_toArray, List.set_cons_zero, List.set_cons_succ] at hF
        subst hF
        refine ⟨⟨does_want rfl (by rfl) (fun w' O K hK => ?_), does_want rfl (by rfl) (fun w' O K hK => ?_), does_want rfl (by rfl) (fun w' O K hK => ?_), does_want rfl (by rfl) (fun w' O K hK => ?_), does_want rfl (by rfl) (fun w' O K hK => ?_), does_want rfl (by rfl) (fun w' O K hK => ?_), does_want rfl (by rfl) (fun w' O K hK => ?_), trivial⟩, fun w' O => ?_⟩
        · go_simp
          exact hK _ O
        · go_simp
          go_at_call 26
          refine (place_int k 3 _ (by omega) (by decide)).mono ?_
          rintro e w2 ⟨rfl, rfl⟩
          exact hK _ O
        · go_simp
          exact hK _ O
        · exact wp_index_own Try.underlying32 sizeOf3 (by decide) (k) rfl rfl (by omega) (by omega) (hK _ O)
        · have c := O.cell 1 rfl (M.mat_get (a := M.way x y z) (i := k) (by omega))
          go_simp
          exact hK _ O
        · have e : IntKind.i64.wrap (M.way x y z k * 65536) = M.way x y z k * 65536 := IntWalk.i64_in _ (by omega)
          go_simp
          exact hK _ O
        · exact wp_index_own Try.underlying23 sizeOf3 (by decide) (k * 4 + 3) rfl rfl (by omega) (by omega) (hK _ O)
        refine wpAny_want (i := 7) (by kernel_rfl) rfl (by rfl) (fun K hK => ?_)
        refine wp_set_own O 0 (.int .i64 (M.way x y z k * 65536)) rfl (by rw [M.mat_len]; omega) rfl rfl size3 rfl rfl fun w9 O9 => hK _ _ ?_
        clear O
        have O := O9
        clear O9
        clear hK K
        try simp only [Act.put, List.setIfInBounds_toArray, List.set_cons_zero, List.set_cons_succ]
        refine wpAny_done (by kernel_rfl) ?_ _
        go_wp2_with fail
        go_roundw
        case rel => exact ⟨k + 1, by omega, by go_num, by rw [← M.mvK_set x y z k hlt]; exact O⟩
        case measure => simp [intOf]; omega
      · have q1 : ¬ (k : Int) < 3 := by omega
        obtain rfl : k = 3 := by omega
        go_wp2_with (first | ((with_reducible refine at_load 31 ?_); refine wpList_row_own O 0 rfl rfl Try.underlying23 (s23 _) ?_) | ((with_reducible refine at_store 6 ?_); refine wpList_put_own O 2 (M.mat 16 (M.mv x y z)) rfl rfl rfl (s23 _) (M.mat_len2 _ _ _) (M.mat_one _ _) ?_; clear O; intro w1 O))
        exact bodyPost_ret (v := .tuple #[arr 16 (M.mv x y z), .int .i64 0]) (res_cell2 rfl O 2 rfl rfl Try.underlying23 (s23 _) rfl) rfl ⟨by rw [HE.out]; rfl, O.below⟩
set_option maxHeartbeats 8000000 in
theorem rmove_any (x y z : Int) (w : World) : Calls Try.prog 21 #[.int .i64 x, .int .i64 y, .int .i64 z] w (RetTwo 16 w (M.move x y z)) := by
  have O := Own.start w
  have hu2 := Try.underlying23
  cases hx : M.inB 4096 x
  · have HE : Hid (M.move x y z = (M.zero, 4)) := Lib.hid (by simp [M.move, hx])
    go_enter Try.func21, Try.ntmps21
    go_wp2_with (first | ((with_reducible refine at_alloc 6 ?_); refine wpList_alloc_own O (M.mat 16 M.zero) zero23 ?_; clear O; intro g6 w1 O) | (go_at_call 30; refine (fits_any _ _ _ (by decide) (by decide)).mono ?_; rintro e w' ⟨rfl, rfl⟩) | ((with_reducible refine at_build 22 ?_); refine wpList_build_own [] (M.mat 16 M.zero).toArray ?_ built23z ?_; (focus simp)) | ((with_reducible refine at_store 6 ?_); refine wpList_put_own O 0 (M.mat 16 (M.zero)) rfl rfl rfl (s23 _) (M.mat_len2 _ _ _) (M.mat_one _ _) ?_; clear O; intro w1 O))
    exact bodyPost_ret (v := .tuple #[arr 16 M.zero, .int .i64 4]) (res_cell2 rfl O 0 rfl rfl Try.underlying23 (s23 _) rfl) rfl ⟨by rw [HE.out], O.below⟩
  · cases hy : M.inB 4096 y
    · have HE : Hid (M.move x y z = (M.zero, 4)) := Lib.hid (by simp [M.move, hx, hy])
      go_enter Try.func21, Try.ntmps21
      go_wp2_with (first | ((with_reducible refine at_alloc 6 ?_); refine wpList_alloc_own O (M.mat 16 M.zero) zero23 ?_; clear O; intro g6 w1 O) | (go_at_call 30; refine (fits_any _ _ _ (by decide) (by decide)).mono ?_; rintro e w' ⟨rfl, rfl⟩) | ((with_reducible refine at_build 22 ?_); refine wpList_build_own [] (M.mat 16 M.zero).toArray ?_ built23z ?_; (focus simp)) | ((with_reducible refine at_store 6 ?_); refine wpList_put_own O 0 (M.mat 16 (M.zero)) rfl rfl rfl (s23 _) (M.mat_len2 _ _ _) (M.mat_one _ _) ?_; clear O; intro w1 O))
      exact bodyPost_ret (v := .tuple #[arr 16 M.zero, .int .i64 4]) (res_cell2 rfl O 0 rfl rfl Try.underlying23 (s23 _) rfl) rfl ⟨by rw [HE.out], O.below⟩
    · cases hz : M.inB 4096 z
      · have HE : Hid (M.move x y z = (M.zero, 4)) := Lib.hid (by simp [M.move, hx, hy, hz])
        go_enter Try.func21, Try.ntmps21
        go_wp2_with (first | ((with_reducible refine at_alloc 6 ?_); refine wpList_alloc_own O (M.mat 16 M.zero) zero23 ?_; clear O; intro g6 w1 O) | (go_at_call 30; refine (fits_any _ _ _ (by decide) (by decide)).mono ?_; rintro e w' ⟨rfl, rfl⟩) | ((with_reducible refine at_build 22 ?_); refine wpList_build_own [] (M.mat 16 M.zero).toArray ?_ built23z ?_; (focus simp)) | ((with_reducible refine at_store 6 ?_); refine wpList_put_own O 0 (M.mat 16 (M.zero)) rfl rfl rfl (s23 _) (M.mat_len2 _ _ _) (M.mat_one _ _) ?_; clear O; intro w1 O))
        exact bodyPost_ret (v := .tuple #[arr 16 M.zero, .int .i64 4]) (res_cell2 rfl O 0 rfl rfl Try.underlying23 (s23 _) rfl) rfl ⟨by rw [HE.out], O.below⟩
      · have HE : Hid (M.move x y z = (M.mv x y z, 0)) := Lib.hid (by simp [M.move, hx, hy, hz])
        obtain ⟨b1, b2⟩ := M.inB_iff.1 hx
        obtain ⟨b3, b4⟩ := M.inB_iff.1 hy
        obtain ⟨b5, b6⟩ := M.inB_iff.1 hz
        go_enter Try.func21, Try.ntmps21
        go_wp2_with (first | ((with_reducible refine at_alloc 6 ?_); refine wpList_alloc_own O (M.mat 16 M.zero) zero23 ?_; clear O; intro g6 w1 O) | (go_at_call 30; refine (fits_any _ _ _ (by decide) (by decide)).mono ?_; rintro e w' ⟨rfl, rfl⟩) | (go_at_call 17; refine (runit_any _).mono ?_; rintro e w1 ⟨rfl, hb⟩; replace O := O.call hb; clear hb) | ((with_reducible refine at_alloc 8 ?_); refine wpList_alloc_own O (M.mat 16 M.zero) zero23 ?_; clear O; intro g8 w1 O) | ((with_reducible refine at_store 8 ?_); refine wpList_put_own O 0 (M.mat 16 (M.unit)) rfl rfl rfl (s23 _) (M.mat_len2 _ _ _) (M.mat_one _ _) ?_; clear O; intro w1 O) | ((with_reducible refine at_store 30 ?_); refine wpList_set_own O 0 (.int .i64 (x * 65536)) rfl (by simp [M.mat_len]) rfl rfl size3 rfl rfl ?_; clear O ; intro w1 O) | ((with_reducible refine at_store 31 ?_); refine wpList_set_own O 0 (.int .i64 (y * 65536)) rfl (by simp [M.mat_len]) rfl rfl size3 rfl rfl ?_; clear O ; intro w1 O) | ((with_reducible refine at_store 32 ?_); refine wpList_set_own O 0 (.int .i64 (z * 65536)) rfl (by simp [M.mat_len]) rfl rfl size3 rfl rfl ?_; clear O ; intro w1 O) | ((with_reducible refine at_load 33 ?_); have O2 : Own w _ [(g8, 23, M.mat 16 (M.mv x y z)), (g6, 23, M.mat 16 M.zero)] := O; clear O; have O := O2; clear O2; refine wpList_row_own O 0 rfl rfl Try.underlying23 (s23 _) ?_) | ((with_reducible refine at_store 6 ?_); refine wpList_put_own O 1 (M.mat 16 (M.mv x y z)) rfl rfl rfl (s23 _) (M.mat_len2 _ _ _) (M.mat_one _ _) ?_; clear O; intro w1 O))
        exact bodyPost_ret (v := .tuple #[arr 16 (M.mv x y z), .int .i64 0]) (res_cell2 rfl O 1 rfl rfl Try.underlying23 (s23 _) rfl) rfl ⟨by rw [HE.out], O.below⟩
end Go.Proofs.Ytidaffgfhmbomaa
