/- Contracts: fits, Make, twice. -/
import Derived.Test.YthioeohmnlppcaaWc
namespace Go.Proofs.Ythioeohmnlppcaa
open Go.ChangeShapes Go.WideShapes Go.ChangeAt Go.RowKit
set_option linter.unusedVariables false
set_option linter.unusedSimpArgs false

namespace RC
def fitsW (b n : Int) : Bool := decide (-4194304 ≤ b) && (decide (0 < n) && decide (n ≤ 4194304 - b))
theorem fits_make (x y w h : Int) : (fitsW x w && fitsW y h) = right (mk x y (x + w) (y + h)) := by
  rw [right_way]
  show _ = (way x (x + w) && way y (y + h))
  rw [Bool.eq_iff_iff]
  simp only [fitsW, way, Bool.and_eq_true, decide_eq_true_eq]
  omega
theorem mk_at_no {x y w h : Int} (hr : (fitsW x w && fitsW y h) = false) : mk_at x y w h = (M.zero, false) := by
  rw [fits_make] at hr
  rw [mk_at, hr]
  rfl
theorem mk_at_yes {x y w h : Int} (hr : (fitsW x w && fitsW y h) = true) : mk_at x y w h = (mk x y (x + w) (y + h), true) := by
  rw [fits_make] at hr
  rw [mk_at, hr]
  rfl
theorem fits_lim {b n : Int} (h : fitsW b n = true) : -4194304 ≤ b ∧ b + n ≤ 4194304 ∧ 0 < n := by
  simp only [fitsW, Bool.and_eq_true, decide_eq_true_eq] at h
  omega
def inF (x : Int) : Bool := decide (-8388608 ≤ x) && decide (x ≤ 8388608)
theorem inF_iff {x : Int} : inF x = true ↔ -8388608 ≤ x ∧ x ≤ 8388608 := by simp [inF]
theorem mk_at_out {x y w h : Int} {i : Nat} (hi : i < 4) (hf : inF (mk x y w h i) = false) : mk_at x y w h = (M.zero, false) := by
  rw [← Bool.not_eq_true, inF_iff] at hf
  refine mk_at_far ?_
  rcases (by omega : i = 0 ∨ i = 1 ∨ i = 2 ∨ i = 3) with rfl | rfl | rfl | rfl <;> simp only [mk] at hf <;> simp at hf <;> omega
theorem in_lim {x y w h : Int} (hf : ∀ i, i < 4 → inF (mk x y w h i) = true) : (-8388608 ≤ x ∧ x ≤ 8388608) ∧ (-8388608 ≤ y ∧ y ≤ 8388608) ∧ (-8388608 ≤ w ∧ w ≤ 8388608) ∧ (-8388608 ≤ h ∧ h ≤ 8388608) := by
  have h0 : inF x = true := hf 0 (by omega)
  have h1 : inF y = true := hf 1 (by omega)
  have h2 : inF w = true := hf 2 (by omega)
  have h3 : inF h = true := hf 3 (by omega)
  exact ⟨inF_iff.1 h0, inF_iff.1 h1, inF_iff.1 h2, inF_iff.1 h3⟩
theorem mk_at_right {x y w h : Int} : mk_at x y w h = if right (mk x y (x + w) (y + h)) then (mk x y (x + w) (y + h), true) else (M.zero, false) := rfl
end RC
/-- How a rectangle that is made is handed back. -/
def RetMk (w : World) (m : (Nat → Int) × Bool) (e : Ending) (w' : World) : Prop := e = .returned (.tuple #[arr 4 m.1, .bool m.2]) ∧ Below w.heap.size w w'
set_option maxHeartbeats 2000000 in
theorem fits_any (b n : Int) (h1 : -9223372036854775808 ≤ b) (h2 : b < 9223372036854775808) (w : World) : Calls Try.prog 23 #[.int .i64 b, .int .i64 n] w fun r w' => r = .returned (.bool (RC.fitsW b n)) ∧ w' = w := by
  have HE : Hid (RC.fitsW b n = (decide (-4194304 ≤ b) && (decide (0 < n) && decide (n ≤ 4194304 - b)))) := Lib.hid rfl
  cases k0 : decide (-4194304 ≤ b)
  · rw [k0] at HE
    clear h1 h2
    go_enter Try.func23, Try.ntmps23
    go_wp2_with fail
    go_ret
    exact ⟨by rw [HE.out]; rfl, rfl⟩
  · have k3 : -4194304 ≤ b := by simpa using k0
    have W1 : wrap64 (4194304 - b) = 4194304 - b := IntWalk.wrap64_in _ (by omega)
    clear k3 h1 h2
    cases k1 : decide (0 < n) <;> cases k2 : decide (n ≤ 4194304 - b)
    all_goals
      rw [k0, k1, k2] at HE
      go_enter Try.func23, Try.ntmps23
      go_wp2_with fail
      go_ret
      exact ⟨by rw [HE.out]; rfl, rfl⟩
set_option maxRecDepth 100000 in
set_option maxHeartbeats 4000000 in
theorem make_any (x y a b : Int) (x1 : -9223372036854775808 ≤ x) (x2 : x < 9223372036854775808) (y1 : -9223372036854775808 ≤ y) (y2 : y < 9223372036854775808) (w : World) : Calls Try.prog 7 #[.int .i64 x, .int .i64 y, .int .i64 a, .int .i64 b] w (RetMk w (RC.mk_at x y a b)) := by
  have O := Own.start w
  have C1 := fun w => fits_any x a x1 x2 w
  have C2 := fun w => fits_any y b y1 y2 w
  clear x1 x2 y1 y2
  have tok0 : True := trivial
  cases h0 : RC.fitsW x a
  · have HE := Lib.hid (RC.mk_at_no (x := x) (y := y) (w := a) (h := b) (by rw [h0, Bool.false_and]))
    rw [h0] at C1
    clear h0 C2
    go_enter Try.func7, Try.ntmps7
    go_wp2_with (first | ((with_reducible refine at_alloc 8 ?_); refine wpList_alloc_own O (M.mat 4 M.zero) zeroR ?_; clear O; intro g8 w1 O) | (go_at_call 23; clear tok0; have tok1 : True := trivial; refine (C1 _).mono ?_; rintro e w' ⟨rfl, rfl⟩) | (go_at_call 23; clear tok1; have tok2 : True := trivial; refine (C2 _).mono ?_; rintro e w' ⟨rfl, rfl⟩) | ((with_reducible refine at_build 20 ?_); refine wpList_build_g rfl ([]) ((M.mat 4 M.zero).toArray) ?_ (builtRz) ?_; (focus (simp only [List.map_toArray, List.map_cons, List.map_nil]; rfl))) | ((with_reducible refine at_store 8 ?_); refine wpList_put_own O 0 (M.mat 4 (M.zero)) rfl rfl rfl (sR _) (M.mat_len2 _ _ _) (M.mat_one _ _) ?_; clear O; intro w2 O))
    exact bodyPost_ret (v := .tuple #[arr 4 (M.zero), .bool false]) (res_h2 rfl O.held 0 rfl rfl Try.underlying23 rfl (sR _) rfl) rfl ⟨by rw [HE.out], O.below⟩
  cases h1 : RC.fitsW y b
  · have HE := Lib.hid (RC.mk_at_no (x := x) (y := y) (w := a) (h := b) (by rw [h0, h1, Bool.and_false]))
    rw [h0] at C1
    rw [h1] at C2
    clear h0 h1
    go_enter Try.func7, Try.ntmps7
    go_wp2_with (first | ((with_reducible refine at_alloc 8 ?_); refine wpList_alloc_own O (M.mat 4 M.zero) zeroR ?_; clear O; intro g8 w1 O) | (go_at_call 23; clear tok0; have tok1 : True := trivial; refine (C1 _).mono ?_; rintro e w' ⟨rfl, rfl⟩) | (go_at_call 23; clear tok1; have tok2 : True := trivial; refine (C2 _).mono ?_; rintro e w' ⟨rfl, rfl⟩) | ((with_reducible refine at_build 20 ?_); refine wpList_build_g rfl ([]) ((M.mat 4 M.zero).toArray) ?_ (builtRz) ?_; (focus (simp only [List.map_toArray, List.map_cons, List.map_nil]; rfl))) | ((with_reducible refine at_store 8 ?_); refine wpList_put_own O 0 (M.mat 4 (M.zero)) rfl rfl rfl (sR _) (M.mat_len2 _ _ _) (M.mat_one _ _) ?_; clear O; intro w2 O))
    exact bodyPost_ret (v := .tuple #[arr 4 (M.zero), .bool false]) (res_h2 rfl O.held 0 rfl rfl Try.underlying23 rfl (sR _) rfl) rfl ⟨by rw [HE.out], O.below⟩
  have HE := Lib.hid (RC.mk_at_yes (x := x) (y := y) (w := a) (h := b) (by rw [h0, h1]; rfl))
  have l1 := RC.fits_lim h0
  have l2 := RC.fits_lim h1
  rw [h0] at C1
  rw [h1] at C2
  clear h0 h1
  have BT := Lib.hid (builtR x y (x + a) (y + b))
  have W1 : wrap64 (x + a) = x + a := IntWalk.wrap64_in _ (by omega)
  have W2 : wrap64 (y + b) = y + b := IntWalk.wrap64_in _ (by omega)
  clear l1 l2
  obtain ⟨s, hs⟩ : ∃ s, x + a = s := ⟨_, rfl⟩
  obtain ⟨u, hu⟩ : ∃ s, y + b = s := ⟨_, rfl⟩
  rw [hs] at W1 HE BT
  rw [hu] at W2 HE BT
  go_enter Try.func7, Try.ntmps7
  go_wp2_with (first | ((with_reducible refine at_alloc 8 ?_); refine wpList_alloc_own O (M.mat 4 M.zero) zeroR ?_; clear O; intro g8 w1 O) | (go_at_call 23; clear tok0; have tok1 : True := trivial; refine (C1 _).mono ?_; rintro e w' ⟨rfl, rfl⟩) | (go_at_call 23; clear tok1; have tok2 : True := trivial; refine (C2 _).mono ?_; rintro e w' ⟨rfl, rfl⟩) | ((with_reducible refine at_build 29 ?_); refine wpList_build_g rfl ([(0, .int .i64 x), (1, .int .i64 y), (2, .int .i64 s), (3, .int .i64 u)]) ((M.mat 4 (RC.mk x y s u)).toArray) ?_ (BT.out) ?_; (focus (simp only [List.map_toArray, List.map_cons, List.map_nil]; rfl))) | ((with_reducible refine at_store 8 ?_); refine wpList_put_own O 0 (M.mat 4 (RC.mk x y s u)) rfl rfl rfl (sR _) (M.mat_len2 _ _ _) (M.mat_one _ _) ?_; clear O; intro w2 O))
  exact bodyPost_ret (v := .tuple #[arr 4 (RC.mk x y s u), .bool true]) (res_h2 rfl O.held 0 rfl rfl Try.underlying23 rfl (sR _) rfl) rfl ⟨by rw [HE.out], O.below⟩
set_option maxRecDepth 100000 in
set_option maxHeartbeats 8000000 in
theorem rmake_any (x y a b : Int) (w : World) : Calls Try.prog 8 #[.int .i64 x, .int .i64 y, .int .i64 a, .int .i64 b] w (RetMk w (RC.mk_at x y a b)) := by
  have O := Own.start w
  have HB := Lib.hid (fun i (hi : i < 4) => RC.mk_at_out (x := x) (y := y) (w := a) (h := b) hi)
  have HN := Lib.hid (RC.in_lim (x := x) (y := y) (w := a) (h := b))
  obtain ⟨q, hq⟩ : ∃ q, RC.mk x y a b = q := ⟨_, rfl⟩
  have BQ : Try.prog.built 42 [(0, .int .i64 x), (1, .int .i64 y), (2, .int .i64 a), (3, .int .i64 b)] = some (M.mat 4 q).toArray := by rw [← hq]; exact builtQ x y a b
  rw [hq] at HB HN
  clear hq
  go_enter Try.func8, Try.ntmps8
  go_wp2_with (first | ((with_reducible refine at_alloc 8 ?_); refine wpList_alloc_own O (M.mat 4 M.zero) zeroR ?_; clear O; intro g8 w1 O) | ((with_reducible refine at_build 17 ?_); refine wpList_build_g rfl ([(0, .int .i64 x), (1, .int .i64 y), (2, .int .i64 a), (3, .int .i64 b)]) ((M.mat 4 q).toArray) ?_ (BQ) ?_; (focus (simp only [List.map_toArray, List.map_cons, List.map_nil]; rfl))) | ((with_reducible refine at_alloc 10 ?_); refine wpList_alloc_own O (M.mat 4 M.zero) zeroQ ?_; clear O; intro g10 w2 O) | ((with_reducible refine at_store 10 ?_); refine wpList_put_own O 0 (M.mat 4 (q)) rfl rfl rfl (sQ _) (M.mat_len2 _ _ _) (M.mat_one _ _) ?_; clear O; intro w3 O))
  clear BQ
  go_loopw [11] (fun u wr => ∃ k : Nat, k ≤ 4 ∧ u = .int .i64 k ∧ (∀ i, i < k → RC.inF (q i) = true) ∧ w3 = wr) (fun v _ => 4 - (intOf v).toNat)
  case atStart => exact ⟨0, by omega, rfl, fun i hi => absurd hi (by omega), rfl⟩
  case round =>
    obtain ⟨k, hk, rfl, hall, rfl⟩ := hrel
    have q0 : (0 : Int) ≤ k := by omega
    have HA := Lib.hid hall
    clear hall
    have hB := O.below
    by_cases hlt : k < 4
    · have q1 : (k : Int) < 4 := by omega
      obtain ⟨z, hz⟩ : ∃ z, q k = z := ⟨_, rfl⟩
      have CZ := cell_is (n := 4) hz hlt
      have cz := O.cell 0 rfl CZ.out
      have HK := HB.out k hlt
      rw [hz] at HK
      cases hc : RC.inF z
      · have HE := Lib.hid (HK hc)
        clear HK hz HB HN
        have hd : z < -8388608 ∨ 8388608 < z := by
          rw [← Bool.not_eq_true, RC.inF_iff] at hc
          omega
        clear hc
        rcases hd with hd | hd
        · have k1 : decide (z < -8388608) = true := by simpa using hd
          clear hd
          go_wp2_with (first | ((with_reducible refine at_index_ 23 ?_); refine wpList_ino rfl Try.underlying42 sizeOf3 (by decide) (k) rfl rfl (rfl) (by omega) ?_) | ((with_reducible refine at_load 24 ?_); refine wpList_cell_h (v := .int .i64 (z)) rfl O.held 0 rfl CZ.out rfl agg3 rfl ?_) | ((with_reducible refine at_index_ 28 ?_); refine wpList_ino rfl Try.underlying42 sizeOf3 (by decide) (k) rfl rfl (rfl) (by omega) ?_) | ((with_reducible refine at_load 29 ?_); refine wpList_cell_h (v := .int .i64 (z)) rfl O.held 0 rfl CZ.out rfl agg3 rfl ?_) | ((with_reducible refine at_build 32 ?_); refine wpList_build_g rfl ([]) ((M.mat 4 M.zero).toArray) ?_ (builtRz) ?_; (focus (simp only [List.map_toArray, List.map_cons, List.map_nil]; rfl))) | ((with_reducible refine at_store 8 ?_); refine wpList_put_own O 1 (M.mat 4 (M.zero)) rfl rfl rfl (sR _) (M.mat_len2 _ _ _) (M.mat_one _ _) ?_; clear O; intro w4 O))
          exact bodyPost_ret (v := .tuple #[arr 4 (M.zero), .bool false]) (res_h2 rfl O.held 1 rfl rfl Try.underlying23 rfl (sR _) rfl) rfl ⟨by rw [HE.out], O.below⟩
        · have k1 : decide (z < -8388608) = false := by simp; omega
          have k2 : decide (8388608 < z) = true := by simpa using hd
          clear hd
          go_wp2_with (first | ((with_reducible refine at_index_ 23 ?_); refine wpList_ino rfl Try.underlying42 sizeOf3 (by decide) (k) rfl rfl (rfl) (by omega) ?_) | ((with_reducible refine at_load 24 ?_); refine wpList_cell_h (v := .int .i64 (z)) rfl O.held 0 rfl CZ.out rfl agg3 rfl ?_) | ((with_reducible refine at_index_ 28 ?_); refine wpList_ino rfl Try.underlying42 sizeOf3 (by decide) (k) rfl rfl (rfl) (by omega) ?_) | ((with_reducible refine at_load 29 ?_); refine wpList_cell_h (v := .int .i64 (z)) rfl O.held 0 rfl CZ.out rfl agg3 rfl ?_) | ((with_reducible refine at_build 32 ?_); refine wpList_build_g rfl ([]) ((M.mat 4 M.zero).toArray) ?_ (builtRz) ?_; (focus (simp only [List.map_toArray, List.map_cons, List.map_nil]; rfl))) | ((with_reducible refine at_store 8 ?_); refine wpList_put_own O 1 (M.mat 4 (M.zero)) rfl rfl rfl (sR _) (M.mat_len2 _ _ _) (M.mat_one _ _) ?_; clear O; intro w4 O))
          exact bodyPost_ret (v := .tuple #[arr 4 (M.zero), .bool false]) (res_h2 rfl O.held 1 rfl rfl Try.underlying23 rfl (sR _) rfl) rfl ⟨by rw [HE.out], O.below⟩
      · clear HK
        have HC := Lib.hid (show RC.inF (q k) = true by rw [hz]; exact hc)
        obtain ⟨d1, d2⟩ := RC.inF_iff.1 hc
        have k1 : decide (z < -8388608) = false := by simp; omega
        have k2 : decide (8388608 < z) = false := by simp; omega
        clear hc hz d1 d2
        go_wp2_with (first | ((with_reducible refine at_index_ 23 ?_); refine wpList_ino rfl Try.underlying42 sizeOf3 (by decide) (k) rfl rfl (rfl) (by omega) ?_) | ((with_reducible refine at_load 24 ?_); refine wpList_cell_h (v := .int .i64 (z)) rfl O.held 0 rfl CZ.out rfl agg3 rfl ?_) | ((with_reducible refine at_index_ 28 ?_); refine wpList_ino rfl Try.underlying42 sizeOf3 (by decide) (k) rfl rfl (rfl) (by omega) ?_) | ((with_reducible refine at_load 29 ?_); refine wpList_cell_h (v := .int .i64 (z)) rfl O.held 0 rfl CZ.out rfl agg3 rfl ?_))
        go_roundw
        case rel => exact ⟨k + 1, by omega, by go_num, fun i hi => by
          by_cases e : i = k
          · subst e; exact HC.out
          · exact HA.out i (by omega), trivial⟩
        case measure => simp [intOf]; omega
    · have q1 : ¬ (k : Int) < 4 := by omega
      obtain rfl : k = 4 := by omega
      obtain ⟨⟨a1, a2⟩, ⟨a3, a4⟩, ⟨a5, a6⟩, a7, a8⟩ := HN.out HA.out
      clear HN HB HA
      have HM := Lib.hid (RC.mk_at_right (x := x) (y := y) (w := a) (h := b))
      have BT := Lib.hid (builtR x y (x + a) (y + b))
      have W1 : wrap64 (x + a) = x + a := IntWalk.wrap64_in _ (by omega)
      have W2 : wrap64 (y + b) = y + b := IntWalk.wrap64_in _ (by omega)
      clear a1 a2 a3 a4 a5 a6 a7 a8
      obtain ⟨s, hs⟩ : ∃ s, x + a = s := ⟨_, rfl⟩
      obtain ⟨u, hu⟩ : ∃ s, y + b = s := ⟨_, rfl⟩
      rw [hs, hu] at HM BT
      rw [hs] at W1
      rw [hu] at W2
      have C := fun w => rright_any (RC.mk x y s u) w
      cases hr : RC.right (RC.mk x y s u)
      · have HE : Hid (RC.mk_at x y a b = (M.zero, false)) := Lib.hid (by rw [HM.out, hr]; rfl)
        rw [hr] at C
        clear hr HM
        go_wp2_with (first | ((with_reducible refine at_build 41 ?_); refine wpList_build_g rfl ([(0, .int .i64 x), (1, .int .i64 y), (2, .int .i64 s), (3, .int .i64 u)]) ((M.mat 4 (RC.mk x y s u)).toArray) ?_ (BT.out) ?_; (focus (simp only [List.map_toArray, List.map_cons, List.map_nil]; rfl))) | ((with_reducible refine at_alloc 12 ?_); refine wpList_alloc_own O (M.mat 4 M.zero) zeroR ?_; clear O; intro g12 w4 O) | ((with_reducible refine at_store 12 ?_); refine wpList_put_own O 0 (M.mat 4 (RC.mk x y s u)) rfl rfl rfl (sR _) (M.mat_len2 _ _ _) (M.mat_one _ _) ?_; clear O; intro w5 O) | ((with_reducible refine at_load 42 ?_); refine wpList_whole rfl O 0 rfl rfl Try.underlying23 rfl (sR _) ?_) | (go_at_call 11; refine (C _).mono ?_; rintro e w6 ⟨rfl, hb⟩; replace O := O.call hb; clear hb) | ((with_reducible refine at_build 45 ?_); refine wpList_build_g rfl ([]) ((M.mat 4 M.zero).toArray) ?_ (builtRz) ?_; (focus (simp only [List.map_toArray, List.map_cons, List.map_nil]; rfl))) | ((with_reducible refine at_store 8 ?_); refine wpList_put_own O 2 (M.mat 4 (M.zero)) rfl rfl rfl (sR _) (M.mat_len2 _ _ _) (M.mat_one _ _) ?_; clear O; intro w7 O))
        exact bodyPost_ret (v := .tuple #[arr 4 (M.zero), .bool false]) (res_h2 rfl O.held 2 rfl rfl Try.underlying23 rfl (sR _) rfl) rfl ⟨by rw [HE.out], O.below⟩
      · have HE : Hid (RC.mk_at x y a b = (RC.mk x y s u, true)) := Lib.hid (by rw [HM.out, hr]; rfl)
        rw [hr] at C
        clear hr HM
        go_wp2_with (first | ((with_reducible refine at_build 41 ?_); refine wpList_build_g rfl ([(0, .int .i64 x), (1, .int .i64 y), (2, .int .i64 s), (3, .int .i64 u)]) ((M.mat 4 (RC.mk x y s u)).toArray) ?_ (BT.out) ?_; (focus (simp only [List.map_toArray, List.map_cons, List.map_nil]; rfl))) | ((with_reducible refine at_alloc 12 ?_); refine wpList_alloc_own O (M.mat 4 M.zero) zeroR ?_; clear O; intro g12 w4 O) | ((with_reducible refine at_store 12 ?_); refine wpList_put_own O 0 (M.mat 4 (RC.mk x y s u)) rfl rfl rfl (sR _) (M.mat_len2 _ _ _) (M.mat_one _ _) ?_; clear O; intro w5 O) | ((with_reducible refine at_load 42 ?_); refine wpList_whole rfl O 0 rfl rfl Try.underlying23 rfl (sR _) ?_) | (go_at_call 11; refine (C _).mono ?_; rintro e w6 ⟨rfl, hb⟩; replace O := O.call hb; clear hb) | ((with_reducible refine at_load 46 ?_); refine wpList_whole rfl O 0 rfl rfl Try.underlying23 rfl (sR _) ?_) | ((with_reducible refine at_store 8 ?_); refine wpList_put_own O 2 (M.mat 4 (RC.mk x y s u)) rfl rfl rfl (sR _) (M.mat_len2 _ _ _) (M.mat_one _ _) ?_; clear O; intro w7 O))
        exact bodyPost_ret (v := .tuple #[arr 4 (RC.mk x y s u), .bool true]) (res_h2 rfl O.held 2 rfl rfl Try.underlying23 rfl (sR _) rfl) rfl ⟨by rw [HE.out], O.below⟩
end Go.Proofs.Ythioeohmnlppcaa
