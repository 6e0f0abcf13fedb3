/- Contracts: may, awake. -/
import Derived.Test.YtimfdimpifpclaaE2
namespace Go.Proofs.Ytimfdimpifpclaa
open Go.ChangeShapes Go.WideShapes Go.ChangeAt Go.RowKit
set_option linter.unusedVariables false
set_option linter.unusedSimpArgs false

/-- Are sides and vertices such as are promised anything? -/
def D.may (a b : Nat → Int) (l : List (Nat → Int)) : Bool := decide (l.length ≤ 9) && (D.fits a && (D.fits b && l.all D.right))
theorem D.may_iff {a b : Nat → Int} {l : List (Nat → Int)} : D.may a b l = true ↔ l.length ≤ 9 ∧ D.fits a = true ∧ D.fits b = true ∧ ∀ s ∈ l, D.right s = true := by
  simp [D.may, List.all_eq_true]
theorem D.may_no {a b : Nat → Int} {l : List (Nat → Int)} (h : 9 < l.length ∨ D.fits a = false ∨ D.fits b = false ∨ ∃ s ∈ l, D.right s = false) : D.may a b l = false := by
  rw [← Bool.not_eq_true, D.may_iff]
  rintro ⟨h1, h2, h3, h4⟩
  rcases h with h | h | h | ⟨s, h, g⟩
  · omega
  · rw [h2] at h; cases h
  · rw [h3] at h; cases h
  · rw [h4 s h] at g; cases g
theorem D.may_yes {a b : Nat → Int} {l : List (Nat → Int)} (h1 : l.length ≤ 9) (h2 : D.fits a = true) (h3 : D.fits b = true) (h4 : ∀ s ∈ l, D.right s = true) : D.may a b l = true := D.may_iff.2 ⟨h1, h2, h3, h4⟩
set_option maxRecDepth 100000 in
set_option maxHeartbeats 4000000 in
theorem may_any (a b : Nat → Int) (l : List (Nat → Int)) {lo : Nat} {A : Option Addr} {c : Nat} (w : World) (hL : Lies w free (sE lo A c l)) : Calls Try.prog 8 #[arr 8 a, arr 8 b, .slice A l.length c] w fun e w' => e = .returned (.bool (D.may a b l)) ∧ Below w.heap.size w w' := by
  have O := Held.start w [sE lo A c l] (by simpa using hL)
  clear hL
  by_cases h9 : 9 < l.length
  · have q : (9 : Int) < l.length := by omega
    have HE := Lib.hid (D.may_no (a := a) (b := b) (l := l) (.inl h9))
    go_enter Try.func8, Try.ntmps8
    go_wp2_with (first | ((with_reducible refine at_box 3 ?_); refine wpList_box_h O (M.mat 8 (a)) rfl ?_; clear O; intro g3 w1 O) | ((with_reducible refine at_box 4 ?_); refine wpList_box_h O (M.mat 8 (b)) rfl ?_; clear O; intro g4 w2 O) | ((with_reducible refine at_load 12 ?_); refine wpList_rowg_h rfl O 1 rfl rfl Try.underlying27 rfl (s27 _) ?_) | (go_at_call 15; refine (rfits_any _ _).mono ?_; rintro e w3 ⟨rfl, hb⟩; replace O := O.call hb; clear hb) | ((with_reducible refine at_load 17 ?_); refine wpList_rowg_h rfl O 0 rfl rfl Try.underlying27 rfl (s27 _) ?_))
    go_ret
    exact ⟨by rw [HE.out]; rfl, O.below⟩
  have q : ¬ (9 : Int) < l.length := by omega
  cases ha : D.fits a
  · have HE := Lib.hid (D.may_no (a := a) (b := b) (l := l) (.inr (.inl ha)))
    go_enter Try.func8, Try.ntmps8
    go_wp2_with (first | ((with_reducible refine at_box 3 ?_); refine wpList_box_h O (M.mat 8 (a)) rfl ?_; clear O; intro g3 w1 O) | ((with_reducible refine at_box 4 ?_); refine wpList_box_h O (M.mat 8 (b)) rfl ?_; clear O; intro g4 w2 O) | ((with_reducible refine at_load 12 ?_); refine wpList_rowg_h rfl O 1 rfl rfl Try.underlying27 rfl (s27 _) ?_) | (go_at_call 15; refine (rfits_any _ _).mono ?_; rintro e w3 ⟨rfl, hb⟩; replace O := O.call hb; clear hb) | ((with_reducible refine at_load 17 ?_); refine wpList_rowg_h rfl O 0 rfl rfl Try.underlying27 rfl (s27 _) ?_))
    go_ret
    exact ⟨by rw [HE.out]; rfl, O.below⟩
  cases hb : D.fits b
  · have HE := Lib.hid (D.may_no (a := a) (b := b) (l := l) (.inr (.inr (.inl hb))))
    go_enter Try.func8, Try.ntmps8
    go_wp2_with (first | ((with_reducible refine at_box 3 ?_); refine wpList_box_h O (M.mat 8 (a)) rfl ?_; clear O; intro g3 w1 O) | ((with_reducible refine at_box 4 ?_); refine wpList_box_h O (M.mat 8 (b)) rfl ?_; clear O; intro g4 w2 O) | ((with_reducible refine at_load 12 ?_); refine wpList_rowg_h rfl O 1 rfl rfl Try.underlying27 rfl (s27 _) ?_) | (go_at_call 15; refine (rfits_any _ _).mono ?_; rintro e w3 ⟨rfl, hb⟩; replace O := O.call hb; clear hb) | ((with_reducible refine at_load 17 ?_); refine wpList_rowg_h rfl O 0 rfl rfl Try.underlying27 rfl (s27 _) ?_))
    go_ret
    exact ⟨by rw [HE.out]; rfl, O.below⟩
  have YES := Lib.hid (fun h => D.may_yes (a := a) (b := b) (l := l) (by omega) ha hb h)
  go_enter Try.func8, Try.ntmps8
  go_wp2_with (first | ((with_reducible refine at_box 3 ?_); refine wpList_box_h O (M.mat 8 (a)) rfl ?_; clear O; intro g3 w1 O) | ((with_reducible refine at_box 4 ?_); refine wpList_box_h O (M.mat 8 (b)) rfl ?_; clear O; intro g4 w2 O) | ((with_reducible refine at_load 12 ?_); refine wpList_rowg_h rfl O 1 rfl rfl Try.underlying27 rfl (s27 _) ?_) | (go_at_call 15; refine (rfits_any _ _).mono ?_; rintro e w3 ⟨rfl, hb⟩; replace O := O.call hb; clear hb) | ((with_reducible refine at_load 17 ?_); refine wpList_rowg_h rfl O 0 rfl rfl Try.underlying27 rfl (s27 _) ?_))
  clear ha hb
  go_loopw [7] (fun t wr => ∃ k : Nat, k ≤ l.length ∧ t = .int .i64 k ∧ (∀ s ∈ l.take k, D.right s = true) ∧ Held w wr [(g4, 27, M.mat 8 b), (g3, 27, M.mat 8 a)] nilRow [sE lo A c l]) (fun t _ => l.length - (intOf t).toNat)
  case atStart => exact ⟨0, Nat.zero_le _, rfl, fun s hs => absurd hs (by simp), O⟩
  case round =>
    clear O
    obtain ⟨k, hk, rfl, hall, O⟩ := hrel
    have HA := Lib.hid hall
    clear hall
    have q0 : (0 : Int) ≤ k := by omega
    by_cases hlt : k < l.length
    · have q1 : (k : Int) < l.length := by omega
      obtain ⟨s, hs⟩ : ∃ s, l[k]? = some s := ⟨_, List.getElem?_eq_getElem hlt⟩
      have HS := Lib.hid hs
      clear hs
      cases hr : D.right s
      · have HE := Lib.hid (D.may_no (a := a) (b := b) (l := l) (.inr (.inr (.inr ⟨s, List.mem_of_getElem? HS.out, hr⟩))))
        go_wp2_with (first | ((with_reducible refine at_index_ 29 ?_); refine wpList_at_h rfl Try.underlying29 sizeOf24 _ (O.mem List.mem_cons_self) rfl (k) rfl rfl (by omega) rfl ?_) | ((with_reducible refine at_load 30 ?_); refine wpList_elem_h rfl _ (O.mem List.mem_cons_self) (k * 5) (M.mat 5 s) (ss_at HS.out) (by rw [M.mat_len]; decide) rfl Try.underlying24 rfl (s24 _) ?_) | (go_at_call 16; refine (rright_any _ _).mono ?_; rintro e w5 ⟨rfl, hb⟩; replace O := O.call hb; clear hb))
        go_ret
        exact ⟨by rw [HE.out]; rfl, O.below⟩
      · have HR := Lib.hid hr
        go_wp2_with (first | ((with_reducible refine at_index_ 29 ?_); refine wpList_at_h rfl Try.underlying29 sizeOf24 _ (O.mem List.mem_cons_self) rfl (k) rfl rfl (by omega) rfl ?_) | ((with_reducible refine at_load 30 ?_); refine wpList_elem_h rfl _ (O.mem List.mem_cons_self) (k * 5) (M.mat 5 s) (ss_at HS.out) (by rw [M.mat_len]; decide) rfl Try.underlying24 rfl (s24 _) ?_) | (go_at_call 16; refine (rright_any _ _).mono ?_; rintro e w5 ⟨rfl, hb⟩; replace O := O.call hb; clear hb))
        go_roundw
        case rel => exact ⟨k + 1, by omega, by go_num, fun u hu => by
          rw [D.take_one HS.out] at hu
          rcases List.mem_append.1 hu with hu | hu
          · exact HA.out u hu
          · obtain rfl : u = s := by simpa using hu
            exact HR.out, O⟩
        case measure => simp [intOf]; omega
    · have q1 : ¬ (k : Int) < l.length := by omega
      obtain rfl : k = l.length := by omega
      have hA := HA.out
      rw [List.take_of_length_le (Nat.le_refl _)] at hA
      have HE := Lib.hid (YES.out hA)
      clear hA
      go_wp2_with fail
      go_ret
      exact ⟨by rw [HE.out]; rfl, O.below⟩
theorem built24z : Try.prog.built 24 [] = some (M.mat 5 (D.kd 0)).toArray := by kernel_rfl
theorem built27w5 : Try.prog.built 27 [(3, .int .i64 5)] = some (M.mat 8 (D.vW 5)).toArray := by kernel_rfl
theorem built27w3 : Try.prog.built 27 [(3, .int .i64 (-3))] = some (M.mat 8 (D.vW (-3))).toArray := by kernel_rfl
theorem built27w1 : Try.prog.built 27 [(3, .int .i64 1)] = some (M.mat 8 (D.vW 1)).toArray := by kernel_rfl
theorem trim_awake (w : World) {lo : Nat} {A : Option Addr} {c : Nat} (hL : Lies w free (sE lo A c [D.kd 0])) : Calls Try.prog 12 #[arr 8 (D.vW 5), arr 8 (D.vW (-3)), .slice A 1 c] w fun e w' => e = .returned (.tuple #[arr 8 (D.vW 5), arr 8 (D.vW 1), .bool true]) ∧ Below w.heap.size w w' := by
  have E : M.mat 8 (D.way (D.vW 5) (D.vW (-3)) 4 8) = M.mat 8 (D.vW 1) := M.mat_ext fun i hi => by
    rcases (by omega : i = 0 ∨ i = 1 ∨ i = 2 ∨ i = 3 ∨ i = 4 ∨ i = 5 ∨ i = 6 ∨ i = 7) with rfl | rfl | rfl | rfl | rfl | rfl | rfl | rfl <;> decide
  have E2 : D.trim (D.vW 5) (D.vW (-3)) [D.kd 0] = (D.vW 5, D.way (D.vW 5) (D.vW (-3)) 4 8, true) := by kernel_rfl
  refine (ptrim_any (D.vW 5) (D.vW (-3)) [D.kd 0] (by decide) (by decide) (by intro s hs; obtain rfl : s = D.kd 0 := by simpa using hs
                                                                              decide) (by decide) w hL).mono ?_
  rintro e w' ⟨rfl, hb⟩
  rw [E2]
  refine ⟨?_, hb⟩
  show Ending.returned (.tuple #[arr 8 (D.vW 5), .agg (M.mat 8 (D.way (D.vW 5) (D.vW (-3)) 4 8)).toArray, .bool true]) = _
  rw [E]
set_option maxHeartbeats 4000000 in
theorem awake_any (w : World) : Calls Try.prog 9 #[] w fun e w' => e = .returned (.bool true) ∧ Below w.heap.size w w' := by
  have O := Held.start w [] (by simp)
  go_enter Try.func9, Try.ntmps9
  go_wp2_with (first | ((with_reducible refine at_build 5 ?_); refine wpList_build_g rfl ([(3, .int .i64 5)]) ((M.mat 8 (D.vW 5)).toArray) ?_ (built27w5) ?_; (focus (simp only [List.map_toArray, List.map_cons, List.map_nil]; rfl))) | ((with_reducible refine at_build 6 ?_); refine wpList_build_g rfl ([(3, .int .i64 (-3))]) ((M.mat 8 (D.vW (-3))).toArray) ?_ (built27w3) ?_; (focus (simp only [List.map_toArray, List.map_cons, List.map_nil]; rfl))) | ((with_reducible refine at_build 7 ?_); refine wpList_build_g rfl ([]) ((M.mat 5 (D.kd 0)).toArray) ?_ (built24z) ?_; (focus (simp only [List.map_toArray, List.map_cons, List.map_nil]; rfl))) | ((with_reducible refine at_lit 8 ?_); refine wpList_lit_h rfl O 5 (.agg (M.mat 5 M.zero).toArray) info24 Try.underlying29 ([(0, .agg (M.mat 5 (D.kd 0)).toArray)]) (ss [D.kd 0]) rfl (ss_len _) (by decide) (by decide) (by kernel_rfl) ?_; clear O; intro gl u5 O) | (go_at_call 12; refine (trim_awake _ (O.arg List.mem_cons_self)).mono ?_; rintro e w1 ⟨rfl, hb⟩; replace O := O.call hb; clear hb) | ((with_reducible refine at_alloc 1 ?_); refine wpList_alloc_h O (M.mat 8 M.zero) zero27 ?_; clear O; intro g1 w2 O) | ((with_reducible refine at_alloc 2 ?_); refine wpList_alloc_h O (M.mat 8 M.zero) zero27 ?_; clear O; intro g2 w3 O) | ((with_reducible refine at_store 1 ?_); refine wpList_put_h O 1 (M.mat 8 (D.vW 5)) rfl rfl rfl (s27 _) (M.mat_len2 _ _ _) (M.mat_one _ _) ?_; clear O; intro w4 O) | ((with_reducible refine at_store 2 ?_); refine wpList_put_h O 0 (M.mat 8 (D.vW 1)) rfl rfl rfl (s27 _) (M.mat_len2 _ _ _) (M.mat_one _ _) ?_; clear O; intro w5 O) | ((with_reducible refine at_load 15 ?_); refine wpList_rowg_h rfl O 1 rfl rfl Try.underlying27 rfl (s27 _) ?_) | ((with_reducible refine at_build 16 ?_); refine wpList_build_g rfl ([(3, .int .i64 5)]) ((M.mat 8 (D.vW 5)).toArray) ?_ (built27w5) ?_; (focus (simp only [List.map_toArray, List.map_cons, List.map_nil]; rfl))) | ((with_reducible refine at_binOp 17 ?_); refine wpList_eq27 rfl (D.vW 5) (D.vW 5) rfl rfl ?_; rw [M.eqB_refl]) | ((with_reducible refine at_load 20 ?_); refine wpList_rowg_h rfl O 0 rfl rfl Try.underlying27 rfl (s27 _) ?_) | ((with_reducible refine at_build 21 ?_); refine wpList_build_g rfl ([(3, .int .i64 1)]) ((M.mat 8 (D.vW 1)).toArray) ?_ (built27w1) ?_; (focus (simp only [List.map_toArray, List.map_cons, List.map_nil]; rfl))) | ((with_reducible refine at_binOp 22 ?_); refine wpList_eq27 rfl (D.vW 1) (D.vW 1) rfl rfl ?_; rw [M.eqB_refl]))
  go_ret
  exact ⟨rfl, O.below⟩
end Go.Proofs.Ytimfdimpifpclaa
