/- Contracts: isPolygon, areSides. -/
import Derived.Test.YtbpignicffkaoaaFa
import Derived.Test.YtbpignicffkaoaaRi
namespace Go.Proofs.Ytbpignicffkaoaa
open Go.ChangeShapes Go.WideShapes Go.ChangeAt Go.RowKit
set_option linter.unusedVariables false
set_option linter.unusedSimpArgs false

/-- Vertices that are a polygon's, n flags with them. -/
def C.okP (l : List (Nat → Int)) (n : Nat) : Bool := (decide (3 ≤ l.length) && (decide (l.length ≤ 256) && decide (n = l.length))) && l.all D.fits
def C.okS (l : List (Nat → Int)) : Bool := decide (l.length ≤ 9) && l.all D.right
def C.may (l : List (Nat → Int)) (n : Nat) (s : List (Nat → Int)) : Bool := C.okP l n && C.okS s
theorem C.okP_iff {l : List (Nat → Int)} {n : Nat} : C.okP l n = true ↔ 3 ≤ l.length ∧ l.length ≤ 256 ∧ n = l.length ∧ ∀ x ∈ l, D.fits x = true := by
  simp [C.okP, List.all_eq_true, and_assoc]
theorem C.okS_iff {l : List (Nat → Int)} : C.okS l = true ↔ l.length ≤ 9 ∧ ∀ x ∈ l, D.right x = true := by
  simp [C.okS, List.all_eq_true]
theorem C.okP_no {l : List (Nat → Int)} {n : Nat} (h : l.length < 3 ∨ 256 < l.length ∨ n ≠ l.length ∨ ∃ x ∈ l, D.fits x = false) : C.okP l n = false := by
  rw [← Bool.not_eq_true, C.okP_iff]
  rintro ⟨h1, h2, h3, h4⟩
  rcases h with h | h | h | ⟨s, h, g⟩
  · omega
  · omega
  · exact h h3
  · rw [h4 s h] at g; cases g
theorem C.okS_no {l : List (Nat → Int)} (h : 9 < l.length ∨ ∃ x ∈ l, D.right x = false) : C.okS l = false := by
  rw [← Bool.not_eq_true, C.okS_iff]
  rintro ⟨h1, h4⟩
  rcases h with h | ⟨s, h, g⟩
  · omega
  · rw [h4 s h] at g; cases g
theorem C.take_one {α : Type} {l : List α} {k : Nat} {s : α} (h : l[k]? = some s) : l.take (k + 1) = l.take k ++ [s] := by rw [List.take_add_one, h]; rfl
set_option maxRecDepth 100000 in
set_option maxHeartbeats 4000000 in
theorem ppoly_any (l : List (Nat → Int)) (e : List Bool) {lo lo2 : Nat} {A B : Option Addr} {c d : Nat} (w : World) (hL : Lies w free (vE lo A c l)) (hM : Lies w free (bE lo2 B d e)) :
    Calls Try.prog 16 #[.slice A l.length c, .slice B e.length d] w fun r w' => r = .returned (.bool (C.okP l e.length)) ∧ Below w.heap.size w w' := by
  have O := Held.start w [bE lo2 B d e, vE lo A c l] (by
    intro x hx
    simp only [List.mem_cons, List.not_mem_nil, or_false] at hx
    rcases hx with rfl | rfl
    · exact hM
    · exact hL)
  clear hL hM
  by_cases h1 : l.length < 3
  · have q : (l.length : Int) < 3 := by omega
    have HE := Lib.hid (C.okP_no (l := l) (n := e.length) (.inl h1))
    clear h1
    go_enter Try.func16, Try.ntmps16
    go_wp2_with fail
    go_ret
    exact ⟨by rw [HE.out]; rfl, O.below⟩
  have k1 : ¬ (l.length : Int) < 3 := by omega
  by_cases h2 : 256 < l.length
  · have q : (256 : Int) < l.length := by omega
    have HE := Lib.hid (C.okP_no (l := l) (n := e.length) (.inr (.inl h2)))
    clear h1 h2
    go_enter Try.func16, Try.ntmps16
    go_wp2_with fail
    go_ret
    exact ⟨by rw [HE.out]; rfl, O.below⟩
  have k2 : ¬ (256 : Int) < l.length := by omega
  by_cases h3 : e.length = l.length
  case neg =>
    have q : ((e.length : Int) == (l.length : Int)) = false := by simp; omega
    have HE := Lib.hid (C.okP_no (l := l) (n := e.length) (.inr (.inr (.inl h3))))
    clear h1 h2 h3
    go_enter Try.func16, Try.ntmps16
    go_wp2_with fail
    go_ret
    exact ⟨by rw [HE.out]; rfl, O.below⟩
  have k3 : ((e.length : Int) == (l.length : Int)) = true := by simp; omega
  have n0 : l.length ≤ 256 := by omega
  have YES := Lib.hid (fun h => C.okP_iff (l := l) (n := e.length).2 ⟨by omega, by omega, h3, h⟩)
  clear h1 h2 h3
  go_enter Try.func16, Try.ntmps16
  go_wp2_with fail
  clear k1 k2 k3
  go_loopw [24] (fun t wr => ∃ k : Nat, k ≤ l.length ∧ t = .int .i64 k ∧ (∀ s ∈ l.take k, D.fits s = true) ∧ Held w wr [] nilRow [bE lo2 B d e, vE lo A c l]) (fun t _ => l.length - (intOf t).toNat)
  case atStart => exact ⟨0, Nat.zero_le _, rfl, fun s hs => absurd hs (by simp), O⟩
  case round =>
    clear O
    obtain ⟨k, hk, rfl, hall, O⟩ := hrel
    have HA := Lib.hid hall
    clear hall
    have q0 : (0 : Int) ≤ k := by omega
    by_cases hlt : k < l.length
    · have q1 : (k : Int) < l.length := by omega
      obtain ⟨s, hs⟩ : ∃ s, l[k]? = some s := ⟨_, List.getElem?_eq_getElem hlt⟩
      have HS := Lib.hid hs
      clear hs
      cases hr : D.fits s
      · have HE := Lib.hid (C.okP_no (l := l) (n := e.length) (.inr <| .inr <| .inr ⟨s, List.mem_of_getElem? HS.out, hr⟩))
        go_wp2_with (first | ((with_reducible refine at_index_ 26 ?_); refine wpList_at_h rfl Try.underlying22 sizeOf27 _ (O.mem (List.mem_cons_of_mem _ List.mem_cons_self)) rfl (k) rfl (rfl) (by omega) rfl ?_) | ((with_reducible refine at_load 27 ?_); refine wpList_elem_h rfl _ (O.mem (List.mem_cons_of_mem _ List.mem_cons_self)) (k * 8) (M.mat 8 (s)) (vC_at HS.out) (by rw [M.mat_len]; decide) rfl Try.underlying39 rfl (s27 _) ?_) | ((with_reducible refine at_alloc 6 ?_); refine wpList_alloc_h O (M.mat 8 M.zero) zero27 ?_; clear O; intro g6 v1 O) | ((with_reducible refine at_store 6 ?_); refine wpList_put_h O 0 (M.mat 8 (s)) rfl rfl rfl (s27 _) (M.mat_len2 _ _ _) (M.mat_one _ _) ?_; clear O; intro v2 O) | ((with_reducible refine at_load 28 ?_); refine wpList_rowg_h rfl O 0 rfl rfl Try.underlying39 rfl (s27 _) ?_) | (go_at_call 24; refine (fits_any _ _).mono ?_; rintro e v3 ⟨rfl, hb⟩; replace O := O.call hb; clear hb))
        go_ret
        exact ⟨by rw [HE.out]; rfl, O.below⟩
      · have HR := Lib.hid hr
        go_wp2_with (first | ((with_reducible refine at_index_ 26 ?_); refine wpList_at_h rfl Try.underlying22 sizeOf27 _ (O.mem (List.mem_cons_of_mem _ List.mem_cons_self)) rfl (k) rfl (rfl) (by omega) rfl ?_) | ((with_reducible refine at_load 27 ?_); refine wpList_elem_h rfl _ (O.mem (List.mem_cons_of_mem _ List.mem_cons_self)) (k * 8) (M.mat 8 (s)) (vC_at HS.out) (by rw [M.mat_len]; decide) rfl Try.underlying39 rfl (s27 _) ?_) | ((with_reducible refine at_alloc 6 ?_); refine wpList_alloc_h O (M.mat 8 M.zero) zero27 ?_; clear O; intro g6 v1 O) | ((with_reducible refine at_store 6 ?_); refine wpList_put_h O 0 (M.mat 8 (s)) rfl rfl rfl (s27 _) (M.mat_len2 _ _ _) (M.mat_one _ _) ?_; clear O; intro v2 O) | ((with_reducible refine at_load 28 ?_); refine wpList_rowg_h rfl O 0 rfl rfl Try.underlying39 rfl (s27 _) ?_) | (go_at_call 24; refine (fits_any _ _).mono ?_; rintro e v3 ⟨rfl, hb⟩; replace O := O.call hb; clear hb))
        have O2 := O.tail
        clear O
        have O := O2
        clear O2
        go_roundw
        case rel => exact ⟨k + 1, by omega, by go_num, fun u hu => by
          rw [C.take_one HS.out] at hu
          rcases List.mem_append.1 hu with hu | hu
          · exact HA.out u hu
          · obtain rfl : u = s := by simpa using hu
            exact HR.out, O⟩
        case measure => simp [intOf]; omega
    · have q1 : ¬ (k : Int) < l.length := by omega
      obtain rfl : k = l.length := by omega
      have hA := HA.out
      rw [List.take_of_length_le (Nat.le_refl _)] at hA
      have HE := Lib.hid (YES.out hA)
      clear hA
      go_wp2_with fail
      go_ret
      exact ⟨by rw [HE.out]; rfl, O.below⟩
set_option maxRecDepth 100000 in
set_option maxHeartbeats 4000000 in
theorem psides_any (l : List (Nat → Int)) {lo : Nat} {A : Option Addr} {c : Nat} (w : World) (hL : Lies w free (sE lo A c l)) :
    Calls Try.prog 17 #[.slice A l.length c] w fun r w' => r = .returned (.bool (C.okS l)) ∧ Below w.heap.size w w' := by
  have O := Held.start w [sE lo A c l] (by simpa using hL)
  clear hL
  by_cases h1 : 9 < l.length
  · have q : (9 : Int) < l.length := by omega
    have HE := Lib.hid (C.okS_no (l := l) (.inl h1))
    clear h1
    go_enter Try.func17, Try.ntmps17
    go_wp2_with fail
    go_ret
    exact ⟨by rw [HE.out]; rfl, O.below⟩
  have k1 : ¬ (9 : Int) < l.length := by omega
  have n0 : l.length ≤ 9 := by omega
  have YES := Lib.hid (fun h => C.okS_iff (l := l).2 ⟨by omega, h⟩)
  clear h1
  go_enter Try.func17, Try.ntmps17
  go_wp2_with fail
  clear k1
  go_loopw [10] (fun t wr => ∃ k : Nat, k ≤ l.length ∧ t = .int .i64 k ∧ (∀ s ∈ l.take k, D.right s = true) ∧ Held w wr [] nilRow [sE lo A c l]) (fun t _ => l.length - (intOf t).toNat)
  case atStart => exact ⟨0, Nat.zero_le _, rfl, fun s hs => absurd hs (by simp), O⟩
  case round =>
    clear O
    obtain ⟨k, hk, rfl, hall, O⟩ := hrel
    have HA := Lib.hid hall
    clear hall
    have q0 : (0 : Int) ≤ k := by omega
    by_cases hlt : k < l.length
    · have q1 : (k : Int) < l.length := by omega
      obtain ⟨s, hs⟩ : ∃ s, l[k]? = some s := ⟨_, List.getElem?_eq_getElem hlt⟩
      have HS := Lib.hid hs
      clear hs
      cases hr : D.right s
      · have HE := Lib.hid (C.okS_no (l := l) (.inr ⟨s, List.mem_of_getElem? HS.out, hr⟩))
        go_wp2_with (first | ((with_reducible refine at_index_ 12 ?_); refine wpList_at_h rfl Try.underlying24 sizeOf24 _ (O.mem List.mem_cons_self) rfl (k) rfl (rfl) (by omega) rfl ?_) | ((with_reducible refine at_load 13 ?_); refine wpList_elem_h rfl _ (O.mem List.mem_cons_self) (k * 5) (M.mat 5 (s)) (ss_at HS.out) (by rw [M.mat_len]; decide) rfl Try.underlying35 rfl (s24 _) ?_) | ((with_reducible refine at_alloc 4 ?_); refine wpList_alloc_h O (M.mat 5 M.zero) zero24 ?_; clear O; intro g6 v1 O) | ((with_reducible refine at_store 4 ?_); refine wpList_put_h O 0 (M.mat 5 (s)) rfl rfl rfl (s24 _) (M.mat_len2 _ _ _) (M.mat_one _ _) ?_; clear O; intro v2 O) | ((with_reducible refine at_load 14 ?_); refine wpList_rowg_h rfl O 0 rfl rfl Try.underlying35 rfl (s24 _) ?_) | (go_at_call 25; refine (right_any _ _).mono ?_; rintro e v3 ⟨rfl, hb⟩; replace O := O.call hb; clear hb))
        go_ret
        exact ⟨by rw [HE.out]; rfl, O.below⟩
      · have HR := Lib.hid hr
        go_wp2_with (first | ((with_reducible refine at_index_ 12 ?_); refine wpList_at_h rfl Try.underlying24 sizeOf24 _ (O.mem List.mem_cons_self) rfl (k) rfl (rfl) (by omega) rfl ?_) | ((with_reducible refine at_load 13 ?_); refine wpList_elem_h rfl _ (O.mem List.mem_cons_self) (k * 5) (M.mat 5 (s)) (ss_at HS.out) (by rw [M.mat_len]; decide) rfl Try.underlying35 rfl (s24 _) ?_) | ((with_reducible refine at_alloc 4 ?_); refine wpList_alloc_h O (M.mat 5 M.zero) zero24 ?_; clear O; intro g6 v1 O) | ((with_reducible refine at_store 4 ?_); refine wpList_put_h O 0 (M.mat 5 (s)) rfl rfl rfl (s24 _) (M.mat_len2 _ _ _) (M.mat_one _ _) ?_; clear O; intro v2 O) | ((with_reducible refine at_load 14 ?_); refine wpList_rowg_h rfl O 0 rfl rfl Try.underlying35 rfl (s24 _) ?_) | (go_at_call 25; refine (right_any _ _).mono ?_; rintro e v3 ⟨rfl, hb⟩; replace O := O.call hb; clear hb))
        have O2 := O.tail
        clear O
        have O := O2
        clear O2
        go_roundw
        case rel => exact ⟨k + 1, by omega, by go_num, fun u hu => by
          rw [C.take_one HS.out] at hu
          rcases List.mem_append.1 hu with hu | hu
          · exact HA.out u hu
          · obtain rfl : u = s := by simpa using hu
            exact HR.out, O⟩
        case measure => simp [intOf]; omega
    · have q1 : ¬ (k : Int) < l.length := by omega
      obtain rfl : k = l.length := by omega
      have hA := HA.out
      rw [List.take_of_length_le (Nat.le_refl _)] at hA
      have HE := Lib.hid (YES.out hA)
      clear hA
      go_wp2_with fail
      go_ret
      exact ⟨by rw [HE.out]; rfl, O.below⟩
end Go.Proofs.Ytbpignicffkaoaa
