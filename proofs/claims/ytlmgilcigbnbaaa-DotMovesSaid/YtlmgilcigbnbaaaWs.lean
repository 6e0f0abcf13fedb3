/- Contracts: the document's Same, May, Right, Core; the example. -/
import Derived.Test.YtlmgilcigbnbaaaHz
import Derived.Test.YtlmgilcigbnbaaaTw
import Derived.Test.YtlmgilcigbnbaaaXv
namespace Go.Proofs.Ytlmgilcigbnbaaa
open Go.ChangeShapes Go.WideShapes Go.ChangeAt Go.RowKit
set_option linter.unusedVariables false
set_option linter.unusedSimpArgs false

theorem meas_lt2 {m j : Nat} (h : j < m) : m - (intOf (Value.int IntKind.i64 ((j : Int) + 1))).toNat < m - (intOf (Value.int IntKind.i64 (j : Int))).toNat := by
  simp only [intOf]
  omega
/-- A cell that is read (operation i) and written (operation j, behind it) in a region that draws its order. -/
def RS (w0 : World) (l0 l1 : List (Nat × TypeId × List Value)) (i j : Nat) (v : Value) (st : Nat → Option Value) (w : World) : Prop :=
  (∀ u, st i = some u → u = v) ∧ ((st j).isSome = true → (st i).isSome = true) ∧ Own w0 w (if (st j).isSome = true then l1 else l0)
section
variable {w0 w : World} {l0 l1 : List (Nat × TypeId × List Value)} {i j : Nat} {v : Value} {st : Nat → Option Value}
theorem RS.start (O : Own w0 w l0) : RS w0 l0 l1 i j v (fun _ => none) w := ⟨fun u h => (by cases h), fun h => (by cases h), O⟩
theorem RS.val (h : RS w0 l0 l1 i j v st w) (hi : (st i).isSome = true) : st i = some v := by
  obtain ⟨u, hu⟩ := Option.isSome_iff_exists.1 hi
  rw [hu, h.1 u hu]
theorem RS.any (h : RS w0 l0 l1 i j v st w) : Own w0 w l0 ∨ Own w0 w l1 := by
  have h3 := h.2.2
  split at h3
  · exact .inr h3
  · exact .inl h3
theorem RS.fst (h : RS w0 l0 l1 i j v st w) (hn : st j = none) : Own w0 w l0 := by
  have h3 := h.2.2
  rw [hn] at h3
  exact h3
theorem RS.fst' (h : RS w0 l0 l1 i j v st w) (hn : st i = none) : Own w0 w l0 := h.fst (by
  cases hj : st j with
  | none => rfl
  | some u =>
    have := h.2.1 (by rw [hj]; rfl)
    rw [hn] at this
    cases this)
theorem RS.read (h : RS w0 l0 l1 i j v st w) (hij : j ≠ i) (hn : st i = none) : RS w0 l0 l1 i j v (upd st i v) w := by
  have O := h.fst' hn
  have hj : st j = none := by
    cases hj : st j with
    | none => rfl
    | some u =>
      have := h.2.1 (by rw [hj]; rfl)
      rw [hn] at this
      cases this
  refine ⟨fun u hu => ?_, fun _ => by rw [upd_same]; rfl, ?_⟩
  · rw [upd_same] at hu
    exact (Option.some.inj hu).symm
  · rw [upd_other st v hij, hj]
    exact O
theorem RS.put (h : RS w0 l0 l1 i j v st w) (hij : i ≠ j) (hi : (st i).isSome = true) (u : Value) {w1 : World} (O : Own w0 w1 l1) : RS w0 l0 l1 i j v (upd st j u) w1 := by
  refine ⟨fun z hz => ?_, fun _ => ?_, ?_⟩
  · rw [upd_other st u hij] at hz
    exact h.1 z hz
  · rw [upd_other st u hij]
    exact hi
  · rw [upd_same]
    exact O
theorem RS.done (h : RS w0 l0 l1 i j v st w) (hj : (st j).isSome = true) : Own w0 w l1 := by
  have h3 := h.2.2
  rw [if_pos hj] at h3
  exact h3
end
set_option maxRecDepth 100000 in
set_option maxHeartbeats 8000000 in
theorem rsame_any (l : List (Nat → Int)) {lo1 lo2 : Nat} {A1 A2 : Option Addr} {c1 c2 : Nat} (h9 : l.length ≤ 1000000000) (w : World) (h1 : Lies w free (gE lo1 A1 c1 l)) (h2 : Lies w free (gE lo2 A2 c2 l)) :
    Calls Try.prog 13 #[.slice A1 l.length c1, .slice A2 l.length c2] w fun e w' => e = .returned (.bool true) ∧ Below w.heap.size w w' := by
  have O := Held.start w [gE lo1 A1 c1 l, gE lo2 A2 c2 l] (by
    intro x hx
    simp only [List.mem_cons, List.not_mem_nil, or_false] at hx
    rcases hx with rfl | rfl
    · exact h1
    · exact h2)
  clear h1 h2
  have k1 : ((l.length : Int) != (l.length : Int)) = false := by simp
  go_enter Try.func13, Try.ntmps13
  go_wp2_with fail
  clear k1
  go_loopw [5] (fun t wr => ∃ k : Nat, k ≤ l.length ∧ t = .int .i64 k ∧ Held w wr [] nilRow [gE lo1 A1 c1 l, gE lo2 A2 c2 l]) (fun t _ => l.length - (intOf t).toNat)
  case atStart => exact ⟨0, Nat.zero_le _, rfl, O⟩
  case round =>
    clear O
    obtain ⟨k, hk, rfl, O⟩ := hrel
    have q0 : (0 : Int) ≤ k := by omega
    by_cases hlt : k < l.length
    · have q1 : (k : Int) < l.length := by omega
      have W1 : wrap64 ((k : Int) + 1) = (k : Int) + 1 := IntWalk.wrap64_in _ (by omega)
      obtain ⟨x, hx⟩ : ∃ x, l[k]? = some x := ⟨_, List.getElem?_eq_getElem hlt⟩
      have HX := Lib.hid hx
      clear hx
      go_wp2_with fail
      refine region_T ((fun w2 => Held w w2 [] nilRow [gE lo1 A1 c1 l, gE lo2 A2 c2 l])) [0, 1, 2, 3, 4, 5, 6, 7, 8] 12 [some 17, some 18, some 19, some 20, some 21, some 22, some 23, some 24, some 25] [.slice A1 l.length c1, .int .i64 k, .pointer (some ((adr A1).add (k * 8))), arr 8 x, .slice A2 l.length c2, .int .i64 k, .pointer (some ((adr A2).add (k * 8))), arr 8 x, .bool false] 0 (by kernel_rfl) (by rfl) (by kernel_rfl) (by rfl) (by rfl) (O.drew) (fun F hF => ?_)
      simp only [fillD, Act.put, List.setIfInBounds_toArray, List.set_cons_zero, List.set_cons_succ] at hF
      subst hF
      refine ⟨⟨does_want rfl (by rfl) (fun w' O K hK => ?_), does_want rfl (by rfl) (fun w' O K hK => ?_), does_want rfl (by rfl) (fun w' O K hK => ?_), does_want rfl (by rfl) (fun w' O K hK => ?_), does_want rfl (by rfl) (fun w' O K hK => ?_), does_want rfl (by rfl) (fun w' O K hK => ?_), does_want rfl (by rfl) (fun w' O K hK => ?_), does_want rfl (by rfl) (fun w' O K hK => ?_), does_want rfl (by rfl) (fun w' O K hK => ?_), trivial⟩, fun w' O => ?_⟩
      · go_simp
        exact hK _ O
      · go_simp
        exact hK _ O
      · exact wp_at_h Try.underlying35 sizeOfG _ (O.mem List.mem_cons_self) rfl (k) rfl rfl (by omega) rfl (hK _ O)
      · exact wp_elem_h _ (O.mem List.mem_cons_self) (k * 8) (M.mat 8 x) (gC_at HX.out) (by rw [M.mat_len]; decide) rfl Try.underlying40 rfl (sG _) (hK _ O)
      · go_simp
        exact hK _ O
      · go_simp
        exact hK _ O
      · exact wp_at_h Try.underlying35 sizeOfG _ (O.mem (List.mem_cons_of_mem _ List.mem_cons_self)) rfl (k) rfl rfl (by omega) rfl (hK _ O)
      · exact wp_elem_h _ (O.mem (List.mem_cons_of_mem _ List.mem_cons_self)) (k * 8) (M.mat 8 x) (gC_at HX.out) (by rw [M.mat_len]; decide) rfl Try.underlying40 rfl (sG _) (hK _ O)
      · refine wp_neqG x x rfl rfl ?_
        rw [M.eqB_refl]
        exact hK _ O
      refine wpAny_done (by kernel_rfl) ?_ _
      go_wp2_with fail
      go_roundw
      case rel => exact ⟨k + 1, by omega, by go_num, O⟩
      case measure => exact meas_lt2 hlt
    · have q1 : ¬ (k : Int) < l.length := by omega
      go_wp2_with fail
      go_ret
      exact ⟨rfl, O.below⟩
set_option maxHeartbeats 8000000 in
theorem rmay_any (v : Nat → Int) (w : World) : Calls Try.prog 22 #[arr 7 v] w fun e w' => e = .returned (.bool (VM.fit v)) ∧ Below w.heap.size w w' := by
  have O := Own.start w
  have HB := Lib.hid (fun i (hi : i < 4) => VM.fit_out (v := v) hi)
  have HN := Lib.hid (VM.fit_end (v := v))
  obtain ⟨x0, ex0⟩ : ∃ z, v 0 = z := ⟨_, rfl⟩
  have Cx0 := cell_is (n := 7) ex0 (by decide)
  obtain ⟨x1, ex1⟩ : ∃ z, v 1 = z := ⟨_, rfl⟩
  have Cx1 := cell_is (n := 7) ex1 (by decide)
  obtain ⟨x2, ex2⟩ : ∃ z, v 2 = z := ⟨_, rfl⟩
  have Cx2 := cell_is (n := 7) ex2 (by decide)
  rw [ex0, ex1, ex2] at HN
  clear ex0 ex1 ex2
  go_enter Try.func22, Try.ntmps22
  go_wp2_with ((with_reducible refine at_box 1 ?_); refine wpList_box_own O (M.mat 7 (v)) rfl ?_; clear O; intro g1 w1 O)
  go_loopw [3] (fun u wr => ∃ k : Nat, k ≤ 4 ∧ u = .int .i64 k ∧ (∀ i, i < k → VM.okc (v (3 + i)) = true) ∧ w1 = wr) (fun t _ => 4 - (intOf t).toNat)
  case atStart => exact ⟨0, by omega, rfl, fun i hi => absurd hi (by omega), rfl⟩
  case round =>
    obtain ⟨k, hk, rfl, hall, rfl⟩ := hrel
    have q0 : (0 : Int) ≤ k := by omega
    have HA := Lib.hid hall
    clear hall
    have hB := O.below
    by_cases hlt : k < 4
    · have q1 : (k : Int) < 4 := by omega
      obtain ⟨z, hz⟩ : ∃ z, v (3 + k) = z := ⟨_, rfl⟩
      have CZ := cell_is (n := 7) hz (by omega)
      have HK := HB.out k hlt
      rw [hz] at HK
      cases hc : VM.okc z
      · have HF := Lib.hid (HK hc)
        clear HK hz HB HN
        have hd : z < 0 ∨ 255 < z := by
          rw [← Bool.not_eq_true, VM.okc_iff] at hc
          omega
        clear hc
        rcases hd with hd | hd
        · have k1 : decide (z < 0) = true := by simpa using hd
          clear hd
          go_wp2_with (first | ((with_reducible refine at_index_ 10 ?_); refine wpList_ino rfl Try.underlying23 sizeOf3 (by decide) (k) rfl rfl (rfl) (by omega) ?_) | ((with_reducible refine at_load 11 ?_); refine wpList_cell_h (v := .int .i64 (z)) rfl O.held 0 rfl CZ.out rfl agg3 rfl ?_) | ((with_reducible refine at_index_ 16 ?_); refine wpList_ino rfl Try.underlying23 sizeOf3 (by decide) (k) rfl rfl (rfl) (by omega) ?_) | ((with_reducible refine at_load 17 ?_); refine wpList_cell_h (v := .int .i64 (z)) rfl O.held 0 rfl CZ.out rfl agg3 rfl ?_))
          go_ret
          exact ⟨by rw [HF.out]; rfl, hB⟩
        · have k1 : decide (z < 0) = false := by simp; omega
          have k2 : decide (255 < z) = true := by simpa using hd
          clear hd
          go_wp2_with (first | ((with_reducible refine at_index_ 10 ?_); refine wpList_ino rfl Try.underlying23 sizeOf3 (by decide) (k) rfl rfl (rfl) (by omega) ?_) | ((with_reducible refine at_load 11 ?_); refine wpList_cell_h (v := .int .i64 (z)) rfl O.held 0 rfl CZ.out rfl agg3 rfl ?_) | ((with_reducible refine at_index_ 16 ?_); refine wpList_ino rfl Try.underlying23 sizeOf3 (by decide) (k) rfl rfl (rfl) (by omega) ?_) | ((with_reducible refine at_load 17 ?_); refine wpList_cell_h (v := .int .i64 (z)) rfl O.held 0 rfl CZ.out rfl agg3 rfl ?_))
          go_ret
          exact ⟨by rw [HF.out]; rfl, hB⟩
      · clear HK
        have HC := Lib.hid (show VM.okc (v (3 + k)) = true by rw [hz]; exact hc)
        obtain ⟨d1, d2⟩ := VM.okc_iff.1 hc
        have k1 : decide (z < 0) = false := by simp; omega
        have k2 : decide (255 < z) = false := by simp; omega
        clear hc hz d1 d2
        go_wp2_with (first | ((with_reducible refine at_index_ 10 ?_); refine wpList_ino rfl Try.underlying23 sizeOf3 (by decide) (k) rfl rfl (rfl) (by omega) ?_) | ((with_reducible refine at_load 11 ?_); refine wpList_cell_h (v := .int .i64 (z)) rfl O.held 0 rfl CZ.out rfl agg3 rfl ?_) | ((with_reducible refine at_index_ 16 ?_); refine wpList_ino rfl Try.underlying23 sizeOf3 (by decide) (k) rfl rfl (rfl) (by omega) ?_) | ((with_reducible refine at_load 17 ?_); refine wpList_cell_h (v := .int .i64 (z)) rfl O.held 0 rfl CZ.out rfl agg3 rfl ?_))
        go_roundw
        case rel => exact ⟨k + 1, by omega, by go_num, fun i hi => by
          by_cases e : i = k
          · subst e; exact HC.out
          · exact HA.out i (by omega), trivial⟩
        case measure => simp [intOf]; omega
    · have q1 : ¬ (k : Int) < 4 := by omega
      obtain rfl : k = 4 := by omega
      have HE := Lib.hid (HN.out HA.out)
      unfold VM.okv at HE
      clear HN HB HA
      cases k0 : decide (-268435456 ≤ x0)
      · rw [k0] at HE
        go_wp2_with (first | ((with_reducible refine at_load 21 ?_); refine wpList_cell_h (v := .int .i64 (x0)) rfl O.held 0 rfl Cx0.out rfl agg3 rfl ?_) | ((with_reducible refine at_load 25 ?_); refine wpList_cell_h (v := .int .i64 (x0)) rfl O.held 0 rfl Cx0.out rfl agg3 rfl ?_) | ((with_reducible refine at_load 30 ?_); refine wpList_cell_h (v := .int .i64 (x1)) rfl O.held 0 rfl Cx1.out rfl agg3 rfl ?_) | ((with_reducible refine at_load 35 ?_); refine wpList_cell_h (v := .int .i64 (x1)) rfl O.held 0 rfl Cx1.out rfl agg3 rfl ?_) | ((with_reducible refine at_load 40 ?_); refine wpList_cell_h (v := .int .i64 (x2)) rfl O.held 0 rfl Cx2.out rfl agg3 rfl ?_) | ((with_reducible refine at_load 45 ?_); refine wpList_cell_h (v := .int .i64 (x2)) rfl O.held 0 rfl Cx2.out rfl agg3 rfl ?_))
        go_ret
        exact ⟨by rw [HE.out]; rfl, hB⟩
      cases k1 : decide (x0 ≤ 268435456)
      · rw [k0, k1] at HE
        go_wp2_with (first | ((with_reducible refine at_load 21 ?_); refine wpList_cell_h (v := .int .i64 (x0)) rfl O.held 0 rfl Cx0.out rfl agg3 rfl ?_) | ((with_reducible refine at_load 25 ?_); refine wpList_cell_h (v := .int .i64 (x0)) rfl O.held 0 rfl Cx0.out rfl agg3 rfl ?_) | ((with_reducible refine at_load 30 ?_); refine wpList_cell_h (v := .int .i64 (x1)) rfl O.held 0 rfl Cx1.out rfl agg3 rfl ?_) | ((with_reducible refine at_load 35 ?_); refine wpList_cell_h (v := .int .i64 (x1)) rfl O.held 0 rfl Cx1.out rfl agg3 rfl ?_) | ((with_reducible refine at_load 40 ?_); refine wpList_cell_h (v := .int .i64 (x2)) rfl O.held 0 rfl Cx2.out rfl agg3 rfl ?_) | ((with_reducible refine at_load 45 ?_); refine wpList_cell_h (v := .int .i64 (x2)) rfl O.held 0 rfl Cx2.out rfl agg3 rfl ?_))
        go_ret
        exact ⟨by rw [HE.out]; rfl, hB⟩
      cases k2 : decide (-268435456 ≤ x1)
      · rw [k0, k1, k2] at HE
        go_wp2_with (first | ((with_reducible refine at_load 21 ?_); refine wpList_cell_h (v := .int .i64 (x0)) rfl O.held 0 rfl Cx0.out rfl agg3 rfl ?_) | ((with_reducible refine at_load 25 ?_); refine wpList_cell_h (v := .int .i64 (x0)) rfl O.held 0 rfl Cx0.out rfl agg3 rfl ?_) | ((with_reducible refine at_load 30 ?_); refine wpList_cell_h (v := .int .i64 (x1)) rfl O.held 0 rfl Cx1.out rfl agg3 rfl ?_) | ((with_reducible refine at_load 35 ?_); refine wpList_cell_h (v := .int .i64 (x1)) rfl O.held 0 rfl Cx1.out rfl agg3 rfl ?_) | ((with_reducible refine at_load 40 ?_); refine wpList_cell_h (v := .int .i64 (x2)) rfl O.held 0 rfl Cx2.out rfl agg3 rfl ?_) | ((with_reducible refine at_load 45 ?_); refine wpList_cell_h (v := .int .i64 (x2)) rfl O.held 0 rfl Cx2.out rfl agg3 rfl ?_))
        go_ret
        exact ⟨by rw [HE.out]; rfl, hB⟩
      cases k3 : decide (x1 ≤ 268435456)
      · rw [k0, k1, k2, k3] at HE
        go_wp2_with (first | ((with_reducible refine at_load 21 ?_); refine wpList_cell_h (v := .int .i64 (x0)) rfl O.held 0 rfl Cx0.out rfl agg3 rfl ?_) | ((with_reducible refine at_load 25 ?_); refine wpList_cell_h (v := .int .i64 (x0)) rfl O.held 0 rfl Cx0.out rfl agg3 rfl ?_) | ((with_reducible refine at_load 30 ?_); refine wpList_cell_h (v := .int .i64 (x1)) rfl O.held 0 rfl Cx1.out rfl agg3 rfl ?_) | ((with_reducible refine at_load 35 ?_); refine wpList_cell_h (v := .int .i64 (x1)) rfl O.held 0 rfl Cx1.out rfl agg3 rfl ?_) | ((with_reducible refine at_load 40 ?_); refine wpList_cell_h (v := .int .i64 (x2)) rfl O.held 0 rfl Cx2.out rfl agg3 rfl ?_) | ((with_reducible refine at_load 45 ?_); refine wpList_cell_h (v := .int .i64 (x2)) rfl O.held 0 rfl Cx2.out rfl agg3 rfl ?_))
        go_ret
        exact ⟨by rw [HE.out]; rfl, hB⟩
      cases k4 : decide (0 ≤ x2)
      · rw [k0, k1, k2, k3, k4] at HE
        go_wp2_with (first | ((with_reducible refine at_load 21 ?_); refine wpList_cell_h (v := .int .i64 (x0)) rfl O.held 0 rfl Cx0.out rfl agg3 rfl ?_) | ((with_reducible refine at_load 25 ?_); refine wpList_cell_h (v := .int .i64 (x0)) rfl O.held 0 rfl Cx0.out rfl agg3 rfl ?_) | ((with_reducible refine at_load 30 ?_); refine wpList_cell_h (v := .int .i64 (x1)) rfl O.held 0 rfl Cx1.out rfl agg3 rfl ?_) | ((with_reducible refine at_load 35 ?_); refine wpList_cell_h (v := .int .i64 (x1)) rfl O.held 0 rfl Cx1.out rfl agg3 rfl ?_) | ((with_reducible refine at_load 40 ?_); refine wpList_cell_h (v := .int .i64 (x2)) rfl O.held 0 rfl Cx2.out rfl agg3 rfl ?_) | ((with_reducible refine at_load 45 ?_); refine wpList_cell_h (v := .int .i64 (x2)) rfl O.held 0 rfl Cx2.out rfl agg3 rfl ?_))
        go_ret
        exact ⟨by rw [HE.out]; rfl, hB⟩
      cases k5 : decide (x2 ≤ 16777215)
      · rw [k0, k1, k2, k3, k4, k5] at HE
        go_wp2_with (first | ((with_reducible refine at_load 21 ?_); refine wpList_cell_h (v := .int .i64 (x0)) rfl O.held 0 rfl Cx0.out rfl agg3 rfl ?_) | ((with_reducible refine at_load 25 ?_); refine wpList_cell_h (v := .int .i64 (x0)) rfl O.held 0 rfl Cx0.out rfl agg3 rfl ?_) | ((with_reducible refine at_load 30 ?_); refine wpList_cell_h (v := .int .i64 (x1)) rfl O.held 0 rfl Cx1.out rfl agg3 rfl ?_) | ((with_reducible refine at_load 35 ?_); refine wpList_cell_h (v := .int .i64 (x1)) rfl O.held 0 rfl Cx1.out rfl agg3 rfl ?_) | ((with_reducible refine at_load 40 ?_); refine wpList_cell_h (v := .int .i64 (x2)) rfl O.held 0 rfl Cx2.out rfl agg3 rfl ?_) | ((with_reducible refine at_load 45 ?_); refine wpList_cell_h (v := .int .i64 (x2)) rfl O.held 0 rfl Cx2.out rfl agg3 rfl ?_))
        go_ret
        exact ⟨by rw [HE.out]; rfl, hB⟩
      rw [k0, k1, k2, k3, k4, k5] at HE
      go_wp2_with (first | ((with_reducible refine at_load 21 ?_); refine wpList_cell_h (v := .int .i64 (x0)) rfl O.held 0 rfl Cx0.out rfl agg3 rfl ?_) | ((with_reducible refine at_load 25 ?_); refine wpList_cell_h (v := .int .i64 (x0)) rfl O.held 0 rfl Cx0.out rfl agg3 rfl ?_) | ((with_reducible refine at_load 30 ?_); refine wpList_cell_h (v := .int .i64 (x1)) rfl O.held 0 rfl Cx1.out rfl agg3 rfl ?_) | ((with_reducible refine at_load 35 ?_); refine wpList_cell_h (v := .int .i64 (x1)) rfl O.held 0 rfl Cx1.out rfl agg3 rfl ?_) | ((with_reducible refine at_load 40 ?_); refine wpList_cell_h (v := .int .i64 (x2)) rfl O.held 0 rfl Cx2.out rfl agg3 rfl ?_) | ((with_reducible refine at_load 45 ?_); refine wpList_cell_h (v := .int .i64 (x2)) rfl O.held 0 rfl Cx2.out rfl agg3 rfl ?_))
      go_ret
      exact ⟨by rw [HE.out]; rfl, hB⟩
theorem results_cells {fn : Func} {p q : Tmp} {ty tz : TypeId} (h : fn.results = #[.cell p ty, .cell q tz]) (tmps : Array Value) (P : Program) (w : World) :
    (results fn tmps).run P w =
      ((asAddr (tmps.getD p undef)).run P w).andThen fun a w₁ => ((loadVar ty a).run P w₁).andThen fun v w₂ => ((asAddr (tmps.getD q undef)).run P w₂).andThen fun a' w₃ => ((loadVar tz a').run P w₃).andThen fun v' w₄ => .ok (.tuple #[v, v']) w₄ := by
  simp only [results, h]
  simp [Sem.run_bind, Result.andThen]
/-- Two results, each an array in a block of its own. -/
theorem res_cc {w0 w : World} {bs : List (Nat × TypeId × List Value)} {P : Program} {fn : Func} {p q : Tmp} {t : TypeId} (h : fn.results = #[.cell p t, .cell q t]) {tmps : Array Value} (O : Own w0 w bs) (k m : Nat) {g g' : Nat} {t1 t2 : TypeId} {cs ds : List Value} (hk : bs[k]? = some (g, t1, cs)) (hm : bs[m]? = some (g', t2, ds))
    (hp : tmps.getD p undef = .pointer (some ⟨g, 0, none⟩)) (hq : tmps.getD q undef = .pointer (some ⟨g', 0, none⟩)) {d : TypeDesc} (hu : P.underlying t = some d) (hd : (match d with | .struct _ | .array _ _ => true | _ => false) = true) (hi : (P.info? t).map (·.size) = some cs.length) (hj : (P.info? t).map (·.size) = some ds.length) :
    (results fn tmps).run P w = .ok (.tuple #[.agg cs.toArray, .agg ds.toArray]) w := by
  rw [results_cells h, hp, hq]
  have h1 := run_loadVar_row (P := P) w g t1 t cs.toArray (0, 0) _ (O.blk k hk) hu hd (by simpa using hi)
  have h2 := run_loadVar_row (P := P) w g' t2 t ds.toArray (0, 0) _ (O.blk m hm) hu hd (by simpa using hj)
  simp only [asAddr, Sem.run_pure, Result.andThen_ok, h1, h2]
theorem set_t2 (x y z : Int) : (M.mat 2 (DM.t2 x y)).set 0 (.int .i64 z) = M.mat 2 (DM.t2 z y) ∧ (M.mat 2 (DM.t2 x y)).set 1 (.int .i64 z) = M.mat 2 (DM.t2 x z) := ⟨rfl, rfl⟩
theorem t2_get (x y : Int) : (M.mat 2 (DM.t2 x y))[0]? = some (.int .i64 x) ∧ (M.mat 2 (DM.t2 x y))[1]? = some (.int .i64 y) := ⟨rfl, rfl⟩
namespace WD
def wn (x y : Int) (i : Nat) : Int := if i = 0 then x else if i = 1 then y else 0
end WD
theorem builtW17 (x y : Int) : Try.prog.built 25 [(0, .int .i64 x), (1, .int .i64 y)] = some (M.mat 7 (WD.wn x y)).toArray := by kernel_rfl
theorem builtH17 : Try.prog.built 49 [(1, .int .i64 1)] = some (M.mat 3 (HM.t3 0 1 0)).toArray := by kernel_rfl
namespace WD
end WD
end Go.Proofs.Ytlmgilcigbnbaaa
