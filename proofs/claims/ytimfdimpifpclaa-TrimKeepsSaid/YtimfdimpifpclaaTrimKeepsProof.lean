/-
  For every two vertices and list of sides the law TrimKeeps returns true: an end that is inside all sides stays, if anything is left. No condition.
-/
import Derived.Test.YtimfdimpifpclaaE4
import Derived.Deep.DeepCutAuto
namespace Go.Proofs.Ytimfdimpifpclaa.trimKeeps
open Go.ChangeShapes Go.WideShapes Go.ChangeAt Go.RowKit
set_option linter.unusedVariables false
set_option linter.unusedSimpArgs false

theorem own : ownKnob Try.prog.godebug = none := by kernel_rfl
def insd (v : Nat → Int) (l : List (Nat → Int)) : Bool := l.all fun s => decide (0 ≤ D.dist s v)
theorem insd_iff {v : Nat → Int} {l : List (Nat → Int)} : insd v l = true ↔ ∀ s ∈ l, 0 ≤ D.dist s v := by simp [insd, List.all_eq_true]
theorem insd_step {v s : Nat → Int} {l : List (Nat → Int)} {k : Nat} (h : l[k]? = some s) : insd v (l.take (k + 1)) = (insd v (l.take k) && decide (0 ≤ D.dist s v)) := by
  rw [D.take_one h]
  simp [insd]
theorem keeps_no {a b f1 f2 : Nat → Int} {l : List (Nat → Int)} (h : D.trim a b l = (f1, f2, false)) : f1 = M.zero ∧ f2 = M.zero ∧ (insd a l && insd b l) = false := by
  cases hk : D.leaves a b l
  · have e : D.trim a b l = (M.zero, M.zero, false) := by unfold D.trim; rw [hk, if_neg (by decide)]
    rw [e] at h
    injection h with h1 h2
    injection h2 with h2 h3
    refine ⟨h1.symm, h2.symm, ?_⟩
    rw [← Bool.not_eq_true, Bool.and_eq_true, insd_iff, insd_iff]
    rintro ⟨g1, g2⟩
    rw [D.leaves_in g1 g2] at hk
    cases hk
  · have e : (D.trim a b l).2.2 = true := by unfold D.trim; rw [hk, if_pos rfl]
    rw [h] at e
    cases e
theorem keeps_yes {a b f1 f2 : Nat → Int} {l : List (Nat → Int)} (h : D.trim a b l = (f1, f2, true)) : (insd a l = true → f1 = a) ∧ (insd b l = true → f2 = b) := by
  have hk : D.leaves a b l = true := by
    cases hk : D.leaves a b l
    · have e : (D.trim a b l).2.2 = false := by unfold D.trim; rw [hk, if_neg (by decide)]
      rw [h] at e
      cases e
    · rfl
  refine ⟨fun g => ?_, fun g => ?_⟩
  · have := D.trim_first (insd_iff.1 g) hk
    rw [h] at this
    exact this
  · have := D.trim_last (insd_iff.1 g) hk
    rw [h] at this
    exact this

set_option maxRecDepth 100000 in
set_option maxHeartbeats 16000000 in
theorem walk (w : World) (a b : Nat → Int) (l : List (Nat → Int)) {A : Option Addr} {c : Nat} (hl : Lies w free (sE 0 A c l)) :
    Calls Try.prog 7 #[arr 8 a, arr 8 b, .slice A l.length c] w fun e w' => e = .returned (.bool true) ∧ Below w.heap.size w w' := by
  have O := Held.start w [sE 0 A c l] (by simpa using hl)
  clear hl
  have cm := fun (w : World) (h : Lies w free (sE 0 A c l)) => may_any a b l w h
  cases hm : D.may a b l
  all_goals rw [hm] at cm
  · clear hm
    go_enter Try.func7, Try.ntmps7
    go_wp2_with (first | ((with_reducible refine at_box 3 ?_); refine wpList_box_h O (M.mat 8 (a)) rfl ?_; clear O; intro g3 w1 O) | ((with_reducible refine at_box 4 ?_); refine wpList_box_h O (M.mat 8 (b)) rfl ?_; clear O; intro g4 w2 O) | ((with_reducible refine at_load 13 ?_); refine wpList_rowg_h rfl O 1 rfl rfl Try.underlying27 rfl (s27 _) ?_) | ((with_reducible refine at_load 14 ?_); refine wpList_rowg_h rfl O 0 rfl rfl Try.underlying27 rfl (s27 _) ?_) | (go_at_call 8; refine (cm _ (O.arg List.mem_cons_self)).mono ?_; rintro e w3 ⟨rfl, hb⟩; replace O := O.call hb; clear hb) | (go_at_call 9; refine (awake_any _).mono ?_; rintro e w5 ⟨rfl, hb⟩; replace O := O.call hb; clear hb))
    go_ret
    exact ⟨rfl, O.below⟩
  · obtain ⟨h9, ha, hb, hr⟩ := D.may_iff.1 hm
    clear hm
    have c1 := fun (w : World) (h : Lies w free (sE 0 A c l)) => ptrim_any a b l ha hb hr (by omega) w h
    have DA := Lib.hid (fun s (h : s ∈ l) (w : World) => rdist_any s a (hr s h) ha w)
    have DB := Lib.hid (fun s (h : s ∈ l) (w : World) => rdist_any s b (hr s h) hb w)
    obtain ⟨⟨f1, f2, z⟩, hp⟩ : ∃ r, D.trim a b l = r := ⟨_, rfl⟩
    unfold RetTrim at c1
    rw [hp] at c1
    dsimp only at c1
    have HP := Lib.hid hp
    clear ha hb hr hp
    go_enter Try.func7, Try.ntmps7
    go_wp2_with (first | ((with_reducible refine at_box 3 ?_); refine wpList_box_h O (M.mat 8 (a)) rfl ?_; clear O; intro g3 w1 O) | ((with_reducible refine at_box 4 ?_); refine wpList_box_h O (M.mat 8 (b)) rfl ?_; clear O; intro g4 w2 O) | ((with_reducible refine at_load 13 ?_); refine wpList_rowg_h rfl O 1 rfl rfl Try.underlying27 rfl (s27 _) ?_) | ((with_reducible refine at_load 14 ?_); refine wpList_rowg_h rfl O 0 rfl rfl Try.underlying27 rfl (s27 _) ?_) | (go_at_call 8; refine (cm _ (O.arg List.mem_cons_self)).mono ?_; rintro e w3 ⟨rfl, hb⟩; replace O := O.call hb; clear hb))
    clear cm
    go_loopw [7, 8, 9] (fun u v t wr => ∃ k : Nat, k ≤ l.length ∧ t = .int .i64 k ∧ u = .bool (insd a (l.take k)) ∧ v = .bool (insd b (l.take k)) ∧ Held w wr [(g4, 27, M.mat 8 b), (g3, 27, M.mat 8 a)] nilRow [sE 0 A c l]) (fun _ _ t _ => l.length - (intOf t).toNat)
    case atStart => exact ⟨0, Nat.zero_le _, rfl, rfl, rfl, O⟩
    case round =>
      clear O
      obtain ⟨k, hk, rfl, rfl, rfl, O⟩ := hrel
      have q0 : (0 : Int) ≤ k := by omega
      by_cases hlt : k < l.length
      · have q1 : (k : Int) < l.length := by omega
        obtain ⟨s, hs⟩ : ∃ s, l[k]? = some s := ⟨_, List.getElem?_eq_getElem hlt⟩
        have da := DA.out s (List.mem_of_getElem? hs)
        have db := DB.out s (List.mem_of_getElem? hs)
        have IA := insd_step (v := a) hs
        have IB := insd_step (v := b) hs
        have HS := Lib.hid hs
        clear hs
        obtain ⟨p, hp⟩ : ∃ p, D.dist s a = p := ⟨_, rfl⟩
        obtain ⟨q, hq⟩ : ∃ q, D.dist s b = q := ⟨_, rfl⟩
        rw [hp] at da IA
        rw [hq] at db IB
        have HA := Lib.hid IA
        have HB := Lib.hid IB
        clear hp hq IA IB
        obtain ⟨x, hx⟩ : ∃ x, insd a (l.take k) = x := ⟨_, rfl⟩
        obtain ⟨y, hy⟩ : ∃ y, insd b (l.take k) = y := ⟨_, rfl⟩
        rw [hx] at HA ⊢
        rw [hy] at HB ⊢
        clear hx hy
        cases x
        all_goals cases y
        · go_wp2_with fail
          refine region_T ((fun w2 => Held w w2 [(g4, 27, M.mat 8 b), (g3, 27, M.mat 8 a)] nilRow [sE 0 A c l])) [0, 1, 2, 3, 4, 5, 6, 7, 8, 9] 12 [some 25, some 26, some 27, some 28, some 29, some 30, some 31, some 32, some 33, some 34] [.bool false, .bool false, undef, undef, undef, undef, undef, undef, undef, .bool false] 1 (by kernel_rfl) (by rfl) (by kernel_rfl) (by rfl) (by rfl) (O.drew) (fun F hF => ?_)
          simp only [fillD, Act.put, List.setIfInBounds_toArray, List.set_cons_zero, List.set_cons_succ] at hF
          subst hF
          refine ⟨⟨does_want rfl (by rfl) (fun w' O K hK => ?_), does_want rfl (by rfl) (fun w' O K hK => ?_), does_skip rfl (by rfl), does_skip rfl (by rfl), does_skip rfl (by rfl), does_skip rfl (by rfl), does_skip rfl (by rfl), does_skip rfl (by rfl), does_skip rfl (by rfl), does_want rfl (by rfl) (fun w' O K hK => ?_), trivial⟩, fun w' O => ?_⟩
          · go_simp
            exact hK _ O
          · go_simp
            exact hK _ O
          · go_simp
            exact hK _ O
          refine wpAny_one (i := 10) (by kernel_rfl) rfl (fun K hK => ?_)
          go_simp
          refine hK _ _ ?_
          clear hK K
          try simp only [Act.put, List.setIfInBounds_toArray, List.set_cons_zero, List.set_cons_succ]
          refine wpAny_done (by kernel_rfl) ?_ _
          go_wp2_with fail
          have OO := O
          clear O
          clear O
          have O := OO
          clear OO
          refine region_T ((fun w2 => Held w w2 [(g4, 27, M.mat 8 b), (g3, 27, M.mat 8 a)] nilRow [sE 0 A c l])) [0, 1, 2, 3, 4, 5, 6, 7, 8, 9] 12 [some 35, some 36, some 37, some 38, some 39, some 40, some 41, some 42, some 43, some 44] [.bool false, .bool false, undef, undef, undef, undef, undef, undef, undef, .bool false] 1 (by kernel_rfl) (by rfl) (by kernel_rfl) (by rfl) (by rfl) (O.drew) (fun F hF => ?_)
          simp only [fillD, Act.put, List.setIfInBounds_toArray, List.set_cons_zero, List.set_cons_succ] at hF
          subst hF
          refine ⟨⟨does_want rfl (by rfl) (fun w' O K hK => ?_), does_want rfl (by rfl) (fun w' O K hK => ?_), does_skip rfl (by rfl), does_skip rfl (by rfl), does_skip rfl (by rfl), does_skip rfl (by rfl), does_skip rfl (by rfl), does_skip rfl (by rfl), does_skip rfl (by rfl), does_want rfl (by rfl) (fun w' O K hK => ?_), trivial⟩, fun w' O => ?_⟩
          · go_simp
            exact hK _ O
          · go_simp
            exact hK _ O
          · go_simp
            exact hK _ O
          refine wpAny_one (i := 10) (by kernel_rfl) rfl (fun K hK => ?_)
          go_simp
          refine hK _ _ ?_
          clear hK K
          try simp only [Act.put, List.setIfInBounds_toArray, List.set_cons_zero, List.set_cons_succ]
          refine wpAny_done (by kernel_rfl) ?_ _
          go_wp2_with fail
          go_roundw
          case rel => exact ⟨k + 1, by omega, by go_num, by rw [HA.out]; rfl, by rw [HB.out]; rfl, O⟩
          case measure => simp [intOf]; omega
        · go_wp2_with fail
          refine region_T ((fun w2 => Held w w2 [(g4, 27, M.mat 8 b), (g3, 27, M.mat 8 a)] nilRow [sE 0 A c l])) [0, 1, 2, 3, 4, 5, 6, 7, 8, 9] 12 [some 25, some 26, some 27, some 28, some 29, some 30, some 31, some 32, some 33, some 34] [.bool false, .bool false, undef, undef, undef, undef, undef, undef, undef, .bool false] 1 (by kernel_rfl) (by rfl) (by kernel_rfl) (by rfl) (by rfl) (O.drew) (fun F hF => ?_)
          simp only [fillD, Act.put, List.setIfInBounds_toArray, List.set_cons_zero, List.set_cons_succ] at hF
          subst hF
          refine ⟨⟨does_want rfl (by rfl) (fun w' O K hK => ?_), does_want rfl (by rfl) (fun w' O K hK => ?_), does_skip rfl (by rfl), does_skip rfl (by rfl), does_skip rfl (by rfl), does_skip rfl (by rfl), does_skip rfl (by rfl), does_skip rfl (by rfl), does_skip rfl (by rfl), does_want rfl (by rfl) (fun w' O K hK => ?_), trivial⟩, fun w' O => ?_⟩
          · go_simp
            exact hK _ O
          · go_simp
            exact hK _ O
          · go_simp
            exact hK _ O
          refine wpAny_one (i := 10) (by kernel_rfl) rfl (fun K hK => ?_)
          go_simp
          refine hK _ _ ?_
          clear hK K
          try simp only [Act.put, List.setIfInBounds_toArray, List.set_cons_zero, List.set_cons_succ]
          refine wpAny_done (by kernel_rfl) ?_ _
          go_wp2_with fail
          have OO := O
          clear O
          clear O
          have O := OO
          clear OO
          refine region_T ((fun w2 => Held w w2 [(g4, 27, M.mat 8 b), (g3, 27, M.mat 8 a)] nilRow [sE 0 A c l])) [0, 1, 2, 3, 4, 5, 6, 7, 8, 9] 12 [some 35, some 36, some 37, some 38, some 39, some 40, some 41, some 42, some 43, some 44] [.bool true, .bool true, .slice A l.length c, .int .i64 k, .pointer (some ((adr A).add (k * 5))), arr 5 s, arr 8 b, .int .i64 q, .bool (decide (0 ≤ q)), .bool (decide (0 ≤ q))] 1 (by kernel_rfl) (by rfl) (by kernel_rfl) (by rfl) (by rfl) (O.drew) (fun F hF => ?_)
          simp only [fillD, Act.put, List.setIfInBounds_toArray, List.set_cons_zero, List.set_cons_succ] at hF
          subst hF
          refine ⟨⟨does_want rfl (by rfl) (fun w' O K hK => ?_), does_want rfl (by rfl) (fun w' O K hK => ?_), does_want rfl (by rfl) (fun w' O K hK => ?_), does_want rfl (by rfl) (fun w' O K hK => ?_), does_want rfl (by rfl) (fun w' O K hK => ?_), does_want rfl (by rfl) (fun w' O K hK => ?_), does_want rfl (by rfl) (fun w' O K hK => ?_), does_want rfl (by rfl) (fun w' O K hK => ?_), does_want rfl (by rfl) (fun w' O K hK => ?_), does_want rfl (by rfl) (fun w' O K hK => ?_), trivial⟩, fun w' O => ?_⟩
          · go_simp
            exact hK _ O
          · go_simp
            exact hK _ O
          · go_simp
            exact hK _ O
          · go_simp
            exact hK _ O
          · exact wp_at_h Try.underlying29 sizeOf24 _ (O.mem List.mem_cons_self) rfl (k) rfl rfl (by omega) rfl (hK _ O)
          · exact wp_elem_h _ (O.mem List.mem_cons_self) (k * 5) (M.mat 5 s) (ss_at HS.out) (by rw [M.mat_len]; decide) rfl Try.underlying24 rfl (s24 _) (hK _ O)
          · exact wp_row_h O 0 rfl rfl Try.underlying27 rfl (s27 _) (hK _ O)
          · go_simp
            go_at_call 14
            refine (db _).mono ?_
            rintro e w2 ⟨rfl, hb⟩
            exact hK _ (O.call hb)
          · go_simp
            exact hK _ O
          · go_simp
            exact hK _ O
          refine wpAny_one (i := 10) (by kernel_rfl) rfl (fun K hK => ?_)
          go_simp
          refine hK _ _ ?_
          clear hK K
          try simp only [Act.put, List.setIfInBounds_toArray, List.set_cons_zero, List.set_cons_succ]
          refine wpAny_done (by kernel_rfl) ?_ _
          go_wp2_with fail
          go_roundw
          case rel => exact ⟨k + 1, by omega, by go_num, by rw [HA.out]; rfl, by rw [HB.out]; rfl, O⟩
          case measure => simp [intOf]; omega
        · go_wp2_with fail
          refine region_T ((fun w2 => Held w w2 [(g4, 27, M.mat 8 b), (g3, 27, M.mat 8 a)] nilRow [sE 0 A c l])) [0, 1, 2, 3, 4, 5, 6, 7, 8, 9] 12 [some 25, some 26, some 27, some 28, some 29, some 30, some 31, some 32, some 33, some 34] [.bool true, .bool true, .slice A l.length c, .int .i64 k, .pointer (some ((adr A).add (k * 5))), arr 5 s, arr 8 a, .int .i64 p, .bool (decide (0 ≤ p)), .bool (decide (0 ≤ p))] 1 (by kernel_rfl) (by rfl) (by kernel_rfl) (by rfl) (by rfl) (O.drew) (fun F hF => ?_)
          simp only [fillD, Act.put, List.setIfInBounds_toArray, List.set_cons_zero, List.set_cons_succ] at hF
          subst hF
          refine ⟨⟨does_want rfl (by rfl) (fun w' O K hK => ?_), does_want rfl (by rfl) (fun w' O K hK => ?_), does_want rfl (by rfl) (fun w' O K hK => ?_), does_want rfl (by rfl) (fun w' O K hK => ?_), does_want rfl (by rfl) (fun w' O K hK => ?_), does_want rfl (by rfl) (fun w' O K hK => ?_), does_want rfl (by rfl) (fun w' O K hK => ?_), does_want rfl (by rfl) (fun w' O K hK => ?_), does_want rfl (by rfl) (fun w' O K hK => ?_), does_want rfl (by rfl) (fun w' O K hK => ?_), trivial⟩, fun w' O => ?_⟩
          · go_simp
            exact hK _ O
          · go_simp
            exact hK _ O
          · go_simp
            exact hK _ O
          · go_simp
            exact hK _ O
          · exact wp_at_h Try.underlying29 sizeOf24 _ (O.mem List.mem_cons_self) rfl (k) rfl rfl (by omega) rfl (hK _ O)
          · exact wp_elem_h _ (O.mem List.mem_cons_self) (k * 5) (M.mat 5 s) (ss_at HS.out) (by rw [M.mat_len]; decide) rfl Try.underlying24 rfl (s24 _) (hK _ O)
          · exact wp_row_h O 1 rfl rfl Try.underlying27 rfl (s27 _) (hK _ O)
          · go_simp
            go_at_call 14
            refine (da _).mono ?_
            rintro e w2 ⟨rfl, hb⟩
            exact hK _ (O.call hb)
          · go_simp
            exact hK _ O
          · go_simp
            exact hK _ O
          refine wpAny_one (i := 10) (by kernel_rfl) rfl (fun K hK => ?_)
          go_simp
          refine hK _ _ ?_
          clear hK K
          try simp only [Act.put, List.setIfInBounds_toArray, List.set_cons_zero, List.set_cons_succ]
          refine wpAny_done (by kernel_rfl) ?_ _
          go_wp2_with fail
          have OO := O
          clear O
          clear O
          have O := OO
          clear OO
          refine region_T ((fun w2 => Held w w2 [(g4, 27, M.mat 8 b), (g3, 27, M.mat 8 a)] nilRow [sE 0 A c l])) [0, 1, 2, 3, 4, 5, 6, 7, 8, 9] 12 [some 35, some 36, some 37, some 38, some 39, some 40, some 41, some 42, some 43, some 44] [.bool false, .bool false, undef, undef, undef, undef, undef, undef, undef, .bool false] 1 (by kernel_rfl) (by rfl) (by kernel_rfl) (by rfl) (by rfl) (O.drew) (fun F hF => ?_)
          simp only [fillD, Act.put, List.setIfInBounds_toArray, List.set_cons_zero, List.set_cons_succ] at hF
          subst hF
          refine ⟨⟨does_want rfl (by rfl) (fun w' O K hK => ?_), does_want rfl (by rfl) (fun w' O K hK => ?_), does_skip rfl (by rfl), does_skip rfl (by rfl), does_skip rfl (by rfl), does_skip rfl (by rfl), does_skip rfl (by rfl), does_skip rfl (by rfl), does_skip rfl (by rfl), does_want rfl (by rfl) (fun w' O K hK => ?_), trivial⟩, fun w' O => ?_⟩
          · go_simp
            exact hK _ O
          · go_simp
            exact hK _ O
          · go_simp
            exact hK _ O
          refine wpAny_one (i := 10) (by kernel_rfl) rfl (fun K hK => ?_)
          go_simp
          refine hK _ _ ?_
          clear hK K
          try simp only [Act.put, List.setIfInBounds_toArray, List.set_cons_zero, List.set_cons_succ]
          refine wpAny_done (by kernel_rfl) ?_ _
          go_wp2_with fail
          go_roundw
          case rel => exact ⟨k + 1, by omega, by go_num, by rw [HA.out]; rfl, by rw [HB.out]; rfl, O⟩
          case measure => simp [intOf]; omega
        · go_wp2_with fail
          refine region_T ((fun w2 => Held w w2 [(g4, 27, M.mat 8 b), (g3, 27, M.mat 8 a)] nilRow [sE 0 A c l])) [0, 1, 2, 3, 4, 5, 6, 7, 8, 9] 12 [some 25, some 26, some 27, some 28, some 29, some 30, some 31, some 32, some 33, some 34] [.bool true, .bool true, .slice A l.length c, .int .i64 k, .pointer (some ((adr A).add (k * 5))), arr 5 s, arr 8 a, .int .i64 p, .bool (decide (0 ≤ p)), .bool (decide (0 ≤ p))] 1 (by kernel_rfl) (by rfl) (by kernel_rfl) (by rfl) (by rfl) (O.drew) (fun F hF => ?_)
          simp only [fillD, Act.put, List.setIfInBounds_toArray, List.set_cons_zero, List.set_cons_succ] at hF
          subst hF
          refine ⟨⟨does_want rfl (by rfl) (fun w' O K hK => ?_), does_want rfl (by rfl) (fun w' O K hK => ?_), does_want rfl (by rfl) (fun w' O K hK => ?_), does_want rfl (by rfl) (fun w' O K hK => ?_), does_want rfl (by rfl) (fun w' O K hK => ?_), does_want rfl (by rfl) (fun w' O K hK => ?_), does_want rfl (by rfl) (fun w' O K hK => ?_), does_want rfl (by rfl) (fun w' O K hK => ?_), does_want rfl (by rfl) (fun w' O K hK => ?_), does_want rfl (by rfl) (fun w' O K hK => ?_), trivial⟩, fun w' O => ?_⟩
          · go_simp
            exact hK _ O
          · go_simp
            exact hK _ O
          · go_simp
            exact hK _ O
          · go_simp
            exact hK _ O
          · exact wp_at_h Try.underlying29 sizeOf24 _ (O.mem List.mem_cons_self) rfl (k) rfl rfl (by omega) rfl (hK _ O)
          · exact wp_elem_h _ (O.mem List.mem_cons_self) (k * 5) (M.mat 5 s) (ss_at HS.out) (by rw [M.mat_len]; decide) rfl Try.underlying24 rfl (s24 _) (hK _ O)
          · exact wp_row_h O 1 rfl rfl Try.underlying27 rfl (s27 _) (hK _ O)
          · go_simp
            go_at_call 14
            refine (da _).mono ?_
            rintro e w2 ⟨rfl, hb⟩
            exact hK _ (O.call hb)
          · go_simp
            exact hK _ O
          · go_simp
            exact hK _ O
          refine wpAny_one (i := 10) (by kernel_rfl) rfl (fun K hK => ?_)
          go_simp
          refine hK _ _ ?_
          clear hK K
          try simp only [Act.put, List.setIfInBounds_toArray, List.set_cons_zero, List.set_cons_succ]
          refine wpAny_done (by kernel_rfl) ?_ _
          go_wp2_with fail
          have OO := O
          clear O
          clear O
          have O := OO
          clear OO
          refine region_T ((fun w2 => Held w w2 [(g4, 27, M.mat 8 b), (g3, 27, M.mat 8 a)] nilRow [sE 0 A c l])) [0, 1, 2, 3, 4, 5, 6, 7, 8, 9] 12 [some 35, some 36, some 37, some 38, some 39, some 40, some 41, some 42, some 43, some 44] [.bool true, .bool true, .slice A l.length c, .int .i64 k, .pointer (some ((adr A).add (k * 5))), arr 5 s, arr 8 b, .int .i64 q, .bool (decide (0 ≤ q)), .bool (decide (0 ≤ q))] 1 (by kernel_rfl) (by rfl) (by kernel_rfl) (by rfl) (by rfl) (O.drew) (fun F hF => ?_)
          simp only [fillD, Act.put, List.setIfInBounds_toArray, List.set_cons_zero, List.set_cons_succ] at hF
          subst hF
          refine ⟨⟨does_want rfl (by rfl) (fun w' O K hK => ?_), does_want rfl (by rfl) (fun w' O K hK => ?_), does_want rfl (by rfl) (fun w' O K hK => ?_), does_want rfl (by rfl) (fun w' O K hK => ?_), does_want rfl (by rfl) (fun w' O K hK => ?_), does_want rfl (by rfl) (fun w' O K hK => ?_), does_want rfl (by rfl) (fun w' O K hK => ?_), does_want rfl (by rfl) (fun w' O K hK => ?_), does_want rfl (by rfl) (fun w' O K hK => ?_), does_want rfl (by rfl) (fun w' O K hK => ?_), trivial⟩, fun w' O => ?_⟩
          · go_simp
            exact hK _ O
          · go_simp
            exact hK _ O
          · go_simp
            exact hK _ O
          · go_simp
            exact hK _ O
          · exact wp_at_h Try.underlying29 sizeOf24 _ (O.mem List.mem_cons_self) rfl (k) rfl rfl (by omega) rfl (hK _ O)
          · exact wp_elem_h _ (O.mem List.mem_cons_self) (k * 5) (M.mat 5 s) (ss_at HS.out) (by rw [M.mat_len]; decide) rfl Try.underlying24 rfl (s24 _) (hK _ O)
          · exact wp_row_h O 0 rfl rfl Try.underlying27 rfl (s27 _) (hK _ O)
          · go_simp
            go_at_call 14
            refine (db _).mono ?_
            rintro e w2 ⟨rfl, hb⟩
            exact hK _ (O.call hb)
          · go_simp
            exact hK _ O
          · go_simp
            exact hK _ O
          refine wpAny_one (i := 10) (by kernel_rfl) rfl (fun K hK => ?_)
          go_simp
          refine hK _ _ ?_
          clear hK K
          try simp only [Act.put, List.setIfInBounds_toArray, List.set_cons_zero, List.set_cons_succ]
          refine wpAny_done (by kernel_rfl) ?_ _
          go_wp2_with fail
          go_roundw
          case rel => exact ⟨k + 1, by omega, by go_num, by rw [HA.out]; rfl, by rw [HB.out]; rfl, O⟩
          case measure => simp [intOf]; omega
      · have q1 : ¬ (k : Int) < l.length := by omega
        obtain rfl : k = l.length := by omega
        rw [List.take_of_length_le (Nat.le_refl _)]
        clear DA DB
        cases z
        · obtain ⟨rfl, rfl, hin⟩ := keeps_no HP.out
          clear HP
          generalize insd a l = x at *
          generalize insd b l = y at *
          cases x <;> cases y
          all_goals first | (exact absurd hin (by decide)) | skip
          all_goals
            clear hin
            go_wp2_with (first | ((with_reducible refine at_load 46 ?_); refine wpList_rowg_h rfl O 1 rfl rfl Try.underlying27 rfl (s27 _) ?_) | ((with_reducible refine at_load 47 ?_); refine wpList_rowg_h rfl O 0 rfl rfl Try.underlying27 rfl (s27 _) ?_) | (go_at_call 12; refine (c1 _ (O.arg List.mem_cons_self)).mono ?_; rintro e w4 ⟨rfl, hb⟩; replace O := O.call hb; clear hb) | ((with_reducible refine at_alloc 10 ?_); refine wpList_alloc_h O (M.mat 8 M.zero) zero27 ?_; clear O; intro g10 w5 O) | ((with_reducible refine at_alloc 11 ?_); refine wpList_alloc_h O (M.mat 8 M.zero) zero27 ?_; clear O; intro g11 w6 O) | ((with_reducible refine at_store 10 ?_); refine wpList_put_h O 1 (M.mat 8 (M.zero)) rfl rfl rfl (s27 _) (M.mat_len2 _ _ _) (M.mat_one _ _) ?_; clear O; intro w7 O) | ((with_reducible refine at_store 11 ?_); refine wpList_put_h O 0 (M.mat 8 (M.zero)) rfl rfl rfl (s27 _) (M.mat_len2 _ _ _) (M.mat_one _ _) ?_; clear O; intro w8 O) | (go_at_call 9; refine (awake_any _).mono ?_; rintro e x5 ⟨rfl, hb⟩; replace O := O.call hb; clear hb) | ((with_reducible refine at_load 64 ?_); refine wpList_rowg_h rfl O 1 rfl rfl Try.underlying27 rfl (s27 _) ?_) | ((with_reducible refine at_build 65 ?_); refine wpList_build_g rfl ([]) ((M.mat 8 M.zero).toArray) ?_ (built27z) ?_; (focus (simp only [List.map_toArray, List.map_cons, List.map_nil]; rfl))) | ((with_reducible refine at_binOp 66 ?_); refine wpList_eq27 rfl (M.zero) (M.zero) rfl rfl ?_; rw [M.eqB_refl]) | ((with_reducible refine at_load 69 ?_); refine wpList_rowg_h rfl O 0 rfl rfl Try.underlying27 rfl (s27 _) ?_) | ((with_reducible refine at_build 70 ?_); refine wpList_build_g rfl ([]) ((M.mat 8 M.zero).toArray) ?_ (built27z) ?_; (focus (simp only [List.map_toArray, List.map_cons, List.map_nil]; rfl))) | ((with_reducible refine at_binOp 71 ?_); refine wpList_eq27 rfl (M.zero) (M.zero) rfl rfl ?_; rw [M.eqB_refl]))
            go_ret
            exact ⟨rfl, O.below⟩
        · obtain ⟨k1, k2⟩ := keeps_yes HP.out
          clear HP
          generalize insd a l = x at *
          generalize insd b l = y at *
          cases x <;> cases y
          · clear k1 k2
            go_wp2_with (first | ((with_reducible refine at_load 46 ?_); refine wpList_rowg_h rfl O 1 rfl rfl Try.underlying27 rfl (s27 _) ?_) | ((with_reducible refine at_load 47 ?_); refine wpList_rowg_h rfl O 0 rfl rfl Try.underlying27 rfl (s27 _) ?_) | (go_at_call 12; refine (c1 _ (O.arg List.mem_cons_self)).mono ?_; rintro e w4 ⟨rfl, hb⟩; replace O := O.call hb; clear hb) | ((with_reducible refine at_alloc 10 ?_); refine wpList_alloc_h O (M.mat 8 M.zero) zero27 ?_; clear O; intro g10 w5 O) | ((with_reducible refine at_alloc 11 ?_); refine wpList_alloc_h O (M.mat 8 M.zero) zero27 ?_; clear O; intro g11 w6 O) | ((with_reducible refine at_store 10 ?_); refine wpList_put_h O 1 (M.mat 8 (f1)) rfl rfl rfl (s27 _) (M.mat_len2 _ _ _) (M.mat_one _ _) ?_; clear O; intro w7 O) | ((with_reducible refine at_store 11 ?_); refine wpList_put_h O 0 (M.mat 8 (f2)) rfl rfl rfl (s27 _) (M.mat_len2 _ _ _) (M.mat_one _ _) ?_; clear O; intro w8 O) | (go_at_call 9; refine (awake_any _).mono ?_; rintro e x5 ⟨rfl, hb⟩; replace O := O.call hb; clear hb) | ((with_reducible refine at_load 78 ?_); refine wpList_rowg_h rfl O 1 rfl rfl Try.underlying27 rfl (s27 _) ?_) | ((with_reducible refine at_load 79 ?_); refine wpList_rowg_h rfl O 3 rfl rfl Try.underlying27 rfl (s27 _) ?_) | ((with_reducible refine at_load 87 ?_); refine wpList_rowg_h rfl O 0 rfl rfl Try.underlying27 rfl (s27 _) ?_) | ((with_reducible refine at_load 88 ?_); refine wpList_rowg_h rfl O 2 rfl rfl Try.underlying27 rfl (s27 _) ?_))
            go_ret
            exact ⟨rfl, O.below⟩
          · have e2 := (k2 rfl).symm
            subst e2
            clear k1 k2
            go_wp2_with (first | ((with_reducible refine at_load 46 ?_); refine wpList_rowg_h rfl O 1 rfl rfl Try.underlying27 rfl (s27 _) ?_) | ((with_reducible refine at_load 47 ?_); refine wpList_rowg_h rfl O 0 rfl rfl Try.underlying27 rfl (s27 _) ?_) | (go_at_call 12; refine (c1 _ (O.arg List.mem_cons_self)).mono ?_; rintro e w4 ⟨rfl, hb⟩; replace O := O.call hb; clear hb) | ((with_reducible refine at_alloc 10 ?_); refine wpList_alloc_h O (M.mat 8 M.zero) zero27 ?_; clear O; intro g10 w5 O) | ((with_reducible refine at_alloc 11 ?_); refine wpList_alloc_h O (M.mat 8 M.zero) zero27 ?_; clear O; intro g11 w6 O) | ((with_reducible refine at_store 10 ?_); refine wpList_put_h O 1 (M.mat 8 (f1)) rfl rfl rfl (s27 _) (M.mat_len2 _ _ _) (M.mat_one _ _) ?_; clear O; intro w7 O) | ((with_reducible refine at_store 11 ?_); refine wpList_put_h O 0 (M.mat 8 (b)) rfl rfl rfl (s27 _) (M.mat_len2 _ _ _) (M.mat_one _ _) ?_; clear O; intro w8 O) | (go_at_call 9; refine (awake_any _).mono ?_; rintro e x5 ⟨rfl, hb⟩; replace O := O.call hb; clear hb) | ((with_reducible refine at_load 78 ?_); refine wpList_rowg_h rfl O 1 rfl rfl Try.underlying27 rfl (s27 _) ?_) | ((with_reducible refine at_load 79 ?_); refine wpList_rowg_h rfl O 3 rfl rfl Try.underlying27 rfl (s27 _) ?_) | ((with_reducible refine at_load 87 ?_); refine wpList_rowg_h rfl O 0 rfl rfl Try.underlying27 rfl (s27 _) ?_) | ((with_reducible refine at_load 88 ?_); refine wpList_rowg_h rfl O 2 rfl rfl Try.underlying27 rfl (s27 _) ?_) | ((with_reducible refine at_binOp 89 ?_); refine wpList_eq27 rfl (b) (b) rfl rfl ?_; rw [M.eqB_refl]))
            go_ret
            exact ⟨rfl, O.below⟩
          · have e1 := (k1 rfl).symm
            subst e1
            clear k1 k2
            go_wp2_with (first | ((with_reducible refine at_load 46 ?_); refine wpList_rowg_h rfl O 1 rfl rfl Try.underlying27 rfl (s27 _) ?_) | ((with_reducible refine at_load 47 ?_); refine wpList_rowg_h rfl O 0 rfl rfl Try.underlying27 rfl (s27 _) ?_) | (go_at_call 12; refine (c1 _ (O.arg List.mem_cons_self)).mono ?_; rintro e w4 ⟨rfl, hb⟩; replace O := O.call hb; clear hb) | ((with_reducible refine at_alloc 10 ?_); refine wpList_alloc_h O (M.mat 8 M.zero) zero27 ?_; clear O; intro g10 w5 O) | ((with_reducible refine at_alloc 11 ?_); refine wpList_alloc_h O (M.mat 8 M.zero) zero27 ?_; clear O; intro g11 w6 O) | ((with_reducible refine at_store 10 ?_); refine wpList_put_h O 1 (M.mat 8 (a)) rfl rfl rfl (s27 _) (M.mat_len2 _ _ _) (M.mat_one _ _) ?_; clear O; intro w7 O) | ((with_reducible refine at_store 11 ?_); refine wpList_put_h O 0 (M.mat 8 (f2)) rfl rfl rfl (s27 _) (M.mat_len2 _ _ _) (M.mat_one _ _) ?_; clear O; intro w8 O) | (go_at_call 9; refine (awake_any _).mono ?_; rintro e x5 ⟨rfl, hb⟩; replace O := O.call hb; clear hb) | ((with_reducible refine at_load 78 ?_); refine wpList_rowg_h rfl O 1 rfl rfl Try.underlying27 rfl (s27 _) ?_) | ((with_reducible refine at_load 79 ?_); refine wpList_rowg_h rfl O 3 rfl rfl Try.underlying27 rfl (s27 _) ?_) | ((with_reducible refine at_load 87 ?_); refine wpList_rowg_h rfl O 0 rfl rfl Try.underlying27 rfl (s27 _) ?_) | ((with_reducible refine at_load 88 ?_); refine wpList_rowg_h rfl O 2 rfl rfl Try.underlying27 rfl (s27 _) ?_) | ((with_reducible refine at_binOp 80 ?_); refine wpList_eq27 rfl (a) (a) rfl rfl ?_; rw [M.eqB_refl]))
            go_ret
            exact ⟨rfl, O.below⟩
          · have e1 := (k1 rfl).symm
            subst e1
            have e2 := (k2 rfl).symm
            subst e2
            clear k1 k2
            go_wp2_with (first | ((with_reducible refine at_load 46 ?_); refine wpList_rowg_h rfl O 1 rfl rfl Try.underlying27 rfl (s27 _) ?_) | ((with_reducible refine at_load 47 ?_); refine wpList_rowg_h rfl O 0 rfl rfl Try.underlying27 rfl (s27 _) ?_) | (go_at_call 12; refine (c1 _ (O.arg List.mem_cons_self)).mono ?_; rintro e w4 ⟨rfl, hb⟩; replace O := O.call hb; clear hb) | ((with_reducible refine at_alloc 10 ?_); refine wpList_alloc_h O (M.mat 8 M.zero) zero27 ?_; clear O; intro g10 w5 O) | ((with_reducible refine at_alloc 11 ?_); refine wpList_alloc_h O (M.mat 8 M.zero) zero27 ?_; clear O; intro g11 w6 O) | ((with_reducible refine at_store 10 ?_); refine wpList_put_h O 1 (M.mat 8 (a)) rfl rfl rfl (s27 _) (M.mat_len2 _ _ _) (M.mat_one _ _) ?_; clear O; intro w7 O) | ((with_reducible refine at_store 11 ?_); refine wpList_put_h O 0 (M.mat 8 (b)) rfl rfl rfl (s27 _) (M.mat_len2 _ _ _) (M.mat_one _ _) ?_; clear O; intro w8 O) | (go_at_call 9; refine (awake_any _).mono ?_; rintro e x5 ⟨rfl, hb⟩; replace O := O.call hb; clear hb) | ((with_reducible refine at_load 78 ?_); refine wpList_rowg_h rfl O 1 rfl rfl Try.underlying27 rfl (s27 _) ?_) | ((with_reducible refine at_load 79 ?_); refine wpList_rowg_h rfl O 3 rfl rfl Try.underlying27 rfl (s27 _) ?_) | ((with_reducible refine at_load 87 ?_); refine wpList_rowg_h rfl O 0 rfl rfl Try.underlying27 rfl (s27 _) ?_) | ((with_reducible refine at_load 88 ?_); refine wpList_rowg_h rfl O 2 rfl rfl Try.underlying27 rfl (s27 _) ?_) | ((with_reducible refine at_binOp 80 ?_); refine wpList_eq27 rfl (a) (a) rfl rfl ?_; rw [M.eqB_refl]) | ((with_reducible refine at_binOp 89 ?_); refine wpList_eq27 rfl (b) (b) rfl rfl ?_; rw [M.eqB_refl]))
            go_ret
            exact ⟨rfl, O.below⟩
theorem readable : ∀ t ∈ Try.f7.params.toList, Try.prog.readableRec t = true ∧ t < Try.prog.types.size := by
  intro t ht
  rw [Try.params7] at ht
  simp only [List.mem_cons, List.not_mem_nil, or_false] at ht
  repeat (first | (rcases ht with rfl | ht; exact ⟨by kernel_rfl, of_decide_eq_true (by kernel_rfl)⟩) | (subst ht; exact ⟨by kernel_rfl, of_decide_eq_true (by kernel_rfl)⟩))
set_option maxRecDepth 100000 in
theorem lifted (os : Os) (started : os.Started) (H : Type) (enc : TypeId × Value → H) :
    ReturnsInHanded {} Try.checked os 7 .any (Rows.trimKeepsSpec.pre6 enc Try.prog Try.f7 Rows.trimKeepsRow.domain false) (Rows.trimKeepsSpec.post enc Try.prog Try.f7 false true false false) := by
  refine returnsInHanded_of_change (C := Try.checked) own started (by kernel_rfl) Try.func7
    (ChangeSpec.witness6 (enc := enc) (C := Try.checked) false ⟨#[], #[.agg #[.int .i64 0, .int .i64 0, .int .i64 0, .int .i64 0, .int .i64 0, .int .i64 0, .int .i64 0, .int .i64 0], .agg #[.int .i64 0, .int .i64 0, .int .i64 0, .int .i64 0, .int .i64 0, .int .i64 0, .int .i64 0, .int .i64 0], .slice none 0 0], []⟩ 8 (by kernel_rfl) (by kernel_rfl) (by kernel_rfl) (by kernel_rfl)) ?_
  intro W base args ds gs before hval0 hW hcnd _
  have hval : ∀ (j : Nat) t v, Try.f7.params[j]? = some t → args[j]? = some v → Value.okWide Try.prog W .any base t v := hval0
  have hW' := hW
  obtain ⟨p, q, hA0, hV, rfl, hfz, hnd⟩ := hW
  have hA : DataW.TrodAll enc Try.prog W 0 (fun _ => true) true Try.f7.params.toList args.toList ds p := hA0
  rw [Try.params7] at hA hval
  have hlt : ∀ x ∈ p ++ q, x.block < W.heap.size := fun x hx => hW'.lt x hx
  obtain ⟨v0, vs0, d0, ds0, p0, q0, hargs, rfl, rfl, h0, rr0⟩ := trodAll_cons hA
  obtain ⟨v1, vs1, d1, ds1, p1, q1, rfl, rfl, rfl, h1, rr1⟩ := trodAll_cons rr0
  obtain ⟨v2, vs2, d2, ds2, p2, q2, rfl, rfl, rfl, h2, rr2⟩ := trodAll_cons rr1
  obtain ⟨rfl, rfl, rfl⟩ := trodAll_nil rr2
  obtain rfl : args = #[v0, v1, v2] := by cases args; simp_all
  obtain ⟨rfl, rfl⟩ := trodVars_none hV
  obtain ⟨a0, rfl⟩ := openVert (hval 0 27 v0 rfl rfl) h0
  obtain ⟨a1, rfl⟩ := openVert (hval 1 27 v1 rfl rfl) h1
  obtain ⟨A2, n2, c2, rfl⟩ := okWide_slice Try.underlying29 (hval 2 29 v2 rfl rfl)
  obtain ⟨B2, k2, l2, e2, hF⟩ := openSides h2 (fun x hx => hlt x (by simp [hx]))
  obtain ⟨rfl, rfl, rfl⟩ := Value.slice.inj e2
  clear hA0 hval0
  refine (walk W a0 a1 _ hF).mono fun e W' ⟨he, hg⟩ => ?_
  subst he
  exact ⟨_, rfl, post_true (tb := 4) laid readable (by kernel_rfl) Try.underlying4 rfl (fun l hl => by
    match l, hl with
    | [_, _, _], _ => exact ⟨rfl, rfl, rfl⟩) hW' hg⟩

theorem over : Rows.trimKeepsRow.holds Try.pinned (OpenSpec.ofChange Rows.trimKeepsSpec) :=
  OpenClaim.holds_of_wide 7 Try.f7 rfl rfl rfl rfl rfl rfl rfl ⟨rfl, rfl, rfl, rfl, rfl⟩ rfl rfl rfl rfl rfl (by kernel_rfl) Try.func7 (by kernel_rfl)
    (of_decide_eq_true (by kernel_rfl)) (by unfold Func.isWrapper; first | (rw [if_pos (by decide +kernel)]; kernel_rfl) | (rw [if_neg (by decide +kernel)]; exact ⟨rfl, rfl⟩))
    (fun os started H enc _ => lifted os started H enc)

theorem proved : Rows.TrimKeepsSaid :=
  over
#print axioms proved
end Go.Proofs.Ytimfdimpifpclaa.trimKeeps
