/- Contracts: the program's In, Exits. -/
import Derived.Test.YtkhjjmjdicnpjaaDr
import Derived.OwnWalk
namespace Go.Proofs.Ytkhjjmjdicnpjaa
open Go.ChangeShapes Go.WideShapes Go.ChangeAt Go.RowKit
set_option linter.unusedVariables false
set_option linter.unusedSimpArgs false

namespace DM
theorem inside_at {X Y x y : Int} (h : inside (rel X x) (rel Y y) = true) : x = (X - 1) / 256 ∧ y = (Y - 1) / 256 := by
  obtain ⟨⟨h1, h2⟩, h3, h4⟩ := inside_iff.1 h
  unfold rel at h1 h2 h3 h4
  omega
theorem inr_off {X Y : Int} (h : inside (rel X ((X - 1) / 256)) (rel Y ((Y - 1) / 256)) = false) : inr X Y = (0, 0, false) := by
  apply inr_no
  intro x y
  rw [← Bool.not_eq_true]
  intro hi
  obtain ⟨e1, e2⟩ := inside_at hi
  rw [e1, e2, h] at hi
  cases hi
end DM
def RetIn (w : World) (r : Int × Int × Bool) (e : Ending) (w' : World) : Prop := e = .returned (.tuple #[.int .i64 r.1, .int .i64 r.2.1, .bool r.2.2]) ∧ Below w.heap.size w w'
set_option maxRecDepth 100000 in
set_option maxHeartbeats 4000000 in
theorem in_any (p : Nat → Int) (hp : DM.Rg p) (w : World) : Calls Try.prog 10 #[arr 2 p] w (RetIn w (DM.inr (p 0) (p 1))) := by
  have O := Own.start w
  have hp' := hp
  unfold DM.Rg at hp'
  have CM := fun w => meets_any p p ((p 0 - 1) / 256) ((p 1 - 1) / 256) hp hp (by unfold DM.Rx; omega) w
  have C0 := fun w => pixel_any (p 0) (by omega) (by omega) w
  have C1 := fun w => pixel_any (p 1) (by omega) (by omega) w
  have HN := @DM.inr_off (p 0) (p 1)
  have HY := @DM.inr_yes (p 0) (p 1) ((p 0 - 1) / 256) ((p 1 - 1) / 256)
  clear hp hp'
  rw [DM.meets_self] at CM
  obtain ⟨i, hi⟩ : ∃ z, DM.inside (DM.rel (p 0) ((p 0 - 1) / 256)) (DM.rel (p 1) ((p 1 - 1) / 256)) = z := ⟨_, rfl⟩
  rw [hi] at CM HN HY
  clear hi
  obtain ⟨r, hr⟩ : ∃ z, DM.inr (p 0) (p 1) = z := ⟨_, rfl⟩
  rw [hr] at HN HY ⊢
  clear hr
  obtain ⟨x, hx⟩ : ∃ z, (p 0 - 1) / 256 = z := ⟨_, rfl⟩
  obtain ⟨y, hy⟩ : ∃ z, (p 1 - 1) / 256 = z := ⟨_, rfl⟩
  rw [hx] at C0 CM HY
  rw [hy] at C1 CM HY
  clear hx hy
  obtain ⟨X, eX⟩ : ∃ z, p 0 = z := ⟨_, rfl⟩
  obtain ⟨Y, eY⟩ : ∃ z, p 1 = z := ⟨_, rfl⟩
  have CX := cell_is (n := 2) eX (by decide)
  have CY := cell_is (n := 2) eY (by decide)
  rw [eX] at C0
  rw [eY] at C1
  clear eX eY
  replace HN := Lib.hid HN
  replace HY := Lib.hid HY
  unfold RetIn
  go_enter Try.func10, Try.ntmps10
  go_wp2_with ((with_reducible refine at_box 1 ?_); refine wpList_box_own O (M.mat 2 (p)) rfl ?_; clear O; intro g1 w1 O)
  have OO := O
  clear O
  have O := OO
  clear OO
  refine region_T ((fun w2 => Own w w2 [(g1, 23, M.mat 2 p)])) [0, 1, 2, 3, 4, 5] 12 [some 7, some 8, some 9, some 10, some 11, some 12] [.pointer (some ⟨g1, 0, none⟩), .int .i64 X, .int .i64 x, .pointer (some ⟨g1, 1, none⟩), .int .i64 Y, .int .i64 y] 2 (by kernel_rfl) (by rfl) (by kernel_rfl) (by rfl) (by rfl) (O.drew) (fun F hF => ?_)
  simp only [fillD, Act.put, List.setIfInBounds_toArray, List.set_cons_zero, List.set_cons_succ] at hF
  subst hF
  refine ⟨⟨does_want rfl (by rfl) (fun w' O K hK => ?_), does_want rfl (by rfl) (fun w' O K hK => ?_), does_want rfl (by rfl) (fun w' O K hK => ?_), does_want rfl (by rfl) (fun w' O K hK => ?_), does_want rfl (by rfl) (fun w' O K hK => ?_), does_want rfl (by rfl) (fun w' O K hK => ?_), trivial⟩, fun w' O => ?_⟩
  · go_simp
    exact hK _ O
  · exact wp_cell_h (v := .int .i64 (X)) O.held 0 rfl CX.out rfl agg3 rfl (hK _ O)
  · go_simp
    go_at_call 17
    refine (C0 _).mono ?_
    rintro e w2 ⟨rfl, hw⟩
    obtain rfl := hw.symm
    clear hw
    exact hK _ O
  · go_simp
    exact hK _ O
  · exact wp_cell_h (v := .int .i64 (Y)) O.held 0 rfl CY.out rfl agg3 rfl (hK _ O)
  · go_simp
    go_at_call 17
    refine (C1 _).mono ?_
    rintro e w2 ⟨rfl, hw⟩
    obtain rfl := hw.symm
    clear hw
    exact hK _ O
  refine wpAny_one (i := 6) (by kernel_rfl) rfl (fun K hK => ?_)
  go_simp
  refine hK _ _ ?_
  clear hK K
  try simp only [Act.put, List.setIfInBounds_toArray, List.set_cons_zero, List.set_cons_succ]
  refine wpAny_one (i := 7) (by kernel_rfl) rfl (fun K hK => ?_)
  go_simp
  refine hK _ _ ?_
  clear hK K
  try simp only [Act.put, List.setIfInBounds_toArray, List.set_cons_zero, List.set_cons_succ]
  refine wpAny_done (by kernel_rfl) ?_ _
  clear C0 C1
  cases i
  · have HE := Lib.hid (HN.out rfl)
    clear HN HY
    go_wp2_with (first | ((with_reducible refine at_load 13 ?_); refine wpList_whole rfl O 0 rfl rfl Try.underlying23 rfl (sP _) ?_) | ((with_reducible refine at_load 14 ?_); refine wpList_whole rfl O 0 rfl rfl Try.underlying23 rfl (sP _) ?_) | (go_at_call 13; refine (CM _).mono ?_; rintro e v1 ⟨rfl, hb⟩; replace O := O.call hb; clear hb))
    go_ret3
    rw [HE.out]
    exact ⟨rfl, O.below⟩
  · have HE := Lib.hid (HY.out rfl)
    clear HN HY
    go_wp2_with (first | ((with_reducible refine at_load 13 ?_); refine wpList_whole rfl O 0 rfl rfl Try.underlying23 rfl (sP _) ?_) | ((with_reducible refine at_load 14 ?_); refine wpList_whole rfl O 0 rfl rfl Try.underlying23 rfl (sP _) ?_) | (go_at_call 13; refine (CM _).mono ?_; rintro e v1 ⟨rfl, hb⟩; replace O := O.call hb; clear hb))
    go_ret3
    rw [HE.out]
    exact ⟨rfl, O.below⟩
set_option maxRecDepth 100000 in
set_option maxHeartbeats 4000000 in
theorem exits_any (a b : Nat → Int) (x y : Int) (ha : DM.Rg a) (hb : DM.Rg b) (hx : DM.Rx x y) (w : World) :
    Calls Try.prog 15 #[arr 2 a, arr 2 b, .int .i64 x, .int .i64 y] w fun e w' => e = .returned (.bool (DM.exits (DM.rel (a 0) x) (DM.rel (a 1) y) (DM.rel (b 0) x) (DM.rel (b 1) y))) ∧ Below w.heap.size w w' := by
  have O := Own.start w
  have C1 := fun w => meets_any a b x y ha hb hx w
  have C2 := fun w => meets_any b b x y hb hb hx w
  rw [DM.meets_self] at C2
  have HE : Hid (DM.exits (DM.rel (a 0) x) (DM.rel (a 1) y) (DM.rel (b 0) x) (DM.rel (b 1) y) = (DM.meets (DM.rel (a 0) x) (DM.rel (a 1) y) (DM.rel (b 0) x) (DM.rel (b 1) y) && !DM.inside (DM.rel (b 0) x) (DM.rel (b 1) y))) := Lib.hid rfl
  generalize DM.exits (DM.rel (a 0) x) (DM.rel (a 1) y) (DM.rel (b 0) x) (DM.rel (b 1) y) = z at *
  generalize DM.meets (DM.rel (a 0) x) (DM.rel (a 1) y) (DM.rel (b 0) x) (DM.rel (b 1) y) = m at *
  generalize DM.inside (DM.rel (b 0) x) (DM.rel (b 1) y) = i at *
  clear ha hb hx
  have tok0 : True := trivial
  cases m
  · clear C2
    go_enter Try.func15, Try.ntmps15
    go_wp2_with (first | ((with_reducible refine at_box 4 ?_); refine wpList_box_own O (M.mat 2 (a)) rfl ?_; clear O; intro g4 w1 O) | ((with_reducible refine at_box 5 ?_); refine wpList_box_own O (M.mat 2 (b)) rfl ?_; clear O; intro g5 w2 O) | ((with_reducible refine at_load 9 ?_); refine wpList_whole rfl O 1 rfl rfl Try.underlying23 rfl (sP _) ?_) | ((with_reducible refine at_load 10 ?_); refine wpList_whole rfl O 0 rfl rfl Try.underlying23 rfl (sP _) ?_) | (go_at_call 13; clear tok0; have tok1 : True := trivial; refine (C1 _).mono ?_; rintro e w3 ⟨rfl, hb⟩; replace O := O.call hb; clear hb))
    go_ret
    exact ⟨by rw [HE.out]; rfl, O.below⟩
  · cases i
    · go_enter Try.func15, Try.ntmps15
      go_wp2_with (first | ((with_reducible refine at_box 4 ?_); refine wpList_box_own O (M.mat 2 (a)) rfl ?_; clear O; intro g4 w1 O) | ((with_reducible refine at_box 5 ?_); refine wpList_box_own O (M.mat 2 (b)) rfl ?_; clear O; intro g5 w2 O) | ((with_reducible refine at_load 9 ?_); refine wpList_whole rfl O 1 rfl rfl Try.underlying23 rfl (sP _) ?_) | ((with_reducible refine at_load 10 ?_); refine wpList_whole rfl O 0 rfl rfl Try.underlying23 rfl (sP _) ?_) | (go_at_call 13; clear tok0; have tok1 : True := trivial; refine (C1 _).mono ?_; rintro e w3 ⟨rfl, hb⟩; replace O := O.call hb; clear hb) | ((with_reducible refine at_load 15 ?_); refine wpList_whole rfl O 0 rfl rfl Try.underlying23 rfl (sP _) ?_) | ((with_reducible refine at_load 16 ?_); refine wpList_whole rfl O 0 rfl rfl Try.underlying23 rfl (sP _) ?_) | (go_at_call 13; clear tok1; have tok2 : True := trivial; refine (C2 _).mono ?_; rintro e w4 ⟨rfl, hb⟩; replace O := O.call hb; clear hb))
      go_ret
      exact ⟨by rw [HE.out]; rfl, O.below⟩
    · go_enter Try.func15, Try.ntmps15
      go_wp2_with (first | ((with_reducible refine at_box 4 ?_); refine wpList_box_own O (M.mat 2 (a)) rfl ?_; clear O; intro g4 w1 O) | ((with_reducible refine at_box 5 ?_); refine wpList_box_own O (M.mat 2 (b)) rfl ?_; clear O; intro g5 w2 O) | ((with_reducible refine at_load 9 ?_); refine wpList_whole rfl O 1 rfl rfl Try.underlying23 rfl (sP _) ?_) | ((with_reducible refine at_load 10 ?_); refine wpList_whole rfl O 0 rfl rfl Try.underlying23 rfl (sP _) ?_) | (go_at_call 13; clear tok0; have tok1 : True := trivial; refine (C1 _).mono ?_; rintro e w3 ⟨rfl, hb⟩; replace O := O.call hb; clear hb) | ((with_reducible refine at_load 15 ?_); refine wpList_whole rfl O 0 rfl rfl Try.underlying23 rfl (sP _) ?_) | ((with_reducible refine at_load 16 ?_); refine wpList_whole rfl O 0 rfl rfl Try.underlying23 rfl (sP _) ?_) | (go_at_call 13; clear tok1; have tok2 : True := trivial; refine (C2 _).mono ?_; rintro e w4 ⟨rfl, hb⟩; replace O := O.call hb; clear hb))
      go_ret
      exact ⟨by rw [HE.out]; rfl, O.below⟩
end Go.Proofs.Ytkhjjmjdicnpjaa
