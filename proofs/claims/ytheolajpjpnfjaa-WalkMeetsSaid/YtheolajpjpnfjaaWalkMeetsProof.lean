/-
  WalkMeets: for every two points and every pixel, the pixel is one of the line between them just if the line exits from its diamond.
-/
import Derived.Test.YtheolajpjpnfjaaXo
import Derived.Deep.DeepCutAuto
namespace Go.Proofs.Ytheolajpjpnfjaa.walkMeets
open Go.ChangeShapes Go.WideShapes Go.ChangeAt Go.RowKit
set_option linter.unusedVariables false
set_option linter.unusedSimpArgs false

theorem own : ownKnob Try.prog.godebug = none := by kernel_rfl
theorem _root_.Go.Proofs.Ytheolajpjpnfjaa.HB.call {w0 w w' : World} {bs : List (Nat × TypeId × List Value)} {ss : List NbS} {R : RowD} {es : List Ent} {st : Nat → Option Value} (h : HB w0 bs ss R es st w) (hb : Below w.heap.size w w') : HB w0 bs ss R es st w' := ⟨h.1, h.2.1, h.2.2.call hb⟩
theorem _root_.Go.Proofs.Ytheolajpjpnfjaa.DM.wth_one {ax ay bx by_ x y : Int} : (DM.exits (DM.rel ax x) (DM.rel ay y) (DM.rel bx x) (DM.rel by_ y) = false → DM.wth ax ay bx by_ (RC.mk x y (x + 1) (y + 1)) = []) ∧ (DM.exits (DM.rel ax x) (DM.rel ay y) (DM.rel bx x) (DM.rel by_ y) = true → DM.wth ax ay bx by_ (RC.mk x y (x + 1) (y + 1)) = [(DM.num ax ay bx by_ x y, x, y)]) := by
  have key : ∀ s, DM.inR4 (RC.mk x y (x + 1) (y + 1)) s = true ↔ s.2.1 = x ∧ s.2.2 = y := by
    intro s
    unfold DM.inR4
    simp only [Bool.and_eq_true, decide_eq_true_eq]
    show ((x ≤ s.2.1 ∧ s.2.1 < x + 1) ∧ (y ≤ s.2.2 ∧ s.2.2 < y + 1)) ↔ _
    omega
  constructor
  · intro h
    symm
    refine DM.wth_is List.Pairwise.nil fun s => ?_
    rw [key]
    constructor
    · intro hm
      cases hm
    · rintro ⟨⟨h1, _⟩, h2, h3⟩
      rw [h2, h3, h] at h1
      cases h1
  · intro h
    symm
    refine DM.wth_is (by simp) fun s => ?_
    rw [key, List.mem_singleton]
    constructor
    · rintro rfl
      exact ⟨⟨h, rfl⟩, rfl, rfl⟩
    · rintro ⟨⟨_, h1⟩, h2, h3⟩
      obtain ⟨s0, s1, s2⟩ := s
      simp only at h1 h2 h3
      subst h2 h3
      rw [h1]
theorem _root_.Go.Proofs.Ytheolajpjpnfjaa.DM.at14_num {ax ay bx by_ x y : Int} (ra : (-536870912 ≤ ax ∧ ax ≤ 536870912) ∧ (-536870912 ≤ ay ∧ ay ≤ 536870912)) (rb : (-536870912 ≤ bx ∧ bx ≤ 536870912) ∧ (-536870912 ≤ by_ ∧ by_ ≤ 536870912)) (h : DM.exits (DM.rel ax x) (DM.rel ay y) (DM.rel bx x) (DM.rel by_ y) = true) : DM.at14 ax ay bx by_ (DM.num ax ay bx by_ x y) = ((DM.num ax ay bx by_ x y, x, y), true) ∧ 0 ≤ DM.num ax ay bx by_ x y ∧ DM.num ax ay bx by_ x y < 4294967296 := by
  have hm := (DM.mem_steps (ax := ax) (ay := ay) (bx := bx) (by_ := by_) (DM.num ax ay bx by_ x y, x, y)).2 ⟨h, rfl⟩
  obtain ⟨k, hk⟩ := List.mem_iff_getElem?.1 hm
  rw [DM.steps_get] at hk
  obtain ⟨z, hz, e2⟩ := Option.map_eq_some_iff.1 hk
  obtain ⟨e3, e4⟩ := Prod.mk.inj e2
  have hlt := (List.getElem?_eq_some_iff.1 hz).1
  have hn : ¬ (ax = bx ∧ ay = by_) := by
    intro hn
    rw [← hn.1, ← hn.2, DM.exits, DM.meets_self] at h
    cases hi : DM.inside (DM.rel ax x) (DM.rel ay y) <;> rw [hi] at h <;> cases h
  refine ⟨?_, by omega, ?_⟩
  · unfold DM.at14
    rw [if_neg (by omega), ← e3, Int.toNat_natCast, hz]
    obtain ⟨e5, e6⟩ := Prod.mk.inj e4
    simp only [e5, e6]
  · have hl : (k : Int) < DM.cnt14 ax ay bx by_ := by unfold DM.cnt14; omega
    rw [DM.cnt14_is hn] at hl
    unfold DM.cntG at hl
    have e := @DM.e1_is (DM.tall (bx - ax) (by_ - ay)) (DM.mn (DM.tall (bx - ax) (by_ - ay)) ax ay) (DM.cr (DM.tall (bx - ax) (by_ - ay)) ax ay) (DM.mn (DM.tall (bx - ax) (by_ - ay)) bx by_) (DM.cr (DM.tall (bx - ax) (by_ - ay)) bx by_)
    have l := @DM.l1_is (DM.tall (bx - ax) (by_ - ay)) (DM.mn (DM.tall (bx - ax) (by_ - ay)) ax ay) (DM.cr (DM.tall (bx - ax) (by_ - ay)) ax ay) (DM.mn (DM.tall (bx - ax) (by_ - ay)) bx by_) (DM.cr (DM.tall (bx - ax) (by_ - ay)) bx by_)
    have hN : DM.nl (DM.mn (DM.tall (bx - ax) (by_ - ay)) ax ay) (DM.mn (DM.tall (bx - ax) (by_ - ay)) bx by_) ≤ 4194310 := by
      unfold DM.nl DM.ahd
      cases DM.tall (bx - ax) (by_ - ay) <;> simp only [DM.mn, Bool.false_eq_true, if_false, if_true] <;> split <;> omega
    omega

set_option maxRecDepth 100000 in
set_option maxHeartbeats 16000000 in
theorem walk (w : World) (a b p : Nat → Int) :
    Calls Try.prog 5 #[arr 2 a, arr 2 b, arr 2 p] w fun e w' => e = .returned (.bool true) ∧ Below w.heap.size w w' := by
  have O := Held.start w [] (by simp)
  have MA := fun w => may_any a w
  have MB := fun w => may_any b w
  have tok0 : True := trivial
  obtain ⟨x, ex⟩ : ∃ z, p 0 = z := ⟨_, rfl⟩
  have Cx := cell_is (n := 2) ex (by decide)
  obtain ⟨y, ey⟩ : ∃ z, p 1 = z := ⟨_, rfl⟩
  have Cy := cell_is (n := 2) ey (by decide)
  clear ex ey
  go_enter Try.func5, Try.ntmps5
  go_wp2_with (first | ((with_reducible refine at_box 3 ?_); refine wpList_box_h O (M.mat 2 (a)) rfl ?_; clear O; intro g3 w1 O) | ((with_reducible refine at_box 4 ?_); refine wpList_box_h O (M.mat 2 (b)) rfl ?_; clear O; intro g4 w2 O) | ((with_reducible refine at_box 5 ?_); refine wpList_box_h O (M.mat 2 (p)) rfl ?_; clear O; intro g5 w3 O))
  have OO := O
  clear O
  have O := OO
  clear OO
  refine region_T ((fun w2 => Held w w2 [(g5, 39, M.mat 2 p), (g4, 23, M.mat 2 b), (g3, 23, M.mat 2 a)] nilRow [])) [0, 1, 2, 3, 4] 12 [some 12, some 13, some 14, some 15, some 7] [.pointer (some ⟨g5, 0, none⟩), .int .i64 x, .pointer (some ⟨g5, 1, none⟩), .int .i64 y, .int .i64 x] 1 (by kernel_rfl) (by rfl) (by kernel_rfl) (by rfl) (by rfl) (O.drew) (fun F hF => ?_)
  simp only [fillD, Act.put, List.setIfInBounds_toArray, List.set_cons_zero, List.set_cons_succ] at hF
  subst hF
  refine ⟨⟨does_want rfl (by rfl) (fun w' O K hK => ?_), does_want rfl (by rfl) (fun w' O K hK => ?_), does_want rfl (by rfl) (fun w' O K hK => ?_), does_want rfl (by rfl) (fun w' O K hK => ?_), does_want rfl (by rfl) (fun w' O K hK => ?_), trivial⟩, fun w' O => ?_⟩
  · go_simp
    exact hK _ O
  · exact wp_cell_h (v := .int .i64 (x)) O 0 rfl Cx.out rfl agg3 rfl (hK _ O)
  · go_simp
    exact hK _ O
  · exact wp_cell_h (v := .int .i64 (y)) O 0 rfl Cy.out rfl agg3 rfl (hK _ O)
  · go_simp
    exact hK _ O
  refine wpAny_one (i := 5) (by kernel_rfl) rfl (fun K hK => ?_)
  go_simp
  refine hK _ _ ?_
  clear hK K
  try simp only [Act.put, List.setIfInBounds_toArray, List.set_cons_zero, List.set_cons_succ]
  refine wpAny_done (by kernel_rfl) ?_ _
  clear Cx Cy
  cases h1 : DM.may (a 0) (a 1)
  · rw [h1] at MA
    clear h1 MB
    go_wp2_with (first | ((with_reducible refine at_load 16 ?_); refine wpList_rowg_h rfl O 2 rfl rfl Try.underlying23 rfl (sP _) ?_) | (go_at_call 8; clear tok0; have tok1 : True := trivial; refine (MA _).mono ?_; rintro e w4 ⟨rfl, hb⟩; replace O := O.call hb; clear hb) | ((with_reducible refine at_load 20 ?_); refine wpList_rowg_h rfl O 1 rfl rfl Try.underlying23 rfl (sP _) ?_) | (go_at_call 10; refine (awake_any _).mono ?_; rintro e w20 ⟨rfl, hb⟩; replace O := O.call hb; clear hb))
    go_ret
    exact ⟨rfl, O.below⟩
  cases h2 : DM.may (b 0) (b 1)
  · rw [h1] at MA
    rw [h2] at MB
    clear h1 h2
    go_wp2_with (first | ((with_reducible refine at_load 16 ?_); refine wpList_rowg_h rfl O 2 rfl rfl Try.underlying23 rfl (sP _) ?_) | (go_at_call 8; clear tok0; have tok1 : True := trivial; refine (MA _).mono ?_; rintro e w4 ⟨rfl, hb⟩; replace O := O.call hb; clear hb) | ((with_reducible refine at_load 20 ?_); refine wpList_rowg_h rfl O 1 rfl rfl Try.underlying23 rfl (sP _) ?_) | (go_at_call 8; clear tok1; have tok2 : True := trivial; refine (MB _).mono ?_; rintro e w5 ⟨rfl, hb⟩; replace O := O.call hb; clear hb) | (go_at_call 10; refine (awake_any _).mono ?_; rintro e w20 ⟨rfl, hb⟩; replace O := O.call hb; clear hb))
    go_ret
    exact ⟨rfl, O.below⟩
  have ra : DM.Rg a := DM.may_iff.1 h1
  have rb : DM.Rg b := DM.may_iff.1 h2
  rw [h1] at MA
  rw [h2] at MB
  clear h1 h2
  cases k0 : decide (x < -4194304)
  · cases k1 : decide (4194304 ≤ x)
    · cases k2 : decide (y < -4194304)
      · cases k3 : decide (4194304 ≤ y)
        · have px : (-4194304 ≤ x ∧ x < 4194304) ∧ (-4194304 ≤ y ∧ y < 4194304) := by
            have := of_decide_eq_false k0
            have := of_decide_eq_false k1
            have := of_decide_eq_false k2
            have := of_decide_eq_false k3
            omega
          have hr : RC.right (RC.mk x y (x + 1) (y + 1)) = true := RC.right_iff.2 (by
            show ((-4194304 ≤ x ∧ x ≤ 4194304) ∧ (-4194304 ≤ y ∧ y ≤ 4194304) ∧ (-4194304 ≤ x + 1 ∧ x + 1 ≤ 4194304) ∧ (-4194304 ≤ y + 1 ∧ y + 1 ≤ 4194304)) ∧ x < x + 1 ∧ y < y + 1
            omega)
          have CP := fun w => within_any a b (RC.mk x y (x + 1) (y + 1)) ra rb (fun _ => by
            show x + 1 - x ≤ 1000 ∧ y + 1 - y ≤ 1000
            omega) w
          rw [hr, if_pos rfl] at CP
          have CE := fun w => rexits_any a b x y ra rb (by unfold DM.Rx; omega) w
          have one := @DM.wth_one (a 0) (a 1) (b 0) (b 1) x y
          have an := @DM.at14_num (a 0) (a 1) (b 0) (b 1) x y ra rb
          have CA := fun k h1 h2 w => pat_any a b k ra rb h1 h2 w
          have W1 : wrap64 (x + 1) = x + 1 := IntWalk.wrap64_in _ (by omega)
          have W2 : wrap64 (y + 1) = y + 1 := IntWalk.wrap64_in _ (by omega)
          unfold RetT at CP
          unfold RetS at CA
          clear ra rb hr px
          generalize DM.wth (a 0) (a 1) (b 0) (b 1) (RC.mk x y (x + 1) (y + 1)) = l at *
          generalize DM.exits (DM.rel (a 0) x) (DM.rel (a 1) y) (DM.rel (b 0) x) (DM.rel (b 1) y) = z at *
          generalize DM.at14 (a 0) (a 1) (b 0) (b 1) = AT at *
          generalize DM.num (a 0) (a 1) (b 0) (b 1) x y = n at *
          cases z
          · obtain rfl := one.1 rfl
            clear one an CA
            go_wp2_with (first | ((with_reducible refine at_load 16 ?_); refine wpList_rowg_h rfl O 2 rfl rfl Try.underlying23 rfl (sP _) ?_) | (go_at_call 8; clear tok0; have tok1 : True := trivial; refine (MA _).mono ?_; rintro e w4 ⟨rfl, hb⟩; replace O := O.call hb; clear hb) | ((with_reducible refine at_load 20 ?_); refine wpList_rowg_h rfl O 1 rfl rfl Try.underlying23 rfl (sP _) ?_) | (go_at_call 8; clear tok1; have tok2 : True := trivial; refine (MB _).mono ?_; rintro e w5 ⟨rfl, hb⟩; replace O := O.call hb; clear hb) | ((with_reducible refine at_load 41 ?_); refine wpList_rowg_h rfl O 2 rfl rfl Try.underlying23 rfl (sP _) ?_) | ((with_reducible refine at_load 42 ?_); refine wpList_rowg_h rfl O 1 rfl rfl Try.underlying23 rfl (sP _) ?_) | ((with_reducible refine at_build 49 ?_); refine wpList_build_g rfl ([(0, .int .i64 x), (1, .int .i64 y), (2, .int .i64 (x + 1)), (3, .int .i64 (y + 1))]) ((M.mat 4 (RC.mk x y (x + 1) (y + 1))).toArray) ?_ (builtR _ _ _ _) ?_; (focus (simp only [List.map_toArray, List.map_cons, List.map_nil]; rfl))) | (go_at_call 12; refine (CP _).mono ?_; rintro e w6 ⟨VA, vc, rfl, hV, hb⟩; have O2 := O.gain hb hV; clear O hb hV; have O := O2; clear O2) | ((with_reducible refine at_load 51 ?_); refine wpList_rowg_h rfl O 2 rfl rfl Try.underlying23 rfl (sP _) ?_) | ((with_reducible refine at_load 52 ?_); refine wpList_rowg_h rfl O 1 rfl rfl Try.underlying23 rfl (sP _) ?_) | (go_at_call 18; refine (CE _).mono ?_; rintro e w7 ⟨rfl, hb⟩; replace O := O.call hb; clear hb) | (go_at_call 10; refine (awake_any _).mono ?_; rintro e w20 ⟨rfl, hb⟩; replace O := O.call hb; clear hb))
            go_ret
            exact ⟨rfl, O.below⟩
          · obtain rfl := one.2 rfl
            obtain ⟨an1, an2, an3⟩ := an rfl
            have CB := fun w => CA n (by omega) (by omega) w
            rw [an1] at CB
            simp only at CB
            clear one an CA an1 an2 an3
            go_wp2_with (first | ((with_reducible refine at_load 16 ?_); refine wpList_rowg_h rfl O 2 rfl rfl Try.underlying23 rfl (sP _) ?_) | (go_at_call 8; clear tok0; have tok1 : True := trivial; refine (MA _).mono ?_; rintro e w4 ⟨rfl, hb⟩; replace O := O.call hb; clear hb) | ((with_reducible refine at_load 20 ?_); refine wpList_rowg_h rfl O 1 rfl rfl Try.underlying23 rfl (sP _) ?_) | (go_at_call 8; clear tok1; have tok2 : True := trivial; refine (MB _).mono ?_; rintro e w5 ⟨rfl, hb⟩; replace O := O.call hb; clear hb) | ((with_reducible refine at_load 41 ?_); refine wpList_rowg_h rfl O 2 rfl rfl Try.underlying23 rfl (sP _) ?_) | ((with_reducible refine at_load 42 ?_); refine wpList_rowg_h rfl O 1 rfl rfl Try.underlying23 rfl (sP _) ?_) | ((with_reducible refine at_build 49 ?_); refine wpList_build_g rfl ([(0, .int .i64 x), (1, .int .i64 y), (2, .int .i64 (x + 1)), (3, .int .i64 (y + 1))]) ((M.mat 4 (RC.mk x y (x + 1) (y + 1))).toArray) ?_ (builtR _ _ _ _) ?_; (focus (simp only [List.map_toArray, List.map_cons, List.map_nil]; rfl))) | (go_at_call 12; refine (CP _).mono ?_; rintro e w6 ⟨VA, vc, rfl, hV, hb⟩; have O2 := O.gain hb hV; clear O hb hV; have O := O2; clear O2) | ((with_reducible refine at_load 51 ?_); refine wpList_rowg_h rfl O 2 rfl rfl Try.underlying23 rfl (sP _) ?_) | ((with_reducible refine at_load 52 ?_); refine wpList_rowg_h rfl O 1 rfl rfl Try.underlying23 rfl (sP _) ?_) | (go_at_call 18; refine (CE _).mono ?_; rintro e w7 ⟨rfl, hb⟩; replace O := O.call hb; clear hb) | ((with_reducible refine at_index_ 68 ?_); refine wpList_at_h rfl Try.underlying30 sizeOfT (tE w.heap.size VA vc [(n, x, y)]) (O.mem List.mem_cons_self) rfl 0 rfl rfl (by decide) rfl ?_) | ((with_reducible refine at_load 70 ?_); refine wpList_ecell_h rfl (tE w.heap.size VA vc [(n, x, y)]) (O.mem List.mem_cons_self) 1 (v := .int .i64 x) rfl rfl agg3 rfl ?_) | ((with_reducible refine at_index_ 76 ?_); refine wpList_at_h rfl Try.underlying30 sizeOfT (tE w.heap.size VA vc [(n, x, y)]) (O.mem List.mem_cons_self) rfl 0 rfl rfl (by decide) rfl ?_) | ((with_reducible refine at_load 78 ?_); refine wpList_ecell_h rfl (tE w.heap.size VA vc [(n, x, y)]) (O.mem List.mem_cons_self) 2 (v := .int .i64 y) rfl rfl agg3 rfl ?_))
            have OO : Held w w7 [(g5, 39, M.mat 2 p), (g4, 23, M.mat 2 b), (g3, 23, M.mat 2 a)] nilRow [tE w.heap.size VA vc [(n, x, y)]] := O
            clear O W1 W2 k0 k1 k2 k3
            have O := OO
            clear OO
            have HD : apart [⟨10, 11, 34, M.mat 3 M.zero, M.mat 3 (sF (n, x, y))⟩] := (by decide : [10, 11].Nodup)
            refine region_S (fun st w2 => HB w [(g5, 39, M.mat 2 p), (g4, 23, M.mat 2 b), (g3, 23, M.mat 2 a)] [⟨10, 11, 34, M.mat 3 M.zero, M.mat 3 (sF (n, x, y))⟩] nilRow [tE w.heap.size VA vc [(n, x, y)]] st w2) [10, 11] 12 12 [some 83, some 84, some 85, some 86, some 87, some 88, some 89, some 82, some 90, some 91, some 10, none] (fun g => [arr 2 a, arr 2 b, .slice VA 1 vc, .pointer (some ((adr VA).add (0 * 3))), .pointer (some ((adr VA).add (0 * 3))), .int .i64 n, .tuple #[arr 3 (sF (n, x, y)), .bool true], .tuple #[arr 3 (sF (n, x, y)), .bool true], arr 3 (sF (n, x, y)), .bool true, g 10, g 11]) 1 (by kernel_rfl) (by kernel_rfl) (by rfl) (by rfl) (fun _ => rfl) (by decide) ?_ (HB.start O.drew) (fun F hF => ?_)
            · intro i hi
              simp only [List.mem_cons, List.not_mem_nil, or_false] at hi
              rcases hi with rfl | rfl
              · exact ⟨fun _ => rfl, [0, 1, 2, 3, 4, 5, 6, 7, 8, 9, 11], by kernel_rfl, fun g v => ⟨rfl, rfl, rfl, rfl, rfl, rfl, rfl, rfl, rfl, rfl, rfl, trivial⟩⟩
              · exact ⟨fun _ => rfl, [0, 1, 2, 3, 4, 5, 6, 7, 8, 9, 10], by kernel_rfl, fun g v => ⟨rfl, rfl, rfl, rfl, rfl, rfl, rfl, rfl, rfl, rfl, rfl, trivial⟩⟩
            simp only [fillD, Act.put, List.setIfInBounds_toArray, List.set_cons_zero, List.set_cons_succ] at hF
            have hF2 := funext hF
            clear hF
            subst hF2
            refine ⟨⟨doesN_want (by decide) rfl (fun g => rfl) (fun st w' hS hp K hK => ?_), doesN_want (by decide) rfl (fun g => rfl) (fun st w' hS hp K hK => ?_), doesN_want (by decide) rfl (fun g => rfl) (fun st w' hS hp K hK => ?_), doesN_want (by decide) rfl (fun g => rfl) (fun st w' hS hp K hK => ?_), doesN_want (by decide) rfl (fun g => rfl) (fun st w' hS hp K hK => ?_), doesN_want (by decide) rfl (fun g => rfl) (fun st w' hS hp K hK => ?_), doesN_want (by decide) rfl (fun g => rfl) (fun st w' hS hp K hK => ?_), doesN_want (by decide) rfl (fun g => rfl) (fun st w' hS hp K hK => ?_), doesN_want (by decide) rfl (fun g => rfl) (fun st w' hS hp K hK => ?_), doesN_want (by decide) rfl (fun g => rfl) (fun st w' hS hp K hK => ?_), doesC_want (by decide) rfl (fun g => rfl) (fun st w' hS hn hp K hK => ?_), doesC_want (by decide) rfl (fun g => rfl) (fun st w' hS hn hp K hK => ?_), trivial⟩, fun st w' hS hall => ?_⟩
            · try dsimp only
              exact wp_row_h hS.own 2 rfl rfl Try.underlying23 rfl (sP _) (hK _ hS)
            · try dsimp only
              exact wp_row_h hS.own 1 rfl rfl Try.underlying23 rfl (sP _) (hK _ hS)
            · try dsimp only
              go_simp
              exact hK _ hS
            · try dsimp only
              exact wp_at_h Try.underlying30 sizeOfT (tE w.heap.size VA vc [(n, x, y)]) (hS.own.mem List.mem_cons_self) rfl 0 rfl rfl (by decide) rfl (hK _ hS)
            · try dsimp only
              go_simp
              exact hK _ hS
            · try dsimp only
              exact wp_ecell_h (tE w.heap.size VA vc [(n, x, y)]) (hS.own.mem List.mem_cons_self) (0 * 3) (v := .int .i64 n) rfl rfl agg3 rfl (hK _ hS)
            · try dsimp only
              go_simp
              go_at_call 14
              refine (CB _).mono ?_
              rintro e w2 ⟨rfl, hb⟩
              exact hK _ (hS.call hb)
            · try dsimp only
              go_simp
              exact hK _ hS
            · try dsimp only
              go_simp
              exact hK _ hS
            · try dsimp only
              go_simp
              exact hK _ hS
            · try dsimp only
              exact hS.alloc HD 0 rfl hn zeroT hK
            · try dsimp only
              exact hS.put HD 0 rfl (hp 10 (by decide) (by kernel_rfl)) hn rfl rfl (sT _) (M.mat_len2 _ _ _) (M.mat_one _ _) hK
            try dsimp only
            obtain ⟨g10, e10⟩ := hS.ptr 0 rfl (hall 10 (by decide))
            have O3 : Held w w' [(g10, 34, M.mat 3 (sF (n, x, y))), (g5, 39, M.mat 2 p), (g4, 23, M.mat 2 b), (g3, 23, M.mat 2 a)] nilRow [tE w.heap.size VA vc [(n, x, y)]] := by
              have h3 := hS.2.2
              rw [nows_cons, NbS.now_is e10 true (hall 11 (by decide))] at h3
              exact h3
            clear hS O
            have O := O3
            clear O3
            simp only [seen, e10, Option.getD_some]
            try generalize (st 11).getD undef = x11'
            clear hall e10
            refine wpAny_one (i := 12) (by kernel_rfl) rfl (fun K hK => ?_)
            go_simp
            refine hK _ _ ?_
            clear hK K
            try simp only [Act.put, List.setIfInBounds_toArray, List.set_cons_zero, List.set_cons_succ]
            refine wpAny_done (by kernel_rfl) ?_ _
            clear HD CB
            have OO := O
            clear O
            have O := OO
            clear OO
            go_wp2_with fail
            refine region_T ((fun w2 => Held w w2 [(g10, 34, M.mat 3 (sF (n, x, y))), (g5, 39, M.mat 2 p), (g4, 23, M.mat 2 b), (g3, 23, M.mat 2 a)] nilRow [tE w.heap.size VA vc [(n, x, y)]])) [0, 1, 2, 3, 4, 5, 6, 7, 8, 9, 10] 12 [some 92, some 93, some 94, some 95, some 96, some 97, some 98, some 99, some 100, some 101, some 102] [.bool true, .bool true, .bool true, .bool true, .bool true, arr 3 (sF (n, x, y)), .slice VA 1 vc, .pointer (some ((adr VA).add (0 * 3))), arr 3 (sF (n, x, y)), .bool true, .bool true] 1 (by kernel_rfl) (by rfl) (by kernel_rfl) (by rfl) (by rfl) (O.drew) (fun F hF => ?_)
            simp only [fillD, Act.put, List.setIfInBounds_toArray, List.set_cons_zero, List.set_cons_succ] at hF
            subst hF
            refine ⟨⟨does_want rfl (by rfl) (fun w' O K hK => ?_), does_want rfl (by rfl) (fun w' O K hK => ?_), does_want rfl (by rfl) (fun w' O K hK => ?_), does_want rfl (by rfl) (fun w' O K hK => ?_), does_want rfl (by rfl) (fun w' O K hK => ?_), does_want rfl (by rfl) (fun w' O K hK => ?_), does_want rfl (by rfl) (fun w' O K hK => ?_), does_want rfl (by rfl) (fun w' O K hK => ?_), does_want rfl (by rfl) (fun w' O K hK => ?_), does_want rfl (by rfl) (fun w' O K hK => ?_), does_want rfl (by rfl) (fun w' O K hK => ?_), trivial⟩, fun w' O => ?_⟩
            · go_simp
              go_at_call 10
              refine (awake_any _).mono ?_
              rintro e w2 ⟨rfl, hb⟩
              exact hK _ (O.call hb)
            · go_simp
              exact hK _ O
            · go_simp
              exact hK _ O
            · go_simp
              exact hK _ O
            · go_simp
              exact hK _ O
            · exact wp_row_h O 0 rfl rfl Try.underlying34 rfl (sT _) (hK _ O)
            · go_simp
              exact hK _ O
            · exact wp_at_h Try.underlying30 sizeOfT (tE w.heap.size VA vc [(n, x, y)]) (O.mem List.mem_cons_self) rfl 0 rfl rfl (by decide) rfl (hK _ O)
            · exact wp_elem_h (tE w.heap.size VA vc [(n, x, y)]) (O.mem List.mem_cons_self) (0 * 3) (M.mat 3 (sF (n, x, y))) (tC_at (l := [(n, x, y)]) (i := 0) rfl) (by rw [M.mat_len]; decide) rfl Try.underlying34 rfl (sT _) (hK _ O)
            · refine wp_eqT (sF (n, x, y)) (sF (n, x, y)) rfl rfl ?_
              rw [M.eqB_refl]
              exact hK _ O
            · go_simp
              exact hK _ O
            refine wpAny_one (i := 11) (by kernel_rfl) rfl (fun K hK => ?_)
            go_simp
            refine hK _ _ ?_
            clear hK K
            try simp only [Act.put, List.setIfInBounds_toArray, List.set_cons_zero, List.set_cons_succ]
            refine wpAny_done (by kernel_rfl) ?_ _
            go_wp2_with fail
            go_ret
            exact ⟨rfl, O.below⟩
        · clear ra rb
          go_wp2_with (first | ((with_reducible refine at_load 16 ?_); refine wpList_rowg_h rfl O 2 rfl rfl Try.underlying23 rfl (sP _) ?_) | (go_at_call 8; clear tok0; have tok1 : True := trivial; refine (MA _).mono ?_; rintro e w4 ⟨rfl, hb⟩; replace O := O.call hb; clear hb) | ((with_reducible refine at_load 20 ?_); refine wpList_rowg_h rfl O 1 rfl rfl Try.underlying23 rfl (sP _) ?_) | (go_at_call 8; clear tok1; have tok2 : True := trivial; refine (MB _).mono ?_; rintro e w5 ⟨rfl, hb⟩; replace O := O.call hb; clear hb) | (go_at_call 10; refine (awake_any _).mono ?_; rintro e w20 ⟨rfl, hb⟩; replace O := O.call hb; clear hb))
          go_ret
          exact ⟨rfl, O.below⟩
      · clear ra rb
        go_wp2_with (first | ((with_reducible refine at_load 16 ?_); refine wpList_rowg_h rfl O 2 rfl rfl Try.underlying23 rfl (sP _) ?_) | (go_at_call 8; clear tok0; have tok1 : True := trivial; refine (MA _).mono ?_; rintro e w4 ⟨rfl, hb⟩; replace O := O.call hb; clear hb) | ((with_reducible refine at_load 20 ?_); refine wpList_rowg_h rfl O 1 rfl rfl Try.underlying23 rfl (sP _) ?_) | (go_at_call 8; clear tok1; have tok2 : True := trivial; refine (MB _).mono ?_; rintro e w5 ⟨rfl, hb⟩; replace O := O.call hb; clear hb) | (go_at_call 10; refine (awake_any _).mono ?_; rintro e w20 ⟨rfl, hb⟩; replace O := O.call hb; clear hb))
        go_ret
        exact ⟨rfl, O.below⟩
    · clear ra rb
      go_wp2_with (first | ((with_reducible refine at_load 16 ?_); refine wpList_rowg_h rfl O 2 rfl rfl Try.underlying23 rfl (sP _) ?_) | (go_at_call 8; clear tok0; have tok1 : True := trivial; refine (MA _).mono ?_; rintro e w4 ⟨rfl, hb⟩; replace O := O.call hb; clear hb) | ((with_reducible refine at_load 20 ?_); refine wpList_rowg_h rfl O 1 rfl rfl Try.underlying23 rfl (sP _) ?_) | (go_at_call 8; clear tok1; have tok2 : True := trivial; refine (MB _).mono ?_; rintro e w5 ⟨rfl, hb⟩; replace O := O.call hb; clear hb) | (go_at_call 10; refine (awake_any _).mono ?_; rintro e w20 ⟨rfl, hb⟩; replace O := O.call hb; clear hb))
      go_ret
      exact ⟨rfl, O.below⟩
  · clear ra rb
    go_wp2_with (first | ((with_reducible refine at_load 16 ?_); refine wpList_rowg_h rfl O 2 rfl rfl Try.underlying23 rfl (sP _) ?_) | (go_at_call 8; clear tok0; have tok1 : True := trivial; refine (MA _).mono ?_; rintro e w4 ⟨rfl, hb⟩; replace O := O.call hb; clear hb) | ((with_reducible refine at_load 20 ?_); refine wpList_rowg_h rfl O 1 rfl rfl Try.underlying23 rfl (sP _) ?_) | (go_at_call 8; clear tok1; have tok2 : True := trivial; refine (MB _).mono ?_; rintro e w5 ⟨rfl, hb⟩; replace O := O.call hb; clear hb) | (go_at_call 10; refine (awake_any _).mono ?_; rintro e w20 ⟨rfl, hb⟩; replace O := O.call hb; clear hb))
    go_ret
    exact ⟨rfl, O.below⟩

theorem readable : ∀ t ∈ Try.f5.params.toList, Try.prog.readableRec t = true ∧ t < Try.prog.types.size := by
  intro t ht
  rw [Try.params5] at ht
  simp only [List.mem_cons, List.not_mem_nil, or_false] at ht
  repeat (first | (rcases ht with rfl | ht; exact ⟨by kernel_rfl, of_decide_eq_true (by kernel_rfl)⟩) | (subst ht; exact ⟨by kernel_rfl, of_decide_eq_true (by kernel_rfl)⟩))
set_option maxRecDepth 100000 in
theorem lifted (os : Os) (started : os.Started) (H : Type) (enc : TypeId × Value → H) :
    ReturnsInHanded {} Try.checked os 5 .any (Rows.walkMeetsSpec.pre6 enc Try.prog Try.f5 Rows.walkMeetsRow.domain false) (Rows.walkMeetsSpec.post enc Try.prog Try.f5 false true false false) := by
  refine returnsInHanded_of_change (C := Try.checked) own started (by kernel_rfl) Try.func5
    (ChangeSpec.witness6 (enc := enc) (C := Try.checked) false ⟨#[], #[.agg #[.int .i64 0, .int .i64 0], .agg #[.int .i64 0, .int .i64 0], .agg #[.int .i64 0, .int .i64 0]], []⟩ 8 (by kernel_rfl) (by kernel_rfl) (by kernel_rfl) (by kernel_rfl)) ?_
  intro W base args ds gs before hval0 hW hcnd _
  have hval : ∀ (j : Nat) t v, Try.f5.params[j]? = some t → args[j]? = some v → Value.okWide Try.prog W .any base t v := hval0
  have hW' := hW
  obtain ⟨p, q, hA0, hV, rfl, hfz, hnd⟩ := hW
  have hA : DataW.TrodAll enc Try.prog W 0 (fun _ => true) true Try.f5.params.toList args.toList ds p := hA0
  rw [Try.params5] at hA hval
  have hlt : ∀ x ∈ p ++ q, x.block < W.heap.size := fun x hx => hW'.lt x hx
  obtain ⟨v0, vs0, d0, ds0, p0, q0, hargs, rfl, rfl, h0, rr0⟩ := trodAll_cons hA
  obtain ⟨v1, vs1, d1, ds1, p1, q1, rfl, rfl, rfl, h1, rr1⟩ := trodAll_cons rr0
  obtain ⟨v2, vs2, d2, ds2, p2, q2, rfl, rfl, rfl, h2, rr2⟩ := trodAll_cons rr1
  obtain ⟨rfl, rfl, rfl⟩ := trodAll_nil rr2
  obtain rfl : args = #[v0, v1, v2] := by cases args; simp_all
  obtain ⟨rfl, rfl⟩ := trodVars_none hV
  obtain ⟨a0, rfl⟩ := openPoint (hval 0 23 v0 rfl rfl) h0
  obtain ⟨a1, rfl⟩ := openPoint (hval 1 23 v1 rfl rfl) h1
  obtain ⟨a2, rfl, x2⟩ := openPair (hval 2 39 v2 rfl rfl) h2
  clear hA0 hval0
  refine (walk W a0 a1 a2).mono fun e W' ⟨he, hg⟩ => ?_
  subst he
  exact ⟨_, rfl, post_true (tb := 4) laid readable (by kernel_rfl) Try.underlying4 rfl (fun l hl => by
    match l, hl with
    | [_, _, _], _ => exact ⟨rfl, rfl, rfl⟩) hW' hg⟩

theorem over : Rows.walkMeetsRow.holds Try.pinned (OpenSpec.ofChange Rows.walkMeetsSpec) :=
  OpenClaim.holds_of_wide 5 Try.f5 rfl rfl rfl rfl rfl rfl rfl ⟨rfl, rfl, rfl, rfl, rfl⟩ rfl rfl rfl rfl rfl (by kernel_rfl) Try.func5 (by kernel_rfl)
    (of_decide_eq_true (by kernel_rfl)) (by unfold Func.isWrapper; first | (rw [if_pos (by decide +kernel)]; kernel_rfl) | (rw [if_neg (by decide +kernel)]; exact ⟨rfl, rfl⟩))
    (fun os started H enc _ => lifted os started H enc)

theorem proved : Rows.WalkMeetsSaid :=
  over
#print axioms proved
end Go.Proofs.Ytheolajpjpnfjaa.walkMeets
