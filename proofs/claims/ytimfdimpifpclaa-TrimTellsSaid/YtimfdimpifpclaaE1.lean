/- Contracts: Part twice, less, above, stand. -/
import Derived.Test.YtimfdimpifpclaaL6
import Derived.Test.YtimfdimpifpclaaPd
import Derived.OwnWalk
namespace Go.Proofs.Ytimfdimpifpclaa
open Go.ChangeShapes Go.WideShapes Go.ChangeAt Go.RowKit
set_option linter.unusedVariables false
set_option linter.unusedSimpArgs false

theorem size40 : (Try.prog.info? 40).map (·.size) = some 2 := by kernel_rfl
theorem size45 : (Try.prog.info? 45).map (·.size) = some 2 := by kernel_rfl
theorem zero40 : (Try.prog.info? 40).map (·.zero) = some (some (.agg #[.int .i64 0, .int .i64 0])) := by kernel_rfl
theorem zero45 : (Try.prog.info? 45).map (·.zero) = some (some (.agg #[.int .i64 0, .int .i64 0])) := by kernel_rfl
/-- A part as its two cells. -/
def D.pr (x : D.Cut) : List Value := [.int .i64 x.1, .int .i64 x.2]
theorem pr_one (x : D.Cut) : ∀ v ∈ D.pr x, v.oneCell' = true := two_one rfl rfl
theorem built40 (n d : Int) : Try.prog.built 40 [(0, .int .i64 n), (1, .int .i64 d)] = some (D.pr (n, d)).toArray := by kernel_rfl
theorem built45 (n d : Int) : Try.prog.built 45 [(0, .int .i64 n), (1, .int .i64 d)] = some (D.pr (n, d)).toArray := by kernel_rfl
theorem D.part_in {s a b : Nat → Int} {p q : Int} (hp : D.dist s a = p) (hq : D.dist s b = q) (h : 0 ≤ p) (g : 0 ≤ q) : D.partOf s a b = (0, 0, 0) := by
  unfold D.partOf
  rw [hp, hq, if_pos ⟨h, g⟩]
theorem D.part_out {s a b : Nat → Int} {p q : Int} (hp : D.dist s a = p) (hq : D.dist s b = q) (h : p < 0) (g : q < 0) : D.partOf s a b = (3, 0, 0) := by
  unfold D.partOf
  rw [hp, hq, if_neg (by omega), if_pos ⟨h, g⟩]
theorem D.part_comes {s a b : Nat → Int} {p q : Int} (hp : D.dist s a = p) (hq : D.dist s b = q) (h : p < 0) (g : 0 ≤ q) : D.partOf s a b = (1, 0 - p, q - p) := by
  unfold D.partOf
  rw [hp, hq, if_neg (by omega), if_neg (by omega), if_pos h]
theorem D.part_goes {s a b : Nat → Int} {p q : Int} (hp : D.dist s a = p) (hq : D.dist s b = q) (h : 0 ≤ p) (g : q < 0) : D.partOf s a b = (2, p, p - q) := by
  unfold D.partOf
  rw [hp, hq, if_neg (by omega), if_neg (by omega), if_neg (by omega)]
/-- How a part is handed back. -/
def RetPart (w : World) (r : Int × D.Cut) (e : Ending) (w' : World) : Prop := e = .returned (.tuple #[.int .i64 r.1, .int .i64 r.2.1, .int .i64 r.2.2]) ∧ Below w.heap.size w w'
set_option maxHeartbeats 4000000 in
theorem part_any (s a b : Nat → Int) (hs : D.right s = true) (ha : D.fits a = true) (hb : D.fits b = true) (w : World) : Calls Try.prog 10 #[arr 5 s, arr 8 a, arr 8 b] w (RetPart w (D.partOf s a b)) := by
  have O := Own.start w
  have cp := fun w => dist_any s a hs ha w
  have cq := fun w => dist_any s b hs hb w
  have rp := D.dist_le hs ha
  have rq := D.dist_le hs hb
  obtain ⟨p, ep⟩ : ∃ p, D.dist s a = p := ⟨_, rfl⟩
  obtain ⟨q, eq⟩ : ∃ q, D.dist s b = q := ⟨_, rfl⟩
  rw [ep] at cp rp
  rw [eq] at cq rq
  obtain ⟨rp1, rp2⟩ := rp
  obtain ⟨rq1, rq2⟩ := rq
  rcases (by omega : (0 ≤ p ∧ 0 ≤ q) ∨ (p < 0 ∧ q < 0) ∨ (p < 0 ∧ 0 ≤ q) ∨ (0 ≤ p ∧ q < 0)) with ⟨h1, h2⟩ | ⟨h1, h2⟩ | ⟨h1, h2⟩ | ⟨h1, h2⟩
  · have HE := Lib.hid (D.part_in ep eq h1 h2)
    have k1 : decide (0 ≤ p) = true := by simp; omega
    have k2 : decide (0 ≤ q) = true := by simp; omega
    have k3 : decide (p < 0) = false := by simp; omega
    have k4 : decide (q < 0) = false := by simp; omega
    clear h1 h2 ep eq
    go_enter Try.func10, Try.ntmps10
    go_wp2_with (first | ((with_reducible refine at_box 3 ?_); refine wpList_box_own O (M.mat 5 (s)) rfl ?_; clear O; intro g3 w1 O) | ((with_reducible refine at_box 4 ?_); refine wpList_box_own O (M.mat 8 (a)) rfl ?_; clear O; intro g4 w2 O) | ((with_reducible refine at_box 5 ?_); refine wpList_box_own O (M.mat 8 (b)) rfl ?_; clear O; intro g5 w3 O))
    refine region_T ((fun w2 => Own w w2 [(g5, 27, M.mat 8 b), (g4, 27, M.mat 8 a), (g3, 24, M.mat 5 s)])) [0, 1, 2, 3, 4, 5, 6] 12 [some 11, some 12, some 13, some 14, some 15, some 16, some 9] [arr 5 s, arr 8 a, .int .i64 p, arr 5 s, arr 8 b, .int .i64 q, .int .i64 p] 1 (by kernel_rfl) (by rfl) (by kernel_rfl) (by rfl) (by rfl) (O.drew) (fun F hF => ?_)
    simp only [fillD, Act.put, List.setIfInBounds_toArray, List.set_cons_zero, List.set_cons_succ] at hF
    subst hF
    refine ⟨⟨does_want rfl (by rfl) (fun w' O K hK => ?_), does_want rfl (by rfl) (fun w' O K hK => ?_), does_want rfl (by rfl) (fun w' O K hK => ?_), does_want rfl (by rfl) (fun w' O K hK => ?_), does_want rfl (by rfl) (fun w' O K hK => ?_), does_want rfl (by rfl) (fun w' O K hK => ?_), does_want rfl (by rfl) (fun w' O K hK => ?_), trivial⟩, fun w' O => ?_⟩
    · exact wp_whole O 2 rfl rfl Try.underlying24 rfl (s24 _) (hK _ O)
    · exact wp_whole O 1 rfl rfl Try.underlying27 rfl (s27 _) (hK _ O)
    · go_simp
      go_at_call 17
      refine (cp _).mono ?_
      rintro e w2 ⟨rfl, hb⟩
      exact hK _ (O.call hb)
    · exact wp_whole O 2 rfl rfl Try.underlying24 rfl (s24 _) (hK _ O)
    · exact wp_whole O 0 rfl rfl Try.underlying27 rfl (s27 _) (hK _ O)
    · go_simp
      go_at_call 17
      refine (cq _).mono ?_
      rintro e w2 ⟨rfl, hb⟩
      exact hK _ (O.call hb)
    · go_simp
      exact hK _ O
    refine wpAny_one (i := 7) (by kernel_rfl) rfl (fun K hK => ?_)
    go_simp
    refine hK _ _ ?_
    clear hK K
    try simp only [Act.put, List.setIfInBounds_toArray, List.set_cons_zero, List.set_cons_succ]
    refine wpAny_done (by kernel_rfl) ?_ _
    clear cp cq
    go_wp2_with fail
    go_ret3
    exact ⟨by rw [HE.out]; rfl, O.below⟩
  · have HE := Lib.hid (D.part_out ep eq h1 h2)
    have k1 : decide (0 ≤ p) = false := by simp; omega
    have k2 : decide (0 ≤ q) = false := by simp; omega
    have k3 : decide (p < 0) = true := by simp; omega
    have k4 : decide (q < 0) = true := by simp; omega
    clear h1 h2 ep eq
    go_enter Try.func10, Try.ntmps10
    go_wp2_with (first | ((with_reducible refine at_box 3 ?_); refine wpList_box_own O (M.mat 5 (s)) rfl ?_; clear O; intro g3 w1 O) | ((with_reducible refine at_box 4 ?_); refine wpList_box_own O (M.mat 8 (a)) rfl ?_; clear O; intro g4 w2 O) | ((with_reducible refine at_box 5 ?_); refine wpList_box_own O (M.mat 8 (b)) rfl ?_; clear O; intro g5 w3 O))
    refine region_T ((fun w2 => Own w w2 [(g5, 27, M.mat 8 b), (g4, 27, M.mat 8 a), (g3, 24, M.mat 5 s)])) [0, 1, 2, 3, 4, 5, 6] 12 [some 11, some 12, some 13, some 14, some 15, some 16, some 9] [arr 5 s, arr 8 a, .int .i64 p, arr 5 s, arr 8 b, .int .i64 q, .int .i64 p] 1 (by kernel_rfl) (by rfl) (by kernel_rfl) (by rfl) (by rfl) (O.drew) (fun F hF => ?_)
    simp only [fillD, Act.put, List.setIfInBounds_toArray, List.set_cons_zero, List.set_cons_succ] at hF
    subst hF
    refine ⟨⟨does_want rfl (by rfl) (fun w' O K hK => ?_), does_want rfl (by rfl) (fun w' O K hK => ?_), does_want rfl (by rfl) (fun w' O K hK => ?_), does_want rfl (by rfl) (fun w' O K hK => ?_), does_want rfl (by rfl) (fun w' O K hK => ?_), does_want rfl (by rfl) (fun w' O K hK => ?_), does_want rfl (by rfl) (fun w' O K hK => ?_), trivial⟩, fun w' O => ?_⟩
    · exact wp_whole O 2 rfl rfl Try.underlying24 rfl (s24 _) (hK _ O)
    · exact wp_whole O 1 rfl rfl Try.underlying27 rfl (s27 _) (hK _ O)
    · go_simp
      go_at_call 17
      refine (cp _).mono ?_
      rintro e w2 ⟨rfl, hb⟩
      exact hK _ (O.call hb)
    · exact wp_whole O 2 rfl rfl Try.underlying24 rfl (s24 _) (hK _ O)
    · exact wp_whole O 0 rfl rfl Try.underlying27 rfl (s27 _) (hK _ O)
    · go_simp
      go_at_call 17
      refine (cq _).mono ?_
      rintro e w2 ⟨rfl, hb⟩
      exact hK _ (O.call hb)
    · go_simp
      exact hK _ O
    refine wpAny_one (i := 7) (by kernel_rfl) rfl (fun K hK => ?_)
    go_simp
    refine hK _ _ ?_
    clear hK K
    try simp only [Act.put, List.setIfInBounds_toArray, List.set_cons_zero, List.set_cons_succ]
    refine wpAny_done (by kernel_rfl) ?_ _
    clear cp cq
    go_wp2_with fail
    go_ret3
    exact ⟨by rw [HE.out]; rfl, O.below⟩
  · have HE : Hid (D.partOf s a b = (1, -p, q - p)) := Lib.hid (by rw [D.part_comes ep eq h1 h2, Int.zero_sub])
    have k1 : decide (0 ≤ p) = false := by simp; omega
    have k2 : decide (0 ≤ q) = true := by simp; omega
    have k3 : decide (p < 0) = true := by simp; omega
    have k4 : decide (q < 0) = false := by simp; omega
    clear h1 h2 ep eq
    go_enter Try.func10, Try.ntmps10
    go_wp2_with (first | ((with_reducible refine at_box 3 ?_); refine wpList_box_own O (M.mat 5 (s)) rfl ?_; clear O; intro g3 w1 O) | ((with_reducible refine at_box 4 ?_); refine wpList_box_own O (M.mat 8 (a)) rfl ?_; clear O; intro g4 w2 O) | ((with_reducible refine at_box 5 ?_); refine wpList_box_own O (M.mat 8 (b)) rfl ?_; clear O; intro g5 w3 O))
    refine region_T ((fun w2 => Own w w2 [(g5, 27, M.mat 8 b), (g4, 27, M.mat 8 a), (g3, 24, M.mat 5 s)])) [0, 1, 2, 3, 4, 5, 6] 12 [some 11, some 12, some 13, some 14, some 15, some 16, some 9] [arr 5 s, arr 8 a, .int .i64 p, arr 5 s, arr 8 b, .int .i64 q, .int .i64 p] 1 (by kernel_rfl) (by rfl) (by kernel_rfl) (by rfl) (by rfl) (O.drew) (fun F hF => ?_)
    simp only [fillD, Act.put, List.setIfInBounds_toArray, List.set_cons_zero, List.set_cons_succ] at hF
    subst hF
    refine ⟨⟨does_want rfl (by rfl) (fun w' O K hK => ?_), does_want rfl (by rfl) (fun w' O K hK => ?_), does_want rfl (by rfl) (fun w' O K hK => ?_), does_want rfl (by rfl) (fun w' O K hK => ?_), does_want rfl (by rfl) (fun w' O K hK => ?_), does_want rfl (by rfl) (fun w' O K hK => ?_), does_want rfl (by rfl) (fun w' O K hK => ?_), trivial⟩, fun w' O => ?_⟩
    · exact wp_whole O 2 rfl rfl Try.underlying24 rfl (s24 _) (hK _ O)
    · exact wp_whole O 1 rfl rfl Try.underlying27 rfl (s27 _) (hK _ O)
    · go_simp
      go_at_call 17
      refine (cp _).mono ?_
      rintro e w2 ⟨rfl, hb⟩
      exact hK _ (O.call hb)
    · exact wp_whole O 2 rfl rfl Try.underlying24 rfl (s24 _) (hK _ O)
    · exact wp_whole O 0 rfl rfl Try.underlying27 rfl (s27 _) (hK _ O)
    · go_simp
      go_at_call 17
      refine (cq _).mono ?_
      rintro e w2 ⟨rfl, hb⟩
      exact hK _ (O.call hb)
    · go_simp
      exact hK _ O
    refine wpAny_one (i := 7) (by kernel_rfl) rfl (fun K hK => ?_)
    go_simp
    refine hK _ _ ?_
    clear hK K
    try simp only [Act.put, List.setIfInBounds_toArray, List.set_cons_zero, List.set_cons_succ]
    refine wpAny_done (by kernel_rfl) ?_ _
    clear cp cq
    have w1 : wrap64 (-p) = -p := IntWalk.wrap64_in _ (by omega)
    have w2 : wrap64 (q - p) = q - p := IntWalk.wrap64_in _ (by omega)
    go_wp2_with fail
    go_ret3
    exact ⟨by rw [HE.out]; rfl, O.below⟩
  · have HE := Lib.hid (D.part_goes ep eq h1 h2)
    have k1 : decide (0 ≤ p) = true := by simp; omega
    have k2 : decide (0 ≤ q) = false := by simp; omega
    have k3 : decide (p < 0) = false := by simp; omega
    have k4 : decide (q < 0) = true := by simp; omega
    clear h1 h2 ep eq
    go_enter Try.func10, Try.ntmps10
    go_wp2_with (first | ((with_reducible refine at_box 3 ?_); refine wpList_box_own O (M.mat 5 (s)) rfl ?_; clear O; intro g3 w1 O) | ((with_reducible refine at_box 4 ?_); refine wpList_box_own O (M.mat 8 (a)) rfl ?_; clear O; intro g4 w2 O) | ((with_reducible refine at_box 5 ?_); refine wpList_box_own O (M.mat 8 (b)) rfl ?_; clear O; intro g5 w3 O))
    refine region_T ((fun w2 => Own w w2 [(g5, 27, M.mat 8 b), (g4, 27, M.mat 8 a), (g3, 24, M.mat 5 s)])) [0, 1, 2, 3, 4, 5, 6] 12 [some 11, some 12, some 13, some 14, some 15, some 16, some 9] [arr 5 s, arr 8 a, .int .i64 p, arr 5 s, arr 8 b, .int .i64 q, .int .i64 p] 1 (by kernel_rfl) (by rfl) (by kernel_rfl) (by rfl) (by rfl) (O.drew) (fun F hF => ?_)
    simp only [fillD, Act.put, List.setIfInBounds_toArray, List.set_cons_zero, List.set_cons_succ] at hF
    subst hF
    refine ⟨⟨does_want rfl (by rfl) (fun w' O K hK => ?_), does_want rfl (by rfl) (fun w' O K hK => ?_), does_want rfl (by rfl) (fun w' O K hK => ?_), does_want rfl (by rfl) (fun w' O K hK => ?_), does_want rfl (by rfl) (fun w' O K hK => ?_), does_want rfl (by rfl) (fun w' O K hK => ?_), does_want rfl (by rfl) (fun w' O K hK => ?_), trivial⟩, fun w' O => ?_⟩
    · exact wp_whole O 2 rfl rfl Try.underlying24 rfl (s24 _) (hK _ O)
    · exact wp_whole O 1 rfl rfl Try.underlying27 rfl (s27 _) (hK _ O)
    · go_simp
      go_at_call 17
      refine (cp _).mono ?_
      rintro e w2 ⟨rfl, hb⟩
      exact hK _ (O.call hb)
    · exact wp_whole O 2 rfl rfl Try.underlying24 rfl (s24 _) (hK _ O)
    · exact wp_whole O 0 rfl rfl Try.underlying27 rfl (s27 _) (hK _ O)
    · go_simp
      go_at_call 17
      refine (cq _).mono ?_
      rintro e w2 ⟨rfl, hb⟩
      exact hK _ (O.call hb)
    · go_simp
      exact hK _ O
    refine wpAny_one (i := 7) (by kernel_rfl) rfl (fun K hK => ?_)
    go_simp
    refine hK _ _ ?_
    clear hK K
    try simp only [Act.put, List.setIfInBounds_toArray, List.set_cons_zero, List.set_cons_succ]
    refine wpAny_done (by kernel_rfl) ?_ _
    clear cp cq
    have w2 : wrap64 (p - q) = p - q := IntWalk.wrap64_in _ (by omega)
    go_wp2_with fail
    go_ret3
    exact ⟨by rw [HE.out]; rfl, O.below⟩
set_option maxHeartbeats 4000000 in
theorem rpart_any (s a b : Nat → Int) (hs : D.right s = true) (ha : D.fits a = true) (hb : D.fits b = true) (w : World) : Calls Try.prog 11 #[arr 5 s, arr 8 a, arr 8 b] w (RetPart w (D.partOf s a b)) := by
  have O := Own.start w
  have cp := fun w => rdist_any s a hs ha w
  have cq := fun w => rdist_any s b hs hb w
  have rp := D.dist_le hs ha
  have rq := D.dist_le hs hb
  obtain ⟨p, ep⟩ : ∃ p, D.dist s a = p := ⟨_, rfl⟩
  obtain ⟨q, eq⟩ : ∃ q, D.dist s b = q := ⟨_, rfl⟩
  rw [ep] at cp rp
  rw [eq] at cq rq
  obtain ⟨rp1, rp2⟩ := rp
  obtain ⟨rq1, rq2⟩ := rq
  rcases (by omega : (0 ≤ p ∧ 0 ≤ q) ∨ (p < 0 ∧ q < 0) ∨ (p < 0 ∧ 0 ≤ q) ∨ (0 ≤ p ∧ q < 0)) with ⟨h1, h2⟩ | ⟨h1, h2⟩ | ⟨h1, h2⟩ | ⟨h1, h2⟩
  · have HE := Lib.hid (D.part_in ep eq h1 h2)
    have k1 : decide (0 ≤ p) = true := by simp; omega
    have k2 : decide (0 ≤ q) = true := by simp; omega
    have k3 : decide (p < 0) = false := by simp; omega
    have k4 : decide (q < 0) = false := by simp; omega
    clear h1 h2 ep eq
    go_enter Try.func11, Try.ntmps11
    go_wp2_with (first | ((with_reducible refine at_box 3 ?_); refine wpList_box_own O (M.mat 5 (s)) rfl ?_; clear O; intro g3 w1 O) | ((with_reducible refine at_box 4 ?_); refine wpList_box_own O (M.mat 8 (a)) rfl ?_; clear O; intro g4 w2 O) | ((with_reducible refine at_box 5 ?_); refine wpList_box_own O (M.mat 8 (b)) rfl ?_; clear O; intro g5 w3 O))
    refine region_T ((fun w2 => Own w w2 [(g5, 27, M.mat 8 b), (g4, 27, M.mat 8 a), (g3, 24, M.mat 5 s)])) [0, 1, 2, 3, 4, 5, 6] 12 [some 11, some 12, some 13, some 14, some 15, some 16, some 9] [arr 5 s, arr 8 a, .int .i64 p, arr 5 s, arr 8 b, .int .i64 q, .int .i64 p] 1 (by kernel_rfl) (by rfl) (by kernel_rfl) (by rfl) (by rfl) (O.drew) (fun F hF => ?_)
    simp only [fillD, Act.put, List.setIfInBounds_toArray, List.set_cons_zero, List.set_cons_succ] at hF
    subst hF
    refine ⟨⟨does_want rfl (by rfl) (fun w' O K hK => ?_), does_want rfl (by rfl) (fun w' O K hK => ?_), does_want rfl (by rfl) (fun w' O K hK => ?_), does_want rfl (by rfl) (fun w' O K hK => ?_), does_want rfl (by rfl) (fun w' O K hK => ?_), does_want rfl (by rfl) (fun w' O K hK => ?_), does_want rfl (by rfl) (fun w' O K hK => ?_), trivial⟩, fun w' O => ?_⟩
    · exact wp_whole O 2 rfl rfl Try.underlying24 rfl (s24 _) (hK _ O)
    · exact wp_whole O 1 rfl rfl Try.underlying27 rfl (s27 _) (hK _ O)
    · go_simp
      go_at_call 14
      refine (cp _).mono ?_
      rintro e w2 ⟨rfl, hb⟩
      exact hK _ (O.call hb)
    · exact wp_whole O 2 rfl rfl Try.underlying24 rfl (s24 _) (hK _ O)
    · exact wp_whole O 0 rfl rfl Try.underlying27 rfl (s27 _) (hK _ O)
    · go_simp
      go_at_call 14
      refine (cq _).mono ?_
      rintro e w2 ⟨rfl, hb⟩
      exact hK _ (O.call hb)
    · go_simp
      exact hK _ O
    refine wpAny_one (i := 7) (by kernel_rfl) rfl (fun K hK => ?_)
    go_simp
    refine hK _ _ ?_
    clear hK K
    try simp only [Act.put, List.setIfInBounds_toArray, List.set_cons_zero, List.set_cons_succ]
    refine wpAny_done (by kernel_rfl) ?_ _
    clear cp cq
    go_wp2_with fail
    go_ret3
    exact ⟨by rw [HE.out]; rfl, O.below⟩
  · have HE := Lib.hid (D.part_out ep eq h1 h2)
    have k1 : decide (0 ≤ p) = false := by simp; omega
    have k2 : decide (0 ≤ q) = false := by simp; omega
    have k3 : decide (p < 0) = true := by simp; omega
    have k4 : decide (q < 0) = true := by simp; omega
    clear h1 h2 ep eq
    go_enter Try.func11, Try.ntmps11
    go_wp2_with (first | ((with_reducible refine at_box 3 ?_); refine wpList_box_own O (M.mat 5 (s)) rfl ?_; clear O; intro g3 w1 O) | ((with_reducible refine at_box 4 ?_); refine wpList_box_own O (M.mat 8 (a)) rfl ?_; clear O; intro g4 w2 O) | ((with_reducible refine at_box 5 ?_); refine wpList_box_own O (M.mat 8 (b)) rfl ?_; clear O; intro g5 w3 O))
    refine region_T ((fun w2 => Own w w2 [(g5, 27, M.mat 8 b), (g4, 27, M.mat 8 a), (g3, 24, M.mat 5 s)])) [0, 1, 2, 3, 4, 5, 6] 12 [some 11, some 12, some 13, some 14, some 15, some 16, some 9] [arr 5 s, arr 8 a, .int .i64 p, arr 5 s, arr 8 b, .int .i64 q, .int .i64 p] 1 (by kernel_rfl) (by rfl) (by kernel_rfl) (by rfl) (by rfl) (O.drew) (fun F hF => ?_)
    simp only [fillD, Act.put, List.setIfInBounds_toArray, List.set_cons_zero, List.set_cons_succ] at hF
    subst hF
    refine ⟨⟨does_want rfl (by rfl) (fun w' O K hK => ?_), does_want rfl (by rfl) (fun w' O K hK => ?_), does_want rfl (by rfl) (fun w' O K hK => ?_), does_want rfl (by rfl) (fun w' O K hK => ?_), does_want rfl (by rfl) (fun w' O K hK => ?_), does_want rfl (by rfl) (fun w' O K hK => ?_), does_want rfl (by rfl) (fun w' O K hK => ?_), trivial⟩, fun w' O => ?_⟩
    · exact wp_whole O 2 rfl rfl Try.underlying24 rfl (s24 _) (hK _ O)
    · exact wp_whole O 1 rfl rfl Try.underlying27 rfl (s27 _) (hK _ O)
    · go_simp
      go_at_call 14
      refine (cp _).mono ?_
      rintro e w2 ⟨rfl, hb⟩
      exact hK _ (O.call hb)
    · exact wp_whole O 2 rfl rfl Try.underlying24 rfl (s24 _) (hK _ O)
    · exact wp_whole O 0 rfl rfl Try.underlying27 rfl (s27 _) (hK _ O)
    · go_simp
      go_at_call 14
      refine (cq _).mono ?_
      rintro e w2 ⟨rfl, hb⟩
      exact hK _ (O.call hb)
    · go_simp
      exact hK _ O
    refine wpAny_one (i := 7) (by kernel_rfl) rfl (fun K hK => ?_)
    go_simp
    refine hK _ _ ?_
    clear hK K
    try simp only [Act.put, List.setIfInBounds_toArray, List.set_cons_zero, List.set_cons_succ]
    refine wpAny_done (by kernel_rfl) ?_ _
    clear cp cq
    go_wp2_with fail
    go_ret3
    exact ⟨by rw [HE.out]; rfl, O.below⟩
  · have HE : Hid (D.partOf s a b = (1, -p, q - p)) := Lib.hid (by rw [D.part_comes ep eq h1 h2, Int.zero_sub])
    have k1 : decide (0 ≤ p) = false := by simp; omega
    have k2 : decide (0 ≤ q) = true := by simp; omega
    have k3 : decide (p < 0) = true := by simp; omega
    have k4 : decide (q < 0) = false := by simp; omega
    clear h1 h2 ep eq
    go_enter Try.func11, Try.ntmps11
    go_wp2_with (first | ((with_reducible refine at_box 3 ?_); refine wpList_box_own O (M.mat 5 (s)) rfl ?_; clear O; intro g3 w1 O) | ((with_reducible refine at_box 4 ?_); refine wpList_box_own O (M.mat 8 (a)) rfl ?_; clear O; intro g4 w2 O) | ((with_reducible refine at_box 5 ?_); refine wpList_box_own O (M.mat 8 (b)) rfl ?_; clear O; intro g5 w3 O))
    refine region_T ((fun w2 => Own w w2 [(g5, 27, M.mat 8 b), (g4, 27, M.mat 8 a), (g3, 24, M.mat 5 s)])) [0, 1, 2, 3, 4, 5, 6] 12 [some 11, some 12, some 13, some 14, some 15, some 16, some 9] [arr 5 s, arr 8 a, .int .i64 p, arr 5 s, arr 8 b, .int .i64 q, .int .i64 p] 1 (by kernel_rfl) (by rfl) (by kernel_rfl) (by rfl) (by rfl) (O.drew) (fun F hF => ?_)
    simp only [fillD, Act.put, List.setIfInBounds_toArray, List.set_cons_zero, List.set_cons_succ] at hF
    subst hF
    refine ⟨⟨does_want rfl (by rfl) (fun w' O K hK => ?_), does_want rfl (by rfl) (fun w' O K hK => ?_), does_want rfl (by rfl) (fun w' O K hK => ?_), does_want rfl (by rfl) (fun w' O K hK => ?_), does_want rfl (by rfl) (fun w' O K hK => ?_), does_want rfl (by rfl) (fun w' O K hK => ?_), does_want rfl (by rfl) (fun w' O K hK => ?_), trivial⟩, fun w' O => ?_⟩
    · exact wp_whole O 2 rfl rfl Try.underlying24 rfl (s24 _) (hK _ O)
    · exact wp_whole O 1 rfl rfl Try.underlying27 rfl (s27 _) (hK _ O)
    · go_simp
      go_at_call 14
      refine (cp _).mono ?_
      rintro e w2 ⟨rfl, hb⟩
      exact hK _ (O.call hb)
    · exact wp_whole O 2 rfl rfl Try.underlying24 rfl (s24 _) (hK _ O)
    · exact wp_whole O 0 rfl rfl Try.underlying27 rfl (s27 _) (hK _ O)
    · go_simp
      go_at_call 14
      refine (cq _).mono ?_
      rintro e w2 ⟨rfl, hb⟩
      exact hK _ (O.call hb)
    · go_simp
      exact hK _ O
    refine wpAny_one (i := 7) (by kernel_rfl) rfl (fun K hK => ?_)
    go_simp
    refine hK _ _ ?_
    clear hK K
    try simp only [Act.put, List.setIfInBounds_toArray, List.set_cons_zero, List.set_cons_succ]
    refine wpAny_done (by kernel_rfl) ?_ _
    clear cp cq
    have w1 : wrap64 (0 - p) = 0 - p := IntWalk.wrap64_in _ (by omega)
    have w2 : wrap64 (q - p) = q - p := IntWalk.wrap64_in _ (by omega)
    go_wp2_with fail
    go_ret3
    exact ⟨by rw [HE.out]; rfl, O.below⟩
  · have HE := Lib.hid (D.part_goes ep eq h1 h2)
    have k1 : decide (0 ≤ p) = true := by simp; omega
    have k2 : decide (0 ≤ q) = false := by simp; omega
    have k3 : decide (p < 0) = false := by simp; omega
    have k4 : decide (q < 0) = true := by simp; omega
    clear h1 h2 ep eq
    go_enter Try.func11, Try.ntmps11
    go_wp2_with (first | ((with_reducible refine at_box 3 ?_); refine wpList_box_own O (M.mat 5 (s)) rfl ?_; clear O; intro g3 w1 O) | ((with_reducible refine at_box 4 ?_); refine wpList_box_own O (M.mat 8 (a)) rfl ?_; clear O; intro g4 w2 O) | ((with_reducible refine at_box 5 ?_); refine wpList_box_own O (M.mat 8 (b)) rfl ?_; clear O; intro g5 w3 O))
    refine region_T ((fun w2 => Own w w2 [(g5, 27, M.mat 8 b), (g4, 27, M.mat 8 a), (g3, 24, M.mat 5 s)])) [0, 1, 2, 3, 4, 5, 6] 12 [some 11, some 12, some 13, some 14, some 15, some 16, some 9] [arr 5 s, arr 8 a, .int .i64 p, arr 5 s, arr 8 b, .int .i64 q, .int .i64 p] 1 (by kernel_rfl) (by rfl) (by kernel_rfl) (by rfl) (by rfl) (O.drew) (fun F hF => ?_)
    simp only [fillD, Act.put, List.setIfInBounds_toArray, List.set_cons_zero, List.set_cons_succ] at hF
    subst hF
    refine ⟨⟨does_want rfl (by rfl) (fun w' O K hK => ?_), does_want rfl (by rfl) (fun w' O K hK => ?_), does_want rfl (by rfl) (fun w' O K hK => ?_), does_want rfl (by rfl) (fun w' O K hK => ?_), does_want rfl (by rfl) (fun w' O K hK => ?_), does_want rfl (by rfl) (fun w' O K hK => ?_), does_want rfl (by rfl) (fun w' O K hK => ?_), trivial⟩, fun w' O => ?_⟩
    · exact wp_whole O 2 rfl rfl Try.underlying24 rfl (s24 _) (hK _ O)
    · exact wp_whole O 1 rfl rfl Try.underlying27 rfl (s27 _) (hK _ O)
    · go_simp
      go_at_call 14
      refine (cp _).mono ?_
      rintro e w2 ⟨rfl, hb⟩
      exact hK _ (O.call hb)
    · exact wp_whole O 2 rfl rfl Try.underlying24 rfl (s24 _) (hK _ O)
    · exact wp_whole O 0 rfl rfl Try.underlying27 rfl (s27 _) (hK _ O)
    · go_simp
      go_at_call 14
      refine (cq _).mono ?_
      rintro e w2 ⟨rfl, hb⟩
      exact hK _ (O.call hb)
    · go_simp
      exact hK _ O
    refine wpAny_one (i := 7) (by kernel_rfl) rfl (fun K hK => ?_)
    go_simp
    refine hK _ _ ?_
    clear hK K
    try simp only [Act.put, List.setIfInBounds_toArray, List.set_cons_zero, List.set_cons_succ]
    refine wpAny_done (by kernel_rfl) ?_ _
    clear cp cq
    have w2 : wrap64 (p - q) = p - q := IntWalk.wrap64_in _ (by omega)
    go_wp2_with fail
    go_ret3
    exact ⟨by rw [HE.out]; rfl, O.below⟩
theorem sgn_lt0 (x y : Int) : decide (M.sgn x y < 0) = decide (x < y) := by
  rcases Int.lt_trichotomy x y with h | h | h
  · rw [← M.sgn_lt h]; simp [h]
  · rw [← M.sgn_eq (by omega) (by omega)]; simp; omega
  · rw [← M.sgn_gt h]; simp; omega
theorem sgn_gt0 (x y : Int) : decide (0 < M.sgn x y) = decide (y < x) := by
  rcases Int.lt_trichotomy x y with h | h | h
  · rw [← M.sgn_lt h]; simp; omega
  · rw [← M.sgn_eq (by omega) (by omega)]; simp; omega
  · rw [← M.sgn_gt h]; simp [h]
theorem D.Cut.low_mul {x y : D.Cut} (hx : x.low) (hy : y.low) : M.ok (x.1 * y.2) = true := by
  obtain ⟨h1, h2, h3, h4⟩ := hx
  obtain ⟨g1, g2, g3, g4⟩ := hy
  have e := M.mul_hi (A := 9007199254740992) (B := 18014398509481984) (show -9007199254740992 ≤ x.1 by omega) h2 (show -18014398509481984 ≤ y.2 by omega) g4
  rw [M.ok_iff]
  omega
set_option maxHeartbeats 4000000 in
theorem pless_any (p q : D.Cut) (hp : p.low) (hq : q.low) (w : World) : Calls Try.prog 18 #[.agg (D.pr p).toArray, .agg (D.pr q).toArray] w fun e w' => e = .returned (.bool (D.above q p)) ∧ Below w.heap.size w w' := by
  have O := Own.start w
  have o1 := D.Cut.low_mul hp hq
  have o2 := D.Cut.low_mul hq hp
  obtain ⟨a, b⟩ := p
  obtain ⟨c, d⟩ := q
  obtain ⟨p1, p2, p3, p4⟩ := hp
  obtain ⟨q1, q2, q3, q4⟩ := hq
  dsimp only at o1 o2 p1 p2 p3 p4 q1 q2 q3 q4
  have c1 := fun w => mul_any a d (by omega) (by omega) (by omega) (by omega) w
  have c2 := fun w => mul_any c b (by omega) (by omega) (by omega) (by omega) w
  have c3 := fun w => cmp_any _ _ _ _ (M.b_of (a * d)) (M.b_of (c * b)) w
  rw [M.val_of o1, M.val_of o2] at c3
  have HZ := Lib.hid (sgn_lt0 (a * d) (c * b))
  have HE : D.above (c, d) (a, b) = decide (a * d < c * b) := rfl
  have HE := Lib.hid HE
  clear o1 o2 p1 p2 p3 p4 q1 q2 q3 q4
  generalize M.sgn (a * d) (c * b) = z at *
  generalize M.oh (a * d) = h1 at *
  generalize M.ol (a * d) = l1 at *
  generalize M.oh (c * b) = h2 at *
  generalize M.ol (c * b) = l2 at *
  go_enter Try.func18, Try.ntmps18
  go_wp2_with (first | ((with_reducible refine at_box 2 ?_); refine wpList_box_own O (D.pr (a, b)) rfl ?_; clear O; intro g2 w1 O) | ((with_reducible refine at_box 3 ?_); refine wpList_box_own O (D.pr (c, d)) rfl ?_; clear O; intro g3 w2 O))
  refine region_T ((fun w2 => Own w w2 [(g3, 40, D.pr (c, d)), (g2, 40, D.pr (a, b))])) [0, 1, 2, 3, 4, 5, 6, 7, 8, 9, 10, 11] 12 [some 5, some 6, some 7, some 8, some 9, some 10, some 11, some 12, some 13, some 14, some 15, some 16] [.pointer (some ⟨g2, 0, none⟩), .int .i64 a, .pointer (some ⟨g3, 1, none⟩), .int .i64 d, .agg #[.int .i64 h1, .int .u64 l1], .pointer (some ⟨g3, 0, none⟩), .int .i64 c, .pointer (some ⟨g2, 1, none⟩), .int .i64 b, .agg #[.int .i64 h2, .int .u64 l2], .int .i64 z, .bool (decide (z < 0))] 1 (by kernel_rfl) (by rfl) (by kernel_rfl) (by rfl) (by rfl) (O.drew) (fun F hF => ?_)
  simp only [fillD, Act.put, List.setIfInBounds_toArray, List.set_cons_zero, List.set_cons_succ] at hF
  subst hF
  refine ⟨⟨does_want rfl (by rfl) (fun w' O K hK => ?_), does_want rfl (by rfl) (fun w' O K hK => ?_), does_want rfl (by rfl) (fun w' O K hK => ?_), does_want rfl (by rfl) (fun w' O K hK => ?_), does_want rfl (by rfl) (fun w' O K hK => ?_), does_want rfl (by rfl) (fun w' O K hK => ?_), does_want rfl (by rfl) (fun w' O K hK => ?_), does_want rfl (by rfl) (fun w' O K hK => ?_), does_want rfl (by rfl) (fun w' O K hK => ?_), does_want rfl (by rfl) (fun w' O K hK => ?_), does_want rfl (by rfl) (fun w' O K hK => ?_), does_want rfl (by rfl) (fun w' O K hK => ?_), trivial⟩, fun w' O => ?_⟩
  · go_simp
    exact hK _ O
  · exact wp_cell_h (v := .int .i64 a) O.held 1 (i := 0) rfl rfl rfl agg3 rfl (hK _ O)
  · go_simp
    exact hK _ O
  · exact wp_cell_h (v := .int .i64 d) O.held 0 (i := 1) rfl rfl rfl agg3 rfl (hK _ O)
  · go_simp
    go_at_call 25
    refine (c1 _).mono ?_
    rintro e w2 ⟨rfl, hb⟩
    exact hK _ (O.call hb)
  · go_simp
    exact hK _ O
  · exact wp_cell_h (v := .int .i64 c) O.held 0 (i := 0) rfl rfl rfl agg3 rfl (hK _ O)
  · go_simp
    exact hK _ O
  · exact wp_cell_h (v := .int .i64 b) O.held 1 (i := 1) rfl rfl rfl agg3 rfl (hK _ O)
  · go_simp
    go_at_call 25
    refine (c2 _).mono ?_
    rintro e w2 ⟨rfl, hb⟩
    exact hK _ (O.call hb)
  · go_simp
    go_at_call 24
    refine (c3 _).mono ?_
    rintro e w2 ⟨rfl, hb⟩
    exact hK _ (O.call hb)
  · go_simp
    exact hK _ O
  refine wpAny_one (i := 12) (by kernel_rfl) rfl (fun K hK => ?_)
  go_simp
  refine hK _ _ ?_
  clear hK K
  try simp only [Act.put, List.setIfInBounds_toArray, List.set_cons_zero, List.set_cons_succ]
  refine wpAny_done (by kernel_rfl) ?_ _
  go_wp2_with fail
  go_ret
  exact ⟨by rw [HE.out, ← HZ.out]; rfl, O.below⟩
set_option maxHeartbeats 4000000 in
theorem rabove_any (p q : D.Cut) (hp : p.low) (hq : q.low) (w : World) : Calls Try.prog 20 #[.agg (D.pr p).toArray, .agg (D.pr q).toArray] w fun e w' => e = .returned (.bool (D.above p q)) ∧ Below w.heap.size w w' := by
  have O := Own.start w
  have o1 := D.Cut.low_mul hp hq
  have o2 := D.Cut.low_mul hq hp
  obtain ⟨a, b⟩ := p
  obtain ⟨c, d⟩ := q
  obtain ⟨p1, p2, p3, p4⟩ := hp
  obtain ⟨q1, q2, q3, q4⟩ := hq
  dsimp only at o1 o2 p1 p2 p3 p4 q1 q2 q3 q4
  have c1 := fun w => rmul_any a d (by omega) (by omega) (by omega) (by omega) w
  have c2 := fun w => rmul_any c b (by omega) (by omega) (by omega) (by omega) w
  have c3 := fun w => rcmp_any _ _ _ _ (M.b_of (a * d)) (M.b_of (c * b)) w
  rw [M.val_of o1, M.val_of o2] at c3
  have HZ := Lib.hid (sgn_gt0 (a * d) (c * b))
  have HE : D.above (a, b) (c, d) = decide (c * b < a * d) := rfl
  have HE := Lib.hid HE
  clear o1 o2 p1 p2 p3 p4 q1 q2 q3 q4
  generalize M.sgn (a * d) (c * b) = z at *
  generalize M.oh (a * d) = h1 at *
  generalize M.ol (a * d) = l1 at *
  generalize M.oh (c * b) = h2 at *
  generalize M.ol (c * b) = l2 at *
  go_enter Try.func20, Try.ntmps20
  go_wp2_with (first | ((with_reducible refine at_box 2 ?_); refine wpList_box_own O (D.pr (a, b)) rfl ?_; clear O; intro g2 w1 O) | ((with_reducible refine at_box 3 ?_); refine wpList_box_own O (D.pr (c, d)) rfl ?_; clear O; intro g3 w2 O))
  refine region_T ((fun w2 => Own w w2 [(g3, 45, D.pr (c, d)), (g2, 45, D.pr (a, b))])) [0, 1, 2, 3, 4, 5, 6, 7, 8, 9, 10, 11] 12 [some 5, some 6, some 7, some 8, some 9, some 10, some 11, some 12, some 13, some 14, some 15, some 16] [.pointer (some ⟨g2, 0, none⟩), .int .i64 a, .pointer (some ⟨g3, 1, none⟩), .int .i64 d, .agg #[.int .i64 h1, .int .u64 l1], .pointer (some ⟨g3, 0, none⟩), .int .i64 c, .pointer (some ⟨g2, 1, none⟩), .int .i64 b, .agg #[.int .i64 h2, .int .u64 l2], .int .i64 z, .bool (decide (0 < z))] 1 (by kernel_rfl) (by rfl) (by kernel_rfl) (by rfl) (by rfl) (O.drew) (fun F hF => ?_)
  simp only [fillD, Act.put, List.setIfInBounds_toArray, List.set_cons_zero, List.set_cons_succ] at hF
  subst hF
  refine ⟨⟨does_want rfl (by rfl) (fun w' O K hK => ?_), does_want rfl (by rfl) (fun w' O K hK => ?_), does_want rfl (by rfl) (fun w' O K hK => ?_), does_want rfl (by rfl) (fun w' O K hK => ?_), does_want rfl (by rfl) (fun w' O K hK => ?_), does_want rfl (by rfl) (fun w' O K hK => ?_), does_want rfl (by rfl) (fun w' O K hK => ?_), does_want rfl (by rfl) (fun w' O K hK => ?_), does_want rfl (by rfl) (fun w' O K hK => ?_), does_want rfl (by rfl) (fun w' O K hK => ?_), does_want rfl (by rfl) (fun w' O K hK => ?_), does_want rfl (by rfl) (fun w' O K hK => ?_), trivial⟩, fun w' O => ?_⟩
  · go_simp
    exact hK _ O
  · exact wp_cell_h (v := .int .i64 a) O.held 1 (i := 0) rfl rfl rfl agg3 rfl (hK _ O)
  · go_simp
    exact hK _ O
  · exact wp_cell_h (v := .int .i64 d) O.held 0 (i := 1) rfl rfl rfl agg3 rfl (hK _ O)
  · go_simp
    go_at_call 28
    refine (c1 _).mono ?_
    rintro e w2 ⟨rfl, hb⟩
    exact hK _ (O.call hb)
  · go_simp
    exact hK _ O
  · exact wp_cell_h (v := .int .i64 c) O.held 0 (i := 0) rfl rfl rfl agg3 rfl (hK _ O)
  · go_simp
    exact hK _ O
  · exact wp_cell_h (v := .int .i64 b) O.held 1 (i := 1) rfl rfl rfl agg3 rfl (hK _ O)
  · go_simp
    go_at_call 28
    refine (c2 _).mono ?_
    rintro e w2 ⟨rfl, hb⟩
    exact hK _ (O.call hb)
  · go_simp
    go_at_call 27
    refine (c3 _).mono ?_
    rintro e w2 ⟨rfl, hb⟩
    exact hK _ (O.call hb)
  · go_simp
    exact hK _ O
  refine wpAny_one (i := 12) (by kernel_rfl) rfl (fun K hK => ?_)
  go_simp
  refine hK _ _ ?_
  clear hK K
  try simp only [Act.put, List.setIfInBounds_toArray, List.set_cons_zero, List.set_cons_succ]
  refine wpAny_done (by kernel_rfl) ?_ _
  go_wp2_with fail
  go_ret
  exact ⟨by rw [HE.out, ← HZ.out]; rfl, O.below⟩
set_option maxHeartbeats 4000000 in
theorem stand_any (x : D.Cut) (a b : Nat → Int) (ha : D.fits a = true) (hb : D.fits b = true) (hx : x.fair) (h9 : x.low) (w : World) : Calls Try.prog 19 #[.agg (D.pr x).toArray, arr 8 a, arr 8 b] w fun e w' => e = .returned (arr 8 (D.way a b x.1 x.2)) ∧ Below w.heap.size w w' := by
  have O := Own.start w
  obtain ⟨n, d⟩ := x
  obtain ⟨x1, x2, x3⟩ := hx
  obtain ⟨y1, y2, y3, y4⟩ := h9
  dsimp only at x1 x2 x3 y1 y2 y3 y4 ⊢
  have ca := fun w => at_any a b n d (by omega) w
  rw [D.at_yes (D.okAt_iff.2 ⟨ha, hb, x1, x2, x3⟩)] at ca
  unfold RetAt at ca
  dsimp only at ca
  clear ha hb x1 x2 x3 y1 y2 y3 y4
  generalize D.way a b n d = v at *
  go_enter Try.func19, Try.ntmps19
  go_wp2_with (first | ((with_reducible refine at_box 3 ?_); refine wpList_box_own O (D.pr (n, d)) rfl ?_; clear O; intro g3 w1 O) | ((with_reducible refine at_box 4 ?_); refine wpList_box_own O (M.mat 8 (a)) rfl ?_; clear O; intro g4 w2 O) | ((with_reducible refine at_box 5 ?_); refine wpList_box_own O (M.mat 8 (b)) rfl ?_; clear O; intro g5 w3 O) | ((with_reducible refine at_alloc 6 ?_); refine wpList_alloc_own O (M.mat 8 M.zero) zero27 ?_; clear O; intro g6 w4 O) | ((with_reducible refine at_load 10 ?_); refine wpList_whole rfl O 2 rfl rfl Try.underlying27 rfl (s27 _) ?_) | ((with_reducible refine at_load 11 ?_); refine wpList_whole rfl O 1 rfl rfl Try.underlying27 rfl (s27 _) ?_) | ((with_reducible refine at_load 13 ?_); refine wpList_cell_h (v := .int .i64 n) rfl O.held 3 (i := 0) rfl rfl rfl agg3 rfl ?_) | ((with_reducible refine at_load 15 ?_); refine wpList_cell_h (v := .int .i64 d) rfl O.held 3 (i := 1) rfl rfl rfl agg3 rfl ?_) | (go_at_call 26; refine (ca _).mono ?_; rintro e w5 ⟨rfl, hb⟩; replace O := O.call hb; clear hb) | ((with_reducible refine at_alloc 7 ?_); refine wpList_alloc_own O (M.mat 8 M.zero) zero27 ?_; clear O; intro g7 w6 O) | ((with_reducible refine at_store 7 ?_); refine wpList_put_own O 0 (M.mat 8 (v)) rfl rfl rfl (s27 _) (M.mat_len2 _ _ _) (M.mat_one _ _) ?_; clear O; intro w7 O) | ((with_reducible refine at_load 19 ?_); refine wpList_whole rfl O 0 rfl rfl Try.underlying27 rfl (s27 _) ?_) | ((with_reducible refine at_store 6 ?_); refine wpList_put_own O 1 (M.mat 8 (v)) rfl rfl rfl (s27 _) (M.mat_len2 _ _ _) (M.mat_one _ _) ?_; clear O; intro w8 O))
  exact bodyPost_ret (v := arr 8 v) (res_h rfl O.held 1 rfl rfl Try.underlying27 rfl (s27 _)) rfl ⟨rfl, O.below⟩
end Go.Proofs.Ytimfdimpifpclaa
