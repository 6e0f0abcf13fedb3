/-
  DotSprites: a sprite's first number rises to the right, its second one upward, each by 256 over its width at most, as near as rounding lets.
-/
import Derived.Test.YtlmgilcigbnbaaaDt
import Derived.Deep.DeepCutAuto
namespace Go.Proofs.Ytlmgilcigbnbaaa.dotSprites
open Go.ChangeShapes Go.WideShapes Go.ChangeAt Go.RowKit
set_option linter.unusedVariables false
set_option linter.unusedSimpArgs false

theorem own : ownKnob Try.prog.godebug = none := by kernel_rfl

set_option maxRecDepth 100000 in
set_option maxHeartbeats 16000000 in
theorem walk (w : World) (v : Nat → Int) (s : Int) :
    Calls Try.prog 6 #[arr 7 v, .int .i64 s] w fun e w' => e = .returned (.bool true) ∧ Below w.heap.size w w' := by
  have O := Held.start w [] (by simp)
  have CR := fun w => rright19_any v s 2 w
  cases hr : DT.right v s 2
  · rw [hr] at CR
    clear hr
    go_enter Try.func6, Try.ntmps6
    go_wp2_with (first | ((with_reducible refine at_box 2 ?_); refine wpList_box_h O (M.mat 7 (v)) rfl ?_; clear O; intro g2 w1 O) | ((with_reducible refine at_load 10 ?_); refine wpList_rowg_h rfl O 0 rfl rfl Try.underlying25 rfl (sW _) ?_) | (go_at_call 10; refine (CR _).mono ?_; rintro e w2 ⟨rfl, hb⟩; replace O := O.call hb; clear hb) | (go_at_call 8; refine (awake_any _).mono ?_; rintro e w9 ⟨rfl, hb⟩; replace O := O.call hb; clear hb))
    go_ret
    exact ⟨rfl, O.below⟩
  rw [hr] at CR
  obtain ⟨hf, hsz, _⟩ := DT.right_iff.1 hr
  have hwo := DT.whole_ok hr
  have CW := fun w => whole_any v s hf (by omega) w
  have CL := fun w => ppoint19_any v s 2 (DT.whole v s) (by omega) w
  have hlen := DT.pt_sq_len (k := 2) hr (by decide)
  have HAT := Lib.hid (fun i hi => @DT.sprite_at v s hr i hi)
  generalize DT.pt v s 2 (DT.whole v s) = LX at CL hlen HAT
  generalize DT.whole v s = wh at CW CL
  obtain ⟨S, hS⟩ : ∃ S, s.toNat = S := ⟨_, rfl⟩
  rw [hS] at hlen
  simp only [hS] at HAT
  have hsS : (S : Int) = s := by omega
  have hSb : 1 ≤ S ∧ S ≤ 64 := by omega
  have hmul : S * S ≤ 4096 := by
    have := Nat.mul_le_mul hSb.2 hSb.2
    omega
  obtain ⟨S2, hS2⟩ : ∃ z, s * s = z := ⟨_, rfl⟩
  have hS2' : S2 = ((S * S : Nat) : Int) := by rw [← hS2, ← hsS, Int.natCast_mul]
  have WS : wrap64 (s * s) = S2 := (IntWalk.wrap64_in _ (by rw [hS2]; omega)).trans hS2
  have hll : (LX.length : Int) = S2 := by rw [hlen, hS2']
  have K1 : ((LX.length : Int) != S2) = false := by rw [hll]; simp
  have K1b : (S2 != S2) = false := by simp
  obtain ⟨q1, hq1⟩ : ∃ z, (256 : Int).tdiv s = z := ⟨_, rfl⟩
  have hq2 : q1 = 256 / s := by rw [← hq1]; exact Int.tdiv_eq_ediv_of_nonneg (by decide)
  have hqb : 0 ≤ q1 ∧ q1 ≤ 256 := by
    rw [hq2]
    exact ⟨Int.ediv_nonneg (by decide) (by omega), Int.ediv_le_of_le_mul (by omega) (by omega)⟩
  obtain ⟨q2, hq3⟩ : ∃ z, q1 + 1 = z := ⟨_, rfl⟩
  have Q1 : Hid (IntKind.i64.wrap ((256 : Int).tdiv s) = q1) := Lib.hid ((by rw [hq1]; exact IntWalk.i64_in _ (by omega)) : IntKind.i64.wrap ((256 : Int).tdiv s) = q1)
  have Q1b : Hid (IntKind.i64.wrap (256 / s) = q1) := Lib.hid (by rw [← hq2]; exact IntWalk.i64_in _ (by omega))
  have Q2 : Hid (IntKind.i64.wrap (q1 + 1) = q2) := Lib.hid ((IntWalk.i64_in _ (by omega)).trans hq3)
  have HQ2 : Hid (256 / s + 1 = q2) := Lib.hid (by rw [← hq2]; exact hq3)
  have HQB : Hid (q2 ≤ 257) := Lib.hid (by omega)
  have hs0 : ¬ s = 0 := by omega
  have HS0 := Lib.hid hs0
  have HSS := Lib.hid (And.intro hsS (And.intro hSb (And.intro hlen hmul)))
  obtain ⟨v5, ev5⟩ : ∃ z, v 5 = z := ⟨_, rfl⟩
  have Cv5 := cell_is (n := 7) ev5 (by decide)
  obtain ⟨v6, ev6⟩ : ∃ z, v 6 = z := ⟨_, rfl⟩
  have Cv6 := cell_is (n := 7) ev6 (by decide)
  simp only [ev5, ev6] at HAT
  clear hr hf hsz hwo hlen hsS hSb hmul hS2 hS2' hll hq1 hq2 hqb hq3 hS ev5 ev6
  go_enter Try.func6, Try.ntmps6
  go_wp2_with (first | ((with_reducible refine at_box 2 ?_); refine wpList_box_h O (M.mat 7 (v)) rfl ?_; clear O; intro g2 w1 O) | ((with_reducible refine at_load 10 ?_); refine wpList_rowg_h rfl O 0 rfl rfl Try.underlying25 rfl (sW _) ?_) | (go_at_call 10; refine (CR _).mono ?_; rintro e w2 ⟨rfl, hb⟩; replace O := O.call hb; clear hb))
  have OX : Held w w2 [(g2, 25, M.mat 7 v)] nilRow [] := O
  clear O CR
  have O := OX
  clear OX
  refine region_S (fun st w2 => HS1 w [(g2, 25, M.mat 7 v)] [] 5 LX st w2) [5] 12 6 [some 15, some 16, some 17, some 18, some 19, some 20] (fun g => [arr 7 v, .int .i64 (s), arr 7 v, .int .i64 (s), arr 4 wh, g 5]) 1 (by kernel_rfl) (by kernel_rfl) (by rfl) (by rfl) (fun _ => rfl) (by decide) ?_ (HS1.start O.drew) (fun F hF => ?_)
  · intro i hi
    simp only [List.mem_cons, List.not_mem_nil, or_false] at hi
    rcases hi with rfl
    · exact ⟨fun _ => rfl, [0, 1, 2, 3, 4], by kernel_rfl, fun g v => ⟨rfl, rfl, rfl, rfl, rfl, trivial⟩⟩
  simp only [fillD, Act.put, List.setIfInBounds_toArray, List.set_cons_zero, List.set_cons_succ] at hF
  have hF2 := funext hF
  clear hF
  subst hF2
  refine ⟨⟨doesN_want (by decide) rfl (fun g => rfl) (fun st w' hS hp K hK => ?_), doesN_want (by decide) rfl (fun g => rfl) (fun st w' hS hp K hK => ?_), doesN_want (by decide) rfl (fun g => rfl) (fun st w' hS hp K hK => ?_), doesN_want (by decide) rfl (fun g => rfl) (fun st w' hS hp K hK => ?_), doesN_want (by decide) rfl (fun g => rfl) (fun st w' hS hp K hK => ?_), doesC_want (by decide) rfl (fun g => rfl) (fun st w' hS hn hp K hK => ?_), trivial⟩, fun st w' hS hall => ?_⟩
  · try dsimp only
    exact wp_row_h hS.1 0 rfl rfl Try.underlying25 rfl (sW _) (hK _ hS)
  · try dsimp only
    go_simp
    exact hK _ hS
  · try dsimp only
    exact wp_row_h hS.1 0 rfl rfl Try.underlying25 rfl (sW _) (hK _ hS)
  · try dsimp only
    go_simp
    exact hK _ hS
  · try dsimp only
    go_simp
    go_at_call 16
    refine (CW _).mono ?_
    rintro e w2 ⟨rfl, hb⟩
    exact hK _ (hS.call hb)
  · try dsimp only
    go_simp
    go_at_call 14
    refine (CL _).mono ?_
    rintro e w2 ⟨VA, vc, rfl, hL, hb⟩
    exact hK _ _ (hS.gain hL hb)
  try dsimp only
  clear O
  obtain ⟨XA, xc, e1, h1⟩ := hS.get (hall 5 (by decide))
  have O : Held w w' [(g2, 25, M.mat 7 v)] nilRow [gE w.heap.size XA xc LX] := h1
  clear h1 hS
  simp only [seen, e1, Option.getD_some]
  clear hall e1
  refine wpAny_one (i := 6) (by kernel_rfl) rfl (fun K hK => ?_)
  go_simp
  refine hK _ _ ?_
  clear hK K
  try simp only [Act.put, List.setIfInBounds_toArray, List.set_cons_zero, List.set_cons_succ]
  refine wpAny_done (by kernel_rfl) ?_ _
  clear CW CL
  go_wp2_with fail
  have OX : Held w _ [(g2, 25, M.mat 7 v)] nilRow [gE w.heap.size XA xc LX] := O
  clear O K1 K1b WS
  have O := OX
  clear OX
  go_loopw [6] (fun t6 wr => ∃ i : Nat, i ≤ LX.length ∧ t6 = .int .i64 (i : Int) ∧ Held w wr [(g2, 25, M.mat 7 v)] nilRow [gE w.heap.size XA xc LX]) (fun t6 _ => LX.length - (intOf t6).toNat)
  case atStart => exact ⟨0, Nat.zero_le _, rfl, O⟩
  case round =>
    clear O
    obtain ⟨i, hi, rfl, O⟩ := hrel
    have z0 : (0 : Int) ≤ i := by omega
    by_cases hlt : i < LX.length
    · have z1 : (i : Int) < LX.length := by omega
      obtain ⟨hsS, hSb, hlen, hmul⟩ := HSS.out
      have Wi : wrap64 ((i : Int) + 1) = (i : Int) + 1 := IntWalk.wrap64_in _ (by omega)
      obtain ⟨f, hf, ⟨f5, f6⟩, ⟨hc0, hc1⟩, hleft, hbelow⟩ := HAT.out i (by omega)
      obtain ⟨x, hx⟩ : ∃ x, (i : Int).tmod s = x := ⟨_, rfl⟩
      obtain ⟨y, hy⟩ : ∃ y, (i : Int).tdiv s = y := ⟨_, rfl⟩
      have hx2 : x = ((i % S : Nat) : Int) := by rw [← hx, Int.tmod_eq_emod_of_nonneg z0, ← hsS, Int.natCast_emod]
      have hy2 : y = ((i / S : Nat) : Int) := by rw [← hy, Int.tdiv_eq_ediv_of_nonneg z0, ← hsS, Int.natCast_ediv]
      obtain ⟨m, hm⟩ : ∃ m, i % S = m := ⟨_, rfl⟩
      obtain ⟨dd, hdd⟩ : ∃ d, i / S = d := ⟨_, rfl⟩
      have hmi : m ≤ i := by rw [← hm]; exact Nat.mod_le i S
      have hdi : dd ≤ i := by rw [← hdd]; exact Nat.div_le_self i S
      have hSi : 0 < dd → S ≤ i := fun h => (DT.below_of (by omega) (show 0 < i / S by rw [hdd]; exact h)).1
      rw [hm] at hx2 hleft
      rw [hdd] at hy2 hbelow
      clear hm hdd
      have hyb : y ≤ (i : Int) := by omega
      have HX := Lib.hid hx
      have HY : Hid (IntKind.i64.wrap ((i : Int).tdiv s) = y) := Lib.hid ((by rw [hy]; exact IntWalk.i64_in _ (by omega)) : IntKind.i64.wrap ((i : Int).tdiv s) = y)
      have HX2 : Hid ((i : Int) % s = x) := Lib.hid (by rw [← hx, Int.tmod_eq_emod_of_nonneg z0])
      have HY2 : Hid (IntKind.i64.wrap ((i : Int) / s) = y) := Lib.hid (by rw [← Int.tdiv_eq_ediv_of_nonneg z0]; exact HY.out)
      have HF := Lib.hid hf
      obtain ⟨c0, ec0⟩ : ∃ z, f 3 = z := ⟨_, rfl⟩
      have Dc0 : Hid ((M.mat 8 f)[3]? = some (.int .i64 c0)) := cell_is ec0 (by decide)
      obtain ⟨c1, ec1⟩ : ∃ z, f 4 = z := ⟨_, rfl⟩
      have Dc1 : Hid ((M.mat 8 f)[4]? = some (.int .i64 c1)) := cell_is ec1 (by decide)
      have Dc2 : Hid ((M.mat 8 f)[5]? = some (.int .i64 v5)) := cell_is f5 (by decide)
      have Dc3 : Hid ((M.mat 8 f)[6]? = some (.int .i64 v6)) := cell_is f6 (by decide)
      rw [ec0] at hc0
      rw [ec1] at hc1
      rw [ec0, ec1] at hleft hbelow
      rw [HQ2.out] at hleft
      have J0 : decide (c0 < 0) = false := decide_eq_false (by omega)
      have J1 : decide (c0 > 255) = false := decide_eq_false (by omega)
      have J1b : decide (255 < c0) = false := decide_eq_false (by omega)
      have J2 : decide (c1 < 0) = false := decide_eq_false (by omega)
      have J3 : decide (c1 > 255) = false := decide_eq_false (by omega)
      have J3b : decide (255 < c1) = false := decide_eq_false (by omega)
      have J4 : (v5 != v5) = false := by simp
      have J5 : (v6 != v6) = false := by simp
      have hib : (i : Int) ≤ 4096 := by omega
      have hxy : (0 ≤ x ∧ 0 ≤ y) := by omega
      by_cases hcx : 0 < x
      · by_cases hcy : 0 < y
        · obtain ⟨g, hg, ⟨g1, g2_⟩, g3⟩ := hleft (by omega)
          obtain ⟨j1, hj1⟩ : ∃ j, i - 1 = j := ⟨_, rfl⟩
          rw [hj1] at hg
          obtain ⟨J1_, HJ⟩ : ∃ z, (i : Int) - 1 = z := ⟨_, rfl⟩
          have WJ1_ : Hid (IntKind.i64.wrap ((i : Int) - 1) = J1_) := Lib.hid ((IntWalk.i64_in _ (by omega)).trans HJ)
          have HJ1_ : Hid (J1_ = (j1 : Int)) := Lib.hid (by omega)
          have BJ1_ : Hid (j1 < LX.length) := Lib.hid (by omega)
          obtain ⟨h0, eh0⟩ : ∃ z, g 3 = z := ⟨_, rfl⟩
          rw [eh0] at g1 g2_
          have Eh0 : Hid ((gC LX)[j1 * 8 + 3]? = some (.int .i64 h0)) := Lib.hid (by rw [← eh0]; exact gC_at hg 3 _ rfl)
          have Eh1 : Hid ((gC LX)[j1 * 8 + 4]? = some (.int .i64 c1)) := Lib.hid (by rw [← g3]; exact gC_at hg 4 _ rfl)
          obtain ⟨d, hd⟩ : ∃ z, c0 - h0 = z := ⟨_, rfl⟩
          rw [hd] at g2_
          have hdb : 0 ≤ d ∧ d ≤ 1000 := by have := HQB.out; omega
          have WD_ : Hid (IntKind.i64.wrap (c0 - h0) = d) := Lib.hid ((IntWalk.i64_in _ (by omega)).trans hd)
          have ka : decide (c0 < h0) = false := decide_eq_false (by omega)
          have kd : decide (d > q2) = false := decide_eq_false (by omega)
          have kd2 : decide (q2 < d) = false := decide_eq_false (by omega)
          have kc : (c1 != c1) = false := by simp
          clear hg hj1 HJ g1 g2_ g3 eh0 hd hdb
          have b0 := hSi (by omega)
          obtain ⟨g, hg, g1, g3⟩ := hbelow (by omega)
          obtain ⟨j2, hj2⟩ : ∃ j, i - S = j := ⟨_, rfl⟩
          rw [hj2] at hg
          obtain ⟨J2_, HJ⟩ : ∃ z, (i : Int) - s = z := ⟨_, rfl⟩
          have WJ2_ : Hid (IntKind.i64.wrap ((i : Int) - s) = J2_) := Lib.hid ((IntWalk.i64_in _ (by omega)).trans HJ)
          have HJ2_ : Hid (J2_ = (j2 : Int)) := Lib.hid (by omega)
          have BJ2_ : Hid (j2 < LX.length) := Lib.hid (by omega)
          obtain ⟨l1, el1⟩ : ∃ z, g 4 = z := ⟨_, rfl⟩
          rw [el1] at g1
          have El1 : Hid ((gC LX)[j2 * 8 + 4]? = some (.int .i64 l1)) := Lib.hid (by rw [← el1]; exact gC_at hg 4 _ rfl)
          have El0 : Hid ((gC LX)[j2 * 8 + 3]? = some (.int .i64 c0)) := Lib.hid (by rw [← g3]; exact gC_at hg 3 _ rfl)
          have kl : decide (c1 < l1) = false := decide_eq_false (by omega)
          have kc0 : (c0 != c0) = false := by simp
          clear hg hj2 HJ b0 g1 g3 el1
          have kx : decide (x > 0) = true := by simp; omega
          have kx2 : decide (0 < x) = true := by simp; omega
          have ky : decide (y > 0) = true := by simp; omega
          have ky2 : decide (0 < y) = true := by simp; omega
          clear hleft hbelow hx hy hx2 hy2 hyb hf f5 f6 hc0 hc1 ec0 ec1 hsS hSb hlen hmul hib hxy hcx hcy hmi hdi hSi
          go_wp2_with (first | ((with_reducible refine at_index_ 35 ?_); refine wpList_at_h rfl Try.underlying35 sizeOfG ((gE w.heap.size XA xc LX)) (O.mem List.mem_cons_self) rfl i rfl (by first | rfl | omega) (hlt) (rfl) ?_) | ((with_reducible refine at_load 36 ?_); refine wpList_elem_h rfl _ (O.mem List.mem_cons_self) (i * 8) (M.mat 8 f) (gC_at HF.out) (by rw [M.mat_len]; decide) rfl Try.underlying40 rfl (sG _) ?_) | ((with_reducible refine at_alloc 7 ?_); refine wpList_alloc_h O (M.mat 8 M.zero) zeroG ?_; clear O; intro g7 y1w O) | ((with_reducible refine at_store 7 ?_); refine wpList_put_h O 0 (M.mat 8 (f)) rfl rfl rfl (sG _) (M.mat_len2 _ _ _) (M.mat_one _ _) ?_; clear O; intro y2w O) | ((with_reducible refine at_index_ 38 ?_); refine wpList_ino rfl Try.underlying23 sizeOf3 (by decide) (0) rfl rfl (rfl) (by decide) ?_) | ((with_reducible refine at_load 39 ?_); refine wpList_cell_h (v := .int .i64 c0) rfl O 0 rfl Dc0.out rfl agg3 rfl ?_) | ((with_reducible refine at_index_ 43 ?_); refine wpList_ino rfl Try.underlying23 sizeOf3 (by decide) (0) rfl rfl (rfl) (by decide) ?_) | ((with_reducible refine at_load 44 ?_); refine wpList_cell_h (v := .int .i64 c0) rfl O 0 rfl Dc0.out rfl agg3 rfl ?_) | ((with_reducible refine at_index_ 49 ?_); refine wpList_ino rfl Try.underlying23 sizeOf3 (by decide) (1) rfl rfl (rfl) (by decide) ?_) | ((with_reducible refine at_load 50 ?_); refine wpList_cell_h (v := .int .i64 c1) rfl O 0 rfl Dc1.out rfl agg3 rfl ?_) | ((with_reducible refine at_index_ 55 ?_); refine wpList_ino rfl Try.underlying23 sizeOf3 (by decide) (1) rfl rfl (rfl) (by decide) ?_) | ((with_reducible refine at_load 56 ?_); refine wpList_cell_h (v := .int .i64 c1) rfl O 0 rfl Dc1.out rfl agg3 rfl ?_) | ((with_reducible refine at_index_ 61 ?_); refine wpList_ino rfl Try.underlying23 sizeOf3 (by decide) (2) rfl rfl (rfl) (by decide) ?_) | ((with_reducible refine at_load 62 ?_); refine wpList_cell_h (v := .int .i64 v5) rfl O 0 rfl Dc2.out rfl agg3 rfl ?_) | ((with_reducible refine at_index_ 64 ?_); refine wpList_ino rfl Try.underlying23 sizeOf3 (by decide) (2) rfl rfl (rfl) (by decide) ?_) | ((with_reducible refine at_load 65 ?_); refine wpList_cell_h (v := .int .i64 v5) rfl O 1 rfl Cv5.out rfl agg3 rfl ?_) | ((with_reducible refine at_index_ 70 ?_); refine wpList_ino rfl Try.underlying23 sizeOf3 (by decide) (3) rfl rfl (rfl) (by decide) ?_) | ((with_reducible refine at_load 71 ?_); refine wpList_cell_h (v := .int .i64 v6) rfl O 0 rfl Dc3.out rfl agg3 rfl ?_) | ((with_reducible refine at_index_ 73 ?_); refine wpList_ino rfl Try.underlying23 sizeOf3 (by decide) (3) rfl rfl (rfl) (by decide) ?_) | ((with_reducible refine at_load 74 ?_); refine wpList_cell_h (v := .int .i64 v6) rfl O 1 rfl Cv6.out rfl agg3 rfl ?_))
          clear J0 J1 J1b J2 J3 J3b J4 J5
          have OX : Held w _ ((g7, 40, M.mat 8 f) :: [(g2, 25, M.mat 7 v)]) nilRow [gE w.heap.size XA xc LX] := O
          clear O
          have O := OX
          clear OX
          refine region_T ((fun w2 => Held w w2 ((g7, 40, M.mat 8 f) :: [(g2, 25, M.mat 7 v)]) nilRow [gE w.heap.size XA xc LX])) [0, 1, 2, 3, 4, 5, 6] 12 [some 77, some 78, some 79, some 80, some 81, some 82, some 8] [.int .i64 (i : Int), .int .i64 (s), .int .i64 (x), .int .i64 (i : Int), .int .i64 (s), .int .i64 (y), .int .i64 (x)] 1 (by kernel_rfl) (by rfl) (by kernel_rfl) (by rfl) (by rfl) (O.drew) (fun F hF => ?_)
          simp only [fillD, Act.put, List.setIfInBounds_toArray, List.set_cons_zero, List.set_cons_succ] at hF
          subst hF
          refine ⟨⟨does_want rfl (by rfl) (fun w' O K hK => ?_), does_want rfl (by rfl) (fun w' O K hK => ?_), does_want rfl (by rfl) (fun w' O K hK => ?_), does_want rfl (by rfl) (fun w' O K hK => ?_), does_want rfl (by rfl) (fun w' O K hK => ?_), does_want rfl (by rfl) (fun w' O K hK => ?_), does_want rfl (by rfl) (fun w' O K hK => ?_), trivial⟩, fun w' O => ?_⟩
          · go_simp
            exact hK _ O
          · go_simp
            exact hK _ O
          · go_simp
            first | (simp only [HX.out]; exact hK _ O) | (simp only [HX2.out]; exact hK _ O)
          · go_simp
            exact hK _ O
          · go_simp
            exact hK _ O
          · go_simp
            first | (simp only [HY2.out]; exact hK _ O) | (simp only [HY.out]; exact hK _ O)
          · go_simp
            exact hK _ O
          refine wpAny_one (i := 7) (by kernel_rfl) rfl (fun K hK => ?_)
          go_simp
          refine hK _ _ ?_
          clear hK K
          try simp only [Act.put, List.setIfInBounds_toArray, List.set_cons_zero, List.set_cons_succ]
          refine wpAny_done (by kernel_rfl) ?_ _
          clear HX HY HX2 HY2
          go_wp2_with fail
          have OO := O
          clear O
          have O := OO
          clear OO
          try simp only [List.append_eq, List.cons_append, List.nil_append]
          refine region_T ((fun w2 => Held w w2 ((g7, 40, M.mat 8 f) :: [(g2, 25, M.mat 7 v)]) nilRow [gE w.heap.size XA xc LX])) [0, 1, 2, 3, 4, 5, 6, 7, 8, 9, 10, 11, 12, 13, 14, 15, 16, 17, 18, 19, 20, 21, 22, 23, 24, 25, 26, 27, 28, 29, 30, 31, 32, 33, 34, 35, 36, 37, 38, 39, 40, 41, 42, 43, 44, 45, 46, 47, 48, 49, 50, 51, 52, 53, 54, 55, 56, 57, 58, 59, 60, 61, 62, 63, 64, 65, 66, 67, 68, 69, 70, 71, 72, 73, 74, 75] 12 [some 83, some 84, some 85, some 86, some 87, some 88, some 89, some 90, some 91, some 92, some 93, some 94, some 95, some 96, some 97, some 98, some 99, some 100, some 101, some 102, some 103, some 104, some 105, some 106, some 107, some 108, some 109, some 110, some 111, some 112, some 113, some 114, some 115, some 116, some 117, some 118, some 119, some 120, some 121, some 122, some 123, some 124, some 125, some 126, some 127, some 128, some 129, some 130, some 131, some 132, some 133, some 134, some 135, some 136, some 137, some 138, some 139, some 140, some 141, some 142, some 143, some 144, some 145, some 146, some 147, some 148, some 149, some 150, some 151, some 152, some 153, some 154, some 155, some 156, some 157, some 158] [.int .i64 (x), .bool true, .bool true, .pointer (some ⟨g7, 3, none⟩), .pointer (some ⟨g7, 3, none⟩), .int .i64 (c0), .slice XA LX.length xc, .int .i64 (i : Int), .int .i64 (J1_), .pointer (some ((adr XA).add (j1 * 8))), .pointer (some ⟨((adr XA).add (j1 * 8)).block, ((adr XA).add (j1 * 8)).off + 3, none⟩), .pointer (some ⟨((adr XA).add (j1 * 8)).block, ((adr XA).add (j1 * 8)).off + 3, none⟩), .int .i64 (h0), .bool false, .bool false, .pointer (some ⟨g7, 3, none⟩), .pointer (some ⟨g7, 3, none⟩), .int .i64 (c0), .slice XA LX.length xc, .int .i64 (i : Int), .int .i64 (J1_), .pointer (some ((adr XA).add (j1 * 8))), .pointer (some ⟨((adr XA).add (j1 * 8)).block, ((adr XA).add (j1 * 8)).off + 3, none⟩), .pointer (some ⟨((adr XA).add (j1 * 8)).block, ((adr XA).add (j1 * 8)).off + 3, none⟩), .int .i64 (h0), .int .i64 (d), .int .i64 (s), .int .i64 (q1), .int .i64 (q2), .bool false, .bool false, .bool false, .pointer (some ⟨g7, 3, none⟩), .pointer (some ⟨g7, 4, none⟩), .int .i64 (c1), .slice XA LX.length xc, .int .i64 (i : Int), .int .i64 (J1_), .pointer (some ((adr XA).add (j1 * 8))), .pointer (some ⟨((adr XA).add (j1 * 8)).block, ((adr XA).add (j1 * 8)).off + 3, none⟩), .pointer (some ⟨((adr XA).add (j1 * 8)).block, ((adr XA).add (j1 * 8)).off + 4, none⟩), .int .i64 (c1), .bool false, .bool false, .bool false, .bool false, .int .i64 (y), .bool true, .bool true, .pointer (some ⟨g7, 3, none⟩), .pointer (some ⟨g7, 4, none⟩), .int .i64 (c1), .slice XA LX.length xc, .int .i64 (i : Int), .int .i64 (s), .int .i64 (J2_), .pointer (some ((adr XA).add (j2 * 8))), .pointer (some ⟨((adr XA).add (j2 * 8)).block, ((adr XA).add (j2 * 8)).off + 3, none⟩), .pointer (some ⟨((adr XA).add (j2 * 8)).block, ((adr XA).add (j2 * 8)).off + 4, none⟩), .int .i64 (l1), .bool false, .bool false, .pointer (some ⟨g7, 3, none⟩), .pointer (some ⟨g7, 3, none⟩), .int .i64 (c0), .slice XA LX.length xc, .int .i64 (i : Int), .int .i64 (s), .int .i64 (J2_), .pointer (some ((adr XA).add (j2 * 8))), .pointer (some ⟨((adr XA).add (j2 * 8)).block, ((adr XA).add (j2 * 8)).off + 3, none⟩), .pointer (some ⟨((adr XA).add (j2 * 8)).block, ((adr XA).add (j2 * 8)).off + 3, none⟩), .int .i64 (c0), .bool false, .bool false, .bool false] 1 (by kernel_rfl) (by rfl) (by kernel_rfl) (by rfl) (by rfl) (O.drew) (fun F hF => ?_)
          simp only [fillD, Act.put, List.setIfInBounds_toArray, List.set_cons_zero, List.set_cons_succ] at hF
          subst hF
          refine ⟨⟨does_want rfl (by rfl) (fun w' O K hK => ?_), does_want rfl (by rfl) (fun w' O K hK => ?_), does_want rfl (by rfl) (fun w' O K hK => ?_), does_want rfl (by rfl) (fun w' O K hK => ?_), does_want rfl (by rfl) (fun w' O K hK => ?_), does_want rfl (by rfl) (fun w' O K hK => ?_), does_want rfl (by rfl) (fun w' O K hK => ?_), does_want rfl (by rfl) (fun w' O K hK => ?_), does_want rfl (by rfl) (fun w' O K hK => ?_), does_want rfl (by rfl) (fun w' O K hK => ?_), does_want rfl (by rfl) (fun w' O K hK => ?_), does_want rfl (by rfl) (fun w' O K hK => ?_), does_want rfl (by rfl) (fun w' O K hK => ?_), does_want rfl (by rfl) (fun w' O K hK => ?_), does_want rfl (by rfl) (fun w' O K hK => ?_), does_want rfl (by rfl) (fun w' O K hK => ?_), does_want rfl (by rfl) (fun w' O K hK => ?_), does_want rfl (by rfl) (fun w' O K hK => ?_), does_want rfl (by rfl) (fun w' O K hK => ?_), does_want rfl (by rfl) (fun w' O K hK => ?_), does_want rfl (by rfl) (fun w' O K hK => ?_), does_want rfl (by rfl) (fun w' O K hK => ?_), does_want rfl (by rfl) (fun w' O K hK => ?_), does_want rfl (by rfl) (fun w' O K hK => ?_), does_want rfl (by rfl) (fun w' O K hK => ?_), does_want rfl (by rfl) (fun w' O K hK => ?_), does_want rfl (by rfl) (fun w' O K hK => ?_), does_want rfl (by rfl) (fun w' O K hK => ?_), does_want rfl (by rfl) (fun w' O K hK => ?_), does_want rfl (by rfl) (fun w' O K hK => ?_), does_want rfl (by rfl) (fun w' O K hK => ?_), does_want rfl (by rfl) (fun w' O K hK => ?_), does_want rfl (by rfl) (fun w' O K hK => ?_), does_want rfl (by rfl) (fun w' O K hK => ?_), does_want rfl (by rfl) (fun w' O K hK => ?_), does_want rfl (by rfl) (fun w' O K hK => ?_), does_want rfl (by rfl) (fun w' O K hK => ?_), does_want rfl (by rfl) (fun w' O K hK => ?_), does_want rfl (by rfl) (fun w' O K hK => ?_), does_want rfl (by rfl) (fun w' O K hK => ?_), does_want rfl (by rfl) (fun w' O K hK => ?_), does_want rfl (by rfl) (fun w' O K hK => ?_), does_want rfl (by rfl) (fun w' O K hK => ?_), does_want rfl (by rfl) (fun w' O K hK => ?_), does_want rfl (by rfl) (fun w' O K hK => ?_), does_want rfl (by rfl) (fun w' O K hK => ?_), does_want rfl (by rfl) (fun w' O K hK => ?_), does_want rfl (by rfl) (fun w' O K hK => ?_), does_want rfl (by rfl) (fun w' O K hK => ?_), does_want rfl (by rfl) (fun w' O K hK => ?_), does_want rfl (by rfl) (fun w' O K hK => ?_), does_want rfl (by rfl) (fun w' O K hK => ?_), does_want rfl (by rfl) (fun w' O K hK => ?_), does_want rfl (by rfl) (fun w' O K hK => ?_), does_want rfl (by rfl) (fun w' O K hK => ?_), does_want rfl (by rfl) (fun w' O K hK => ?_), does_want rfl (by rfl) (fun w' O K hK => ?_), does_want rfl (by rfl) (fun w' O K hK => ?_), does_want rfl (by rfl) (fun w' O K hK => ?_), does_want rfl (by rfl) (fun w' O K hK => ?_), does_want rfl (by rfl) (fun w' O K hK => ?_), does_want rfl (by rfl) (fun w' O K hK => ?_), does_want rfl (by rfl) (fun w' O K hK => ?_), does_want rfl (by rfl) (fun w' O K hK => ?_), does_want rfl (by rfl) (fun w' O K hK => ?_), does_want rfl (by rfl) (fun w' O K hK => ?_), does_want rfl (by rfl) (fun w' O K hK => ?_), does_want rfl (by rfl) (fun w' O K hK => ?_), does_want rfl (by rfl) (fun w' O K hK => ?_), does_want rfl (by rfl) (fun w' O K hK => ?_), does_want rfl (by rfl) (fun w' O K hK => ?_), does_want rfl (by rfl) (fun w' O K hK => ?_), does_want rfl (by rfl) (fun w' O K hK => ?_), does_want rfl (by rfl) (fun w' O K hK => ?_), does_want rfl (by rfl) (fun w' O K hK => ?_), does_want rfl (by rfl) (fun w' O K hK => ?_), trivial⟩, fun w' O => ?_⟩
          · go_simp
            exact hK _ O
          · go_simp
            first | exact hK _ O | (simp only [kx]; exact hK _ O) | (simp only [kx2]; exact hK _ O)
          · go_simp
            exact hK _ O
          · go_simp
            exact hK _ O
          · exact wp_ino Try.underlying23 sizeOf3 (by decide) 0 rfl rfl rfl (by decide) (hK _ O)
          · exact wp_cell_h (v := .int .i64 c0) O 0 rfl Dc0.out rfl agg3 rfl (hK _ O)
          · go_simp
            exact hK _ O
          · go_simp
            exact hK _ O
          · go_simp
            simp only [WJ1_.out]
            exact hK _ O
          · exact wp_at_h Try.underlying35 sizeOfG (gE w.heap.size XA xc LX) (O.mem List.mem_cons_self) rfl j1 rfl HJ1_.out (BJ1_.out) rfl (hK _ O)
          · go_simp
            exact hK _ O
          · exact wp_ino Try.underlying23 sizeOf3 (by decide) 0 rfl rfl rfl (by decide) (hK _ O)
          · exact wp_ecell_h (gE w.heap.size XA xc LX) (O.mem List.mem_cons_self) (j1 * 8 + 3) (v := .int .i64 h0) Eh0.out (congrArg (fun z => Value.pointer (some z)) (add_fld _ (j1 * 8) 3 (by decide))) agg3 rfl (hK _ O)
          · go_simp
            first | exact hK _ O | (simp only [ka]; exact hK _ O)
          · go_simp
            exact hK _ O
          · go_simp
            exact hK _ O
          · exact wp_ino Try.underlying23 sizeOf3 (by decide) 0 rfl rfl rfl (by decide) (hK _ O)
          · exact wp_cell_h (v := .int .i64 c0) O 0 rfl Dc0.out rfl agg3 rfl (hK _ O)
          · go_simp
            exact hK _ O
          · go_simp
            exact hK _ O
          · go_simp
            simp only [WJ1_.out]
            exact hK _ O
          · exact wp_at_h Try.underlying35 sizeOfG (gE w.heap.size XA xc LX) (O.mem List.mem_cons_self) rfl j1 rfl HJ1_.out (BJ1_.out) rfl (hK _ O)
          · go_simp
            exact hK _ O
          · exact wp_ino Try.underlying23 sizeOf3 (by decide) 0 rfl rfl rfl (by decide) (hK _ O)
          · exact wp_ecell_h (gE w.heap.size XA xc LX) (O.mem List.mem_cons_self) (j1 * 8 + 3) (v := .int .i64 h0) Eh0.out (congrArg (fun z => Value.pointer (some z)) (add_fld _ (j1 * 8) 3 (by decide))) agg3 rfl (hK _ O)
          · go_simp
            simp only [WD_.out]
            exact hK _ O
          · go_simp
            exact hK _ O
          · go_simp
            first | (simp only [Q1.out]; exact hK _ O) | (simp only [Q1b.out]; exact hK _ O)
          · go_simp
            simp only [Q2.out]
            exact hK _ O
          · go_simp
            first | exact hK _ O | (simp only [kd]; exact hK _ O) | (simp only [kd2]; exact hK _ O)
          · go_simp
            exact hK _ O
          · go_simp
            exact hK _ O
          · go_simp
            exact hK _ O
          · exact wp_ino Try.underlying23 sizeOf3 (by decide) 1 rfl rfl rfl (by decide) (hK _ O)
          · exact wp_cell_h (v := .int .i64 c1) O 0 rfl Dc1.out rfl agg3 rfl (hK _ O)
          · go_simp
            exact hK _ O
          · go_simp
            exact hK _ O
          · go_simp
            simp only [WJ1_.out]
            exact hK _ O
          · exact wp_at_h Try.underlying35 sizeOfG (gE w.heap.size XA xc LX) (O.mem List.mem_cons_self) rfl j1 rfl HJ1_.out (BJ1_.out) rfl (hK _ O)
          · go_simp
            exact hK _ O
          · exact wp_ino Try.underlying23 sizeOf3 (by decide) 1 rfl rfl rfl (by decide) (hK _ O)
          · exact wp_ecell_h (gE w.heap.size XA xc LX) (O.mem List.mem_cons_self) (j1 * 8 + 4) (v := .int .i64 c1) Eh1.out (congrArg (fun z => Value.pointer (some z)) (add_fld _ (j1 * 8) 4 (by decide))) agg3 rfl (hK _ O)
          · go_simp
            first | exact hK _ O | (simp only [kc]; exact hK _ O) | (simp only [bne_self_eq_false]; exact hK _ O)
          · go_simp
            exact hK _ O
          · go_simp
            exact hK _ O
          · go_simp
            exact hK _ O
          · go_simp
            exact hK _ O
          · go_simp
            first | exact hK _ O | (simp only [ky]; exact hK _ O) | (simp only [ky2]; exact hK _ O)
          · go_simp
            exact hK _ O
          · go_simp
            exact hK _ O
          · exact wp_ino Try.underlying23 sizeOf3 (by decide) 1 rfl rfl rfl (by decide) (hK _ O)
          · exact wp_cell_h (v := .int .i64 c1) O 0 rfl Dc1.out rfl agg3 rfl (hK _ O)
          · go_simp
            exact hK _ O
          · go_simp
            exact hK _ O
          · go_simp
            exact hK _ O
          · go_simp
            simp only [WJ2_.out]
            exact hK _ O
          · exact wp_at_h Try.underlying35 sizeOfG (gE w.heap.size XA xc LX) (O.mem List.mem_cons_self) rfl j2 rfl HJ2_.out (BJ2_.out) rfl (hK _ O)
          · go_simp
            exact hK _ O
          · exact wp_ino Try.underlying23 sizeOf3 (by decide) 1 rfl rfl rfl (by decide) (hK _ O)
          · exact wp_ecell_h (gE w.heap.size XA xc LX) (O.mem List.mem_cons_self) (j2 * 8 + 4) (v := .int .i64 l1) El1.out (congrArg (fun z => Value.pointer (some z)) (add_fld _ (j2 * 8) 4 (by decide))) agg3 rfl (hK _ O)
          · go_simp
            first | exact hK _ O | (simp only [kl]; exact hK _ O)
          · go_simp
            exact hK _ O
          · go_simp
            exact hK _ O
          · exact wp_ino Try.underlying23 sizeOf3 (by decide) 0 rfl rfl rfl (by decide) (hK _ O)
          · exact wp_cell_h (v := .int .i64 c0) O 0 rfl Dc0.out rfl agg3 rfl (hK _ O)
          · go_simp
            exact hK _ O
          · go_simp
            exact hK _ O
          · go_simp
            exact hK _ O
          · go_simp
            simp only [WJ2_.out]
            exact hK _ O
          · exact wp_at_h Try.underlying35 sizeOfG (gE w.heap.size XA xc LX) (O.mem List.mem_cons_self) rfl j2 rfl HJ2_.out (BJ2_.out) rfl (hK _ O)
          · go_simp
            exact hK _ O
          · exact wp_ino Try.underlying23 sizeOf3 (by decide) 0 rfl rfl rfl (by decide) (hK _ O)
          · exact wp_ecell_h (gE w.heap.size XA xc LX) (O.mem List.mem_cons_self) (j2 * 8 + 3) (v := .int .i64 c0) El0.out (congrArg (fun z => Value.pointer (some z)) (add_fld _ (j2 * 8) 3 (by decide))) agg3 rfl (hK _ O)
          · go_simp
            first | exact hK _ O | (simp only [kc0]; exact hK _ O) | (simp only [bne_self_eq_false]; exact hK _ O)
          · go_simp
            exact hK _ O
          · go_simp
            exact hK _ O
          refine wpAny_one (i := 76) (by kernel_rfl) rfl (fun K hK => ?_)
          go_simp
          refine hK _ _ ?_
          clear hK K
          try simp only [Act.put, List.setIfInBounds_toArray, List.set_cons_zero, List.set_cons_succ]
          refine wpAny_done (by kernel_rfl) ?_ _
          clear kx kx2 ky ky2
          go_wp2_with fail
          go_roundw
          case rel => exact ⟨i + 1, by omega, by go_num, O.tail⟩
          case measure => first | exact meas_lt Wi hlt | exact meas_lt2 hlt
        · obtain ⟨g, hg, ⟨g1, g2_⟩, g3⟩ := hleft (by omega)
          obtain ⟨j1, hj1⟩ : ∃ j, i - 1 = j := ⟨_, rfl⟩
          rw [hj1] at hg
          obtain ⟨J1_, HJ⟩ : ∃ z, (i : Int) - 1 = z := ⟨_, rfl⟩
          have WJ1_ : Hid (IntKind.i64.wrap ((i : Int) - 1) = J1_) := Lib.hid ((IntWalk.i64_in _ (by omega)).trans HJ)
          have HJ1_ : Hid (J1_ = (j1 : Int)) := Lib.hid (by omega)
          have BJ1_ : Hid (j1 < LX.length) := Lib.hid (by omega)
          obtain ⟨h0, eh0⟩ : ∃ z, g 3 = z := ⟨_, rfl⟩
          rw [eh0] at g1 g2_
          have Eh0 : Hid ((gC LX)[j1 * 8 + 3]? = some (.int .i64 h0)) := Lib.hid (by rw [← eh0]; exact gC_at hg 3 _ rfl)
          have Eh1 : Hid ((gC LX)[j1 * 8 + 4]? = some (.int .i64 c1)) := Lib.hid (by rw [← g3]; exact gC_at hg 4 _ rfl)
          obtain ⟨d, hd⟩ : ∃ z, c0 - h0 = z := ⟨_, rfl⟩
          rw [hd] at g2_
          have hdb : 0 ≤ d ∧ d ≤ 1000 := by have := HQB.out; omega
          have WD_ : Hid (IntKind.i64.wrap (c0 - h0) = d) := Lib.hid ((IntWalk.i64_in _ (by omega)).trans hd)
          have ka : decide (c0 < h0) = false := decide_eq_false (by omega)
          have kd : decide (d > q2) = false := decide_eq_false (by omega)
          have kd2 : decide (q2 < d) = false := decide_eq_false (by omega)
          have kc : (c1 != c1) = false := by simp
          clear hg hj1 HJ g1 g2_ g3 eh0 hd hdb
          have kx : decide (x > 0) = true := by simp; omega
          have kx2 : decide (0 < x) = true := by simp; omega
          have ky : decide (y > 0) = false := by simp; omega
          have ky2 : decide (0 < y) = false := by simp; omega
          clear hleft hbelow hx hy hx2 hy2 hyb hf f5 f6 hc0 hc1 ec0 ec1 hsS hSb hlen hmul hib hxy hcx hcy hmi hdi hSi
          go_wp2_with (first | ((with_reducible refine at_index_ 35 ?_); refine wpList_at_h rfl Try.underlying35 sizeOfG ((gE w.heap.size XA xc LX)) (O.mem List.mem_cons_self) rfl i rfl (by first | rfl | omega) (hlt) (rfl) ?_) | ((with_reducible refine at_load 36 ?_); refine wpList_elem_h rfl _ (O.mem List.mem_cons_self) (i * 8) (M.mat 8 f) (gC_at HF.out) (by rw [M.mat_len]; decide) rfl Try.underlying40 rfl (sG _) ?_) | ((with_reducible refine at_alloc 7 ?_); refine wpList_alloc_h O (M.mat 8 M.zero) zeroG ?_; clear O; intro g7 y1w O) | ((with_reducible refine at_store 7 ?_); refine wpList_put_h O 0 (M.mat 8 (f)) rfl rfl rfl (sG _) (M.mat_len2 _ _ _) (M.mat_one _ _) ?_; clear O; intro y2w O) | ((with_reducible refine at_index_ 38 ?_); refine wpList_ino rfl Try.underlying23 sizeOf3 (by decide) (0) rfl rfl (rfl) (by decide) ?_) | ((with_reducible refine at_load 39 ?_); refine wpList_cell_h (v := .int .i64 c0) rfl O 0 rfl Dc0.out rfl agg3 rfl ?_) | ((with_reducible refine at_index_ 43 ?_); refine wpList_ino rfl Try.underlying23 sizeOf3 (by decide) (0) rfl rfl (rfl) (by decide) ?_) | ((with_reducible refine at_load 44 ?_); refine wpList_cell_h (v := .int .i64 c0) rfl O 0 rfl Dc0.out rfl agg3 rfl ?_) | ((with_reducible refine at_index_ 49 ?_); refine wpList_ino rfl Try.underlying23 sizeOf3 (by decide) (1) rfl rfl (rfl) (by decide) ?_) | ((with_reducible refine at_load 50 ?_); refine wpList_cell_h (v := .int .i64 c1) rfl O 0 rfl Dc1.out rfl agg3 rfl ?_) | ((with_reducible refine at_index_ 55 ?_); refine wpList_ino rfl Try.underlying23 sizeOf3 (by decide) (1) rfl rfl (rfl) (by decide) ?_) | ((with_reducible refine at_load 56 ?_); refine wpList_cell_h (v := .int .i64 c1) rfl O 0 rfl Dc1.out rfl agg3 rfl ?_) | ((with_reducible refine at_index_ 61 ?_); refine wpList_ino rfl Try.underlying23 sizeOf3 (by decide) (2) rfl rfl (rfl) (by decide) ?_) | ((with_reducible refine at_load 62 ?_); refine wpList_cell_h (v := .int .i64 v5) rfl O 0 rfl Dc2.out rfl agg3 rfl ?_) | ((with_reducible refine at_index_ 64 ?_); refine wpList_ino rfl Try.underlying23 sizeOf3 (by decide) (2) rfl rfl (rfl) (by decide) ?_) | ((with_reducible refine at_load 65 ?_); refine wpList_cell_h (v := .int .i64 v5) rfl O 1 rfl Cv5.out rfl agg3 rfl ?_) | ((with_reducible refine at_index_ 70 ?_); refine wpList_ino rfl Try.underlying23 sizeOf3 (by decide) (3) rfl rfl (rfl) (by decide) ?_) | ((with_reducible refine at_load 71 ?_); refine wpList_cell_h (v := .int .i64 v6) rfl O 0 rfl Dc3.out rfl agg3 rfl ?_) | ((with_reducible refine at_index_ 73 ?_); refine wpList_ino rfl Try.underlying23 sizeOf3 (by decide) (3) rfl rfl (rfl) (by decide) ?_) | ((with_reducible refine at_load 74 ?_); refine wpList_cell_h (v := .int .i64 v6) rfl O 1 rfl Cv6.out rfl agg3 rfl ?_))
          clear J0 J1 J1b J2 J3 J3b J4 J5
          have OX : Held w _ ((g7, 40, M.mat 8 f) :: [(g2, 25, M.mat 7 v)]) nilRow [gE w.heap.size XA xc LX] := O
          clear O
          have O := OX
          clear OX
          refine region_T ((fun w2 => Held w w2 ((g7, 40, M.mat 8 f) :: [(g2, 25, M.mat 7 v)]) nilRow [gE w.heap.size XA xc LX])) [0, 1, 2, 3, 4, 5, 6] 12 [some 77, some 78, some 79, some 80, some 81, some 82, some 8] [.int .i64 (i : Int), .int .i64 (s), .int .i64 (x), .int .i64 (i : Int), .int .i64 (s), .int .i64 (y), .int .i64 (x)] 1 (by kernel_rfl) (by rfl) (by kernel_rfl) (by rfl) (by rfl) (O.drew) (fun F hF => ?_)
          simp only [fillD, Act.put, List.setIfInBounds_toArray, List.set_cons_zero, List.set_cons_succ] at hF
          subst hF
          refine ⟨⟨does_want rfl (by rfl) (fun w' O K hK => ?_), does_want rfl (by rfl) (fun w' O K hK => ?_), does_want rfl (by rfl) (fun w' O K hK => ?_), does_want rfl (by rfl) (fun w' O K hK => ?_), does_want rfl (by rfl) (fun w' O K hK => ?_), does_want rfl (by rfl) (fun w' O K hK => ?_), does_want rfl (by rfl) (fun w' O K hK => ?_), trivial⟩, fun w' O => ?_⟩
          · go_simp
            exact hK _ O
          · go_simp
            exact hK _ O
          · go_simp
            first | (simp only [HX.out]; exact hK _ O) | (simp only [HX2.out]; exact hK _ O)
          · go_simp
            exact hK _ O
          · go_simp
            exact hK _ O
          · go_simp
            first | (simp only [HY2.out]; exact hK _ O) | (simp only [HY.out]; exact hK _ O)
          · go_simp
            exact hK _ O
          refine wpAny_one (i := 7) (by kernel_rfl) rfl (fun K hK => ?_)
          go_simp
          refine hK _ _ ?_
          clear hK K
          try simp only [Act.put, List.setIfInBounds_toArray, List.set_cons_zero, List.set_cons_succ]
          refine wpAny_done (by kernel_rfl) ?_ _
          clear HX HY HX2 HY2
          go_wp2_with fail
          have OO := O
          clear O
          have O := OO
          clear OO
          try simp only [List.append_eq, List.cons_append, List.nil_append]
          refine region_T ((fun w2 => Held w w2 ((g7, 40, M.mat 8 f) :: [(g2, 25, M.mat 7 v)]) nilRow [gE w.heap.size XA xc LX])) [0, 1, 2, 3, 4, 5, 6, 7, 8, 9, 10, 11, 12, 13, 14, 15, 16, 17, 18, 19, 20, 21, 22, 23, 24, 25, 26, 27, 28, 29, 30, 31, 32, 33, 34, 35, 36, 37, 38, 39, 40, 41, 42, 43, 44, 45, 46, 47, 48, 49, 50, 51, 52, 53, 54, 55, 56, 57, 58, 59, 60, 61, 62, 63, 64, 65, 66, 67, 68, 69, 70, 71, 72, 73, 74, 75] 12 [some 83, some 84, some 85, some 86, some 87, some 88, some 89, some 90, some 91, some 92, some 93, some 94, some 95, some 96, some 97, some 98, some 99, some 100, some 101, some 102, some 103, some 104, some 105, some 106, some 107, some 108, some 109, some 110, some 111, some 112, some 113, some 114, some 115, some 116, some 117, some 118, some 119, some 120, some 121, some 122, some 123, some 124, some 125, some 126, some 127, some 128, some 129, some 130, some 131, some 132, some 133, some 134, some 135, some 136, some 137, some 138, some 139, some 140, some 141, some 142, some 143, some 144, some 145, some 146, some 147, some 148, some 149, some 150, some 151, some 152, some 153, some 154, some 155, some 156, some 157, some 158] [.int .i64 (x), .bool true, .bool true, .pointer (some ⟨g7, 3, none⟩), .pointer (some ⟨g7, 3, none⟩), .int .i64 (c0), .slice XA LX.length xc, .int .i64 (i : Int), .int .i64 (J1_), .pointer (some ((adr XA).add (j1 * 8))), .pointer (some ⟨((adr XA).add (j1 * 8)).block, ((adr XA).add (j1 * 8)).off + 3, none⟩), .pointer (some ⟨((adr XA).add (j1 * 8)).block, ((adr XA).add (j1 * 8)).off + 3, none⟩), .int .i64 (h0), .bool false, .bool false, .pointer (some ⟨g7, 3, none⟩), .pointer (some ⟨g7, 3, none⟩), .int .i64 (c0), .slice XA LX.length xc, .int .i64 (i : Int), .int .i64 (J1_), .pointer (some ((adr XA).add (j1 * 8))), .pointer (some ⟨((adr XA).add (j1 * 8)).block, ((adr XA).add (j1 * 8)).off + 3, none⟩), .pointer (some ⟨((adr XA).add (j1 * 8)).block, ((adr XA).add (j1 * 8)).off + 3, none⟩), .int .i64 (h0), .int .i64 (d), .int .i64 (s), .int .i64 (q1), .int .i64 (q2), .bool false, .bool false, .bool false, .pointer (some ⟨g7, 3, none⟩), .pointer (some ⟨g7, 4, none⟩), .int .i64 (c1), .slice XA LX.length xc, .int .i64 (i : Int), .int .i64 (J1_), .pointer (some ((adr XA).add (j1 * 8))), .pointer (some ⟨((adr XA).add (j1 * 8)).block, ((adr XA).add (j1 * 8)).off + 3, none⟩), .pointer (some ⟨((adr XA).add (j1 * 8)).block, ((adr XA).add (j1 * 8)).off + 4, none⟩), .int .i64 (c1), .bool false, .bool false, .bool false, .bool false, .int .i64 (y), .bool false, .bool false, undef, undef, undef, undef, undef, undef, undef, undef, undef, undef, undef, undef, undef, undef, undef, undef, undef, undef, undef, undef, undef, undef, undef, undef, undef, undef, .bool false] 1 (by kernel_rfl) (by rfl) (by kernel_rfl) (by rfl) (by rfl) (O.drew) (fun F hF => ?_)
          simp only [fillD, Act.put, List.setIfInBounds_toArray, List.set_cons_zero, List.set_cons_succ] at hF
          subst hF
          refine ⟨⟨does_want rfl (by rfl) (fun w' O K hK => ?_), does_want rfl (by rfl) (fun w' O K hK => ?_), does_want rfl (by rfl) (fun w' O K hK => ?_), does_want rfl (by rfl) (fun w' O K hK => ?_), does_want rfl (by rfl) (fun w' O K hK => ?_), does_want rfl (by rfl) (fun w' O K hK => ?_), does_want rfl (by rfl) (fun w' O K hK => ?_), does_want rfl (by rfl) (fun w' O K hK => ?_), does_want rfl (by rfl) (fun w' O K hK => ?_), does_want rfl (by rfl) (fun w' O K hK => ?_), does_want rfl (by rfl) (fun w' O K hK => ?_), does_want rfl (by rfl) (fun w' O K hK => ?_), does_want rfl (by rfl) (fun w' O K hK => ?_), does_want rfl (by rfl) (fun w' O K hK => ?_), does_want rfl (by rfl) (fun w' O K hK => ?_), does_want rfl (by rfl) (fun w' O K hK => ?_), does_want rfl (by rfl) (fun w' O K hK => ?_), does_want rfl (by rfl) (fun w' O K hK => ?_), does_want rfl (by rfl) (fun w' O K hK => ?_), does_want rfl (by rfl) (fun w' O K hK => ?_), does_want rfl (by rfl) (fun w' O K hK => ?_), does_want rfl (by rfl) (fun w' O K hK => ?_), does_want rfl (by rfl) (fun w' O K hK => ?_), does_want rfl (by rfl) (fun w' O K hK => ?_), does_want rfl (by rfl) (fun w' O K hK => ?_), does_want rfl (by rfl) (fun w' O K hK => ?_), does_want rfl (by rfl) (fun w' O K hK => ?_), does_want rfl (by rfl) (fun w' O K hK => ?_), does_want rfl (by rfl) (fun w' O K hK => ?_), does_want rfl (by rfl) (fun w' O K hK => ?_), does_want rfl (by rfl) (fun w' O K hK => ?_), does_want rfl (by rfl) (fun w' O K hK => ?_), does_want rfl (by rfl) (fun w' O K hK => ?_), does_want rfl (by rfl) (fun w' O K hK => ?_), does_want rfl (by rfl) (fun w' O K hK => ?_), does_want rfl (by rfl) (fun w' O K hK => ?_), does_want rfl (by rfl) (fun w' O K hK => ?_), does_want rfl (by rfl) (fun w' O K hK => ?_), does_want rfl (by rfl) (fun w' O K hK => ?_), does_want rfl (by rfl) (fun w' O K hK => ?_), does_want rfl (by rfl) (fun w' O K hK => ?_), does_want rfl (by rfl) (fun w' O K hK => ?_), does_want rfl (by rfl) (fun w' O K hK => ?_), does_want rfl (by rfl) (fun w' O K hK => ?_), does_want rfl (by rfl) (fun w' O K hK => ?_), does_want rfl (by rfl) (fun w' O K hK => ?_), does_want rfl (by rfl) (fun w' O K hK => ?_), does_want rfl (by rfl) (fun w' O K hK => ?_), does_want rfl (by rfl) (fun w' O K hK => ?_), does_skip rfl (by rfl), does_skip rfl (by rfl), does_skip rfl (by rfl), does_skip rfl (by rfl), does_skip rfl (by rfl), does_skip rfl (by rfl), does_skip rfl (by rfl), does_skip rfl (by rfl), does_skip rfl (by rfl), does_skip rfl (by rfl), does_skip rfl (by rfl), does_skip rfl (by rfl), does_skip rfl (by rfl), does_skip rfl (by rfl), does_skip rfl (by rfl), does_skip rfl (by rfl), does_skip rfl (by rfl), does_skip rfl (by rfl), does_skip rfl (by rfl), does_skip rfl (by rfl), does_skip rfl (by rfl), does_skip rfl (by rfl), does_skip rfl (by rfl), does_skip rfl (by rfl), does_skip rfl (by rfl), does_skip rfl (by rfl), does_want rfl (by rfl) (fun w' O K hK => ?_), trivial⟩, fun w' O => ?_⟩
          · go_simp
            exact hK _ O
          · go_simp
            first | exact hK _ O | (simp only [kx]; exact hK _ O) | (simp only [kx2]; exact hK _ O)
          · go_simp
            exact hK _ O
          · go_simp
            exact hK _ O
          · exact wp_ino Try.underlying23 sizeOf3 (by decide) 0 rfl rfl rfl (by decide) (hK _ O)
          · exact wp_cell_h (v := .int .i64 c0) O 0 rfl Dc0.out rfl agg3 rfl (hK _ O)
          · go_simp
            exact hK _ O
          · go_simp
            exact hK _ O
          · go_simp
            simp only [WJ1_.out]
            exact hK _ O
          · exact wp_at_h Try.underlying35 sizeOfG (gE w.heap.size XA xc LX) (O.mem List.mem_cons_self) rfl j1 rfl HJ1_.out (BJ1_.out) rfl (hK _ O)
          · go_simp
            exact hK _ O
          · exact wp_ino Try.underlying23 sizeOf3 (by decide) 0 rfl rfl rfl (by decide) (hK _ O)
          · exact wp_ecell_h (gE w.heap.size XA xc LX) (O.mem List.mem_cons_self) (j1 * 8 + 3) (v := .int .i64 h0) Eh0.out (congrArg (fun z => Value.pointer (some z)) (add_fld _ (j1 * 8) 3 (by decide))) agg3 rfl (hK _ O)
          · go_simp
            first | exact hK _ O | (simp only [ka]; exact hK _ O)
          · go_simp
            exact hK _ O
          · go_simp
            exact hK _ O
          · exact wp_ino Try.underlying23 sizeOf3 (by decide) 0 rfl rfl rfl (by decide) (hK _ O)
          · exact wp_cell_h (v := .int .i64 c0) O 0 rfl Dc0.out rfl agg3 rfl (hK _ O)
          · go_simp
            exact hK _ O
          · go_simp
            exact hK _ O
          · go_simp
            simp only [WJ1_.out]
            exact hK _ O
          · exact wp_at_h Try.underlying35 sizeOfG (gE w.heap.size XA xc LX) (O.mem List.mem_cons_self) rfl j1 rfl HJ1_.out (BJ1_.out) rfl (hK _ O)
          · go_simp
            exact hK _ O
          · exact wp_ino Try.underlying23 sizeOf3 (by decide) 0 rfl rfl rfl (by decide) (hK _ O)
          · exact wp_ecell_h (gE w.heap.size XA xc LX) (O.mem List.mem_cons_self) (j1 * 8 + 3) (v := .int .i64 h0) Eh0.out (congrArg (fun z => Value.pointer (some z)) (add_fld _ (j1 * 8) 3 (by decide))) agg3 rfl (hK _ O)
          · go_simp
            simp only [WD_.out]
            exact hK _ O
          · go_simp
            exact hK _ O
          · go_simp
            first | (simp only [Q1.out]; exact hK _ O) | (simp only [Q1b.out]; exact hK _ O)
          · go_simp
            simp only [Q2.out]
            exact hK _ O
          · go_simp
            first | exact hK _ O | (simp only [kd]; exact hK _ O) | (simp only [kd2]; exact hK _ O)
          · go_simp
            exact hK _ O
          · go_simp
            exact hK _ O
          · go_simp
            exact hK _ O
          · exact wp_ino Try.underlying23 sizeOf3 (by decide) 1 rfl rfl rfl (by decide) (hK _ O)
          · exact wp_cell_h (v := .int .i64 c1) O 0 rfl Dc1.out rfl agg3 rfl (hK _ O)
          · go_simp
            exact hK _ O
          · go_simp
            exact hK _ O
          · go_simp
            simp only [WJ1_.out]
            exact hK _ O
          · exact wp_at_h Try.underlying35 sizeOfG (gE w.heap.size XA xc LX) (O.mem List.mem_cons_self) rfl j1 rfl HJ1_.out (BJ1_.out) rfl (hK _ O)
          · go_simp
            exact hK _ O
          · exact wp_ino Try.underlying23 sizeOf3 (by decide) 1 rfl rfl rfl (by decide) (hK _ O)
          · exact wp_ecell_h (gE w.heap.size XA xc LX) (O.mem List.mem_cons_self) (j1 * 8 + 4) (v := .int .i64 c1) Eh1.out (congrArg (fun z => Value.pointer (some z)) (add_fld _ (j1 * 8) 4 (by decide))) agg3 rfl (hK _ O)
          · go_simp
            first | exact hK _ O | (simp only [kc]; exact hK _ O) | (simp only [bne_self_eq_false]; exact hK _ O)
          · go_simp
            exact hK _ O
          · go_simp
            exact hK _ O
          · go_simp
            exact hK _ O
          · go_simp
            exact hK _ O
          · go_simp
            first | exact hK _ O | (simp only [ky]; exact hK _ O) | (simp only [ky2]; exact hK _ O)
          · go_simp
            exact hK _ O
          · go_simp
            exact hK _ O
          refine wpAny_one (i := 76) (by kernel_rfl) rfl (fun K hK => ?_)
          go_simp
          refine hK _ _ ?_
          clear hK K
          try simp only [Act.put, List.setIfInBounds_toArray, List.set_cons_zero, List.set_cons_succ]
          refine wpAny_done (by kernel_rfl) ?_ _
          clear kx kx2 ky ky2
          go_wp2_with fail
          go_roundw
          case rel => exact ⟨i + 1, by omega, by go_num, O.tail⟩
          case measure => first | exact meas_lt Wi hlt | exact meas_lt2 hlt
      · by_cases hcy : 0 < y
        · have b0 := hSi (by omega)
          obtain ⟨g, hg, g1, g3⟩ := hbelow (by omega)
          obtain ⟨j2, hj2⟩ : ∃ j, i - S = j := ⟨_, rfl⟩
          rw [hj2] at hg
          obtain ⟨J2_, HJ⟩ : ∃ z, (i : Int) - s = z := ⟨_, rfl⟩
          have WJ2_ : Hid (IntKind.i64.wrap ((i : Int) - s) = J2_) := Lib.hid ((IntWalk.i64_in _ (by omega)).trans HJ)
          have HJ2_ : Hid (J2_ = (j2 : Int)) := Lib.hid (by omega)
          have BJ2_ : Hid (j2 < LX.length) := Lib.hid (by omega)
          obtain ⟨l1, el1⟩ : ∃ z, g 4 = z := ⟨_, rfl⟩
          rw [el1] at g1
          have El1 : Hid ((gC LX)[j2 * 8 + 4]? = some (.int .i64 l1)) := Lib.hid (by rw [← el1]; exact gC_at hg 4 _ rfl)
          have El0 : Hid ((gC LX)[j2 * 8 + 3]? = some (.int .i64 c0)) := Lib.hid (by rw [← g3]; exact gC_at hg 3 _ rfl)
          have kl : decide (c1 < l1) = false := decide_eq_false (by omega)
          have kc0 : (c0 != c0) = false := by simp
          clear hg hj2 HJ b0 g1 g3 el1
          have kx : decide (x > 0) = false := by simp; omega
          have kx2 : decide (0 < x) = false := by simp; omega
          have ky : decide (y > 0) = true := by simp; omega
          have ky2 : decide (0 < y) = true := by simp; omega
          clear hleft hbelow hx hy hx2 hy2 hyb hf f5 f6 hc0 hc1 ec0 ec1 hsS hSb hlen hmul hib hxy hcx hcy hmi hdi hSi
          go_wp2_with (first | ((with_reducible refine at_index_ 35 ?_); refine wpList_at_h rfl Try.underlying35 sizeOfG ((gE w.heap.size XA xc LX)) (O.mem List.mem_cons_self) rfl i rfl (by first | rfl | omega) (hlt) (rfl) ?_) | ((with_reducible refine at_load 36 ?_); refine wpList_elem_h rfl _ (O.mem List.mem_cons_self) (i * 8) (M.mat 8 f) (gC_at HF.out) (by rw [M.mat_len]; decide) rfl Try.underlying40 rfl (sG _) ?_) | ((with_reducible refine at_alloc 7 ?_); refine wpList_alloc_h O (M.mat 8 M.zero) zeroG ?_; clear O; intro g7 y1w O) | ((with_reducible refine at_store 7 ?_); refine wpList_put_h O 0 (M.mat 8 (f)) rfl rfl rfl (sG _) (M.mat_len2 _ _ _) (M.mat_one _ _) ?_; clear O; intro y2w O) | ((with_reducible refine at_index_ 38 ?_); refine wpList_ino rfl Try.underlying23 sizeOf3 (by decide) (0) rfl rfl (rfl) (by decide) ?_) | ((with_reducible refine at_load 39 ?_); refine wpList_cell_h (v := .int .i64 c0) rfl O 0 rfl Dc0.out rfl agg3 rfl ?_) | ((with_reducible refine at_index_ 43 ?_); refine wpList_ino rfl Try.underlying23 sizeOf3 (by decide) (0) rfl rfl (rfl) (by decide) ?_) | ((with_reducible refine at_load 44 ?_); refine wpList_cell_h (v := .int .i64 c0) rfl O 0 rfl Dc0.out rfl agg3 rfl ?_) | ((with_reducible refine at_index_ 49 ?_); refine wpList_ino rfl Try.underlying23 sizeOf3 (by decide) (1) rfl rfl (rfl) (by decide) ?_) | ((with_reducible refine at_load 50 ?_); refine wpList_cell_h (v := .int .i64 c1) rfl O 0 rfl Dc1.out rfl agg3 rfl ?_) | ((with_reducible refine at_index_ 55 ?_); refine wpList_ino rfl Try.underlying23 sizeOf3 (by decide) (1) rfl rfl (rfl) (by decide) ?_) | ((with_reducible refine at_load 56 ?_); refine wpList_cell_h (v := .int .i64 c1) rfl O 0 rfl Dc1.out rfl agg3 rfl ?_) | ((with_reducible refine at_index_ 61 ?_); refine wpList_ino rfl Try.underlying23 sizeOf3 (by decide) (2) rfl rfl (rfl) (by decide) ?_) | ((with_reducible refine at_load 62 ?_); refine wpList_cell_h (v := .int .i64 v5) rfl O 0 rfl Dc2.out rfl agg3 rfl ?_) | ((with_reducible refine at_index_ 64 ?_); refine wpList_ino rfl Try.underlying23 sizeOf3 (by decide) (2) rfl rfl (rfl) (by decide) ?_) | ((with_reducible refine at_load 65 ?_); refine wpList_cell_h (v := .int .i64 v5) rfl O 1 rfl Cv5.out rfl agg3 rfl ?_) | ((with_reducible refine at_index_ 70 ?_); refine wpList_ino rfl Try.underlying23 sizeOf3 (by decide) (3) rfl rfl (rfl) (by decide) ?_) | ((with_reducible refine at_load 71 ?_); refine wpList_cell_h (v := .int .i64 v6) rfl O 0 rfl Dc3.out rfl agg3 rfl ?_) | ((with_reducible refine at_index_ 73 ?_); refine wpList_ino rfl Try.underlying23 sizeOf3 (by decide) (3) rfl rfl (rfl) (by decide) ?_) | ((with_reducible refine at_load 74 ?_); refine wpList_cell_h (v := .int .i64 v6) rfl O 1 rfl Cv6.out rfl agg3 rfl ?_))
          clear J0 J1 J1b J2 J3 J3b J4 J5
          have OX : Held w _ ((g7, 40, M.mat 8 f) :: [(g2, 25, M.mat 7 v)]) nilRow [gE w.heap.size XA xc LX] := O
          clear O
          have O := OX
          clear OX
          refine region_T ((fun w2 => Held w w2 ((g7, 40, M.mat 8 f) :: [(g2, 25, M.mat 7 v)]) nilRow [gE w.heap.size XA xc LX])) [0, 1, 2, 3, 4, 5, 6] 12 [some 77, some 78, some 79, some 80, some 81, some 82, some 8] [.int .i64 (i : Int), .int .i64 (s), .int .i64 (x), .int .i64 (i : Int), .int .i64 (s), .int .i64 (y), .int .i64 (x)] 1 (by kernel_rfl) (by rfl) (by kernel_rfl) (by rfl) (by rfl) (O.drew) (fun F hF => ?_)
          simp only [fillD, Act.put, List.setIfInBounds_toArray, List.set_cons_zero, List.set_cons_succ] at hF
          subst hF
          refine ⟨⟨does_want rfl (by rfl) (fun w' O K hK => ?_), does_want rfl (by rfl) (fun w' O K hK => ?_), does_want rfl (by rfl) (fun w' O K hK => ?_), does_want rfl (by rfl) (fun w' O K hK => ?_), does_want rfl (by rfl) (fun w' O K hK => ?_), does_want rfl (by rfl) (fun w' O K hK => ?_), does_want rfl (by rfl) (fun w' O K hK => ?_), trivial⟩, fun w' O => ?_⟩
          · go_simp
            exact hK _ O
          · go_simp
            exact hK _ O
          · go_simp
            first | (simp only [HX.out]; exact hK _ O) | (simp only [HX2.out]; exact hK _ O)
          · go_simp
            exact hK _ O
          · go_simp
            exact hK _ O
          · go_simp
            first | (simp only [HY2.out]; exact hK _ O) | (simp only [HY.out]; exact hK _ O)
          · go_simp
            exact hK _ O
          refine wpAny_one (i := 7) (by kernel_rfl) rfl (fun K hK => ?_)
          go_simp
          refine hK _ _ ?_
          clear hK K
          try simp only [Act.put, List.setIfInBounds_toArray, List.set_cons_zero, List.set_cons_succ]
          refine wpAny_done (by kernel_rfl) ?_ _
          clear HX HY HX2 HY2
          go_wp2_with fail
          have OO := O
          clear O
          have O := OO
          clear OO
          try simp only [List.append_eq, List.cons_append, List.nil_append]
          refine region_T ((fun w2 => Held w w2 ((g7, 40, M.mat 8 f) :: [(g2, 25, M.mat 7 v)]) nilRow [gE w.heap.size XA xc LX])) [0, 1, 2, 3, 4, 5, 6, 7, 8, 9, 10, 11, 12, 13, 14, 15, 16, 17, 18, 19, 20, 21, 22, 23, 24, 25, 26, 27, 28, 29, 30, 31, 32, 33, 34, 35, 36, 37, 38, 39, 40, 41, 42, 43, 44, 45, 46, 47, 48, 49, 50, 51, 52, 53, 54, 55, 56, 57, 58, 59, 60, 61, 62, 63, 64, 65, 66, 67, 68, 69, 70, 71, 72, 73, 74, 75] 12 [some 83, some 84, some 85, some 86, some 87, some 88, some 89, some 90, some 91, some 92, some 93, some 94, some 95, some 96, some 97, some 98, some 99, some 100, some 101, some 102, some 103, some 104, some 105, some 106, some 107, some 108, some 109, some 110, some 111, some 112, some 113, some 114, some 115, some 116, some 117, some 118, some 119, some 120, some 121, some 122, some 123, some 124, some 125, some 126, some 127, some 128, some 129, some 130, some 131, some 132, some 133, some 134, some 135, some 136, some 137, some 138, some 139, some 140, some 141, some 142, some 143, some 144, some 145, some 146, some 147, some 148, some 149, some 150, some 151, some 152, some 153, some 154, some 155, some 156, some 157, some 158] [.int .i64 (x), .bool false, .bool false, undef, undef, undef, undef, undef, undef, undef, undef, undef, undef, undef, undef, undef, undef, undef, undef, undef, undef, undef, undef, undef, undef, undef, undef, undef, undef, undef, undef, undef, undef, undef, undef, undef, undef, undef, undef, undef, undef, undef, undef, undef, .bool false, .bool false, .int .i64 (y), .bool true, .bool true, .pointer (some ⟨g7, 3, none⟩), .pointer (some ⟨g7, 4, none⟩), .int .i64 (c1), .slice XA LX.length xc, .int .i64 (i : Int), .int .i64 (s), .int .i64 (J2_), .pointer (some ((adr XA).add (j2 * 8))), .pointer (some ⟨((adr XA).add (j2 * 8)).block, ((adr XA).add (j2 * 8)).off + 3, none⟩), .pointer (some ⟨((adr XA).add (j2 * 8)).block, ((adr XA).add (j2 * 8)).off + 4, none⟩), .int .i64 (l1), .bool false, .bool false, .pointer (some ⟨g7, 3, none⟩), .pointer (some ⟨g7, 3, none⟩), .int .i64 (c0), .slice XA LX.length xc, .int .i64 (i : Int), .int .i64 (s), .int .i64 (J2_), .pointer (some ((adr XA).add (j2 * 8))), .pointer (some ⟨((adr XA).add (j2 * 8)).block, ((adr XA).add (j2 * 8)).off + 3, none⟩), .pointer (some ⟨((adr XA).add (j2 * 8)).block, ((adr XA).add (j2 * 8)).off + 3, none⟩), .int .i64 (c0), .bool false, .bool false, .bool false] 1 (by kernel_rfl) (by rfl) (by kernel_rfl) (by rfl) (by rfl) (O.drew) (fun F hF => ?_)
          simp only [fillD, Act.put, List.setIfInBounds_toArray, List.set_cons_zero, List.set_cons_succ] at hF
          subst hF
          refine ⟨⟨does_want rfl (by rfl) (fun w' O K hK => ?_), does_want rfl (by rfl) (fun w' O K hK => ?_), does_want rfl (by rfl) (fun w' O K hK => ?_), does_skip rfl (by rfl), does_skip rfl (by rfl), does_skip rfl (by rfl), does_skip rfl (by rfl), does_skip rfl (by rfl), does_skip rfl (by rfl), does_skip rfl (by rfl), does_skip rfl (by rfl), does_skip rfl (by rfl), does_skip rfl (by rfl), does_skip rfl (by rfl), does_skip rfl (by rfl), does_skip rfl (by rfl), does_skip rfl (by rfl), does_skip rfl (by rfl), does_skip rfl (by rfl), does_skip rfl (by rfl), does_skip rfl (by rfl), does_skip rfl (by rfl), does_skip rfl (by rfl), does_skip rfl (by rfl), does_skip rfl (by rfl), does_skip rfl (by rfl), does_skip rfl (by rfl), does_skip rfl (by rfl), does_skip rfl (by rfl), does_skip rfl (by rfl), does_skip rfl (by rfl), does_skip rfl (by rfl), does_skip rfl (by rfl), does_skip rfl (by rfl), does_skip rfl (by rfl), does_skip rfl (by rfl), does_skip rfl (by rfl), does_skip rfl (by rfl), does_skip rfl (by rfl), does_skip rfl (by rfl), does_skip rfl (by rfl), does_skip rfl (by rfl), does_skip rfl (by rfl), does_skip rfl (by rfl), does_want rfl (by rfl) (fun w' O K hK => ?_), does_want rfl (by rfl) (fun w' O K hK => ?_), does_want rfl (by rfl) (fun w' O K hK => ?_), does_want rfl (by rfl) (fun w' O K hK => ?_), does_want rfl (by rfl) (fun w' O K hK => ?_), does_want rfl (by rfl) (fun w' O K hK => ?_), does_want rfl (by rfl) (fun w' O K hK => ?_), does_want rfl (by rfl) (fun w' O K hK => ?_), does_want rfl (by rfl) (fun w' O K hK => ?_), does_want rfl (by rfl) (fun w' O K hK => ?_), does_want rfl (by rfl) (fun w' O K hK => ?_), does_want rfl (by rfl) (fun w' O K hK => ?_), does_want rfl (by rfl) (fun w' O K hK => ?_), does_want rfl (by rfl) (fun w' O K hK => ?_), does_want rfl (by rfl) (fun w' O K hK => ?_), does_want rfl (by rfl) (fun w' O K hK => ?_), does_want rfl (by rfl) (fun w' O K hK => ?_), does_want rfl (by rfl) (fun w' O K hK => ?_), does_want rfl (by rfl) (fun w' O K hK => ?_), does_want rfl (by rfl) (fun w' O K hK => ?_), does_want rfl (by rfl) (fun w' O K hK => ?_), does_want rfl (by rfl) (fun w' O K hK => ?_), does_want rfl (by rfl) (fun w' O K hK => ?_), does_want rfl (by rfl) (fun w' O K hK => ?_), does_want rfl (by rfl) (fun w' O K hK => ?_), does_want rfl (by rfl) (fun w' O K hK => ?_), does_want rfl (by rfl) (fun w' O K hK => ?_), does_want rfl (by rfl) (fun w' O K hK => ?_), does_want rfl (by rfl) (fun w' O K hK => ?_), does_want rfl (by rfl) (fun w' O K hK => ?_), does_want rfl (by rfl) (fun w' O K hK => ?_), does_want rfl (by rfl) (fun w' O K hK => ?_), trivial⟩, fun w' O => ?_⟩
          · go_simp
            exact hK _ O
          · go_simp
            first | exact hK _ O | (simp only [kx]; exact hK _ O) | (simp only [kx2]; exact hK _ O)
          · go_simp
            exact hK _ O
          · go_simp
            exact hK _ O
          · go_simp
            exact hK _ O
          · go_simp
            exact hK _ O
          · go_simp
            first | exact hK _ O | (simp only [ky]; exact hK _ O) | (simp only [ky2]; exact hK _ O)
          · go_simp
            exact hK _ O
          · go_simp
            exact hK _ O
          · exact wp_ino Try.underlying23 sizeOf3 (by decide) 1 rfl rfl rfl (by decide) (hK _ O)
          · exact wp_cell_h (v := .int .i64 c1) O 0 rfl Dc1.out rfl agg3 rfl (hK _ O)
          · go_simp
            exact hK _ O
          · go_simp
            exact hK _ O
          · go_simp
            exact hK _ O
          · go_simp
            simp only [WJ2_.out]
            exact hK _ O
          · exact wp_at_h Try.underlying35 sizeOfG (gE w.heap.size XA xc LX) (O.mem List.mem_cons_self) rfl j2 rfl HJ2_.out (BJ2_.out) rfl (hK _ O)
          · go_simp
            exact hK _ O
          · exact wp_ino Try.underlying23 sizeOf3 (by decide) 1 rfl rfl rfl (by decide) (hK _ O)
          · exact wp_ecell_h (gE w.heap.size XA xc LX) (O.mem List.mem_cons_self) (j2 * 8 + 4) (v := .int .i64 l1) El1.out (congrArg (fun z => Value.pointer (some z)) (add_fld _ (j2 * 8) 4 (by decide))) agg3 rfl (hK _ O)
          · go_simp
            first | exact hK _ O | (simp only [kl]; exact hK _ O)
          · go_simp
            exact hK _ O
          · go_simp
            exact hK _ O
          · exact wp_ino Try.underlying23 sizeOf3 (by decide) 0 rfl rfl rfl (by decide) (hK _ O)
          · exact wp_cell_h (v := .int .i64 c0) O 0 rfl Dc0.out rfl agg3 rfl (hK _ O)
          · go_simp
            exact hK _ O
          · go_simp
            exact hK _ O
          · go_simp
            exact hK _ O
          · go_simp
            simp only [WJ2_.out]
            exact hK _ O
          · exact wp_at_h Try.underlying35 sizeOfG (gE w.heap.size XA xc LX) (O.mem List.mem_cons_self) rfl j2 rfl HJ2_.out (BJ2_.out) rfl (hK _ O)
          · go_simp
            exact hK _ O
          · exact wp_ino Try.underlying23 sizeOf3 (by decide) 0 rfl rfl rfl (by decide) (hK _ O)
          · exact wp_ecell_h (gE w.heap.size XA xc LX) (O.mem List.mem_cons_self) (j2 * 8 + 3) (v := .int .i64 c0) El0.out (congrArg (fun z => Value.pointer (some z)) (add_fld _ (j2 * 8) 3 (by decide))) agg3 rfl (hK _ O)
          · go_simp
            first | exact hK _ O | (simp only [kc0]; exact hK _ O) | (simp only [bne_self_eq_false]; exact hK _ O)
          · go_simp
            exact hK _ O
          · go_simp
            exact hK _ O
          refine wpAny_one (i := 76) (by kernel_rfl) rfl (fun K hK => ?_)
          go_simp
          refine hK _ _ ?_
          clear hK K
          try simp only [Act.put, List.setIfInBounds_toArray, List.set_cons_zero, List.set_cons_succ]
          refine wpAny_done (by kernel_rfl) ?_ _
          clear kx kx2 ky ky2
          go_wp2_with fail
          go_roundw
          case rel => exact ⟨i + 1, by omega, by go_num, O.tail⟩
          case measure => first | exact meas_lt Wi hlt | exact meas_lt2 hlt
        · have kx : decide (x > 0) = false := by simp; omega
          have kx2 : decide (0 < x) = false := by simp; omega
          have ky : decide (y > 0) = false := by simp; omega
          have ky2 : decide (0 < y) = false := by simp; omega
          clear hleft hbelow hx hy hx2 hy2 hyb hf f5 f6 hc0 hc1 ec0 ec1 hsS hSb hlen hmul hib hxy hcx hcy hmi hdi hSi
          go_wp2_with (first | ((with_reducible refine at_index_ 35 ?_); refine wpList_at_h rfl Try.underlying35 sizeOfG ((gE w.heap.size XA xc LX)) (O.mem List.mem_cons_self) rfl i rfl (by first | rfl | omega) (hlt) (rfl) ?_) | ((with_reducible refine at_load 36 ?_); refine wpList_elem_h rfl _ (O.mem List.mem_cons_self) (i * 8) (M.mat 8 f) (gC_at HF.out) (by rw [M.mat_len]; decide) rfl Try.underlying40 rfl (sG _) ?_) | ((with_reducible refine at_alloc 7 ?_); refine wpList_alloc_h O (M.mat 8 M.zero) zeroG ?_; clear O; intro g7 y1w O) | ((with_reducible refine at_store 7 ?_); refine wpList_put_h O 0 (M.mat 8 (f)) rfl rfl rfl (sG _) (M.mat_len2 _ _ _) (M.mat_one _ _) ?_; clear O; intro y2w O) | ((with_reducible refine at_index_ 38 ?_); refine wpList_ino rfl Try.underlying23 sizeOf3 (by decide) (0) rfl rfl (rfl) (by decide) ?_) | ((with_reducible refine at_load 39 ?_); refine wpList_cell_h (v := .int .i64 c0) rfl O 0 rfl Dc0.out rfl agg3 rfl ?_) | ((with_reducible refine at_index_ 43 ?_); refine wpList_ino rfl Try.underlying23 sizeOf3 (by decide) (0) rfl rfl (rfl) (by decide) ?_) | ((with_reducible refine at_load 44 ?_); refine wpList_cell_h (v := .int .i64 c0) rfl O 0 rfl Dc0.out rfl agg3 rfl ?_) | ((with_reducible refine at_index_ 49 ?_); refine wpList_ino rfl Try.underlying23 sizeOf3 (by decide) (1) rfl rfl (rfl) (by decide) ?_) | ((with_reducible refine at_load 50 ?_); refine wpList_cell_h (v := .int .i64 c1) rfl O 0 rfl Dc1.out rfl agg3 rfl ?_) | ((with_reducible refine at_index_ 55 ?_); refine wpList_ino rfl Try.underlying23 sizeOf3 (by decide) (1) rfl rfl (rfl) (by decide) ?_) | ((with_reducible refine at_load 56 ?_); refine wpList_cell_h (v := .int .i64 c1) rfl O 0 rfl Dc1.out rfl agg3 rfl ?_) | ((with_reducible refine at_index_ 61 ?_); refine wpList_ino rfl Try.underlying23 sizeOf3 (by decide) (2) rfl rfl (rfl) (by decide) ?_) | ((with_reducible refine at_load 62 ?_); refine wpList_cell_h (v := .int .i64 v5) rfl O 0 rfl Dc2.out rfl agg3 rfl ?_) | ((with_reducible refine at_index_ 64 ?_); refine wpList_ino rfl Try.underlying23 sizeOf3 (by decide) (2) rfl rfl (rfl) (by decide) ?_) | ((with_reducible refine at_load 65 ?_); refine wpList_cell_h (v := .int .i64 v5) rfl O 1 rfl Cv5.out rfl agg3 rfl ?_) | ((with_reducible refine at_index_ 70 ?_); refine wpList_ino rfl Try.underlying23 sizeOf3 (by decide) (3) rfl rfl (rfl) (by decide) ?_) | ((with_reducible refine at_load 71 ?_); refine wpList_cell_h (v := .int .i64 v6) rfl O 0 rfl Dc3.out rfl agg3 rfl ?_) | ((with_reducible refine at_index_ 73 ?_); refine wpList_ino rfl Try.underlying23 sizeOf3 (by decide) (3) rfl rfl (rfl) (by decide) ?_) | ((with_reducible refine at_load 74 ?_); refine wpList_cell_h (v := .int .i64 v6) rfl O 1 rfl Cv6.out rfl agg3 rfl ?_))
          clear J0 J1 J1b J2 J3 J3b J4 J5
          have OX : Held w _ ((g7, 40, M.mat 8 f) :: [(g2, 25, M.mat 7 v)]) nilRow [gE w.heap.size XA xc LX] := O
          clear O
          have O := OX
          clear OX
          refine region_T ((fun w2 => Held w w2 ((g7, 40, M.mat 8 f) :: [(g2, 25, M.mat 7 v)]) nilRow [gE w.heap.size XA xc LX])) [0, 1, 2, 3, 4, 5, 6] 12 [some 77, some 78, some 79, some 80, some 81, some 82, some 8] [.int .i64 (i : Int), .int .i64 (s), .int .i64 (x), .int .i64 (i : Int), .int .i64 (s), .int .i64 (y), .int .i64 (x)] 1 (by kernel_rfl) (by rfl) (by kernel_rfl) (by rfl) (by rfl) (O.drew) (fun F hF => ?_)
          simp only [fillD, Act.put, List.setIfInBounds_toArray, List.set_cons_zero, List.set_cons_succ] at hF
          subst hF
          refine ⟨⟨does_want rfl (by rfl) (fun w' O K hK => ?_), does_want rfl (by rfl) (fun w' O K hK => ?_), does_want rfl (by rfl) (fun w' O K hK => ?_), does_want rfl (by rfl) (fun w' O K hK => ?_), does_want rfl (by rfl) (fun w' O K hK => ?_), does_want rfl (by rfl) (fun w' O K hK => ?_), does_want rfl (by rfl) (fun w' O K hK => ?_), trivial⟩, fun w' O => ?_⟩
          · go_simp
            exact hK _ O
          · go_simp
            exact hK _ O
          · go_simp
            first | (simp only [HX.out]; exact hK _ O) | (simp only [HX2.out]; exact hK _ O)
          · go_simp
            exact hK _ O
          · go_simp
            exact hK _ O
          · go_simp
            first | (simp only [HY2.out]; exact hK _ O) | (simp only [HY.out]; exact hK _ O)
          · go_simp
            exact hK _ O
          refine wpAny_one (i := 7) (by kernel_rfl) rfl (fun K hK => ?_)
          go_simp
          refine hK _ _ ?_
          clear hK K
          try simp only [Act.put, List.setIfInBounds_toArray, List.set_cons_zero, List.set_cons_succ]
          refine wpAny_done (by kernel_rfl) ?_ _
          clear HX HY HX2 HY2
          go_wp2_with fail
          have OO := O
          clear O
          have O := OO
          clear OO
          try simp only [List.append_eq, List.cons_append, List.nil_append]
          refine region_T ((fun w2 => Held w w2 ((g7, 40, M.mat 8 f) :: [(g2, 25, M.mat 7 v)]) nilRow [gE w.heap.size XA xc LX])) [0, 1, 2, 3, 4, 5, 6, 7, 8, 9, 10, 11, 12, 13, 14, 15, 16, 17, 18, 19, 20, 21, 22, 23, 24, 25, 26, 27, 28, 29, 30, 31, 32, 33, 34, 35, 36, 37, 38, 39, 40, 41, 42, 43, 44, 45, 46, 47, 48, 49, 50, 51, 52, 53, 54, 55, 56, 57, 58, 59, 60, 61, 62, 63, 64, 65, 66, 67, 68, 69, 70, 71, 72, 73, 74, 75] 12 [some 83, some 84, some 85, some 86, some 87, some 88, some 89, some 90, some 91, some 92, some 93, some 94, some 95, some 96, some 97, some 98, some 99, some 100, some 101, some 102, some 103, some 104, some 105, some 106, some 107, some 108, some 109, some 110, some 111, some 112, some 113, some 114, some 115, some 116, some 117, some 118, some 119, some 120, some 121, some 122, some 123, some 124, some 125, some 126, some 127, some 128, some 129, some 130, some 131, some 132, some 133, some 134, some 135, some 136, some 137, some 138, some 139, some 140, some 141, some 142, some 143, some 144, some 145, some 146, some 147, some 148, some 149, some 150, some 151, some 152, some 153, some 154, some 155, some 156, some 157, some 158] [.int .i64 (x), .bool false, .bool false, undef, undef, undef, undef, undef, undef, undef, undef, undef, undef, undef, undef, undef, undef, undef, undef, undef, undef, undef, undef, undef, undef, undef, undef, undef, undef, undef, undef, undef, undef, undef, undef, undef, undef, undef, undef, undef, undef, undef, undef, undef, .bool false, .bool false, .int .i64 (y), .bool false, .bool false, undef, undef, undef, undef, undef, undef, undef, undef, undef, undef, undef, undef, undef, undef, undef, undef, undef, undef, undef, undef, undef, undef, undef, undef, undef, undef, .bool false] 1 (by kernel_rfl) (by rfl) (by kernel_rfl) (by rfl) (by rfl) (O.drew) (fun F hF => ?_)
          simp only [fillD, Act.put, List.setIfInBounds_toArray, List.set_cons_zero, List.set_cons_succ] at hF
          subst hF
          refine ⟨⟨does_want rfl (by rfl) (fun w' O K hK => ?_), does_want rfl (by rfl) (fun w' O K hK => ?_), does_want rfl (by rfl) (fun w' O K hK => ?_), does_skip rfl (by rfl), does_skip rfl (by rfl), does_skip rfl (by rfl), does_skip rfl (by rfl), does_skip rfl (by rfl), does_skip rfl (by rfl), does_skip rfl (by rfl), does_skip rfl (by rfl), does_skip rfl (by rfl), does_skip rfl (by rfl), does_skip rfl (by rfl), does_skip rfl (by rfl), does_skip rfl (by rfl), does_skip rfl (by rfl), does_skip rfl (by rfl), does_skip rfl (by rfl), does_skip rfl (by rfl), does_skip rfl (by rfl), does_skip rfl (by rfl), does_skip rfl (by rfl), does_skip rfl (by rfl), does_skip rfl (by rfl), does_skip rfl (by rfl), does_skip rfl (by rfl), does_skip rfl (by rfl), does_skip rfl (by rfl), does_skip rfl (by rfl), does_skip rfl (by rfl), does_skip rfl (by rfl), does_skip rfl (by rfl), does_skip rfl (by rfl), does_skip rfl (by rfl), does_skip rfl (by rfl), does_skip rfl (by rfl), does_skip rfl (by rfl), does_skip rfl (by rfl), does_skip rfl (by rfl), does_skip rfl (by rfl), does_skip rfl (by rfl), does_skip rfl (by rfl), does_skip rfl (by rfl), does_want rfl (by rfl) (fun w' O K hK => ?_), does_want rfl (by rfl) (fun w' O K hK => ?_), does_want rfl (by rfl) (fun w' O K hK => ?_), does_want rfl (by rfl) (fun w' O K hK => ?_), does_want rfl (by rfl) (fun w' O K hK => ?_), does_skip rfl (by rfl), does_skip rfl (by rfl), does_skip rfl (by rfl), does_skip rfl (by rfl), does_skip rfl (by rfl), does_skip rfl (by rfl), does_skip rfl (by rfl), does_skip rfl (by rfl), does_skip rfl (by rfl), does_skip rfl (by rfl), does_skip rfl (by rfl), does_skip rfl (by rfl), does_skip rfl (by rfl), does_skip rfl (by rfl), does_skip rfl (by rfl), does_skip rfl (by rfl), does_skip rfl (by rfl), does_skip rfl (by rfl), does_skip rfl (by rfl), does_skip rfl (by rfl), does_skip rfl (by rfl), does_skip rfl (by rfl), does_skip rfl (by rfl), does_skip rfl (by rfl), does_skip rfl (by rfl), does_skip rfl (by rfl), does_want rfl (by rfl) (fun w' O K hK => ?_), trivial⟩, fun w' O => ?_⟩
          · go_simp
            exact hK _ O
          · go_simp
            first | exact hK _ O | (simp only [kx]; exact hK _ O) | (simp only [kx2]; exact hK _ O)
          · go_simp
            exact hK _ O
          · go_simp
            exact hK _ O
          · go_simp
            exact hK _ O
          · go_simp
            exact hK _ O
          · go_simp
            first | exact hK _ O | (simp only [ky]; exact hK _ O) | (simp only [ky2]; exact hK _ O)
          · go_simp
            exact hK _ O
          · go_simp
            exact hK _ O
          refine wpAny_one (i := 76) (by kernel_rfl) rfl (fun K hK => ?_)
          go_simp
          refine hK _ _ ?_
          clear hK K
          try simp only [Act.put, List.setIfInBounds_toArray, List.set_cons_zero, List.set_cons_succ]
          refine wpAny_done (by kernel_rfl) ?_ _
          clear kx kx2 ky ky2
          go_wp2_with fail
          go_roundw
          case rel => exact ⟨i + 1, by omega, by go_num, O.tail⟩
          case measure => first | exact meas_lt Wi hlt | exact meas_lt2 hlt
    · have z1 : ¬ (i : Int) < LX.length := by omega
      go_wp2_with (go_at_call 8; refine (awake_any _).mono ?_; rintro e x20w ⟨rfl, hb⟩; replace O := O.call hb; clear hb)
      go_ret
      exact ⟨rfl, O.below⟩

theorem readable : ∀ t ∈ Try.f6.params.toList, Try.prog.readableRec t = true ∧ t < Try.prog.types.size := by
  intro t ht
  rw [Try.params6] at ht
  simp only [List.mem_cons, List.not_mem_nil, or_false] at ht
  repeat (first | (rcases ht with rfl | ht; exact ⟨by kernel_rfl, of_decide_eq_true (by kernel_rfl)⟩) | (subst ht; exact ⟨by kernel_rfl, of_decide_eq_true (by kernel_rfl)⟩))
set_option maxRecDepth 100000 in
theorem lifted (os : Os) (started : os.Started) (H : Type) (enc : TypeId × Value → H) :
    ReturnsInHanded {} Try.checked os 6 .any (Rows.dotSpritesSpec.pre6 enc Try.prog Try.f6 Rows.dotSpritesRow.domain false) (Rows.dotSpritesSpec.post enc Try.prog Try.f6 false true false false) := by
  refine returnsInHanded_of_change (C := Try.checked) own started (by kernel_rfl) Try.func6
    (ChangeSpec.witness6 (enc := enc) (C := Try.checked) false ⟨#[], #[.agg #[.int .i64 0, .int .i64 0, .int .i64 0, .int .i64 0, .int .i64 0, .int .i64 0, .int .i64 0], .int .i64 0], []⟩ 8 (by kernel_rfl) (by kernel_rfl) (by kernel_rfl) (by kernel_rfl)) ?_
  intro W base args ds gs before hval0 hW hcnd _
  have hval : ∀ (j : Nat) t v, Try.f6.params[j]? = some t → args[j]? = some v → Value.okWide Try.prog W .any base t v := hval0
  have hW' := hW
  obtain ⟨p, q, hA0, hV, rfl, hfz, hnd⟩ := hW
  have hA : DataW.TrodAll enc Try.prog W 0 (fun _ => true) true Try.f6.params.toList args.toList ds p := hA0
  rw [Try.params6] at hA hval
  have hlt : ∀ x ∈ p ++ q, x.block < W.heap.size := fun x hx => hW'.lt x hx
  obtain ⟨v0, vs0, d0, ds0, p0, q0, hargs, rfl, rfl, h0, rr0⟩ := trodAll_cons hA
  obtain ⟨v1, vs1, d1, ds1, p1, q1, rfl, rfl, rfl, h1, rr1⟩ := trodAll_cons rr0
  obtain ⟨rfl, rfl, rfl⟩ := trodAll_nil rr1
  obtain rfl : args = #[v0, v1] := by cases args; simp_all
  obtain ⟨rfl, rfl⟩ := trodVars_none hV
  obtain ⟨a0, rfl⟩ := openSWin (hval 0 25 v0 rfl rfl) h0
  obtain ⟨i1, rfl, rfl, rfl, x1⟩ := open_int Try.underlying3 (hval 1 3 v1 rfl rfl) h1
  clear hA0 hval0
  refine (walk W a0 i1).mono fun e W' ⟨he, hg⟩ => ?_
  subst he
  exact ⟨_, rfl, post_true (tb := 4) laid readable (by kernel_rfl) Try.underlying4 rfl (fun l hl => by
    match l, hl with
    | [_, _], _ => exact ⟨rfl, rfl, rfl⟩) hW' hg⟩

theorem over : Rows.dotSpritesRow.holds Try.pinned (OpenSpec.ofChange Rows.dotSpritesSpec) :=
  OpenClaim.holds_of_wide 6 Try.f6 rfl rfl rfl rfl rfl rfl rfl ⟨rfl, rfl, rfl, rfl, rfl⟩ rfl rfl rfl rfl rfl (by kernel_rfl) Try.func6 (by kernel_rfl)
    (of_decide_eq_true (by kernel_rfl)) (by unfold Func.isWrapper; first | (rw [if_pos (by decide +kernel)]; kernel_rfl) | (rw [if_neg (by decide +kernel)]; exact ⟨rfl, rfl⟩))
    (fun os started H enc _ => lifted os started H enc)

theorem proved : Rows.DotSpritesSaid :=
  over
#print axioms proved
end Go.Proofs.Ytlmgilcigbnbaaa.dotSprites
