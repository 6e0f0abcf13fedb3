/- Contract: the document's Meets. -/
import Derived.Test.YtpfhaocmcfnhnaaGreatWb
namespace Go.Proofs.YtpfhaocmcfnhnaaGreat
open Go.ChangeShapes Go.WideShapes Go.ChangeAt Go.RowKit
set_option linter.unusedVariables false
set_option linter.unusedSimpArgs false

namespace DM
section
variable {a b c d : Int}
theorem meets_no1 (h : 0 ≤ sg (min (a + b) (c + d) - 128) (-1) (-1)) : meets a b c d = false := by
 rw [← Bool.not_eq_true, meets_iff]
 have := @sg_neg (min (a + b) (c + d) - 128) (-1) (-1)
 rintro ⟨hb, _⟩
 unfold box at hb
 omega
theorem meets_no2 (h : sg (max (a + b) (c + d) + 128) (-1) (-1) ≤ 0) : meets a b c d = false := by
 rw [← Bool.not_eq_true, meets_iff]
 have := @sg_pos (max (a + b) (c + d) + 128) (-1) (-1)
 rintro ⟨hb, _⟩
 unfold box at hb
 omega
theorem meets_no3 (h : 0 ≤ sg (min (a - b) (c - d) - 128) (-1) 1) : meets a b c d = false := by
 rw [← Bool.not_eq_true, meets_iff]
 have := @sg_neg (min (a - b) (c - d) - 128) (-1) 1
 rintro ⟨hb, _⟩
 unfold box at hb
 omega
theorem meets_no4 (h : sg (max (a - b) (c - d) + 128) (-1) 1 ≤ 0) : meets a b c d = false := by
 rw [← Bool.not_eq_true, meets_iff]
 have := @sg_pos (max (a - b) (c - d) + 128) (-1) 1
 rintro ⟨hb, _⟩
 unfold box at hb
 omega
theorem box_yes (h1 : ¬ 0 ≤ sg (min (a + b) (c + d) - 128) (-1) (-1)) (h2 : ¬ sg (max (a + b) (c + d) + 128) (-1) (-1) ≤ 0) (h3 : ¬ 0 ≤ sg (min (a - b) (c - d) - 128) (-1) 1) (h4 : ¬ sg (max (a - b) (c - d) + 128) (-1) 1 ≤ 0) : box a b c d := by
 have e1 := (@sg_neg (min (a + b) (c + d) - 128) (-1) (-1)).1 (by omega)
 have e2 := (@sg_pos (max (a + b) (c + d) + 128) (-1) (-1)).1 (by omega)
 have e3 := (@sg_neg (min (a - b) (c - d) - 128) (-1) 1).1 (by omega)
 have e4 := (@sg_pos (max (a - b) (c - d) + 128) (-1) 1).1 (by omega)
 unfold box
 refine ⟨⟨by omega, by omega⟩, by omega, by omega⟩
theorem meets_same (hb : box a b c d) (h : a = c ∧ b = d) : meets a b c d = true := meets_iff.2 ⟨hb, .inl h⟩
theorem meets_last (hb : box a b c d) (h : ¬ (a = c ∧ b = d)) {w h_ o f : Int} (hw : c - a = w) (hh : d - b = h_) (ho : w * b - h_ * a = o) (hf : 128 * max (abs w) (abs h_) = f) :
  meets a b c d = (decide (sg (o - f) h_ (0 - w) < 0) && decide (0 < sg (o + f) h_ (0 - w))) := by
 rw [Bool.eq_iff_iff, meets_iff]
 simp only [Bool.and_eq_true, decide_eq_true_eq, sg_neg, sg_pos]
 unfold meetsP band off far neg pos
 rw [hw, hh, ho, hf]
 constructor
 ·
  rintro ⟨_, h1 | h1⟩
  · exact absurd h1 h
  · omega
 ·
  intro h1
  exact ⟨hb, .inr (by omega)⟩
end
end DM
set_option maxRecDepth 100000 in
set_option maxHeartbeats 16000000 in
theorem rmeets_gen (a b : Nat → Int) (x y : Int) (hp : ((-536870912 ≤ a 0 ∧ a 0 ≤ 536870912) ∧ (-536870912 ≤ a 1 ∧ a 1 ≤ 536870912)) ∧ ((-536870912 ≤ b 0 ∧ b 0 ≤ 536870912) ∧ (-536870912 ≤ b 1 ∧ b 1 ≤ 536870912))) (hx : (-4200000 ≤ x ∧ x ≤ 4200000) ∧ (-4200000 ≤ y ∧ y ≤ 4200000)) (hr : ((-1610612864 ≤ a 0 - 256 * x - 128 ∧ a 0 - 256 * x - 128 ≤ 1610612864) ∧ (-1610612864 ≤ a 1 - 256 * y - 128 ∧ a 1 - 256 * y - 128 ≤ 1610612864)) ∧ (-1610612864 ≤ b 0 - 256 * x - 128 ∧ b 0 - 256 * x - 128 ≤ 1610612864) ∧ (-1610612864 ≤ b 1 - 256 * y - 128 ∧ b 1 - 256 * y - 128 ≤ 1610612864)) (w_ : World) :
  Calls Tryz.prog 67 #[arr 2 a, arr 2 b, .int .i64 x, .int .i64 y] w_ fun e w' => e = .returned (.bool (DM.meets (DM.rel (a 0) x) (DM.rel (a 1) y) (DM.rel (b 0) x) (DM.rel (b 1) y))) ∧ Below w_.heap.size w_ w' := by
 have O := Own.start w_
 have QE : M.eqB 2 a b = true ↔ (a 0 = b 0 ∧ a 1 = b 1) := by
  rw [M.eqB_iff]
  exact ⟨fun h => ⟨h 0 (by omega), h 1 (by omega)⟩, fun ⟨h0, h1⟩ i hi => by
   rcases (by omega : i = 0 ∨ i = 1) with rfl | rfl
   · exact h0
   · exact h1⟩
 obtain ⟨a0, ea0⟩ : ∃ z, a 0 = z := ⟨_, rfl⟩
 have Ca0 := cell_is (n := 2) ea0 (by decide)
 obtain ⟨a1, ea1⟩ : ∃ z, a 1 = z := ⟨_, rfl⟩
 have Ca1 := cell_is (n := 2) ea1 (by decide)
 obtain ⟨b0, eb0⟩ : ∃ z, b 0 = z := ⟨_, rfl⟩
 have Cb0 := cell_is (n := 2) eb0 (by decide)
 obtain ⟨b1, eb1⟩ : ∃ z, b 1 = z := ⟨_, rfl⟩
 have Cb1 := cell_is (n := 2) eb1 (by decide)
 rw [ea0, ea1, eb0, eb1] at hp hr ⊢
 rw [ea0, ea1, eb0, eb1] at QE
 clear ea0 ea1 eb0 eb1
 obtain ⟨⟨⟨i1, i2⟩, i3, i4⟩, ⟨i5, i6⟩, i7, i8⟩ := hp
 obtain ⟨⟨j1, j2⟩, j3, j4⟩ := hx
 obtain ⟨m, hm⟩ : ∃ z, 256 * x = z := ⟨_, rfl⟩
 obtain ⟨n, hn⟩ : ∃ z, 256 * y = z := ⟨_, rfl⟩
 have Hm : Hid (256 * x = m ∧ IntKind.i64.wrap m = m) := Lib.hid ⟨hm, IntWalk.i64_in _ (by omega)⟩
 have Hn : Hid (256 * y = n ∧ IntKind.i64.wrap n = n) := Lib.hid ⟨hn, IntWalk.i64_in _ (by omega)⟩
 obtain ⟨pus, hpus⟩ : ∃ z, a0 - m = z := ⟨_, rfl⟩
 obtain ⟨pu, hpu⟩ : ∃ z, pus - 128 = z := ⟨_, rfl⟩
 have Epu : DM.rel a0 x = pu := by unfold DM.rel; omega
 have rpu : -1610612864 ≤ pu ∧ pu ≤ 1610612864 := by omega
 have Hpus : Hid (a0 - m = pus ∧ IntKind.i64.wrap pus = pus) := Lib.hid ⟨hpus, IntWalk.i64_in _ (by omega)⟩
 have Hpu : Hid (pus - 128 = pu ∧ IntKind.i64.wrap pu = pu) := Lib.hid ⟨hpu, IntWalk.i64_in _ (by omega)⟩
 obtain ⟨pvs, hpvs⟩ : ∃ z, a1 - n = z := ⟨_, rfl⟩
 obtain ⟨pv, hpv⟩ : ∃ z, pvs - 128 = z := ⟨_, rfl⟩
 have Epv : DM.rel a1 y = pv := by unfold DM.rel; omega
 have rpv : -1610612864 ≤ pv ∧ pv ≤ 1610612864 := by omega
 have Hpvs : Hid (a1 - n = pvs ∧ IntKind.i64.wrap pvs = pvs) := Lib.hid ⟨hpvs, IntWalk.i64_in _ (by omega)⟩
 have Hpv : Hid (pvs - 128 = pv ∧ IntKind.i64.wrap pv = pv) := Lib.hid ⟨hpv, IntWalk.i64_in _ (by omega)⟩
 obtain ⟨qus, hqus⟩ : ∃ z, b0 - m = z := ⟨_, rfl⟩
 obtain ⟨qu, hqu⟩ : ∃ z, qus - 128 = z := ⟨_, rfl⟩
 have Equ : DM.rel b0 x = qu := by unfold DM.rel; omega
 have rqu : -1610612864 ≤ qu ∧ qu ≤ 1610612864 := by omega
 have Hqus : Hid (b0 - m = qus ∧ IntKind.i64.wrap qus = qus) := Lib.hid ⟨hqus, IntWalk.i64_in _ (by omega)⟩
 have Hqu : Hid (qus - 128 = qu ∧ IntKind.i64.wrap qu = qu) := Lib.hid ⟨hqu, IntWalk.i64_in _ (by omega)⟩
 obtain ⟨qvs, hqvs⟩ : ∃ z, b1 - n = z := ⟨_, rfl⟩
 obtain ⟨qv, hqv⟩ : ∃ z, qvs - 128 = z := ⟨_, rfl⟩
 have Eqv : DM.rel b1 y = qv := by unfold DM.rel; omega
 have rqv : -1610612864 ≤ qv ∧ qv ≤ 1610612864 := by omega
 have Hqvs : Hid (b1 - n = qvs ∧ IntKind.i64.wrap qvs = qvs) := Lib.hid ⟨hqvs, IntWalk.i64_in _ (by omega)⟩
 have Hqv : Hid (qvs - 128 = qv ∧ IntKind.i64.wrap qv = qv) := Lib.hid ⟨hqv, IntWalk.i64_in _ (by omega)⟩
 have QE2 : (pu = qu ∧ pv = qv) ↔ (a0 = b0 ∧ a1 = b1) := by omega
 have rw_ : -1073741824 ≤ qu - pu ∧ qu - pu ≤ 1073741824 := by omega
 have rh_ : -1073741824 ≤ qv - pv ∧ qv - pv ≤ 1073741824 := by omega
 rw [Epu, Epv, Equ, Eqv]
 replace QE := QE.trans QE2.symm
 clear hm hn hpus hpu hpvs hpv hqus hqu hqvs hqv Epu Epv Equ Eqv i1 i2 i3 i4 i5 i6 i7 i8 j1 j2 j3 j4 QE2 hr
 obtain ⟨pu1, pu2⟩ := rpu
 obtain ⟨pv1, pv2⟩ := rpv
 obtain ⟨qu1, qu2⟩ := rqu
 obtain ⟨qv1, qv2⟩ := rqv
 have N1 := fun h => DM.meets_no1 (a := pu) (b := pv) (c := qu) (d := qv) h
 have N2 := fun h => DM.meets_no2 (a := pu) (b := pv) (c := qu) (d := qv) h
 have N3 := fun h => DM.meets_no3 (a := pu) (b := pv) (c := qu) (d := qv) h
 have N4 := fun h => DM.meets_no4 (a := pu) (b := pv) (c := qu) (d := qv) h
 have NB_ := fun h1 h2 h3 h4 => DM.box_yes (a := pu) (b := pv) (c := qu) (d := qv) h1 h2 h3 h4
 have NY := fun hb h => DM.meets_same (a := pu) (b := pv) (c := qu) (d := qv) hb h
 have NL := fun hb h w_ h_ o f hw hh ho hf => @DM.meets_last pu pv qu qv hb h w_ h_ o f hw hh ho hf
 obtain ⟨mt, hmt⟩ : ∃ z, DM.meets pu pv qu qv = z := ⟨_, rfl⟩
 rw [hmt] at N1 N2 N3 N4 NY NL ⊢
 clear hmt
 obtain ⟨sp, hsp⟩ : ∃ z, pu + pv = z := ⟨_, rfl⟩
 have Wsp : wrap64 (pu + pv) = sp := by rw [← hsp]; exact IntWalk.wrap64_in _ (by omega)
 obtain ⟨sq, hsq⟩ : ∃ z, qu + qv = z := ⟨_, rfl⟩
 have Wsq : wrap64 (qu + qv) = sq := by rw [← hsq]; exact IntWalk.wrap64_in _ (by omega)
 obtain ⟨dp, hdp⟩ : ∃ z, pu - pv = z := ⟨_, rfl⟩
 have Wdp : wrap64 (pu - pv) = dp := by rw [← hdp]; exact IntWalk.wrap64_in _ (by omega)
 obtain ⟨dq, hdq⟩ : ∃ z, qu - qv = z := ⟨_, rfl⟩
 have Wdq : wrap64 (qu - qv) = dq := by rw [← hdq]; exact IntWalk.wrap64_in _ (by omega)
 obtain ⟨k1, hk1⟩ : ∃ z, min sp sq = z := ⟨_, rfl⟩
 have G1 := (min_if sp sq).trans hk1
 obtain ⟨n1, hn1⟩ : ∃ z, k1 - 128 = z := ⟨_, rfl⟩
 have Wn1 : wrap64 (k1 - 128) = n1 := by rw [← hn1]; exact IntWalk.wrap64_in _ (by omega)
 obtain ⟨s1, hs1⟩ : ∃ z, DM.sg n1 (-1) (-1) = z := ⟨_, rfl⟩
 have S1 := fun w => sign3_any n1 (-1) (-1) w
 rw [hs1] at S1
 obtain ⟨k2, hk2⟩ : ∃ z, max sp sq = z := ⟨_, rfl⟩
 have G2 := (max_if sp sq).trans hk2
 obtain ⟨n2, hn2⟩ : ∃ z, k2 + 128 = z := ⟨_, rfl⟩
 have Wn2 : wrap64 (k2 + 128) = n2 := by rw [← hn2]; exact IntWalk.wrap64_in _ (by omega)
 obtain ⟨s2, hs2⟩ : ∃ z, DM.sg n2 (-1) (-1) = z := ⟨_, rfl⟩
 have S2 := fun w => sign3_any n2 (-1) (-1) w
 rw [hs2] at S2
 obtain ⟨k3, hk3⟩ : ∃ z, min dp dq = z := ⟨_, rfl⟩
 have G3 := (min_if dp dq).trans hk3
 obtain ⟨n3, hn3⟩ : ∃ z, k3 - 128 = z := ⟨_, rfl⟩
 have Wn3 : wrap64 (k3 - 128) = n3 := by rw [← hn3]; exact IntWalk.wrap64_in _ (by omega)
 obtain ⟨s3, hs3⟩ : ∃ z, DM.sg n3 (-1) (1) = z := ⟨_, rfl⟩
 have S3 := fun w => sign3_any n3 (-1) (1) w
 rw [hs3] at S3
 obtain ⟨k4, hk4⟩ : ∃ z, max dp dq = z := ⟨_, rfl⟩
 have G4 := (max_if dp dq).trans hk4
 obtain ⟨n4, hn4⟩ : ∃ z, k4 + 128 = z := ⟨_, rfl⟩
 have Wn4 : wrap64 (k4 + 128) = n4 := by rw [← hn4]; exact IntWalk.wrap64_in _ (by omega)
 obtain ⟨s4, hs4⟩ : ∃ z, DM.sg n4 (-1) (1) = z := ⟨_, rfl⟩
 have S4 := fun w => sign3_any n4 (-1) (1) w
 rw [hs4] at S4
 rw [hsp, hsq, hk1, hn1, hs1] at N1
 rw [hsp, hsq, hk2, hn2, hs2] at N2
 rw [hdp, hdq, hk3, hn3, hs3] at N3
 rw [hdp, hdq, hk4, hn4, hs4] at N4
 rw [hsp, hsq, hdp, hdq, hk1, hk2, hk3, hk4, hn1, hn2, hn3, hn4, hs1, hs2, hs3, hs4] at NB_
 have FS := Lib.hid (And.intro (congrArg (Value.int IntKind.i64) hsp) (And.intro (congrArg (Value.int IntKind.i64) hsq) (And.intro (congrArg (Value.int IntKind.i64) hdp) (And.intro (congrArg (Value.int IntKind.i64) hdq) (And.intro (congrArg (Value.int IntKind.i64) Wsp) (And.intro (congrArg (Value.int IntKind.i64) Wsq) (And.intro (congrArg (Value.int IntKind.i64) Wdp) (congrArg (Value.int IntKind.i64) Wdq))))))))
 have FM1 := Lib.hid (And.intro (congrArg (Value.int IntKind.i64) hk1) (And.intro (congrArg (Value.int IntKind.i64) G1) (And.intro (congrArg (Value.int IntKind.i64) hn1) (congrArg (Value.int IntKind.i64) Wn1))))
 have FM2 := Lib.hid (And.intro (congrArg (Value.int IntKind.i64) hk2) (And.intro (congrArg (Value.int IntKind.i64) G2) (And.intro (congrArg (Value.int IntKind.i64) hn2) (congrArg (Value.int IntKind.i64) Wn2))))
 have FM3 := Lib.hid (And.intro (congrArg (Value.int IntKind.i64) hk3) (And.intro (congrArg (Value.int IntKind.i64) G3) (And.intro (congrArg (Value.int IntKind.i64) hn3) (congrArg (Value.int IntKind.i64) Wn3))))
 have FM4 := Lib.hid (And.intro (congrArg (Value.int IntKind.i64) hk4) (And.intro (congrArg (Value.int IntKind.i64) G4) (And.intro (congrArg (Value.int IntKind.i64) hn4) (congrArg (Value.int IntKind.i64) Wn4))))
 have RU := Lib.hid (And.intro (And.intro pu1 pu2) (And.intro (And.intro pv1 pv2) (And.intro rw_ rh_)))
 replace N1 := Lib.hid N1
 replace N2 := Lib.hid N2
 replace N3 := Lib.hid N3
 replace N4 := Lib.hid N4
 replace NB_ := Lib.hid NB_
 replace NY := Lib.hid NY
 replace NL := Lib.hid NL
 replace QE := Lib.hid QE
 clear hsp hsq hdp hdq Wsp Wsq Wdp Wdq hk1 hk2 hk3 hk4 G1 G2 G3 G4 hn1 hn2 hn3 hn4 Wn1 Wn2 Wn3 Wn4 hs1 hs2 hs3 hs4 pu1 pu2 pv1 pv2 qu1 qu2 qv1 qv2 rw_ rh_
 have HD : apart [⟨26, 28, 44, M.mat 2 M.zero, M.mat 2 (DM.t2 pu pv)⟩, ⟨27, 99, 44, M.mat 2 M.zero, M.mat 2 M.zero⟩] := (by decide : [26, 28, 27, 99].Nodup)
 have CP0 := cell_is (n := 2) (a := DM.t2 pu pv) (i := 0) (z := pu) rfl (by decide)
 have CP1 := cell_is (n := 2) (a := DM.t2 pu pv) (i := 1) (z := pv) rfl (by decide)
 have CQ0 := cell_is (n := 2) (a := DM.t2 qu qv) (i := 0) (z := qu) rfl (by decide)
 have CQ1 := cell_is (n := 2) (a := DM.t2 qu qv) (i := 1) (z := qv) rfl (by decide)
 have tok0 : True := trivial
 go_enter Tryz.func67, Tryz.ntmps67
 go_wp2_with (first | ((with_reducible refine at_box 4 ?_); refine wpList_box_own O (M.mat 2 (a)) rfl ?_; clear O; intro g4 w1 O) | ((with_reducible refine at_box 5 ?_); refine wpList_box_own O (M.mat 2 (b)) rfl ?_; clear O; intro g5 w2 O))
 refine region_S (fun st w2 => NB w_ [(g5, 44, M.mat 2 b), (g4, 44, M.mat 2 a)] [⟨26, 28, 44, M.mat 2 M.zero, M.mat 2 (DM.t2 pu pv)⟩, ⟨27, 99, 44, M.mat 2 M.zero, M.mat 2 M.zero⟩] st w2) [26, 27, 28] 12 29 [some 15, some 16, some 17, some 18, some 19, some 20, some 21, some 22, some 23, some 24, some 25, some 26, some 27, some 28, some 29, some 30, some 31, some 32, some 33, some 34, some 35, some 36, some 37, some 38, some 39, some 40, some 9, some 10, none] (fun g => [.pointer (some ⟨g4, 0, none⟩), .int .i64 a0, .int .i64 x, .int .i64 m, .int .i64 pus, .int .i64 pu, .pointer (some ⟨g4, 1, none⟩), .int .i64 a1, .int .i64 y, .int .i64 n, .int .i64 pvs, .int .i64 pv, arr 2 (DM.t2 pu pv), .pointer (some ⟨g5, 0, none⟩), .int .i64 b0, .int .i64 x, .int .i64 m, .int .i64 qus, .int .i64 qu, .pointer (some ⟨g5, 1, none⟩), .int .i64 b1, .int .i64 y, .int .i64 n, .int .i64 qvs, .int .i64 qv, arr 2 (DM.t2 qu qv), g 26, g 27, g 28]) 1 (by kernel_rfl) (by kernel_rfl) (by rfl) (by rfl) (fun _ => rfl) (by decide) ?_ (NB.start O.drew) (fun F hF => ?_)
 ·
  intro i hi
  simp only [List.mem_cons, List.not_mem_nil, or_false] at hi
  rcases hi with rfl | rfl | rfl
  · exact ⟨fun _ => rfl, [0, 1, 2, 3, 4, 5, 6, 7, 8, 9, 10, 11, 12, 13, 14, 15, 16, 17, 18, 19, 20, 21, 22, 23, 24, 25, 27, 28], by kernel_rfl, fun g v => ⟨rfl, rfl, rfl, rfl, rfl, rfl, rfl, rfl, rfl, rfl, rfl, rfl, rfl, rfl, rfl, rfl, rfl, rfl, rfl, rfl, rfl, rfl, rfl, rfl, rfl, rfl, rfl, rfl, trivial⟩⟩
  · exact ⟨fun _ => rfl, [0, 1, 2, 3, 4, 5, 6, 7, 8, 9, 10, 11, 12, 13, 14, 15, 16, 17, 18, 19, 20, 21, 22, 23, 24, 25, 26, 28], by kernel_rfl, fun g v => ⟨rfl, rfl, rfl, rfl, rfl, rfl, rfl, rfl, rfl, rfl, rfl, rfl, rfl, rfl, rfl, rfl, rfl, rfl, rfl, rfl, rfl, rfl, rfl, rfl, rfl, rfl, rfl, rfl, trivial⟩⟩
  · exact ⟨fun _ => rfl, [0, 1, 2, 3, 4, 5, 6, 7, 8, 9, 10, 11, 12, 13, 14, 15, 16, 17, 18, 19, 20, 21, 22, 23, 24, 25, 26, 27], by kernel_rfl, fun g v => ⟨rfl, rfl, rfl, rfl, rfl, rfl, rfl, rfl, rfl, rfl, rfl, rfl, rfl, rfl, rfl, rfl, rfl, rfl, rfl, rfl, rfl, rfl, rfl, rfl, rfl, rfl, rfl, rfl, trivial⟩⟩
 simp only [fillD, Act.put, List.setIfInBounds_toArray, List.set_cons_zero, List.set_cons_succ] at hF
 have hF2 := funext hF
 clear hF
 subst hF2
 refine ⟨⟨doesN_want (by decide) rfl (fun g => rfl) (fun st w' hS hp K hK => ?_), doesN_want (by decide) rfl (fun g => rfl) (fun st w' hS hp K hK => ?_), doesN_want (by decide) rfl (fun g => rfl) (fun st w' hS hp K hK => ?_), doesN_want (by decide) rfl (fun g => rfl) (fun st w' hS hp K hK => ?_), doesN_want (by decide) rfl (fun g => rfl) (fun st w' hS hp K hK => ?_), doesN_want (by decide) rfl (fun g => rfl) (fun st w' hS hp K hK => ?_), doesN_want (by decide) rfl (fun g => rfl) (fun st w' hS hp K hK => ?_), doesN_want (by decide) rfl (fun g => rfl) (fun st w' hS hp K hK => ?_), doesN_want (by decide) rfl (fun g => rfl) (fun st w' hS hp K hK => ?_), doesN_want (by decide) rfl (fun g => rfl) (fun st w' hS hp K hK => ?_), doesN_want (by decide) rfl (fun g => rfl) (fun st w' hS hp K hK => ?_), doesN_want (by decide) rfl (fun g => rfl) (fun st w' hS hp K hK => ?_), doesN_want (by decide) rfl (fun g => rfl) (fun st w' hS hp K hK => ?_), doesN_want (by decide) rfl (fun g => rfl) (fun st w' hS hp K hK => ?_), doesN_want (by decide) rfl (fun g => rfl) (fun st w' hS hp K hK => ?_), doesN_want (by decide) rfl (fun g => rfl) (fun st w' hS hp K hK => ?_), doesN_want (by decide) rfl (fun g => rfl) (fun st w' hS hp K hK => ?_), doesN_want (by decide) rfl (fun g => rfl) (fun st w' hS hp K hK => ?_), doesN_want (by decide) rfl (fun g => rfl) (fun st w' hS hp K hK => ?_), doesN_want (by decide) rfl (fun g => rfl) (fun st w' hS hp K hK => ?_), doesN_want (by decide) rfl (fun g => rfl) (fun st w' hS hp K hK => ?_), doesN_want (by decide) rfl (fun g => rfl) (fun st w' hS hp K hK => ?_), doesN_want (by decide) rfl (fun g => rfl) (fun st w' hS hp K hK => ?_), doesN_want (by decide) rfl (fun g => rfl) (fun st w' hS hp K hK => ?_), doesN_want (by decide) rfl (fun g => rfl) (fun st w' hS hp K hK => ?_), doesN_want (by decide) rfl (fun g => rfl) (fun st w' hS hp K hK => ?_), doesC_want (by decide) rfl (fun g => rfl) (fun st w' hS hn hp K hK => ?_), doesC_want (by decide) rfl (fun g => rfl) (fun st w' hS hn hp K hK => ?_), doesC_want (by decide) rfl (fun g => rfl) (fun st w' hS hn hp K hK => ?_), trivial⟩, fun st w' hS hall => ?_⟩
 ·
  try dsimp only
  go_simp
  exact hK _ hS
 ·
  try dsimp only
  exact wp_cell_h (v := .int .i64 a0) hS.own.held 1 rfl Ca0.out rfl agg3 rfl (hK _ hS)
 ·
  try dsimp only
  go_simp
  exact hK _ hS
 ·
  try dsimp only
  obtain ⟨e1, e2⟩ := Hm.out
  go_simp
  first | exact hK _ hS | (rw [e1, e2]; exact hK _ hS)
 ·
  try dsimp only
  obtain ⟨e1, e2⟩ := Hpus.out
  go_simp
  first | exact hK _ hS | (rw [e1, e2]; exact hK _ hS)
 ·
  try dsimp only
  obtain ⟨e1, e2⟩ := Hpu.out
  go_simp
  first | exact hK _ hS | (rw [e1, e2]; exact hK _ hS)
 ·
  try dsimp only
  go_simp
  exact hK _ hS
 ·
  try dsimp only
  exact wp_cell_h (v := .int .i64 a1) hS.own.held 1 rfl Ca1.out rfl agg3 rfl (hK _ hS)
 ·
  try dsimp only
  go_simp
  exact hK _ hS
 ·
  try dsimp only
  obtain ⟨e1, e2⟩ := Hn.out
  go_simp
  first | exact hK _ hS | (rw [e1, e2]; exact hK _ hS)
 ·
  try dsimp only
  obtain ⟨e1, e2⟩ := Hpvs.out
  go_simp
  first | exact hK _ hS | (rw [e1, e2]; exact hK _ hS)
 ·
  try dsimp only
  obtain ⟨e1, e2⟩ := Hpv.out
  go_simp
  first | exact hK _ hS | (rw [e1, e2]; exact hK _ hS)
 ·
  try dsimp only
  refine wp_build_own [(0, .int .i64 pu), (1, .int .i64 pv)] ((M.mat 2 (DM.t2 pu pv)).toArray) ?_ (builtP pu pv) (hK _ hS)
  simp only [List.map_toArray, List.map_cons, List.map_nil]
  rfl
 ·
  try dsimp only
  go_simp
  exact hK _ hS
 ·
  try dsimp only
  exact wp_cell_h (v := .int .i64 b0) hS.own.held 0 rfl Cb0.out rfl agg3 rfl (hK _ hS)
 ·
  try dsimp only
  go_simp
  exact hK _ hS
 ·
  try dsimp only
  obtain ⟨e1, e2⟩ := Hm.out
  go_simp
  first | exact hK _ hS | (rw [e1, e2]; exact hK _ hS)
 ·
  try dsimp only
  obtain ⟨e1, e2⟩ := Hqus.out
  go_simp
  first | exact hK _ hS | (rw [e1, e2]; exact hK _ hS)
 ·
  try dsimp only
  obtain ⟨e1, e2⟩ := Hqu.out
  go_simp
  first | exact hK _ hS | (rw [e1, e2]; exact hK _ hS)
 ·
  try dsimp only
  go_simp
  exact hK _ hS
 ·
  try dsimp only
  exact wp_cell_h (v := .int .i64 b1) hS.own.held 0 rfl Cb1.out rfl agg3 rfl (hK _ hS)
 ·
  try dsimp only
  go_simp
  exact hK _ hS
 ·
  try dsimp only
  obtain ⟨e1, e2⟩ := Hn.out
  go_simp
  first | exact hK _ hS | (rw [e1, e2]; exact hK _ hS)
 ·
  try dsimp only
  obtain ⟨e1, e2⟩ := Hqvs.out
  go_simp
  first | exact hK _ hS | (rw [e1, e2]; exact hK _ hS)
 ·
  try dsimp only
  obtain ⟨e1, e2⟩ := Hqv.out
  go_simp
  first | exact hK _ hS | (rw [e1, e2]; exact hK _ hS)
 ·
  try dsimp only
  refine wp_build_own [(0, .int .i64 qu), (1, .int .i64 qv)] ((M.mat 2 (DM.t2 qu qv)).toArray) ?_ (builtP qu qv) (hK _ hS)
  simp only [List.map_toArray, List.map_cons, List.map_nil]
  rfl
 ·
  try dsimp only
  exact hS.alloc HD 0 rfl hn zeroP hK
 ·
  try dsimp only
  exact hS.alloc HD 1 rfl hn zeroP hK
 ·
  try dsimp only
  exact hS.put HD 0 rfl (hp 26 (by decide) (by kernel_rfl)) hn rfl rfl (sP _) (M.mat_len2 _ _ _) (M.mat_one _ _) hK
 try dsimp only
 obtain ⟨g9, e9⟩ := hS.ptr 0 rfl (hall 26 (by decide))
 obtain ⟨g10, e10⟩ := hS.ptr 1 rfl (hall 27 (by decide))
 have O3 : Own w_ w' [(g9, 44, M.mat 2 (DM.t2 pu pv)), (g10, 44, M.mat 2 M.zero), (g5, 44, M.mat 2 b), (g4, 44, M.mat 2 a)] := by
  have h3 := hS.2.2
  rw [nows_cons, nows_cons, NbS.now_is e9 true (hall 28 (by decide)), NbS.now_same e10 rfl] at h3
  exact h3
 clear hS O
 have O := O3
 clear O3
 simp only [seen, e9, e10, Option.getD_some]
 try generalize (st 28).getD undef = x28'
 clear hall e9 e10
 refine wpAny_want (i := 29) (by kernel_rfl) rfl (by rfl) (fun K hK => ?_)
 refine wp_put_own O 1 (M.mat 2 (DM.t2 qu qv)) rfl rfl rfl (sP _) (M.mat_len2 _ _ _) (M.mat_one _ _) fun w9 O9 => hK _ _ ?_
 clear O
 have O := O9
 clear O9
 clear hK K
 try simp only [Act.put, List.setIfInBounds_toArray, List.set_cons_zero, List.set_cons_succ]
 refine wpAny_done (by kernel_rfl) ?_ _
 have O9 := Own.as O (l' := [(g9, 44, M.mat 2 (DM.t2 pu pv)), (g10, 44, M.mat 2 (DM.t2 qu qv)), (g5, 44, M.mat 2 b), (g4, 44, M.mat 2 a)]) rfl
 clear O HD Hm Hn Hpus Hpvs Hqus Hqvs Hpu Hpv Hqu Hqv Ca0 Ca1 Cb0 Cb1
 have O := O9
 clear O9
 cases h0 : decide (0 ≤ s1)
 ·
  cases h1 : decide (s2 ≤ 0)
  ·
   cases h2 : decide (0 ≤ s3)
   ·
    cases h3 : decide (s4 ≤ 0)
    ·
     have BX := Lib.hid (NB_.out (by simpa using h0) (by simpa using h1) (by simpa using h2) (by simpa using h3))
     cases hq : M.eqB 2 a b
     ·
      have HNE : Hid (¬ (pu = qu ∧ pv = qv)) := Lib.hid (fun h => by
       have := QE.out.2 h
       rw [hq] at this
       cases this)
      have HQ := Lib.hid hq
      clear hq
      obtain ⟨hsp, hsq, hdp, hdq, Wsp, Wsq, Wdp, Wdq⟩ := FS.out
      obtain ⟨hk1, G1, hn1, Wn1⟩ := FM1.out
      obtain ⟨hk2, G2, hn2, Wn2⟩ := FM2.out
      obtain ⟨hk3, G3, hn3, Wn3⟩ := FM3.out
      obtain ⟨hk4, G4, hn4, Wn4⟩ := FM4.out
      go_wp2_with (first | ((with_reducible first | refine at_load 42 ?_ | refine at_load 58 ?_ | refine at_load 74 ?_ | refine at_load 90 ?_); refine wpList_cell_h (v := .int .i64 (pu)) rfl O.held 0 rfl CP0.out rfl agg3 rfl ?_) | ((with_reducible first | refine at_load 44 ?_ | refine at_load 60 ?_ | refine at_load 76 ?_ | refine at_load 92 ?_); refine wpList_cell_h (v := .int .i64 (pv)) rfl O.held 0 rfl CP1.out rfl agg3 rfl ?_) | ((with_reducible first | refine at_load 47 ?_ | refine at_load 63 ?_ | refine at_load 79 ?_ | refine at_load 95 ?_); refine wpList_cell_h (v := .int .i64 (qu)) rfl O.held 1 rfl CQ0.out rfl agg3 rfl ?_) | ((with_reducible first | refine at_load 49 ?_ | refine at_load 65 ?_ | refine at_load 81 ?_ | refine at_load 97 ?_); refine wpList_cell_h (v := .int .i64 (qv)) rfl O.held 1 rfl CQ1.out rfl agg3 rfl ?_) | ((with_reducible refine at_build 53 ?_); refine wpList_build_g rfl ([(0, .int .i64 n1), (1, .int .i64 (-1)), (2, .int .i64 (-1))]) ((M.mat 3 (DM.t3 n1 (-1) (-1))).toArray) ?_ (builtN _ _ _) ?_; (focus (simp only [List.map_toArray, List.map_cons, List.map_nil]; rfl))) | ((with_reducible refine at_build 69 ?_); refine wpList_build_g rfl ([(0, .int .i64 n2), (1, .int .i64 (-1)), (2, .int .i64 (-1))]) ((M.mat 3 (DM.t3 n2 (-1) (-1))).toArray) ?_ (builtN _ _ _) ?_; (focus (simp only [List.map_toArray, List.map_cons, List.map_nil]; rfl))) | ((with_reducible refine at_build 85 ?_); refine wpList_build_g rfl ([(0, .int .i64 n3), (1, .int .i64 (-1)), (2, .int .i64 (1))]) ((M.mat 3 (DM.t3 n3 (-1) (1))).toArray) ?_ (builtN _ _ _) ?_; (focus (simp only [List.map_toArray, List.map_cons, List.map_nil]; rfl))) | ((with_reducible refine at_build 101 ?_); refine wpList_build_g rfl ([(0, .int .i64 n4), (1, .int .i64 (-1)), (2, .int .i64 (1))]) ((M.mat 3 (DM.t3 n4 (-1) (1))).toArray) ?_ (builtN _ _ _) ?_; (focus (simp only [List.map_toArray, List.map_cons, List.map_nil]; rfl))) | (go_at_call 79; clear tok0; have tok1 : True := trivial; refine (S1 _).mono ?_; rintro e v1 ⟨rfl, hb⟩; replace O := O.call hb; clear hb) | (go_at_call 79; clear tok1; have tok2 : True := trivial; refine (S2 _).mono ?_; rintro e v2 ⟨rfl, hb⟩; replace O := O.call hb; clear hb) | (go_at_call 79; clear tok2; have tok3 : True := trivial; refine (S3 _).mono ?_; rintro e v3 ⟨rfl, hb⟩; replace O := O.call hb; clear hb) | (go_at_call 79; clear tok3; have tok4 : True := trivial; refine (S4 _).mono ?_; rintro e v4 ⟨rfl, hb⟩; replace O := O.call hb; clear hb) | ((with_reducible refine at_load 105 ?_); refine wpList_whole rfl O 3 rfl rfl Tryz.underlying44 rfl (sP _) ?_) | ((with_reducible refine at_load 106 ?_); refine wpList_whole rfl O 2 rfl rfl Tryz.underlying44 rfl (sP _) ?_) | ((with_reducible refine at_binOp 107 ?_); refine wpList_eqP rfl (a) (b) rfl rfl ?_; rw [HQ.out]))
      try clear hsp
      try clear hsq
      try clear hdp
      try clear hdq
      try clear Wsp
      try clear Wsq
      try clear Wdp
      try clear Wdq
      try clear hk1
      try clear hk2
      try clear hk3
      try clear hk4
      try clear G1
      try clear G2
      try clear G3
      try clear G4
      try clear hn1
      try clear hn2
      try clear hn3
      try clear hn4
      try clear Wn1
      try clear Wn2
      try clear Wn3
      try clear Wn4
      clear HQ
      obtain ⟨⟨pu1, pu2⟩, ⟨pv1, pv2⟩, ⟨rw1, rw2⟩, ⟨rh1, rh2⟩⟩ := RU.out
      obtain ⟨w, hw⟩ : ∃ z, qu - pu = z := ⟨_, rfl⟩
      obtain ⟨h, hh⟩ : ∃ z, qv - pv = z := ⟨_, rfl⟩
      rw [hw] at rw1 rw2
      rw [hh] at rh1 rh2
      have b1 := M.mul_hi (a := w) (b := pv) (A := 1073741824) (B := 1610612864) (by omega) rw2 (by omega) pv2
      have b2 := M.mul_hi (a := h) (b := pu) (A := 1073741824) (B := 1610612864) (by omega) rh2 (by omega) pu2
      obtain ⟨t1, ht1⟩ : ∃ z, w * pv = z := ⟨_, rfl⟩
      obtain ⟨t2, ht2⟩ : ∃ z, h * pu = z := ⟨_, rfl⟩
      rw [ht1] at b1
      rw [ht2] at b2
      obtain ⟨o, ho⟩ : ∃ z, t1 - t2 = z := ⟨_, rfl⟩
      have AW := fun w_ => abs_any w (by omega) (by omega) w_
      have AH := fun w_ => abs_any h (by omega) (by omega) w_
      have la : 0 ≤ DM.abs w ∧ DM.abs w ≤ 1073741824 ∧ 0 ≤ DM.abs h ∧ DM.abs h ≤ 1073741824 := by unfold DM.abs; omega
      obtain ⟨aw, haw⟩ : ∃ z, DM.abs w = z := ⟨_, rfl⟩
      obtain ⟨ah, hah⟩ : ∃ z, DM.abs h = z := ⟨_, rfl⟩
      rw [haw] at AW
      rw [hah] at AH
      rw [haw, hah] at la
      obtain ⟨mx, hmx⟩ : ∃ z, max aw ah = z := ⟨_, rfl⟩
      have GX := (max_if aw ah).trans hmx
      obtain ⟨f, hf⟩ : ∃ z, 128 * mx = z := ⟨_, rfl⟩
      have NF := NL.out BX.out HNE.out w h o f hw hh (by rw [ht1, ht2, ho]) (by rw [haw, hah, hmx, hf])
      have Hw : Hid (qu - pu = w ∧ IntKind.i64.wrap w = w) := Lib.hid ⟨hw, IntWalk.i64_in _ (by omega)⟩
      have Hh : Hid (qv - pv = h ∧ IntKind.i64.wrap h = h) := Lib.hid ⟨hh, IntWalk.i64_in _ (by omega)⟩
      have Ht1 : Hid (w * pv = t1 ∧ IntKind.i64.wrap t1 = t1) := Lib.hid ⟨ht1, IntWalk.i64_in _ (by omega)⟩
      have Ht2 : Hid (h * pu = t2 ∧ IntKind.i64.wrap t2 = t2) := Lib.hid ⟨ht2, IntWalk.i64_in _ (by omega)⟩
      have Ho : Hid (t1 - t2 = o ∧ IntKind.i64.wrap o = o) := Lib.hid ⟨ho, IntWalk.i64_in _ (by omega)⟩
      have Hf : Hid (128 * mx = f ∧ IntKind.i64.wrap f = f) := Lib.hid ⟨hf, IntWalk.i64_in _ (by omega)⟩
      have Hx : Hid (max aw ah = mx ∧ (if aw < ah then ah else aw) = mx) := Lib.hid ⟨hmx, GX⟩
      obtain ⟨nw, hnw⟩ : ∃ z, 0 - w = z := ⟨_, rfl⟩
      obtain ⟨k5, hk5⟩ : ∃ z, o - f = z := ⟨_, rfl⟩
      obtain ⟨k6, hk6⟩ : ∃ z, o + f = z := ⟨_, rfl⟩
      rw [hnw, hk5, hk6] at NF
      have Wnw : wrap64 (0 - w) = nw := by rw [hnw]; exact IntWalk.wrap64_in _ (by omega)
      have Wnw2 : wrap64 (-w) = nw := by rw [← Wnw, Int.zero_sub]
      have hnw2 : -w = nw := by omega
      have Wk5 : wrap64 (o - f) = k5 := by rw [hk5]; exact IntWalk.wrap64_in _ (by omega)
      have Wk6 : wrap64 (o + f) = k6 := by rw [hk6]; exact IntWalk.wrap64_in _ (by omega)
      have S5 := fun w_ => sign3_any k5 h nw w_
      have S6 := fun w_ => sign3_any k6 h nw w_
      obtain ⟨s5, hs5⟩ : ∃ z, DM.sg k5 h nw = z := ⟨_, rfl⟩
      obtain ⟨s6, hs6⟩ : ∃ z, DM.sg k6 h nw = z := ⟨_, rfl⟩
      rw [hs5] at S5 NF
      rw [hs6] at S6 NF
      have HF := Lib.hid NF
      have FW := Lib.hid (And.intro (congrArg (Value.int IntKind.i64) Wnw) (And.intro (congrArg (Value.int IntKind.i64) Wnw2) (And.intro (congrArg (Value.int IntKind.i64) hnw2) (And.intro (congrArg (Value.int IntKind.i64) Wk5) (And.intro (congrArg (Value.int IntKind.i64) Wk6) (And.intro (congrArg (Value.int IntKind.i64) hk5) (And.intro (congrArg (Value.int IntKind.i64) hk6) (congrArg (Value.int IntKind.i64) hnw))))))))
      clear pu1 pu2 pv1 pv2 rw1 rw2 rh1 rh2 hw hh b1 b2 ht1 ht2 ho la haw hah hmx GX hf NF hnw hk5 hk6 Wnw Wnw2 hnw2 Wk5 Wk6 hs5 hs6
      have OO := O
      clear O
      have O := OO
      clear OO
      refine region_T ((fun w2 => Own w_ w2 [(g9, 44, M.mat 2 (DM.t2 pu pv)), (g10, 44, M.mat 2 (DM.t2 qu qv)), (g5, 44, M.mat 2 b), (g4, 44, M.mat 2 a)])) [0, 1, 2, 3, 4, 5, 6, 7, 8, 9, 10] 12 [some 108, some 109, some 110, some 111, some 112, some 113, some 114, some 115, some 116, some 117, some 11] [.pointer (some ⟨g10, 0, none⟩), .int .i64 qu, .pointer (some ⟨g9, 0, none⟩), .int .i64 pu, .int .i64 w, .pointer (some ⟨g10, 1, none⟩), .int .i64 qv, .pointer (some ⟨g9, 1, none⟩), .int .i64 pv, .int .i64 h, .int .i64 w] 1 (by kernel_rfl) (by rfl) (by kernel_rfl) (by rfl) (by rfl) (O.drew) (fun F hF => ?_)
      simp only [fillD, Act.put, List.setIfInBounds_toArray, List.set_cons_zero, List.set_cons_succ] at hF
      subst hF
      refine ⟨⟨does_want rfl (by rfl) (fun w' O K hK => ?_), does_want rfl (by rfl) (fun w' O K hK => ?_), does_want rfl (by rfl) (fun w' O K hK => ?_), does_want rfl (by rfl) (fun w' O K hK => ?_), does_want rfl (by rfl) (fun w' O K hK => ?_), does_want rfl (by rfl) (fun w' O K hK => ?_), does_want rfl (by rfl) (fun w' O K hK => ?_), does_want rfl (by rfl) (fun w' O K hK => ?_), does_want rfl (by rfl) (fun w' O K hK => ?_), does_want rfl (by rfl) (fun w' O K hK => ?_), does_want rfl (by rfl) (fun w' O K hK => ?_), trivial⟩, fun w' O => ?_⟩
      ·
       go_simp
       exact hK _ O
      · exact wp_cell_h (v := .int .i64 (qu)) O.held 1 rfl CQ0.out rfl agg3 rfl (hK _ O)
      ·
       go_simp
       exact hK _ O
      · exact wp_cell_h (v := .int .i64 (pu)) O.held 0 rfl CP0.out rfl agg3 rfl (hK _ O)
      ·
       obtain ⟨e1, e2⟩ := Hw.out
       go_simp
       first | exact hK _ O | (rw [e1, e2]; exact hK _ O)
      ·
       go_simp
       exact hK _ O
      · exact wp_cell_h (v := .int .i64 (qv)) O.held 1 rfl CQ1.out rfl agg3 rfl (hK _ O)
      ·
       go_simp
       exact hK _ O
      · exact wp_cell_h (v := .int .i64 (pv)) O.held 0 rfl CP1.out rfl agg3 rfl (hK _ O)
      ·
       obtain ⟨e1, e2⟩ := Hh.out
       go_simp
       first | exact hK _ O | (rw [e1, e2]; exact hK _ O)
      ·
       go_simp
       exact hK _ O
      refine wpAny_one (i := 11) (by kernel_rfl) rfl (fun K hK => ?_)
      go_simp
      refine hK _ _ ?_
      clear hK K
      try simp only [Act.put, List.setIfInBounds_toArray, List.set_cons_zero, List.set_cons_succ]
      refine wpAny_done (by kernel_rfl) ?_ _
      go_wp2_with fail
      refine region_T ((fun w2 => Own w_ w2 [(g9, 44, M.mat 2 (DM.t2 pu pv)), (g10, 44, M.mat 2 (DM.t2 qu qv)), (g5, 44, M.mat 2 b), (g4, 44, M.mat 2 a)])) [0, 1, 2, 3, 4, 5, 6, 7, 8, 9, 10, 11, 12, 13, 14, 15] 12 [some 118, some 119, some 120, some 121, some 122, some 123, some 124, some 125, some 126, some 127, some 128, some 129, some 130, some 131, some 132, some 13] [.int .i64 w, .pointer (some ⟨g9, 1, none⟩), .int .i64 pv, .int .i64 t1, .int .i64 h, .pointer (some ⟨g9, 0, none⟩), .int .i64 pu, .int .i64 t2, .int .i64 o, .int .i64 w, .int .i64 aw, .int .i64 h, .int .i64 ah, .int .i64 mx, .int .i64 f, .int .i64 o] 1 (by kernel_rfl) (by rfl) (by kernel_rfl) (by rfl) (by rfl) (O.drew) (fun F hF => ?_)
      simp only [fillD, Act.put, List.setIfInBounds_toArray, List.set_cons_zero, List.set_cons_succ] at hF
      subst hF
      refine ⟨⟨does_want rfl (by rfl) (fun w' O K hK => ?_), does_want rfl (by rfl) (fun w' O K hK => ?_), does_want rfl (by rfl) (fun w' O K hK => ?_), does_want rfl (by rfl) (fun w' O K hK => ?_), does_want rfl (by rfl) (fun w' O K hK => ?_), does_want rfl (by rfl) (fun w' O K hK => ?_), does_want rfl (by rfl) (fun w' O K hK => ?_), does_want rfl (by rfl) (fun w' O K hK => ?_), does_want rfl (by rfl) (fun w' O K hK => ?_), does_want rfl (by rfl) (fun w' O K hK => ?_), does_want rfl (by rfl) (fun w' O K hK => ?_), does_want rfl (by rfl) (fun w' O K hK => ?_), does_want rfl (by rfl) (fun w' O K hK => ?_), does_want rfl (by rfl) (fun w' O K hK => ?_), does_want rfl (by rfl) (fun w' O K hK => ?_), does_want rfl (by rfl) (fun w' O K hK => ?_), trivial⟩, fun w' O => ?_⟩
      ·
       go_simp
       exact hK _ O
      ·
       go_simp
       exact hK _ O
      · exact wp_cell_h (v := .int .i64 (pv)) O.held 0 rfl CP1.out rfl agg3 rfl (hK _ O)
      ·
       obtain ⟨e1, e2⟩ := Ht1.out
       go_simp
       first | exact hK _ O | (rw [e1, e2]; exact hK _ O)
      ·
       go_simp
       exact hK _ O
      ·
       go_simp
       exact hK _ O
      · exact wp_cell_h (v := .int .i64 (pu)) O.held 0 rfl CP0.out rfl agg3 rfl (hK _ O)
      ·
       obtain ⟨e1, e2⟩ := Ht2.out
       go_simp
       first | exact hK _ O | (rw [e1, e2]; exact hK _ O)
      ·
       obtain ⟨e1, e2⟩ := Ho.out
       go_simp
       first | exact hK _ O | (rw [e1, e2]; exact hK _ O)
      ·
       go_simp
       exact hK _ O
      ·
       go_simp
       go_at_call 80
       refine (AW _).mono ?_
       rintro e w2 ⟨rfl, hw⟩
       obtain rfl := hw.symm
       clear hw
       exact hK _ O
      ·
       go_simp
       exact hK _ O
      ·
       go_simp
       go_at_call 80
       refine (AH _).mono ?_
       rintro e w2 ⟨rfl, hw⟩
       obtain rfl := hw.symm
       clear hw
       exact hK _ O
      ·
       obtain ⟨e1, e2⟩ := Hx.out
       go_simp
       first | exact hK _ O | (rw [e1, e2]; exact hK _ O)
      ·
       obtain ⟨e1, e2⟩ := Hf.out
       go_simp
       first | exact hK _ O | (rw [e1, e2]; exact hK _ O)
      ·
       go_simp
       exact hK _ O
      refine wpAny_one (i := 16) (by kernel_rfl) rfl (fun K hK => ?_)
      go_simp
      refine hK _ _ ?_
      clear hK K
      try simp only [Act.put, List.setIfInBounds_toArray, List.set_cons_zero, List.set_cons_succ]
      refine wpAny_done (by kernel_rfl) ?_ _
      obtain ⟨Wnw, Wnw2, hnw2, Wk5, Wk6, hk5, hk6, hnw⟩ := FW.out
      clear Hw Hh Ht1 Ht2 Ho Hf Hx
      cases z5 : decide (s5 < 0)
      ·
       rw [z5, Bool.false_and] at HF
       go_wp2_with (first | ((with_reducible refine at_build 139 ?_); refine wpList_build_g rfl ([(0, .int .i64 k5), (1, .int .i64 h), (2, .int .i64 nw)]) ((M.mat 3 (DM.t3 k5 h nw)).toArray) ?_ (builtN _ _ _) ?_; (focus (simp only [List.map_toArray, List.map_cons, List.map_nil]; rfl))) | ((with_reducible refine at_build 149 ?_); refine wpList_build_g rfl ([(0, .int .i64 k6), (1, .int .i64 h), (2, .int .i64 nw)]) ((M.mat 3 (DM.t3 k6 h nw)).toArray) ?_ (builtN _ _ _) ?_; (focus (simp only [List.map_toArray, List.map_cons, List.map_nil]; rfl))) | (go_at_call 79; clear tok4; have tok5 : True := trivial; refine (S5 _).mono ?_; rintro e v5 ⟨rfl, hb⟩; replace O := O.call hb; clear hb) | (go_at_call 79; clear tok5; have tok6 : True := trivial; refine (S6 _).mono ?_; rintro e v6 ⟨rfl, hb⟩; replace O := O.call hb; clear hb))
       go_ret
       exact ⟨by rw [HF.out]; rfl, O.below⟩
      ·
       rw [z5, Bool.true_and] at HF
       cases z6 : decide (0 < s6)
       ·
        rw [z6] at HF
        go_wp2_with (first | ((with_reducible refine at_build 139 ?_); refine wpList_build_g rfl ([(0, .int .i64 k5), (1, .int .i64 h), (2, .int .i64 nw)]) ((M.mat 3 (DM.t3 k5 h nw)).toArray) ?_ (builtN _ _ _) ?_; (focus (simp only [List.map_toArray, List.map_cons, List.map_nil]; rfl))) | ((with_reducible refine at_build 149 ?_); refine wpList_build_g rfl ([(0, .int .i64 k6), (1, .int .i64 h), (2, .int .i64 nw)]) ((M.mat 3 (DM.t3 k6 h nw)).toArray) ?_ (builtN _ _ _) ?_; (focus (simp only [List.map_toArray, List.map_cons, List.map_nil]; rfl))) | (go_at_call 79; clear tok4; have tok5 : True := trivial; refine (S5 _).mono ?_; rintro e v5 ⟨rfl, hb⟩; replace O := O.call hb; clear hb) | (go_at_call 79; clear tok5; have tok6 : True := trivial; refine (S6 _).mono ?_; rintro e v6 ⟨rfl, hb⟩; replace O := O.call hb; clear hb))
        go_ret
        exact ⟨by rw [HF.out]; rfl, O.below⟩
       ·
        rw [z6] at HF
        go_wp2_with (first | ((with_reducible refine at_build 139 ?_); refine wpList_build_g rfl ([(0, .int .i64 k5), (1, .int .i64 h), (2, .int .i64 nw)]) ((M.mat 3 (DM.t3 k5 h nw)).toArray) ?_ (builtN _ _ _) ?_; (focus (simp only [List.map_toArray, List.map_cons, List.map_nil]; rfl))) | ((with_reducible refine at_build 149 ?_); refine wpList_build_g rfl ([(0, .int .i64 k6), (1, .int .i64 h), (2, .int .i64 nw)]) ((M.mat 3 (DM.t3 k6 h nw)).toArray) ?_ (builtN _ _ _) ?_; (focus (simp only [List.map_toArray, List.map_cons, List.map_nil]; rfl))) | (go_at_call 79; clear tok4; have tok5 : True := trivial; refine (S5 _).mono ?_; rintro e v5 ⟨rfl, hb⟩; replace O := O.call hb; clear hb) | (go_at_call 79; clear tok5; have tok6 : True := trivial; refine (S6 _).mono ?_; rintro e v6 ⟨rfl, hb⟩; replace O := O.call hb; clear hb))
        go_ret
        exact ⟨by rw [HF.out]; rfl, O.below⟩
     ·
      have HE := Lib.hid (NY.out BX.out (QE.out.1 hq))
      have HQ := Lib.hid hq
      clear hq
      obtain ⟨hsp, hsq, hdp, hdq, Wsp, Wsq, Wdp, Wdq⟩ := FS.out
      obtain ⟨hk1, G1, hn1, Wn1⟩ := FM1.out
      obtain ⟨hk2, G2, hn2, Wn2⟩ := FM2.out
      obtain ⟨hk3, G3, hn3, Wn3⟩ := FM3.out
      obtain ⟨hk4, G4, hn4, Wn4⟩ := FM4.out
      go_wp2_with (first | ((with_reducible first | refine at_load 42 ?_ | refine at_load 58 ?_ | refine at_load 74 ?_ | refine at_load 90 ?_); refine wpList_cell_h (v := .int .i64 (pu)) rfl O.held 0 rfl CP0.out rfl agg3 rfl ?_) | ((with_reducible first | refine at_load 44 ?_ | refine at_load 60 ?_ | refine at_load 76 ?_ | refine at_load 92 ?_); refine wpList_cell_h (v := .int .i64 (pv)) rfl O.held 0 rfl CP1.out rfl agg3 rfl ?_) | ((with_reducible first | refine at_load 47 ?_ | refine at_load 63 ?_ | refine at_load 79 ?_ | refine at_load 95 ?_); refine wpList_cell_h (v := .int .i64 (qu)) rfl O.held 1 rfl CQ0.out rfl agg3 rfl ?_) | ((with_reducible first | refine at_load 49 ?_ | refine at_load 65 ?_ | refine at_load 81 ?_ | refine at_load 97 ?_); refine wpList_cell_h (v := .int .i64 (qv)) rfl O.held 1 rfl CQ1.out rfl agg3 rfl ?_) | ((with_reducible refine at_build 53 ?_); refine wpList_build_g rfl ([(0, .int .i64 n1), (1, .int .i64 (-1)), (2, .int .i64 (-1))]) ((M.mat 3 (DM.t3 n1 (-1) (-1))).toArray) ?_ (builtN _ _ _) ?_; (focus (simp only [List.map_toArray, List.map_cons, List.map_nil]; rfl))) | ((with_reducible refine at_build 69 ?_); refine wpList_build_g rfl ([(0, .int .i64 n2), (1, .int .i64 (-1)), (2, .int .i64 (-1))]) ((M.mat 3 (DM.t3 n2 (-1) (-1))).toArray) ?_ (builtN _ _ _) ?_; (focus (simp only [List.map_toArray, List.map_cons, List.map_nil]; rfl))) | ((with_reducible refine at_build 85 ?_); refine wpList_build_g rfl ([(0, .int .i64 n3), (1, .int .i64 (-1)), (2, .int .i64 (1))]) ((M.mat 3 (DM.t3 n3 (-1) (1))).toArray) ?_ (builtN _ _ _) ?_; (focus (simp only [List.map_toArray, List.map_cons, List.map_nil]; rfl))) | ((with_reducible refine at_build 101 ?_); refine wpList_build_g rfl ([(0, .int .i64 n4), (1, .int .i64 (-1)), (2, .int .i64 (1))]) ((M.mat 3 (DM.t3 n4 (-1) (1))).toArray) ?_ (builtN _ _ _) ?_; (focus (simp only [List.map_toArray, List.map_cons, List.map_nil]; rfl))) | (go_at_call 79; clear tok0; have tok1 : True := trivial; refine (S1 _).mono ?_; rintro e v1 ⟨rfl, hb⟩; replace O := O.call hb; clear hb) | (go_at_call 79; clear tok1; have tok2 : True := trivial; refine (S2 _).mono ?_; rintro e v2 ⟨rfl, hb⟩; replace O := O.call hb; clear hb) | (go_at_call 79; clear tok2; have tok3 : True := trivial; refine (S3 _).mono ?_; rintro e v3 ⟨rfl, hb⟩; replace O := O.call hb; clear hb) | (go_at_call 79; clear tok3; have tok4 : True := trivial; refine (S4 _).mono ?_; rintro e v4 ⟨rfl, hb⟩; replace O := O.call hb; clear hb) | ((with_reducible refine at_load 105 ?_); refine wpList_whole rfl O 3 rfl rfl Tryz.underlying44 rfl (sP _) ?_) | ((with_reducible refine at_load 106 ?_); refine wpList_whole rfl O 2 rfl rfl Tryz.underlying44 rfl (sP _) ?_) | ((with_reducible refine at_binOp 107 ?_); refine wpList_eqP rfl (a) (b) rfl rfl ?_; rw [HQ.out]))
      go_ret
      exact ⟨by rw [HE.out]; rfl, O.below⟩
    ·
     have HE := Lib.hid (N4.out (by simpa using h3))
     obtain ⟨hsp, hsq, hdp, hdq, Wsp, Wsq, Wdp, Wdq⟩ := FS.out
     obtain ⟨hk1, G1, hn1, Wn1⟩ := FM1.out
     obtain ⟨hk2, G2, hn2, Wn2⟩ := FM2.out
     obtain ⟨hk3, G3, hn3, Wn3⟩ := FM3.out
     obtain ⟨hk4, G4, hn4, Wn4⟩ := FM4.out
     go_wp2_with (first | ((with_reducible first | refine at_load 42 ?_ | refine at_load 58 ?_ | refine at_load 74 ?_ | refine at_load 90 ?_); refine wpList_cell_h (v := .int .i64 (pu)) rfl O.held 0 rfl CP0.out rfl agg3 rfl ?_) | ((with_reducible first | refine at_load 44 ?_ | refine at_load 60 ?_ | refine at_load 76 ?_ | refine at_load 92 ?_); refine wpList_cell_h (v := .int .i64 (pv)) rfl O.held 0 rfl CP1.out rfl agg3 rfl ?_) | ((with_reducible first | refine at_load 47 ?_ | refine at_load 63 ?_ | refine at_load 79 ?_ | refine at_load 95 ?_); refine wpList_cell_h (v := .int .i64 (qu)) rfl O.held 1 rfl CQ0.out rfl agg3 rfl ?_) | ((with_reducible first | refine at_load 49 ?_ | refine at_load 65 ?_ | refine at_load 81 ?_ | refine at_load 97 ?_); refine wpList_cell_h (v := .int .i64 (qv)) rfl O.held 1 rfl CQ1.out rfl agg3 rfl ?_) | ((with_reducible refine at_build 53 ?_); refine wpList_build_g rfl ([(0, .int .i64 n1), (1, .int .i64 (-1)), (2, .int .i64 (-1))]) ((M.mat 3 (DM.t3 n1 (-1) (-1))).toArray) ?_ (builtN _ _ _) ?_; (focus (simp only [List.map_toArray, List.map_cons, List.map_nil]; rfl))) | ((with_reducible refine at_build 69 ?_); refine wpList_build_g rfl ([(0, .int .i64 n2), (1, .int .i64 (-1)), (2, .int .i64 (-1))]) ((M.mat 3 (DM.t3 n2 (-1) (-1))).toArray) ?_ (builtN _ _ _) ?_; (focus (simp only [List.map_toArray, List.map_cons, List.map_nil]; rfl))) | ((with_reducible refine at_build 85 ?_); refine wpList_build_g rfl ([(0, .int .i64 n3), (1, .int .i64 (-1)), (2, .int .i64 (1))]) ((M.mat 3 (DM.t3 n3 (-1) (1))).toArray) ?_ (builtN _ _ _) ?_; (focus (simp only [List.map_toArray, List.map_cons, List.map_nil]; rfl))) | ((with_reducible refine at_build 101 ?_); refine wpList_build_g rfl ([(0, .int .i64 n4), (1, .int .i64 (-1)), (2, .int .i64 (1))]) ((M.mat 3 (DM.t3 n4 (-1) (1))).toArray) ?_ (builtN _ _ _) ?_; (focus (simp only [List.map_toArray, List.map_cons, List.map_nil]; rfl))) | (go_at_call 79; clear tok0; have tok1 : True := trivial; refine (S1 _).mono ?_; rintro e v1 ⟨rfl, hb⟩; replace O := O.call hb; clear hb) | (go_at_call 79; clear tok1; have tok2 : True := trivial; refine (S2 _).mono ?_; rintro e v2 ⟨rfl, hb⟩; replace O := O.call hb; clear hb) | (go_at_call 79; clear tok2; have tok3 : True := trivial; refine (S3 _).mono ?_; rintro e v3 ⟨rfl, hb⟩; replace O := O.call hb; clear hb) | (go_at_call 79; clear tok3; have tok4 : True := trivial; refine (S4 _).mono ?_; rintro e v4 ⟨rfl, hb⟩; replace O := O.call hb; clear hb))
     go_ret
     exact ⟨by rw [HE.out]; rfl, O.below⟩
   ·
    have HE := Lib.hid (N3.out (by simpa using h2))
    obtain ⟨hsp, hsq, hdp, hdq, Wsp, Wsq, Wdp, Wdq⟩ := FS.out
    obtain ⟨hk1, G1, hn1, Wn1⟩ := FM1.out
    obtain ⟨hk2, G2, hn2, Wn2⟩ := FM2.out
    obtain ⟨hk3, G3, hn3, Wn3⟩ := FM3.out
    obtain ⟨hk4, G4, hn4, Wn4⟩ := FM4.out
    go_wp2_with (first | ((with_reducible first | refine at_load 42 ?_ | refine at_load 58 ?_ | refine at_load 74 ?_ | refine at_load 90 ?_); refine wpList_cell_h (v := .int .i64 (pu)) rfl O.held 0 rfl CP0.out rfl agg3 rfl ?_) | ((with_reducible first | refine at_load 44 ?_ | refine at_load 60 ?_ | refine at_load 76 ?_ | refine at_load 92 ?_); refine wpList_cell_h (v := .int .i64 (pv)) rfl O.held 0 rfl CP1.out rfl agg3 rfl ?_) | ((with_reducible first | refine at_load 47 ?_ | refine at_load 63 ?_ | refine at_load 79 ?_ | refine at_load 95 ?_); refine wpList_cell_h (v := .int .i64 (qu)) rfl O.held 1 rfl CQ0.out rfl agg3 rfl ?_) | ((with_reducible first | refine at_load 49 ?_ | refine at_load 65 ?_ | refine at_load 81 ?_ | refine at_load 97 ?_); refine wpList_cell_h (v := .int .i64 (qv)) rfl O.held 1 rfl CQ1.out rfl agg3 rfl ?_) | ((with_reducible refine at_build 53 ?_); refine wpList_build_g rfl ([(0, .int .i64 n1), (1, .int .i64 (-1)), (2, .int .i64 (-1))]) ((M.mat 3 (DM.t3 n1 (-1) (-1))).toArray) ?_ (builtN _ _ _) ?_; (focus (simp only [List.map_toArray, List.map_cons, List.map_nil]; rfl))) | ((with_reducible refine at_build 69 ?_); refine wpList_build_g rfl ([(0, .int .i64 n2), (1, .int .i64 (-1)), (2, .int .i64 (-1))]) ((M.mat 3 (DM.t3 n2 (-1) (-1))).toArray) ?_ (builtN _ _ _) ?_; (focus (simp only [List.map_toArray, List.map_cons, List.map_nil]; rfl))) | ((with_reducible refine at_build 85 ?_); refine wpList_build_g rfl ([(0, .int .i64 n3), (1, .int .i64 (-1)), (2, .int .i64 (1))]) ((M.mat 3 (DM.t3 n3 (-1) (1))).toArray) ?_ (builtN _ _ _) ?_; (focus (simp only [List.map_toArray, List.map_cons, List.map_nil]; rfl))) | ((with_reducible refine at_build 101 ?_); refine wpList_build_g rfl ([(0, .int .i64 n4), (1, .int .i64 (-1)), (2, .int .i64 (1))]) ((M.mat 3 (DM.t3 n4 (-1) (1))).toArray) ?_ (builtN _ _ _) ?_; (focus (simp only [List.map_toArray, List.map_cons, List.map_nil]; rfl))) | (go_at_call 79; clear tok0; have tok1 : True := trivial; refine (S1 _).mono ?_; rintro e v1 ⟨rfl, hb⟩; replace O := O.call hb; clear hb) | (go_at_call 79; clear tok1; have tok2 : True := trivial; refine (S2 _).mono ?_; rintro e v2 ⟨rfl, hb⟩; replace O := O.call hb; clear hb) | (go_at_call 79; clear tok2; have tok3 : True := trivial; refine (S3 _).mono ?_; rintro e v3 ⟨rfl, hb⟩; replace O := O.call hb; clear hb) | (go_at_call 79; clear tok3; have tok4 : True := trivial; refine (S4 _).mono ?_; rintro e v4 ⟨rfl, hb⟩; replace O := O.call hb; clear hb))
    go_ret
    exact ⟨by rw [HE.out]; rfl, O.below⟩
  ·
   have HE := Lib.hid (N2.out (by simpa using h1))
   obtain ⟨hsp, hsq, hdp, hdq, Wsp, Wsq, Wdp, Wdq⟩ := FS.out
   obtain ⟨hk1, G1, hn1, Wn1⟩ := FM1.out
   obtain ⟨hk2, G2, hn2, Wn2⟩ := FM2.out
   obtain ⟨hk3, G3, hn3, Wn3⟩ := FM3.out
   obtain ⟨hk4, G4, hn4, Wn4⟩ := FM4.out
   go_wp2_with (first | ((with_reducible first | refine at_load 42 ?_ | refine at_load 58 ?_ | refine at_load 74 ?_ | refine at_load 90 ?_); refine wpList_cell_h (v := .int .i64 (pu)) rfl O.held 0 rfl CP0.out rfl agg3 rfl ?_) | ((with_reducible first | refine at_load 44 ?_ | refine at_load 60 ?_ | refine at_load 76 ?_ | refine at_load 92 ?_); refine wpList_cell_h (v := .int .i64 (pv)) rfl O.held 0 rfl CP1.out rfl agg3 rfl ?_) | ((with_reducible first | refine at_load 47 ?_ | refine at_load 63 ?_ | refine at_load 79 ?_ | refine at_load 95 ?_); refine wpList_cell_h (v := .int .i64 (qu)) rfl O.held 1 rfl CQ0.out rfl agg3 rfl ?_) | ((with_reducible first | refine at_load 49 ?_ | refine at_load 65 ?_ | refine at_load 81 ?_ | refine at_load 97 ?_); refine wpList_cell_h (v := .int .i64 (qv)) rfl O.held 1 rfl CQ1.out rfl agg3 rfl ?_) | ((with_reducible refine at_build 53 ?_); refine wpList_build_g rfl ([(0, .int .i64 n1), (1, .int .i64 (-1)), (2, .int .i64 (-1))]) ((M.mat 3 (DM.t3 n1 (-1) (-1))).toArray) ?_ (builtN _ _ _) ?_; (focus (simp only [List.map_toArray, List.map_cons, List.map_nil]; rfl))) | ((with_reducible refine at_build 69 ?_); refine wpList_build_g rfl ([(0, .int .i64 n2), (1, .int .i64 (-1)), (2, .int .i64 (-1))]) ((M.mat 3 (DM.t3 n2 (-1) (-1))).toArray) ?_ (builtN _ _ _) ?_; (focus (simp only [List.map_toArray, List.map_cons, List.map_nil]; rfl))) | ((with_reducible refine at_build 85 ?_); refine wpList_build_g rfl ([(0, .int .i64 n3), (1, .int .i64 (-1)), (2, .int .i64 (1))]) ((M.mat 3 (DM.t3 n3 (-1) (1))).toArray) ?_ (builtN _ _ _) ?_; (focus (simp only [List.map_toArray, List.map_cons, List.map_nil]; rfl))) | ((with_reducible refine at_build 101 ?_); refine wpList_build_g rfl ([(0, .int .i64 n4), (1, .int .i64 (-1)), (2, .int .i64 (1))]) ((M.mat 3 (DM.t3 n4 (-1) (1))).toArray) ?_ (builtN _ _ _) ?_; (focus (simp only [List.map_toArray, List.map_cons, List.map_nil]; rfl))) | (go_at_call 79; clear tok0; have tok1 : True := trivial; refine (S1 _).mono ?_; rintro e v1 ⟨rfl, hb⟩; replace O := O.call hb; clear hb) | (go_at_call 79; clear tok1; have tok2 : True := trivial; refine (S2 _).mono ?_; rintro e v2 ⟨rfl, hb⟩; replace O := O.call hb; clear hb) | (go_at_call 79; clear tok2; have tok3 : True := trivial; refine (S3 _).mono ?_; rintro e v3 ⟨rfl, hb⟩; replace O := O.call hb; clear hb) | (go_at_call 79; clear tok3; have tok4 : True := trivial; refine (S4 _).mono ?_; rintro e v4 ⟨rfl, hb⟩; replace O := O.call hb; clear hb))
   go_ret
   exact ⟨by rw [HE.out]; rfl, O.below⟩
 ·
  have HE := Lib.hid (N1.out (by simpa using h0))
  obtain ⟨hsp, hsq, hdp, hdq, Wsp, Wsq, Wdp, Wdq⟩ := FS.out
  obtain ⟨hk1, G1, hn1, Wn1⟩ := FM1.out
  obtain ⟨hk2, G2, hn2, Wn2⟩ := FM2.out
  obtain ⟨hk3, G3, hn3, Wn3⟩ := FM3.out
  obtain ⟨hk4, G4, hn4, Wn4⟩ := FM4.out
  go_wp2_with (first | ((with_reducible first | refine at_load 42 ?_ | refine at_load 58 ?_ | refine at_load 74 ?_ | refine at_load 90 ?_); refine wpList_cell_h (v := .int .i64 (pu)) rfl O.held 0 rfl CP0.out rfl agg3 rfl ?_) | ((with_reducible first | refine at_load 44 ?_ | refine at_load 60 ?_ | refine at_load 76 ?_ | refine at_load 92 ?_); refine wpList_cell_h (v := .int .i64 (pv)) rfl O.held 0 rfl CP1.out rfl agg3 rfl ?_) | ((with_reducible first | refine at_load 47 ?_ | refine at_load 63 ?_ | refine at_load 79 ?_ | refine at_load 95 ?_); refine wpList_cell_h (v := .int .i64 (qu)) rfl O.held 1 rfl CQ0.out rfl agg3 rfl ?_) | ((with_reducible first | refine at_load 49 ?_ | refine at_load 65 ?_ | refine at_load 81 ?_ | refine at_load 97 ?_); refine wpList_cell_h (v := .int .i64 (qv)) rfl O.held 1 rfl CQ1.out rfl agg3 rfl ?_) | ((with_reducible refine at_build 53 ?_); refine wpList_build_g rfl ([(0, .int .i64 n1), (1, .int .i64 (-1)), (2, .int .i64 (-1))]) ((M.mat 3 (DM.t3 n1 (-1) (-1))).toArray) ?_ (builtN _ _ _) ?_; (focus (simp only [List.map_toArray, List.map_cons, List.map_nil]; rfl))) | ((with_reducible refine at_build 69 ?_); refine wpList_build_g rfl ([(0, .int .i64 n2), (1, .int .i64 (-1)), (2, .int .i64 (-1))]) ((M.mat 3 (DM.t3 n2 (-1) (-1))).toArray) ?_ (builtN _ _ _) ?_; (focus (simp only [List.map_toArray, List.map_cons, List.map_nil]; rfl))) | ((with_reducible refine at_build 85 ?_); refine wpList_build_g rfl ([(0, .int .i64 n3), (1, .int .i64 (-1)), (2, .int .i64 (1))]) ((M.mat 3 (DM.t3 n3 (-1) (1))).toArray) ?_ (builtN _ _ _) ?_; (focus (simp only [List.map_toArray, List.map_cons, List.map_nil]; rfl))) | ((with_reducible refine at_build 101 ?_); refine wpList_build_g rfl ([(0, .int .i64 n4), (1, .int .i64 (-1)), (2, .int .i64 (1))]) ((M.mat 3 (DM.t3 n4 (-1) (1))).toArray) ?_ (builtN _ _ _) ?_; (focus (simp only [List.map_toArray, List.map_cons, List.map_nil]; rfl))) | (go_at_call 79; clear tok0; have tok1 : True := trivial; refine (S1 _).mono ?_; rintro e v1 ⟨rfl, hb⟩; replace O := O.call hb; clear hb) | (go_at_call 79; clear tok1; have tok2 : True := trivial; refine (S2 _).mono ?_; rintro e v2 ⟨rfl, hb⟩; replace O := O.call hb; clear hb) | (go_at_call 79; clear tok2; have tok3 : True := trivial; refine (S3 _).mono ?_; rintro e v3 ⟨rfl, hb⟩; replace O := O.call hb; clear hb) | (go_at_call 79; clear tok3; have tok4 : True := trivial; refine (S4 _).mono ?_; rintro e v4 ⟨rfl, hb⟩; replace O := O.call hb; clear hb))
  go_ret
  exact ⟨by rw [HE.out]; rfl, O.below⟩
theorem rmeets_any (a b : Nat → Int) (x y : Int) (hp : ((-536870912 ≤ a 0 ∧ a 0 ≤ 536870912) ∧ (-536870912 ≤ a 1 ∧ a 1 ≤ 536870912)) ∧ ((-536870912 ≤ b 0 ∧ b 0 ≤ 536870912) ∧ (-536870912 ≤ b 1 ∧ b 1 ≤ 536870912))) (hx : (-4194304 ≤ x ∧ x ≤ 4194304) ∧ (-4194304 ≤ y ∧ y ≤ 4194304)) (w_ : World) :
  Calls Tryz.prog 67 #[arr 2 a, arr 2 b, .int .i64 x, .int .i64 y] w_ fun e w' => e = .returned (.bool (DM.meets (DM.rel (a 0) x) (DM.rel (a 1) y) (DM.rel (b 0) x) (DM.rel (b 1) y))) ∧ Below w_.heap.size w_ w' := rmeets_gen a b x y hp (by omega) (by omega) w_
theorem rmeets_wide (a b : Nat → Int) (x y : Int) (hp : ((-268443648 ≤ a 0 ∧ a 0 ≤ 268443648) ∧ (-268443648 ≤ a 1 ∧ a 1 ≤ 268443648)) ∧ ((-268443648 ≤ b 0 ∧ b 0 ≤ 268443648) ∧ (-268443648 ≤ b 1 ∧ b 1 ≤ 268443648))) (hx : (-4200000 ≤ x ∧ x ≤ 4200000) ∧ (-4200000 ≤ y ∧ y ≤ 4200000)) (w_ : World) :
  Calls Tryz.prog 67 #[arr 2 a, arr 2 b, .int .i64 x, .int .i64 y] w_ fun e w' => e = .returned (.bool (DM.meets (DM.rel (a 0) x) (DM.rel (a 1) y) (DM.rel (b 0) x) (DM.rel (b 1) y))) ∧ Below w_.heap.size w_ w' := rmeets_gen a b x y (by omega) hx (by omega) w_
end Go.Proofs.YtpfhaocmcfnhnaaGreat
