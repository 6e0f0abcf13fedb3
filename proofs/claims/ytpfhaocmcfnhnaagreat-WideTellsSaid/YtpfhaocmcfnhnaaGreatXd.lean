/- Contract: the document's column. -/
import Derived.Test.YtpfhaocmcfnhnaaGreatXa
import Derived.Test.YtpfhaocmcfnhnaaGreatRe
import Derived.OwnWalk
namespace Go.Proofs.YtpfhaocmcfnhnaaGreat
open Go.ChangeShapes Go.WideShapes Go.ChangeAt Go.RowKit
set_option linter.unusedVariables false
set_option linter.unusedSimpArgs false

namespace DM
/-- What the document finds of a column. -/
def colZ (t : Bool) (am ac bm bc u : Int) : Int × Int × Bool := if colR t am ac bm bc u then (mn t u (colV t am ac bm bc u), cr t u (colV t am ac bm bc u), true) else (0, 0, false)
theorem col_pack {t : Bool} {am ac bm bc u : Int} (h : way am ac bm bc) (h0 : 0 ≤ pl am bm u) (h1 : pl am bm u < nl am bm)
  (ra : (-536870912 ≤ am ∧ am ≤ 536870912) ∧ (-536870912 ≤ ac ∧ ac ≤ 536870912)) (rb : (-536870912 ≤ bm ∧ bm ≤ 536870912) ∧ (-536870912 ≤ bc ∧ bc ≤ 536870912)) :
  ∃ w h_ p z at_ V, bm - am = w ∧ bc - ac = h_ ∧ 256 * u + 128 - am = p ∧ (p * h_).tdiv w = z ∧ ac + z = at_ ∧ colV t am ac bm bc u = V ∧
   w ≠ 0 ∧ ((-1073741824 ≤ w ∧ w ≤ 1073741824) ∧ (-1073741824 ≤ h_ ∧ h_ ≤ 1073741824) ∧ (-1073741824 ≤ p ∧ p ≤ 1073741824)) ∧ ((-4194300 ≤ u ∧ u ≤ 4194300) ∧ (-4194300 ≤ at_.tdiv 256 ∧ at_.tdiv 256 ≤ 4194300) ∧ (-1073741824 ≤ at_ ∧ at_ ≤ 1073741824)) ∧
   (at_.tdiv 256 - 3 ≤ V ∧ V ≤ at_.tdiv 256 + 3) := by
 have ca := colV_at (t := t) h h0 h1
 have cl := colV_lim (t := t) h h0 h1
 have q := @lt_ahd am u
 have q2 := @ahd_le am u
 have q3 := @lt_ahd bm u
 have q4 := @ahd_le bm u
 unfold rel at q q2 q3 q4
 unfold pl at h0 h1
 unfold nl at h1
 refine ⟨_, _, _, _, _, _, rfl, rfl, rfl, rfl, rfl, rfl, ?_⟩
 have nr := tdiv_near ca.1 ca.2
 have aq := quo_lim (X := ac + ((256 * u + 128 - am) * (bc - ac)).tdiv (bm - am)) (by omega) (by omega)
 obtain ⟨aq1, aq2, aq3⟩ := aq
 rcases h with ⟨g0, g1, g2⟩ | ⟨g0, g1, g2⟩
 ·
  rw [if_pos g0] at h0 h1
  rw [if_pos g0] at h1
  refine ⟨by omega, ⟨⟨by omega, by omega⟩, ⟨by omega, by omega⟩, by omega, by omega⟩, ⟨⟨by omega, by omega⟩, ⟨by omega, by omega⟩, by omega, by omega⟩, nr⟩
 ·
  have gn : ¬ am < bm := by omega
  rw [if_neg gn] at h0 h1
  rw [if_neg gn] at h1
  refine ⟨by omega, ⟨⟨by omega, by omega⟩, ⟨by omega, by omega⟩, by omega, by omega⟩, ⟨⟨by omega, by omega⟩, ⟨by omega, by omega⟩, by omega, by omega⟩, nr⟩
end DM
/-- How a pixel, and whether there is one, are handed back. -/
def RetZ14 (w : World) (r : Int × Int × Bool) (e : Ending) (w' : World) : Prop := e = .returned (.tuple #[.int .i64 r.1, .int .i64 r.2.1, .bool r.2.2]) ∧ Below w.heap.size w w'
set_option maxRecDepth 100000 in
set_option maxHeartbeats 16000000 in
theorem column_any (a b : Nat → Int) (u : Int) (ha : DM.Rg a) (hb : DM.Rg b) (hn : ¬ (a 0 = b 0 ∧ a 1 = b 1)) (h0 : 0 ≤ DM.pl (DM.mn (DM.tall (b 0 - a 0) (b 1 - a 1)) (a 0) (a 1)) (DM.mn (DM.tall (b 0 - a 0) (b 1 - a 1)) (b 0) (b 1)) u)
  (h1 : DM.pl (DM.mn (DM.tall (b 0 - a 0) (b 1 - a 1)) (a 0) (a 1)) (DM.mn (DM.tall (b 0 - a 0) (b 1 - a 1)) (b 0) (b 1)) u < DM.nl (DM.mn (DM.tall (b 0 - a 0) (b 1 - a 1)) (a 0) (a 1)) (DM.mn (DM.tall (b 0 - a 0) (b 1 - a 1)) (b 0) (b 1))) (w_ : World) : Calls Tryz.prog 45 #[arr 2 a, arr 2 b, .int .i64 u] w_ (RetZ14 w_ (DM.colZ (DM.tall (b 0 - a 0) (b 1 - a 1)) (DM.mn (DM.tall (b 0 - a 0) (b 1 - a 1)) (a 0) (a 1)) (DM.cr (DM.tall (b 0 - a 0) (b 1 - a 1)) (a 0) (a 1)) (DM.mn (DM.tall (b 0 - a 0) (b 1 - a 1)) (b 0) (b 1)) (DM.cr (DM.tall (b 0 - a 0) (b 1 - a 1)) (b 0) (b 1)) u)) := by
 have O := Own.start w_
 have CW := fun w => wide_any a b ha hb w
 have CE := fun x y h w => rexits_any a b x y ha hb h w
 have WY := DM.way_of hn
 unfold DM.Rg at ha hb
 obtain ⟨t, ht⟩ : ∃ t, DM.tall (b 0 - a 0) (b 1 - a 1) = t := ⟨_, rfl⟩
 rw [ht] at CW WY h0 h1 ⊢
 clear ht
 have CX := fun v => DM.col_exits (t := t) (v := v) WY h0 h1
 have CP := DM.col_pack (t := t) WY h0 h1 (by cases t <;> unfold DM.mn DM.cr <;> simp only [Bool.false_eq_true, if_false, if_true] <;> omega) (by cases t <;> unfold DM.mn DM.cr <;> simp only [Bool.false_eq_true, if_false, if_true] <;> omega)
 have EX := fun x y => DM.eG_exits t (a 0) (a 1) (b 0) (b 1) x y
 unfold RetZ14
 have HZ : Hid (DM.colZ t (DM.mn t (a 0) (a 1)) (DM.cr t (a 0) (a 1)) (DM.mn t (b 0) (b 1)) (DM.cr t (b 0) (b 1)) u = (if DM.colR t (DM.mn t (a 0) (a 1)) (DM.cr t (a 0) (a 1)) (DM.mn t (b 0) (b 1)) (DM.cr t (b 0) (b 1)) u then (DM.mn t u (DM.colV t (DM.mn t (a 0) (a 1)) (DM.cr t (a 0) (a 1)) (DM.mn t (b 0) (b 1)) (DM.cr t (b 0) (b 1)) u), DM.cr t u (DM.colV t (DM.mn t (a 0) (a 1)) (DM.cr t (a 0) (a 1)) (DM.mn t (b 0) (b 1)) (DM.cr t (b 0) (b 1)) u), true) else (0, 0, false))) := Lib.hid rfl
 generalize DM.colZ t (DM.mn t (a 0) (a 1)) (DM.cr t (a 0) (a 1)) (DM.mn t (b 0) (b 1)) (DM.cr t (b 0) (b 1)) u = res at *
 have eR : ∀ v, (decide (v = DM.colV t (DM.mn t (a 0) (a 1)) (DM.cr t (a 0) (a 1)) (DM.mn t (b 0) (b 1)) (DM.cr t (b 0) (b 1)) u) && !(decide (DM.pl (DM.mn t (a 0) (a 1)) (DM.mn t (b 0) (b 1)) u = DM.nl (DM.mn t (a 0) (a 1)) (DM.mn t (b 0) (b 1)) - 1) && DM.lastIn t (DM.mn t (a 0) (a 1)) (DM.cr t (a 0) (a 1)) (DM.mn t (b 0) (b 1)) (DM.cr t (b 0) (b 1)))) = (decide (v = DM.colV t (DM.mn t (a 0) (a 1)) (DM.cr t (a 0) (a 1)) (DM.mn t (b 0) (b 1)) (DM.cr t (b 0) (b 1)) u) && DM.colR t (DM.mn t (a 0) (a 1)) (DM.cr t (a 0) (a 1)) (DM.mn t (b 0) (b 1)) (DM.cr t (b 0) (b 1)) u) := fun v => rfl
 simp only [eR] at CX
 clear eR
 generalize DM.colR t (DM.mn t (a 0) (a 1)) (DM.cr t (a 0) (a 1)) (DM.mn t (b 0) (b 1)) (DM.cr t (b 0) (b 1)) u = R at *
 clear h0 h1 WY
 have Ca0 : Hid ((M.mat 2 a)[0]? = some (.int .i64 (a 0))) := cell_is rfl (by decide)
 have Ca1 : Hid ((M.mat 2 a)[1]? = some (.int .i64 (a 1))) := cell_is rfl (by decide)
 have Cb0 : Hid ((M.mat 2 b)[0]? = some (.int .i64 (b 0))) := cell_is rfl (by decide)
 have Cb1 : Hid ((M.mat 2 b)[1]? = some (.int .i64 (b 1))) := cell_is rfl (by decide)
 obtain ⟨a0, ea0⟩ : ∃ z, a 0 = z := ⟨_, rfl⟩
 obtain ⟨a1, ea1⟩ : ∃ z, a 1 = z := ⟨_, rfl⟩
 obtain ⟨b0, eb0⟩ : ∃ z, b 0 = z := ⟨_, rfl⟩
 obtain ⟨b1, eb1⟩ : ∃ z, b 1 = z := ⟨_, rfl⟩
 rw [ea0, ea1, eb0, eb1] at CX CP HZ
 simp only [ea0, ea1, eb0, eb1] at CE EX
 rw [ea0] at Ca0 ha
 rw [ea1] at Ca1 ha
 rw [eb0] at Cb0 hb
 rw [eb1] at Cb1 hb
 clear ea0 ea1 eb0 eb1 hn
 have tok0 : True := trivial
 cases t
 ·
  simp only [Bool.not_false] at CW
  obtain ⟨w, h_, p, z, at_, V, q1, q2, q3, q4, q5, q6, hw0, ⟨⟨r1, r2⟩, ⟨r3, r4⟩, r5, r6⟩, ⟨⟨r7, r8⟩, ⟨r9, r10⟩, r11, r12⟩, r13, r14⟩ := CP
  simp only [DM.mn, DM.cr, Bool.false_eq_true, if_false, if_true] at q1 q2 q3 q4 q5 q6 CX EX HZ
  rw [q6] at CX HZ
  obtain ⟨qq, hqq⟩ : ∃ z, at_.tdiv 256 = z := ⟨_, rfl⟩
  rw [hqq] at r9 r10 r13 r14
  have CL : ∀ v w, qq - 3 ≤ v → v ≤ qq + 3 → Calls Tryz.prog 47 #[arr 2 a, arr 2 b, .int .i64 u, .int .i64 v] w fun e w' => e = .returned (.bool (decide (v = V) && R)) ∧ Below w.heap.size w w' := by
   intro v w k1 k2
   have C := CE u v (by unfold DM.Rx; omega) w
   have e := EX u v
   rw [CX v] at e
   rw [e]
   exact C
  clear CX CE EX q6
  obtain ⟨m, hm⟩ : ∃ z, 256 * u = z := ⟨_, rfl⟩
  obtain ⟨m2, hm2⟩ : ∃ z, m + 128 = z := ⟨_, rfl⟩
  have q3' : m2 - a0 = p := by omega
  have bb := M.mul_hi (a := p) (b := h_) (A := 1073741824) (B := 1073741824) (by omega) r6 (by omega) r4
  obtain ⟨ph, hph⟩ : ∃ z, p * h_ = z := ⟨_, rfl⟩
  rw [hph] at bb q4
  have zz : -2147483648 ≤ z ∧ z ≤ 2147483648 := by omega
  have Hw : Hid (b0 - a0 = w ∧ IntKind.i64.wrap w = w) := Lib.hid ⟨q1, IntWalk.i64_in _ (by omega)⟩
  have Hh : Hid (b1 - a1 = h_ ∧ IntKind.i64.wrap h_ = h_) := Lib.hid ⟨q2, IntWalk.i64_in _ (by omega)⟩
  have Hm : Hid (256 * u = m ∧ IntKind.i64.wrap m = m) := Lib.hid ⟨hm, IntWalk.i64_in _ (by omega)⟩
  have Hm2 : Hid (m + 128 = m2 ∧ IntKind.i64.wrap m2 = m2) := Lib.hid ⟨hm2, IntWalk.i64_in _ (by omega)⟩
  have Hp : Hid (m2 - a0 = p ∧ IntKind.i64.wrap p = p) := Lib.hid ⟨q3', IntWalk.i64_in _ (by omega)⟩
  have Hph : Hid (p * h_ = ph ∧ IntKind.i64.wrap ph = ph) := Lib.hid ⟨hph, IntWalk.i64_in _ (by omega)⟩
  have Hz : Hid (¬ w = 0 ∧ ph.tdiv w = z ∧ IntKind.i64.wrap z = z) := Lib.hid ⟨hw0, q4, IntWalk.i64_in _ (by omega)⟩
  have Hat : Hid (a1 + z = at_ ∧ IntKind.i64.wrap at_ = at_) := Lib.hid ⟨q5, IntWalk.i64_in _ (by omega)⟩
  have HQ : Hid ((-4194300 ≤ qq ∧ qq ≤ 4194300) ∧ at_.tdiv 256 = qq) := Lib.hid ⟨⟨r9, r10⟩, hqq⟩
  have HV : Hid (qq - 3 ≤ V ∧ V ≤ qq + 3) := Lib.hid ⟨r13, r14⟩
  have HW0 : Hid (¬ w = 0) := Lib.hid hw0
  replace CL := Lib.hid CL
  clear q1 q2 q3 q4 q5 hw0 r1 r2 r3 r4 r5 r6 r7 r8 r9 r10 r11 r12 r13 r14 hqq hm hm2 q3' bb hph zz ha hb
  go_enter Tryz.func45, Tryz.ntmps45
  go_wp2_with (first | ((with_reducible refine at_box 3 ?_); refine wpList_box_own O (M.mat 2 (a)) rfl ?_; clear O; intro g3 w1 O) | ((with_reducible refine at_box 4 ?_); refine wpList_box_own O (M.mat 2 (b)) rfl ?_; clear O; intro g4 w2 O))
  have OO := O
  clear O
  have O := OO
  clear OO
  refine region_T ((fun w2 => Own w_ w2 [(g4, 44, M.mat 2 b), (g3, 44, M.mat 2 a)])) [0, 1, 2, 3, 4, 5, 6, 7, 8, 9, 10] 12 [some 15, some 16, some 17, some 18, some 19, some 20, some 21, some 22, some 23, some 24, some 9] [.pointer (some ⟨g4, 0, none⟩), .int .i64 b0, .pointer (some ⟨g3, 0, none⟩), .int .i64 a0, .int .i64 w, .pointer (some ⟨g4, 1, none⟩), .int .i64 b1, .pointer (some ⟨g3, 1, none⟩), .int .i64 a1, .int .i64 h_, .int .i64 w] 1 (by kernel_rfl) (by rfl) (by kernel_rfl) (by rfl) (by rfl) (O.drew) (fun F hF => ?_)
  simp only [fillD, Act.put, List.setIfInBounds_toArray, List.set_cons_zero, List.set_cons_succ] at hF
  subst hF
  refine ⟨⟨does_want rfl (by rfl) (fun w' O K hK => ?_), does_want rfl (by rfl) (fun w' O K hK => ?_), does_want rfl (by rfl) (fun w' O K hK => ?_), does_want rfl (by rfl) (fun w' O K hK => ?_), does_want rfl (by rfl) (fun w' O K hK => ?_), does_want rfl (by rfl) (fun w' O K hK => ?_), does_want rfl (by rfl) (fun w' O K hK => ?_), does_want rfl (by rfl) (fun w' O K hK => ?_), does_want rfl (by rfl) (fun w' O K hK => ?_), does_want rfl (by rfl) (fun w' O K hK => ?_), does_want rfl (by rfl) (fun w' O K hK => ?_), trivial⟩, fun w' O => ?_⟩
  ·
   go_simp
   exact hK _ O
  · exact wp_cell_h (v := .int .i64 (b0)) O.held 0 rfl Cb0.out rfl agg3 rfl (hK _ O)
  ·
   go_simp
   exact hK _ O
  · exact wp_cell_h (v := .int .i64 (a0)) O.held 1 rfl Ca0.out rfl agg3 rfl (hK _ O)
  ·
   obtain ⟨e1, e2⟩ := Hw.out
   go_simp
   first | exact hK _ O | (rw [e1, e2]; exact hK _ O) | (simp only [e1, e2]; exact hK _ O)
  ·
   go_simp
   exact hK _ O
  · exact wp_cell_h (v := .int .i64 (b1)) O.held 0 rfl Cb1.out rfl agg3 rfl (hK _ O)
  ·
   go_simp
   exact hK _ O
  · exact wp_cell_h (v := .int .i64 (a1)) O.held 1 rfl Ca1.out rfl agg3 rfl (hK _ O)
  ·
   obtain ⟨e1, e2⟩ := Hh.out
   go_simp
   first | exact hK _ O | (rw [e1, e2]; exact hK _ O) | (simp only [e1, e2]; exact hK _ O)
  ·
   go_simp
   exact hK _ O
  refine wpAny_one (i := 11) (by kernel_rfl) rfl (fun K hK => ?_)
  go_simp
  refine hK _ _ ?_
  clear hK K
  try simp only [Act.put, List.setIfInBounds_toArray, List.set_cons_zero, List.set_cons_succ]
  refine wpAny_done (by kernel_rfl) ?_ _
  have hw0 := HW0.out
  have n0 : ((w : Int) != 0) = true := by rw [bne_iff_ne]; exact hw0
  go_wp2_with (first | ((with_reducible refine at_load 25 ?_); refine wpList_whole rfl O 1 rfl rfl Tryz.underlying44 rfl (sP _) ?_) | ((with_reducible refine at_load 26 ?_); refine wpList_whole rfl O 0 rfl rfl Tryz.underlying44 rfl (sP _) ?_) | (go_at_call 46; clear tok0; have tok1 : True := trivial; refine (CW _).mono ?_; rintro e w5 ⟨rfl, hb⟩; replace O := O.call hb; clear hb) | ((with_reducible refine at_load 29 ?_); refine wpList_cell_h (v := .int .i64 (a1)) rfl O.held 1 rfl Ca1.out rfl agg3 rfl ?_))
  clear hw0 n0
  have OO := O
  clear O
  have O := OO
  clear OO
  refine region_T ((fun w2 => Own w_ w2 [(g4, 44, M.mat 2 b), (g3, 44, M.mat 2 a)])) [0, 1, 2, 3, 4, 5, 6, 7, 8, 9, 10, 11, 12] 12 [some 32, some 33, some 34, some 35, some 36, some 37, some 38, some 39, some 40, some 41, some 42, some 43, some 44] [.pointer (some ⟨g3, 1, none⟩), .int .i64 a1, .int .i64 u, .int .i64 m, .int .i64 m2, .pointer (some ⟨g3, 0, none⟩), .int .i64 a0, .int .i64 p, .int .i64 h_, .int .i64 ph, .int .i64 w, .int .i64 z, .int .i64 at_] 1 (by kernel_rfl) (by rfl) (by kernel_rfl) (by rfl) (by rfl) (O.drew) (fun F hF => ?_)
  simp only [fillD, Act.put, List.setIfInBounds_toArray, List.set_cons_zero, List.set_cons_succ] at hF
  subst hF
  refine ⟨⟨does_want rfl (by rfl) (fun w' O K hK => ?_), does_want rfl (by rfl) (fun w' O K hK => ?_), does_want rfl (by rfl) (fun w' O K hK => ?_), does_want rfl (by rfl) (fun w' O K hK => ?_), does_want rfl (by rfl) (fun w' O K hK => ?_), does_want rfl (by rfl) (fun w' O K hK => ?_), does_want rfl (by rfl) (fun w' O K hK => ?_), does_want rfl (by rfl) (fun w' O K hK => ?_), does_want rfl (by rfl) (fun w' O K hK => ?_), does_want rfl (by rfl) (fun w' O K hK => ?_), does_want rfl (by rfl) (fun w' O K hK => ?_), does_want rfl (by rfl) (fun w' O K hK => ?_), does_want rfl (by rfl) (fun w' O K hK => ?_), trivial⟩, fun w' O => ?_⟩
  ·
   go_simp
   exact hK _ O
  · exact wp_cell_h (v := .int .i64 (a1)) O.held 1 rfl Ca1.out rfl agg3 rfl (hK _ O)
  ·
   go_simp
   exact hK _ O
  ·
   obtain ⟨e1, e2⟩ := Hm.out
   go_simp
   first | exact hK _ O | (rw [e1, e2]; exact hK _ O) | (simp only [e1, e2]; exact hK _ O)
  ·
   obtain ⟨e1, e2⟩ := Hm2.out
   go_simp
   first | exact hK _ O | (rw [e1, e2]; exact hK _ O) | (simp only [e1, e2]; exact hK _ O)
  ·
   go_simp
   exact hK _ O
  · exact wp_cell_h (v := .int .i64 (a0)) O.held 1 rfl Ca0.out rfl agg3 rfl (hK _ O)
  ·
   obtain ⟨e1, e2⟩ := Hp.out
   go_simp
   first | exact hK _ O | (rw [e1, e2]; exact hK _ O) | (simp only [e1, e2]; exact hK _ O)
  ·
   go_simp
   exact hK _ O
  ·
   obtain ⟨e1, e2⟩ := Hph.out
   go_simp
   first | exact hK _ O | (rw [e1, e2]; exact hK _ O) | (simp only [e1, e2]; exact hK _ O)
  ·
   go_simp
   exact hK _ O
  ·
   obtain ⟨e1, e2, e3⟩ := Hz.out
   go_simp
   first | exact hK _ O | (simp only [if_neg e1, e2, e3]; exact hK _ O) | (rw [if_neg e1, e2, e3]; exact hK _ O)
  ·
   obtain ⟨e1, e2⟩ := Hat.out
   go_simp
   first | exact hK _ O | (rw [e1, e2]; exact hK _ O) | (simp only [e1, e2]; exact hK _ O)
  refine wpAny_one (i := 13) (by kernel_rfl) rfl (fun K hK => ?_)
  go_simp
  refine hK _ _ ?_
  clear hK K
  try simp only [Act.put, List.setIfInBounds_toArray, List.set_cons_zero, List.set_cons_succ]
  refine wpAny_done (by kernel_rfl) ?_ _
  clear Hw Hh Hm Hm2 Hp Hph Hz Hat Ca0 Ca1 Cb0 Cb1
  have hq := HQ.out.2
  obtain ⟨s1, s2⟩ := HQ.out.1
  have W1 : wrap64 qq = qq := IntWalk.wrap64_in _ (by omega)
  have W2 : wrap64 (qq - 3) = qq - 3 := IntWalk.wrap64_in _ (by omega)
  have W3 : wrap64 (qq + 3) = qq + 3 := IntWalk.wrap64_in _ (by omega)
  have WS := Lib.hid W2
  clear s1 s2
  go_wp2_with fail
  try simp only [W1, W2]
  go_loopw [12] (fun c_ wr => ∃ y : Int, qq - 3 ≤ y ∧ y ≤ qq + 4 ∧ c_ = .int .i64 y ∧ (R = true → y ≤ V) ∧ Own w_ wr [(g4, 44, M.mat 2 b), (g3, 44, M.mat 2 a)]) (fun c_ _ => (qq + 4 - intOf c_).toNat)
  case atStart => exact ⟨qq - 3, by omega, by omega, (by first | rfl | exact congrArg (Value.int IntKind.i64) WS.out), fun _ => HV.out.1, O⟩
  case round =>
   clear O
   obtain ⟨y, y1, y2, rfl, hy, O⟩ := hrel
   by_cases hlt : y ≤ qq + 3
   ·
    have C := fun w => CL.out y w (by omega) (by omega)
    have b1_ := HQ.out.1
    have W4 : wrap64 (y + 1) = y + 1 := IntWalk.wrap64_in _ (by omega)
    clear b1_
    cases R
    ·
     rw [Bool.and_false] at C
     clear hy
     go_wp2_with (first | ((with_reducible refine at_load 55 ?_); refine wpList_whole rfl O 1 rfl rfl Tryz.underlying44 rfl (sP _) ?_) | ((with_reducible refine at_load 56 ?_); refine wpList_whole rfl O 0 rfl rfl Tryz.underlying44 rfl (sP _) ?_) | (go_at_call 47; refine (C _).mono ?_; rintro e v1 ⟨rfl, hb⟩; replace O := O.call hb; clear hb))
     go_roundw
     case rel => exact ⟨y + 1, by omega, by omega, (by first | rfl | exact congrArg (Value.int IntKind.i64) W4), (fun h => absurd h (by decide)), O⟩
     case measure => simp [intOf]; omega
    ·
     rw [Bool.and_true] at C
     by_cases hv : y = V
     ·
      rw [decide_eq_true hv] at C
      rw [← hv] at HZ
      clear hy hv
      go_wp2_with (first | ((with_reducible refine at_load 55 ?_); refine wpList_whole rfl O 1 rfl rfl Tryz.underlying44 rfl (sP _) ?_) | ((with_reducible refine at_load 56 ?_); refine wpList_whole rfl O 0 rfl rfl Tryz.underlying44 rfl (sP _) ?_) | (go_at_call 47; refine (C _).mono ?_; rintro e v1 ⟨rfl, hb⟩; replace O := O.call hb; clear hb))
      go_ret3
      rw [HZ.out]
      exact ⟨rfl, O.below⟩
     ·
      rw [decide_eq_false hv] at C
      have hy3 : y + 1 ≤ V := by have := hy rfl; omega
      have HY3 := Lib.hid hy3
      clear hy hv hy3
      go_wp2_with (first | ((with_reducible refine at_load 55 ?_); refine wpList_whole rfl O 1 rfl rfl Tryz.underlying44 rfl (sP _) ?_) | ((with_reducible refine at_load 56 ?_); refine wpList_whole rfl O 0 rfl rfl Tryz.underlying44 rfl (sP _) ?_) | (go_at_call 47; refine (C _).mono ?_; rintro e v1 ⟨rfl, hb⟩; replace O := O.call hb; clear hb))
      go_roundw
      case rel => exact ⟨y + 1, by omega, by omega, (by first | rfl | exact congrArg (Value.int IntKind.i64) W4), (fun _ => HY3.out), O⟩
      case measure => simp [intOf]; omega
   ·
    have hR : R = false := by
     cases R
     · rfl
     ·
      have := hy rfl
      have := HV.out.2
      omega
    subst hR
    clear hy
    go_wp2_with fail
    go_ret3
    rw [HZ.out]
    exact ⟨rfl, O.below⟩
 ·
  simp only [Bool.not_true] at CW
  obtain ⟨w, h_, p, z, at_, V, q1, q2, q3, q4, q5, q6, hw0, ⟨⟨r1, r2⟩, ⟨r3, r4⟩, r5, r6⟩, ⟨⟨r7, r8⟩, ⟨r9, r10⟩, r11, r12⟩, r13, r14⟩ := CP
  simp only [DM.mn, DM.cr, Bool.false_eq_true, if_false, if_true] at q1 q2 q3 q4 q5 q6 CX EX HZ
  rw [q6] at CX HZ
  obtain ⟨qq, hqq⟩ : ∃ z, at_.tdiv 256 = z := ⟨_, rfl⟩
  rw [hqq] at r9 r10 r13 r14
  have CL : ∀ v w, qq - 3 ≤ v → v ≤ qq + 3 → Calls Tryz.prog 47 #[arr 2 a, arr 2 b, .int .i64 v, .int .i64 u] w fun e w' => e = .returned (.bool (decide (v = V) && R)) ∧ Below w.heap.size w w' := by
   intro v w k1 k2
   have C := CE v u (by unfold DM.Rx; omega) w
   have e := EX v u
   rw [CX v] at e
   rw [e]
   exact C
  clear CX CE EX q6
  obtain ⟨m, hm⟩ : ∃ z, 256 * u = z := ⟨_, rfl⟩
  obtain ⟨m2, hm2⟩ : ∃ z, m + 128 = z := ⟨_, rfl⟩
  have q3' : m2 - a1 = p := by omega
  have bb := M.mul_hi (a := p) (b := h_) (A := 1073741824) (B := 1073741824) (by omega) r6 (by omega) r4
  obtain ⟨ph, hph⟩ : ∃ z, p * h_ = z := ⟨_, rfl⟩
  rw [hph] at bb q4
  have zz : -2147483648 ≤ z ∧ z ≤ 2147483648 := by omega
  have Hw : Hid (b1 - a1 = w ∧ IntKind.i64.wrap w = w) := Lib.hid ⟨q1, IntWalk.i64_in _ (by omega)⟩
  have Hh : Hid (b0 - a0 = h_ ∧ IntKind.i64.wrap h_ = h_) := Lib.hid ⟨q2, IntWalk.i64_in _ (by omega)⟩
  have Hm : Hid (256 * u = m ∧ IntKind.i64.wrap m = m) := Lib.hid ⟨hm, IntWalk.i64_in _ (by omega)⟩
  have Hm2 : Hid (m + 128 = m2 ∧ IntKind.i64.wrap m2 = m2) := Lib.hid ⟨hm2, IntWalk.i64_in _ (by omega)⟩
  have Hp : Hid (m2 - a1 = p ∧ IntKind.i64.wrap p = p) := Lib.hid ⟨q3', IntWalk.i64_in _ (by omega)⟩
  have Hph : Hid (p * h_ = ph ∧ IntKind.i64.wrap ph = ph) := Lib.hid ⟨hph, IntWalk.i64_in _ (by omega)⟩
  have Hz : Hid (¬ w = 0 ∧ ph.tdiv w = z ∧ IntKind.i64.wrap z = z) := Lib.hid ⟨hw0, q4, IntWalk.i64_in _ (by omega)⟩
  have Hat : Hid (a0 + z = at_ ∧ IntKind.i64.wrap at_ = at_) := Lib.hid ⟨q5, IntWalk.i64_in _ (by omega)⟩
  have HQ : Hid ((-4194300 ≤ qq ∧ qq ≤ 4194300) ∧ at_.tdiv 256 = qq) := Lib.hid ⟨⟨r9, r10⟩, hqq⟩
  have HV : Hid (qq - 3 ≤ V ∧ V ≤ qq + 3) := Lib.hid ⟨r13, r14⟩
  have HW0 : Hid (¬ w = 0) := Lib.hid hw0
  replace CL := Lib.hid CL
  clear q1 q2 q3 q4 q5 hw0 r1 r2 r3 r4 r5 r6 r7 r8 r9 r10 r11 r12 r13 r14 hqq hm hm2 q3' bb hph zz ha hb
  go_enter Tryz.func45, Tryz.ntmps45
  go_wp2_with (first | ((with_reducible refine at_box 3 ?_); refine wpList_box_own O (M.mat 2 (a)) rfl ?_; clear O; intro g3 w1 O) | ((with_reducible refine at_box 4 ?_); refine wpList_box_own O (M.mat 2 (b)) rfl ?_; clear O; intro g4 w2 O))
  have OO := O
  clear O
  have O := OO
  clear OO
  refine region_T ((fun w2 => Own w_ w2 [(g4, 44, M.mat 2 b), (g3, 44, M.mat 2 a)])) [0, 1, 2, 3, 4, 5, 6, 7, 8, 9, 10] 12 [some 15, some 16, some 17, some 18, some 19, some 20, some 21, some 22, some 23, some 24, some 9] [.pointer (some ⟨g4, 0, none⟩), .int .i64 b0, .pointer (some ⟨g3, 0, none⟩), .int .i64 a0, .int .i64 h_, .pointer (some ⟨g4, 1, none⟩), .int .i64 b1, .pointer (some ⟨g3, 1, none⟩), .int .i64 a1, .int .i64 w, .int .i64 h_] 1 (by kernel_rfl) (by rfl) (by kernel_rfl) (by rfl) (by rfl) (O.drew) (fun F hF => ?_)
  simp only [fillD, Act.put, List.setIfInBounds_toArray, List.set_cons_zero, List.set_cons_succ] at hF
  subst hF
  refine ⟨⟨does_want rfl (by rfl) (fun w' O K hK => ?_), does_want rfl (by rfl) (fun w' O K hK => ?_), does_want rfl (by rfl) (fun w' O K hK => ?_), does_want rfl (by rfl) (fun w' O K hK => ?_), does_want rfl (by rfl) (fun w' O K hK => ?_), does_want rfl (by rfl) (fun w' O K hK => ?_), does_want rfl (by rfl) (fun w' O K hK => ?_), does_want rfl (by rfl) (fun w' O K hK => ?_), does_want rfl (by rfl) (fun w' O K hK => ?_), does_want rfl (by rfl) (fun w' O K hK => ?_), does_want rfl (by rfl) (fun w' O K hK => ?_), trivial⟩, fun w' O => ?_⟩
  ·
   go_simp
   exact hK _ O
  · exact wp_cell_h (v := .int .i64 (b0)) O.held 0 rfl Cb0.out rfl agg3 rfl (hK _ O)
  ·
   go_simp
   exact hK _ O
  · exact wp_cell_h (v := .int .i64 (a0)) O.held 1 rfl Ca0.out rfl agg3 rfl (hK _ O)
  ·
   obtain ⟨e1, e2⟩ := Hh.out
   go_simp
   first | exact hK _ O | (rw [e1, e2]; exact hK _ O) | (simp only [e1, e2]; exact hK _ O)
  ·
   go_simp
   exact hK _ O
  · exact wp_cell_h (v := .int .i64 (b1)) O.held 0 rfl Cb1.out rfl agg3 rfl (hK _ O)
  ·
   go_simp
   exact hK _ O
  · exact wp_cell_h (v := .int .i64 (a1)) O.held 1 rfl Ca1.out rfl agg3 rfl (hK _ O)
  ·
   obtain ⟨e1, e2⟩ := Hw.out
   go_simp
   first | exact hK _ O | (rw [e1, e2]; exact hK _ O) | (simp only [e1, e2]; exact hK _ O)
  ·
   go_simp
   exact hK _ O
  refine wpAny_one (i := 11) (by kernel_rfl) rfl (fun K hK => ?_)
  go_simp
  refine hK _ _ ?_
  clear hK K
  try simp only [Act.put, List.setIfInBounds_toArray, List.set_cons_zero, List.set_cons_succ]
  refine wpAny_done (by kernel_rfl) ?_ _
  go_wp2_with (first | ((with_reducible refine at_load 25 ?_); refine wpList_whole rfl O 1 rfl rfl Tryz.underlying44 rfl (sP _) ?_) | ((with_reducible refine at_load 26 ?_); refine wpList_whole rfl O 0 rfl rfl Tryz.underlying44 rfl (sP _) ?_) | (go_at_call 46; clear tok0; have tok1 : True := trivial; refine (CW _).mono ?_; rintro e w5 ⟨rfl, hb⟩; replace O := O.call hb; clear hb))
  have OO := O
  clear O
  have O := OO
  clear OO
  refine region_T ((fun w2 => Own w_ w2 [(g4, 44, M.mat 2 b), (g3, 44, M.mat 2 a)])) [0, 1, 2, 3, 4, 5, 6, 7, 8, 9, 10, 11, 12] 12 [some 62, some 63, some 64, some 65, some 66, some 67, some 68, some 69, some 70, some 71, some 72, some 73, some 74] [.pointer (some ⟨g3, 0, none⟩), .int .i64 a0, .int .i64 u, .int .i64 m, .int .i64 m2, .pointer (some ⟨g3, 1, none⟩), .int .i64 a1, .int .i64 p, .int .i64 h_, .int .i64 ph, .int .i64 w, .int .i64 z, .int .i64 at_] 1 (by kernel_rfl) (by rfl) (by kernel_rfl) (by rfl) (by rfl) (O.drew) (fun F hF => ?_)
  simp only [fillD, Act.put, List.setIfInBounds_toArray, List.set_cons_zero, List.set_cons_succ] at hF
  subst hF
  refine ⟨⟨does_want rfl (by rfl) (fun w' O K hK => ?_), does_want rfl (by rfl) (fun w' O K hK => ?_), does_want rfl (by rfl) (fun w' O K hK => ?_), does_want rfl (by rfl) (fun w' O K hK => ?_), does_want rfl (by rfl) (fun w' O K hK => ?_), does_want rfl (by rfl) (fun w' O K hK => ?_), does_want rfl (by rfl) (fun w' O K hK => ?_), does_want rfl (by rfl) (fun w' O K hK => ?_), does_want rfl (by rfl) (fun w' O K hK => ?_), does_want rfl (by rfl) (fun w' O K hK => ?_), does_want rfl (by rfl) (fun w' O K hK => ?_), does_want rfl (by rfl) (fun w' O K hK => ?_), does_want rfl (by rfl) (fun w' O K hK => ?_), trivial⟩, fun w' O => ?_⟩
  ·
   go_simp
   exact hK _ O
  · exact wp_cell_h (v := .int .i64 (a0)) O.held 1 rfl Ca0.out rfl agg3 rfl (hK _ O)
  ·
   go_simp
   exact hK _ O
  ·
   obtain ⟨e1, e2⟩ := Hm.out
   go_simp
   first | exact hK _ O | (rw [e1, e2]; exact hK _ O) | (simp only [e1, e2]; exact hK _ O)
  ·
   obtain ⟨e1, e2⟩ := Hm2.out
   go_simp
   first | exact hK _ O | (rw [e1, e2]; exact hK _ O) | (simp only [e1, e2]; exact hK _ O)
  ·
   go_simp
   exact hK _ O
  · exact wp_cell_h (v := .int .i64 (a1)) O.held 1 rfl Ca1.out rfl agg3 rfl (hK _ O)
  ·
   obtain ⟨e1, e2⟩ := Hp.out
   go_simp
   first | exact hK _ O | (rw [e1, e2]; exact hK _ O) | (simp only [e1, e2]; exact hK _ O)
  ·
   go_simp
   exact hK _ O
  ·
   obtain ⟨e1, e2⟩ := Hph.out
   go_simp
   first | exact hK _ O | (rw [e1, e2]; exact hK _ O) | (simp only [e1, e2]; exact hK _ O)
  ·
   go_simp
   exact hK _ O
  ·
   obtain ⟨e1, e2, e3⟩ := Hz.out
   go_simp
   first | exact hK _ O | (simp only [if_neg e1, e2, e3]; exact hK _ O) | (rw [if_neg e1, e2, e3]; exact hK _ O)
  ·
   obtain ⟨e1, e2⟩ := Hat.out
   go_simp
   first | exact hK _ O | (rw [e1, e2]; exact hK _ O) | (simp only [e1, e2]; exact hK _ O)
  refine wpAny_one (i := 13) (by kernel_rfl) rfl (fun K hK => ?_)
  go_simp
  refine hK _ _ ?_
  clear hK K
  try simp only [Act.put, List.setIfInBounds_toArray, List.set_cons_zero, List.set_cons_succ]
  refine wpAny_done (by kernel_rfl) ?_ _
  clear Hw Hh Hm Hm2 Hp Hph Hz Hat Ca0 Ca1 Cb0 Cb1
  have hq := HQ.out.2
  obtain ⟨s1, s2⟩ := HQ.out.1
  have W1 : wrap64 qq = qq := IntWalk.wrap64_in _ (by omega)
  have W2 : wrap64 (qq - 3) = qq - 3 := IntWalk.wrap64_in _ (by omega)
  have W3 : wrap64 (qq + 3) = qq + 3 := IntWalk.wrap64_in _ (by omega)
  have WS := Lib.hid W2
  clear s1 s2
  go_wp2_with fail
  try simp only [W1, W2]
  go_loopw [14] (fun c_ wr => ∃ y : Int, qq - 3 ≤ y ∧ y ≤ qq + 4 ∧ c_ = .int .i64 y ∧ (R = true → y ≤ V) ∧ Own w_ wr [(g4, 44, M.mat 2 b), (g3, 44, M.mat 2 a)]) (fun c_ _ => (qq + 4 - intOf c_).toNat)
  case atStart => exact ⟨qq - 3, by omega, by omega, (by first | rfl | exact congrArg (Value.int IntKind.i64) WS.out), fun _ => HV.out.1, O⟩
  case round =>
   clear O
   obtain ⟨y, y1, y2, rfl, hy, O⟩ := hrel
   by_cases hlt : y ≤ qq + 3
   ·
    have C := fun w => CL.out y w (by omega) (by omega)
    have b1_ := HQ.out.1
    have W4 : wrap64 (y + 1) = y + 1 := IntWalk.wrap64_in _ (by omega)
    clear b1_
    cases R
    ·
     rw [Bool.and_false] at C
     clear hy
     go_wp2_with (first | ((with_reducible refine at_load 85 ?_); refine wpList_whole rfl O 1 rfl rfl Tryz.underlying44 rfl (sP _) ?_) | ((with_reducible refine at_load 86 ?_); refine wpList_whole rfl O 0 rfl rfl Tryz.underlying44 rfl (sP _) ?_) | (go_at_call 47; refine (C _).mono ?_; rintro e v1 ⟨rfl, hb⟩; replace O := O.call hb; clear hb))
     go_roundw
     case rel => exact ⟨y + 1, by omega, by omega, (by first | rfl | exact congrArg (Value.int IntKind.i64) W4), (fun h => absurd h (by decide)), O⟩
     case measure => simp [intOf]; omega
    ·
     rw [Bool.and_true] at C
     by_cases hv : y = V
     ·
      rw [decide_eq_true hv] at C
      rw [← hv] at HZ
      clear hy hv
      go_wp2_with (first | ((with_reducible refine at_load 85 ?_); refine wpList_whole rfl O 1 rfl rfl Tryz.underlying44 rfl (sP _) ?_) | ((with_reducible refine at_load 86 ?_); refine wpList_whole rfl O 0 rfl rfl Tryz.underlying44 rfl (sP _) ?_) | (go_at_call 47; refine (C _).mono ?_; rintro e v1 ⟨rfl, hb⟩; replace O := O.call hb; clear hb))
      go_ret3
      rw [HZ.out]
      exact ⟨rfl, O.below⟩
     ·
      rw [decide_eq_false hv] at C
      have hy3 : y + 1 ≤ V := by have := hy rfl; omega
      have HY3 := Lib.hid hy3
      clear hy hv hy3
      go_wp2_with (first | ((with_reducible refine at_load 85 ?_); refine wpList_whole rfl O 1 rfl rfl Tryz.underlying44 rfl (sP _) ?_) | ((with_reducible refine at_load 86 ?_); refine wpList_whole rfl O 0 rfl rfl Tryz.underlying44 rfl (sP _) ?_) | (go_at_call 47; refine (C _).mono ?_; rintro e v1 ⟨rfl, hb⟩; replace O := O.call hb; clear hb))
      go_roundw
      case rel => exact ⟨y + 1, by omega, by omega, (by first | rfl | exact congrArg (Value.int IntKind.i64) W4), (fun _ => HY3.out), O⟩
      case measure => simp [intOf]; omega
   ·
    have hR : R = false := by
     cases R
     · rfl
     ·
      have := hy rfl
      have := HV.out.2
      omega
    subst hR
    clear hy
    go_wp2_with fail
    go_ret3
    rw [HZ.out]
    exact ⟨rfl, O.below⟩
end Go.Proofs.YtpfhaocmcfnhnaaGreat
