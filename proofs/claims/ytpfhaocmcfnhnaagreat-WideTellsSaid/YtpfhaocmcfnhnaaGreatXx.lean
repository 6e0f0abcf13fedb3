/- Contract: the program's beside. -/
import Derived.Test.YtpfhaocmcfnhnaaGreatXw
namespace Go.Proofs.YtpfhaocmcfnhnaaGreat
open Go.ChangeShapes Go.WideShapes Go.ChangeAt Go.RowKit
set_option linter.unusedVariables false
set_option linter.unusedSimpArgs false

namespace DM
theorem far_lim {ac R am u rise : Int} (hR : 0 < R) (hR2 : R ≤ 1073741824) (h1 : -R ≤ rise) (h2 : rise ≤ R) (hc : -536870912 ≤ ac ∧ ac ≤ 536870912) (hd : -1073742848 ≤ 256 * u + 128 - am ∧ 256 * u + 128 - am ≤ 1073742848) :
  (-576460752303423488 ≤ ac * R ∧ ac * R ≤ 576460752303423488) ∧ (-1152922604118474752 ≤ rise * (256 * u + 128 - am) ∧ rise * (256 * u + 128 - am) ≤ 1152922604118474752) := by
 have m1 := Int.mul_le_mul_of_nonneg_right hc.1 (show 0 ≤ R by omega)
 have m2 := Int.mul_le_mul_of_nonneg_right hc.2 (show 0 ≤ R by omega)
 generalize 256 * u + 128 - am = d at *
 refine ⟨by omega, ?_⟩
 have k : ∀ x : Int, 0 ≤ x → x ≤ 1073742848 → -1152922604118474752 ≤ rise * x ∧ rise * x ≤ 1152922604118474752 := fun x x0 x1 => by
  have a1 := Int.mul_le_mul_of_nonneg_right (show rise ≤ 1073741824 by omega) x0
  have a2 := Int.mul_le_mul_of_nonneg_right (show -1073741824 ≤ rise by omega) x0
  omega
 rcases (by omega : 0 ≤ d ∨ d < 0) with h | h
 · exact k d h (by omega)
 ·
  have := k (-d) (by omega) (by omega)
  rw [Int.mul_neg] at this
  omega
/-- What the program reckons across. -/
theorem bes_way {t : Bool} {am ac bm bc u r h R H : Int} (hw : way am ac bm bc) (er : bm - am = r) (eh : bc - ac = h) (hR : if r < 0 then R = -r ∧ H = -h else R = r ∧ H = h) :
  0 < R ∧ -R ≤ H ∧ H ≤ R ∧ bes t R H ac am u = colV t am ac bm bc u := by
 rcases hw with ⟨h1, h2, h3⟩ | ⟨h1, h2, h3⟩
 ·
  rw [if_neg (by omega)] at hR
  obtain ⟨rfl, rfl⟩ := hR
  exact ⟨by omega, by omega, by omega, by rw [← er, ← eh]; exact bes_up h1⟩
 ·
  rw [if_pos (by omega)] at hR
  obtain ⟨rfl, rfl⟩ := hR
  refine ⟨by omega, by omega, by omega, ?_⟩
  rw [← er, ← eh, show -(bm - am) = am - bm by omega, show -(bc - ac) = ac - bc by omega]
  exact bes_down h1
end DM
set_option maxRecDepth 100000 in
set_option maxHeartbeats 16000000 in
theorem beside_any (a0 a1 b0 b1 : Int) (t : Bool) (f s n u : Int) (hw : DM.way (DM.mn t a0 a1) (DM.cr t a0 a1) (DM.mn t b0 b1) (DM.cr t b0 b1)) (ha : DM.Rg (DM.t2 a0 a1)) (hb : DM.Rg (DM.t2 b0 b1))
  (hu : -4194304 ≤ u ∧ u ≤ 4194304) (hd : -1073742848 ≤ 256 * u + 128 - DM.mn t a0 a1 ∧ 256 * u + 128 - DM.mn t a0 a1 ≤ 1073742848) (w_ : World) :
  Calls Tryz.prog 78 #[.agg (wl a0 a1 b0 b1 (DM.wv t) f s n).toArray, .int .i64 u] w_ fun e w' => e = .returned (.int .i64 (DM.colV t (DM.mn t a0 a1) (DM.cr t a0 a1) (DM.mn t b0 b1) (DM.cr t b0 b1) u)) ∧ Below w_.heap.size w_ w' := by
 have O := Own.start w_
 have MA := fun w => along_any t (DM.t2 a0 a1) w
 have MB := fun w => along_any t (DM.t2 b0 b1) w
 have CA := fun w => across_any t (DM.t2 a0 a1) w
 have CB := fun w => across_any t (DM.t2 b0 b1) w
 have la : (-536870912 ≤ DM.mn t a0 a1 ∧ DM.mn t a0 a1 ≤ 536870912) ∧ (-536870912 ≤ DM.cr t a0 a1 ∧ DM.cr t a0 a1 ≤ 536870912) := by cases t <;> exact ⟨by first | exact ha.1 | exact ha.2, by first | exact ha.1 | exact ha.2⟩
 have lb : (-536870912 ≤ DM.mn t b0 b1 ∧ DM.mn t b0 b1 ≤ 536870912) ∧ (-536870912 ≤ DM.cr t b0 b1 ∧ DM.cr t b0 b1 ≤ 536870912) := by cases t <;> exact ⟨by first | exact hb.1 | exact hb.2, by first | exact hb.1 | exact hb.2⟩
 rw [show DM.t2 a0 a1 0 = a0 from rfl, show DM.t2 a0 a1 1 = a1 from rfl] at MA CA
 rw [show DM.t2 b0 b1 0 = b0 from rfl, show DM.t2 b0 b1 1 = b1 from rfl] at MB CB
 clear ha hb
 generalize DM.mn t a0 a1 = am at *
 generalize DM.cr t a0 a1 = ac at *
 generalize DM.mn t b0 b1 = bm at *
 generalize DM.cr t b0 b1 = bc at *
 obtain ⟨r, hr⟩ : ∃ z, bm - am = z := ⟨_, rfl⟩
 obtain ⟨h, hh⟩ : ∃ z, bc - ac = z := ⟨_, rfl⟩
 have HR := fun R H hR => @DM.bes_way t am ac bm bc u r h R H hw hr hh hR
 have Lr : -1073741824 ≤ r ∧ r ≤ 1073741824 := by omega
 have Lh : -1073741824 ≤ h ∧ h ≤ 1073741824 := by omega
 have Hr : Hid (bm - am = r ∧ IntKind.i64.wrap r = r) := Lib.hid ⟨hr, IntWalk.i64_in _ (by omega)⟩
 have Hh : Hid (bc - ac = h ∧ IntKind.i64.wrap h = h) := Lib.hid ⟨hh, IntWalk.i64_in _ (by omega)⟩
 generalize DM.colV t am ac bm bc u = V at *
 clear hw hr hh
 have key : ∃ R H : Int, (if r < 0 then R = -r ∧ H = -h else R = r ∧ H = h) ∧ R ≤ 1073741824 := by
  by_cases hlt : r < 0
  · exact ⟨-r, -h, by rw [if_pos hlt]; exact ⟨rfl, rfl⟩, by omega⟩
  · exact ⟨r, h, by rw [if_neg hlt]; exact ⟨rfl, rfl⟩, by omega⟩
 obtain ⟨R, H, hR, hR2⟩ := key
 obtain ⟨g1, g2, g3, HV⟩ := HR R H hR
 clear HR
 have FL := DM.far_lim g1 hR2 g2 g3 la.2 hd
 have M1 : IntKind.i64.wrap (256 * u) = 256 * u := IntWalk.i64_in _ (by omega)
 have M2 : IntKind.i64.wrap (256 * u + 128) = 256 * u + 128 := IntWalk.i64_in _ (by omega)
 have M3 : IntKind.i64.wrap (256 * u + 128 - am) = 256 * u + 128 - am := IntWalk.i64_in _ (by omega)
 unfold DM.bes at HV
 obtain ⟨d, hd2⟩ : ∃ z, 256 * u + 128 - am = z := ⟨_, rfl⟩
 obtain ⟨x1, hx1⟩ : ∃ z, 256 * u = z := ⟨_, rfl⟩
 obtain ⟨x2, hx2⟩ : ∃ z, 256 * u + 128 = z := ⟨_, rfl⟩
 rw [hd2] at FL M3 HV
 rw [hx2] at M2 hd2
 rw [hx1] at M1 hx2
 obtain ⟨p1, hp1⟩ : ∃ z, ac * R = z := ⟨_, rfl⟩
 obtain ⟨p2, hp2⟩ : ∃ z, H * d = z := ⟨_, rfl⟩
 obtain ⟨q, hq⟩ : ∃ z, p1 + p2 = z := ⟨_, rfl⟩
 rw [hp1, hp2] at FL
 rw [hp1, hp2, hq] at HV
 have M4 : IntKind.i64.wrap p1 = p1 := IntWalk.i64_in _ (by omega)
 have M5 : IntKind.i64.wrap p2 = p2 := IntWalk.i64_in _ (by omega)
 have M6 : IntKind.i64.wrap q = q := IntWalk.i64_in _ (by omega)
 obtain ⟨D, hD⟩ : ∃ z, 256 * R = z := ⟨_, rfl⟩
 rw [hD] at HV
 have MD : wrap64 D = D := IntWalk.wrap64_in _ (by omega)
 have MQ : wrap64 (q - 1) = q - 1 := IntWalk.wrap64_in _ (by omega)
 have CD1 := fun w => down_any q D (by omega) (by omega) (by omega) w
 have CD2 := fun w => down_any (q - 1) D (by omega) (by omega) (by omega) w
 have HX1 : Hid (256 * u = x1 ∧ IntKind.i64.wrap x1 = x1) := Lib.hid ⟨hx1, M1⟩
 have HX2 : Hid (x1 + 128 = x2 ∧ IntKind.i64.wrap x2 = x2) := Lib.hid ⟨hx2, M2⟩
 have HX3 : Hid (x2 - am = d ∧ IntKind.i64.wrap d = d) := Lib.hid ⟨hd2, M3⟩
 have HX4 : Hid (ac * R = p1 ∧ IntKind.i64.wrap p1 = p1) := Lib.hid ⟨hp1, M4⟩
 have HX5 : Hid (H * d = p2 ∧ IntKind.i64.wrap p2 = p2) := Lib.hid ⟨hp2, M5⟩
 have HX6 : Hid (p1 + p2 = q ∧ IntKind.i64.wrap q = q) := Lib.hid ⟨hq, M6⟩
 have N1 : r < 0 → wrap64 (-r) = -r := fun _ => IntWalk.wrap64_in _ (by omega)
 have N2 : r < 0 → wrap64 (-h) = -h := fun _ => IntWalk.wrap64_in _ (by omega)
 have HN := Lib.hid (And.intro N1 (And.intro N2 hR))
 replace HV := Lib.hid HV
 have HM := Lib.hid (And.intro hD (And.intro MD MQ))
 have HPOS : Hid (0 < H ∨ ¬ 0 < H) := Lib.hid (by omega)
 have HT : Hid (∀ x, DM.wv t = x → (t = false ∧ x = 0) ∨ (t = true ∧ x = 1)) := Lib.hid (by intro x hx; cases t; exact .inl ⟨rfl, hx.symm⟩; exact .inr ⟨rfl, hx.symm⟩)
 clear la lb hu hd Lr Lh hR hR2 g1 g2 g3 FL M1 M2 M3 M4 M5 M6 hd2 hx1 hx2 hp1 hp2 hq hD MD MQ N1 N2
 go_enter Tryz.func78, Tryz.ntmps78
 go_wp2_with ((with_reducible refine at_box 2 ?_); refine wpList_box_own O (wl a0 a1 b0 b1 (DM.wv t) f s n) rfl ?_; clear O; intro g2 w1 O)
 have OO := O
 clear O
 have O := OO
 clear OO
 refine region_T ((fun w2 => Own w_ w2 [(g2, 78, wl a0 a1 b0 b1 (DM.wv t) f s n)])) [0, 1, 2, 3, 4, 5, 6, 7, 8, 9, 10, 11, 12, 13, 14, 15, 16, 17, 18, 19, 20, 21, 22] 12 [some 8, some 9, some 10, some 11, some 12, some 13, some 14, some 15, some 16, some 17, some 18, some 19, some 20, some 21, some 22, some 23, some 24, some 25, some 26, some 27, some 28, some 29, some 5] [.pointer (some ⟨g2, 4, none⟩), .int .i64 (DM.wv t), .pointer (some ⟨g2, 2, none⟩), .agg (M.mat 2 (DM.t2 b0 b1)).toArray, .int .i64 bm, .pointer (some ⟨g2, 4, none⟩), .int .i64 (DM.wv t), .pointer (some ⟨g2, 0, none⟩), .agg (M.mat 2 (DM.t2 a0 a1)).toArray, .int .i64 am, .int .i64 r, .pointer (some ⟨g2, 4, none⟩), .int .i64 (DM.wv t), .pointer (some ⟨g2, 2, none⟩), .agg (M.mat 2 (DM.t2 b0 b1)).toArray, .int .i64 bc, .pointer (some ⟨g2, 4, none⟩), .int .i64 (DM.wv t), .pointer (some ⟨g2, 0, none⟩), .agg (M.mat 2 (DM.t2 a0 a1)).toArray, .int .i64 ac, .int .i64 h, .int .i64 r] 1 (by kernel_rfl) (by rfl) (by kernel_rfl) (by rfl) (by rfl) (O.drew) (fun F hF => ?_)
 simp only [fillD, Act.put, List.setIfInBounds_toArray, List.set_cons_zero, List.set_cons_succ] at hF
 subst hF
 refine ⟨⟨does_want rfl (by rfl) (fun w' O K hK => ?_), does_want rfl (by rfl) (fun w' O K hK => ?_), does_want rfl (by rfl) (fun w' O K hK => ?_), does_want rfl (by rfl) (fun w' O K hK => ?_), does_want rfl (by rfl) (fun w' O K hK => ?_), does_want rfl (by rfl) (fun w' O K hK => ?_), does_want rfl (by rfl) (fun w' O K hK => ?_), does_want rfl (by rfl) (fun w' O K hK => ?_), does_want rfl (by rfl) (fun w' O K hK => ?_), does_want rfl (by rfl) (fun w' O K hK => ?_), does_want rfl (by rfl) (fun w' O K hK => ?_), does_want rfl (by rfl) (fun w' O K hK => ?_), does_want rfl (by rfl) (fun w' O K hK => ?_), does_want rfl (by rfl) (fun w' O K hK => ?_), does_want rfl (by rfl) (fun w' O K hK => ?_), does_want rfl (by rfl) (fun w' O K hK => ?_), does_want rfl (by rfl) (fun w' O K hK => ?_), does_want rfl (by rfl) (fun w' O K hK => ?_), does_want rfl (by rfl) (fun w' O K hK => ?_), does_want rfl (by rfl) (fun w' O K hK => ?_), does_want rfl (by rfl) (fun w' O K hK => ?_), does_want rfl (by rfl) (fun w' O K hK => ?_), does_want rfl (by rfl) (fun w' O K hK => ?_), trivial⟩, fun w' O => ?_⟩
 ·
  go_simp
  exact hK _ O
 · exact wp_cell_h (v := .int .i64 (DM.wv t)) O.held 0 rfl (i := 4) rfl rfl agg50 rfl (hK _ O)
 ·
  go_simp
  exact hK _ O
 · exact wp_mid_h O.held 0 rfl (M.mat 2 (DM.t2 b0 b1)) (wl_b a0 a1 b0 b1 (DM.wv t) f s n) rfl Tryz.underlying44 rfl (sP _) (hK _ O)
 ·
  go_simp
  go_at_call 57
  refine (MB _).mono ?_
  rintro e w2 ⟨rfl, hb⟩
  exact hK _ (O.call hb)
 ·
  go_simp
  exact hK _ O
 · exact wp_cell_h (v := .int .i64 (DM.wv t)) O.held 0 rfl (i := 4) rfl rfl agg50 rfl (hK _ O)
 ·
  go_simp
  exact hK _ O
 · exact wp_mid_h O.held 0 rfl (M.mat 2 (DM.t2 a0 a1)) (wl_a a0 a1 b0 b1 (DM.wv t) f s n) rfl Tryz.underlying44 rfl (sP _) (hK _ O)
 ·
  go_simp
  go_at_call 57
  refine (MA _).mono ?_
  rintro e w2 ⟨rfl, hb⟩
  exact hK _ (O.call hb)
 ·
  obtain ⟨e1, e2⟩ := Hr.out
  go_simp
  first | exact hK _ O | (rw [e1, e2]; exact hK _ O) | (simp only [e1, e2]; exact hK _ O)
 ·
  go_simp
  exact hK _ O
 · exact wp_cell_h (v := .int .i64 (DM.wv t)) O.held 0 rfl (i := 4) rfl rfl agg50 rfl (hK _ O)
 ·
  go_simp
  exact hK _ O
 · exact wp_mid_h O.held 0 rfl (M.mat 2 (DM.t2 b0 b1)) (wl_b a0 a1 b0 b1 (DM.wv t) f s n) rfl Tryz.underlying44 rfl (sP _) (hK _ O)
 ·
  go_simp
  go_at_call 87
  refine (CB _).mono ?_
  rintro e w2 ⟨rfl, hb⟩
  exact hK _ (O.call hb)
 ·
  go_simp
  exact hK _ O
 · exact wp_cell_h (v := .int .i64 (DM.wv t)) O.held 0 rfl (i := 4) rfl rfl agg50 rfl (hK _ O)
 ·
  go_simp
  exact hK _ O
 · exact wp_mid_h O.held 0 rfl (M.mat 2 (DM.t2 a0 a1)) (wl_a a0 a1 b0 b1 (DM.wv t) f s n) rfl Tryz.underlying44 rfl (sP _) (hK _ O)
 ·
  go_simp
  go_at_call 87
  refine (CA _).mono ?_
  rintro e w2 ⟨rfl, hb⟩
  exact hK _ (O.call hb)
 ·
  obtain ⟨e1, e2⟩ := Hh.out
  go_simp
  first | exact hK _ O | (rw [e1, e2]; exact hK _ O) | (simp only [e1, e2]; exact hK _ O)
 ·
  go_simp
  exact hK _ O
 refine wpAny_one (i := 23) (by kernel_rfl) rfl (fun K hK => ?_)
 go_simp
 refine hK _ _ ?_
 clear hK K
 try simp only [Act.put, List.setIfInBounds_toArray, List.set_cons_zero, List.set_cons_succ]
 refine wpAny_done (by kernel_rfl) ?_ _
 clear Hr Hh MB CB
 obtain ⟨N1, N2, hR⟩ := HN.out
 clear HN
 by_cases hlt : r < 0
 ·
  rw [if_pos hlt] at hR
  obtain ⟨e1, e2⟩ := hR
  have N3 : wrap64 (-r) = R := by rw [e1]; exact N1 hlt
  have N4 : wrap64 (-h) = H := by rw [e2]; exact N2 hlt
  clear e1 e2 N1 N2
  go_wp2_with fail
  simp only [N3, N4]
  clear N3 N4 hlt
  have OO := O
  clear O
  clear O
  have O := OO
  clear OO
  refine region_T ((fun w2 => Own w_ w2 [(g2, 78, wl a0 a1 b0 b1 (DM.wv t) f s n)])) [0, 1, 2, 3, 4, 5, 6, 7, 8, 9, 10, 11, 12, 13, 14, 15, 16, 17, 18] 12 [some 36, some 37, some 38, some 39, some 40, some 41, some 42, some 43, some 44, some 45, some 46, some 47, some 48, some 49, some 50, some 51, some 52, some 53, some 54] [.pointer (some ⟨g2, 4, none⟩), .int .i64 (DM.wv t), .pointer (some ⟨g2, 0, none⟩), .agg (M.mat 2 (DM.t2 a0 a1)).toArray, .int .i64 ac, .int .i64 R, .int .i64 p1, .int .i64 H, .int .i64 u, .int .i64 x1, .int .i64 x2, .pointer (some ⟨g2, 4, none⟩), .int .i64 (DM.wv t), .pointer (some ⟨g2, 0, none⟩), .agg (M.mat 2 (DM.t2 a0 a1)).toArray, .int .i64 am, .int .i64 d, .int .i64 p2, .int .i64 q] 1 (by kernel_rfl) (by rfl) (by kernel_rfl) (by rfl) (by rfl) (O.drew) (fun F hF => ?_)
  simp only [fillD, Act.put, List.setIfInBounds_toArray, List.set_cons_zero, List.set_cons_succ] at hF
  subst hF
  refine ⟨⟨does_want rfl (by rfl) (fun w' O K hK => ?_), does_want rfl (by rfl) (fun w' O K hK => ?_), does_want rfl (by rfl) (fun w' O K hK => ?_), does_want rfl (by rfl) (fun w' O K hK => ?_), does_want rfl (by rfl) (fun w' O K hK => ?_), does_want rfl (by rfl) (fun w' O K hK => ?_), does_want rfl (by rfl) (fun w' O K hK => ?_), does_want rfl (by rfl) (fun w' O K hK => ?_), does_want rfl (by rfl) (fun w' O K hK => ?_), does_want rfl (by rfl) (fun w' O K hK => ?_), does_want rfl (by rfl) (fun w' O K hK => ?_), does_want rfl (by rfl) (fun w' O K hK => ?_), does_want rfl (by rfl) (fun w' O K hK => ?_), does_want rfl (by rfl) (fun w' O K hK => ?_), does_want rfl (by rfl) (fun w' O K hK => ?_), does_want rfl (by rfl) (fun w' O K hK => ?_), does_want rfl (by rfl) (fun w' O K hK => ?_), does_want rfl (by rfl) (fun w' O K hK => ?_), does_want rfl (by rfl) (fun w' O K hK => ?_), trivial⟩, fun w' O => ?_⟩
  ·
   go_simp
   exact hK _ O
  · exact wp_cell_h (v := .int .i64 (DM.wv t)) O.held 0 rfl (i := 4) rfl rfl agg50 rfl (hK _ O)
  ·
   go_simp
   exact hK _ O
  · exact wp_mid_h O.held 0 rfl (M.mat 2 (DM.t2 a0 a1)) (wl_a a0 a1 b0 b1 (DM.wv t) f s n) rfl Tryz.underlying44 rfl (sP _) (hK _ O)
  ·
   go_simp
   go_at_call 87
   refine (CA _).mono ?_
   rintro e w2 ⟨rfl, hb⟩
   exact hK _ (O.call hb)
  ·
   go_simp
   exact hK _ O
  ·
   obtain ⟨e1, e2⟩ := HX4.out
   go_simp
   first | exact hK _ O | (rw [e1, e2]; exact hK _ O) | (simp only [e1, e2]; exact hK _ O)
  ·
   go_simp
   exact hK _ O
  ·
   go_simp
   exact hK _ O
  ·
   obtain ⟨e1, e2⟩ := HX1.out
   go_simp
   first | exact hK _ O | (rw [e1, e2]; exact hK _ O) | (simp only [e1, e2]; exact hK _ O)
  ·
   obtain ⟨e1, e2⟩ := HX2.out
   go_simp
   first | exact hK _ O | (rw [e1, e2]; exact hK _ O) | (simp only [e1, e2]; exact hK _ O)
  ·
   go_simp
   exact hK _ O
  · exact wp_cell_h (v := .int .i64 (DM.wv t)) O.held 0 rfl (i := 4) rfl rfl agg50 rfl (hK _ O)
  ·
   go_simp
   exact hK _ O
  · exact wp_mid_h O.held 0 rfl (M.mat 2 (DM.t2 a0 a1)) (wl_a a0 a1 b0 b1 (DM.wv t) f s n) rfl Tryz.underlying44 rfl (sP _) (hK _ O)
  ·
   go_simp
   go_at_call 57
   refine (MA _).mono ?_
   rintro e w2 ⟨rfl, hb⟩
   exact hK _ (O.call hb)
  ·
   obtain ⟨e1, e2⟩ := HX3.out
   go_simp
   first | exact hK _ O | (rw [e1, e2]; exact hK _ O) | (simp only [e1, e2]; exact hK _ O)
  ·
   obtain ⟨e1, e2⟩ := HX5.out
   go_simp
   first | exact hK _ O | (rw [e1, e2]; exact hK _ O) | (simp only [e1, e2]; exact hK _ O)
  ·
   obtain ⟨e1, e2⟩ := HX6.out
   go_simp
   first | exact hK _ O | (rw [e1, e2]; exact hK _ O) | (simp only [e1, e2]; exact hK _ O)
  refine wpAny_one (i := 19) (by kernel_rfl) rfl (fun K hK => ?_)
  go_simp
  refine hK _ _ ?_
  clear hK K
  try simp only [Act.put, List.setIfInBounds_toArray, List.set_cons_zero, List.set_cons_succ]
  refine wpAny_done (by kernel_rfl) ?_ _
  clear HX1 HX2 HX3 HX4 HX5 HX6 MA CA
  have VV := HV.out
  have PP := HPOS.out
  obtain ⟨hD, MD, MQ⟩ := HM.out
  obtain ⟨x, hx⟩ : ∃ x, DM.wv t = x := ⟨_, rfl⟩
  have TT := HT.out x hx
  rw [hx] at O
  clear HV HPOS HM HT hx
  rcases TT with ⟨rfl, rfl⟩ | ⟨rfl, rfl⟩
  ·
   rcases PP with PP | PP
   ·
    rw [if_pos ⟨rfl, PP⟩] at VV
    rw [VV] at CD1
    clear VV CD2
    go_wp2_with (first | ((with_reducible refine at_load 56 ?_); refine wpList_cell_h (v := .int .i64 0) rfl O.held 0 rfl (i := 4) rfl rfl agg50 rfl ?_) | (go_at_call 76; refine (CD1 _).mono ?_; rintro e w' ⟨rfl, rfl⟩))
    go_ret
    exact ⟨rfl, O.below⟩
   ·
    rw [if_neg (fun h => absurd h.2 (by omega))] at VV
    rw [VV] at CD2
    clear VV CD1
    go_wp2_with (first | ((with_reducible refine at_load 56 ?_); refine wpList_cell_h (v := .int .i64 0) rfl O.held 0 rfl (i := 4) rfl rfl agg50 rfl ?_) | (go_at_call 76; refine (CD2 _).mono ?_; rintro e w' ⟨rfl, rfl⟩))
    go_ret
    exact ⟨rfl, O.below⟩
  ·
   rw [if_neg (fun h => by cases h.1)] at VV
   rw [VV] at CD2
   clear VV CD1 PP
   go_wp2_with (first | ((with_reducible refine at_load 56 ?_); refine wpList_cell_h (v := .int .i64 1) rfl O.held 0 rfl (i := 4) rfl rfl agg50 rfl ?_) | (go_at_call 76; refine (CD2 _).mono ?_; rintro e w' ⟨rfl, rfl⟩))
   go_ret
   exact ⟨rfl, O.below⟩
 ·
  rw [if_neg hlt] at hR
  obtain ⟨e1, e2⟩ := hR
  subst e1
  subst e2
  clear N1 N2
  go_wp2_with fail
  clear hlt
  have OO := O
  clear O
  clear O
  have O := OO
  clear OO
  refine region_T ((fun w2 => Own w_ w2 [(g2, 78, wl a0 a1 b0 b1 (DM.wv t) f s n)])) [0, 1, 2, 3, 4, 5, 6, 7, 8, 9, 10, 11, 12, 13, 14, 15, 16, 17, 18] 12 [some 36, some 37, some 38, some 39, some 40, some 41, some 42, some 43, some 44, some 45, some 46, some 47, some 48, some 49, some 50, some 51, some 52, some 53, some 54] [.pointer (some ⟨g2, 4, none⟩), .int .i64 (DM.wv t), .pointer (some ⟨g2, 0, none⟩), .agg (M.mat 2 (DM.t2 a0 a1)).toArray, .int .i64 ac, .int .i64 R, .int .i64 p1, .int .i64 H, .int .i64 u, .int .i64 x1, .int .i64 x2, .pointer (some ⟨g2, 4, none⟩), .int .i64 (DM.wv t), .pointer (some ⟨g2, 0, none⟩), .agg (M.mat 2 (DM.t2 a0 a1)).toArray, .int .i64 am, .int .i64 d, .int .i64 p2, .int .i64 q] 1 (by kernel_rfl) (by rfl) (by kernel_rfl) (by rfl) (by rfl) (O.drew) (fun F hF => ?_)
  simp only [fillD, Act.put, List.setIfInBounds_toArray, List.set_cons_zero, List.set_cons_succ] at hF
  subst hF
  refine ⟨⟨does_want rfl (by rfl) (fun w' O K hK => ?_), does_want rfl (by rfl) (fun w' O K hK => ?_), does_want rfl (by rfl) (fun w' O K hK => ?_), does_want rfl (by rfl) (fun w' O K hK => ?_), does_want rfl (by rfl) (fun w' O K hK => ?_), does_want rfl (by rfl) (fun w' O K hK => ?_), does_want rfl (by rfl) (fun w' O K hK => ?_), does_want rfl (by rfl) (fun w' O K hK => ?_), does_want rfl (by rfl) (fun w' O K hK => ?_), does_want rfl (by rfl) (fun w' O K hK => ?_), does_want rfl (by rfl) (fun w' O K hK => ?_), does_want rfl (by rfl) (fun w' O K hK => ?_), does_want rfl (by rfl) (fun w' O K hK => ?_), does_want rfl (by rfl) (fun w' O K hK => ?_), does_want rfl (by rfl) (fun w' O K hK => ?_), does_want rfl (by rfl) (fun w' O K hK => ?_), does_want rfl (by rfl) (fun w' O K hK => ?_), does_want rfl (by rfl) (fun w' O K hK => ?_), does_want rfl (by rfl) (fun w' O K hK => ?_), trivial⟩, fun w' O => ?_⟩
  ·
   go_simp
   exact hK _ O
  · exact wp_cell_h (v := .int .i64 (DM.wv t)) O.held 0 rfl (i := 4) rfl rfl agg50 rfl (hK _ O)
  ·
   go_simp
   exact hK _ O
  · exact wp_mid_h O.held 0 rfl (M.mat 2 (DM.t2 a0 a1)) (wl_a a0 a1 b0 b1 (DM.wv t) f s n) rfl Tryz.underlying44 rfl (sP _) (hK _ O)
  ·
   go_simp
   go_at_call 87
   refine (CA _).mono ?_
   rintro e w2 ⟨rfl, hb⟩
   exact hK _ (O.call hb)
  ·
   go_simp
   exact hK _ O
  ·
   obtain ⟨e1, e2⟩ := HX4.out
   go_simp
   first | exact hK _ O | (rw [e1, e2]; exact hK _ O) | (simp only [e1, e2]; exact hK _ O)
  ·
   go_simp
   exact hK _ O
  ·
   go_simp
   exact hK _ O
  ·
   obtain ⟨e1, e2⟩ := HX1.out
   go_simp
   first | exact hK _ O | (rw [e1, e2]; exact hK _ O) | (simp only [e1, e2]; exact hK _ O)
  ·
   obtain ⟨e1, e2⟩ := HX2.out
   go_simp
   first | exact hK _ O | (rw [e1, e2]; exact hK _ O) | (simp only [e1, e2]; exact hK _ O)
  ·
   go_simp
   exact hK _ O
  · exact wp_cell_h (v := .int .i64 (DM.wv t)) O.held 0 rfl (i := 4) rfl rfl agg50 rfl (hK _ O)
  ·
   go_simp
   exact hK _ O
  · exact wp_mid_h O.held 0 rfl (M.mat 2 (DM.t2 a0 a1)) (wl_a a0 a1 b0 b1 (DM.wv t) f s n) rfl Tryz.underlying44 rfl (sP _) (hK _ O)
  ·
   go_simp
   go_at_call 57
   refine (MA _).mono ?_
   rintro e w2 ⟨rfl, hb⟩
   exact hK _ (O.call hb)
  ·
   obtain ⟨e1, e2⟩ := HX3.out
   go_simp
   first | exact hK _ O | (rw [e1, e2]; exact hK _ O) | (simp only [e1, e2]; exact hK _ O)
  ·
   obtain ⟨e1, e2⟩ := HX5.out
   go_simp
   first | exact hK _ O | (rw [e1, e2]; exact hK _ O) | (simp only [e1, e2]; exact hK _ O)
  ·
   obtain ⟨e1, e2⟩ := HX6.out
   go_simp
   first | exact hK _ O | (rw [e1, e2]; exact hK _ O) | (simp only [e1, e2]; exact hK _ O)
  refine wpAny_one (i := 19) (by kernel_rfl) rfl (fun K hK => ?_)
  go_simp
  refine hK _ _ ?_
  clear hK K
  try simp only [Act.put, List.setIfInBounds_toArray, List.set_cons_zero, List.set_cons_succ]
  refine wpAny_done (by kernel_rfl) ?_ _
  clear HX1 HX2 HX3 HX4 HX5 HX6 MA CA
  have VV := HV.out
  have PP := HPOS.out
  obtain ⟨hD, MD, MQ⟩ := HM.out
  obtain ⟨x, hx⟩ : ∃ x, DM.wv t = x := ⟨_, rfl⟩
  have TT := HT.out x hx
  rw [hx] at O
  clear HV HPOS HM HT hx
  rcases TT with ⟨rfl, rfl⟩ | ⟨rfl, rfl⟩
  ·
   rcases PP with PP | PP
   ·
    rw [if_pos ⟨rfl, PP⟩] at VV
    rw [VV] at CD1
    clear VV CD2
    go_wp2_with (first | ((with_reducible refine at_load 56 ?_); refine wpList_cell_h (v := .int .i64 0) rfl O.held 0 rfl (i := 4) rfl rfl agg50 rfl ?_) | (go_at_call 76; refine (CD1 _).mono ?_; rintro e w' ⟨rfl, rfl⟩))
    go_ret
    exact ⟨rfl, O.below⟩
   ·
    rw [if_neg (fun h => absurd h.2 (by omega))] at VV
    rw [VV] at CD2
    clear VV CD1
    go_wp2_with (first | ((with_reducible refine at_load 56 ?_); refine wpList_cell_h (v := .int .i64 0) rfl O.held 0 rfl (i := 4) rfl rfl agg50 rfl ?_) | (go_at_call 76; refine (CD2 _).mono ?_; rintro e w' ⟨rfl, rfl⟩))
    go_ret
    exact ⟨rfl, O.below⟩
  ·
   rw [if_neg (fun h => by cases h.1)] at VV
   rw [VV] at CD2
   clear VV CD1 PP
   go_wp2_with (first | ((with_reducible refine at_load 56 ?_); refine wpList_cell_h (v := .int .i64 1) rfl O.held 0 rfl (i := 4) rfl rfl agg50 rfl ?_) | (go_at_call 76; refine (CD2 _).mono ?_; rintro e w' ⟨rfl, rfl⟩))
   go_ret
   exact ⟨rfl, O.below⟩
end Go.Proofs.YtpfhaocmcfnhnaaGreat
