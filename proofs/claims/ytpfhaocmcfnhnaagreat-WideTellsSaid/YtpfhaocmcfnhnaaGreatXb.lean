/- Contract: the document's Of. -/
import Derived.Test.YtpfhaocmcfnhnaaGreatXa
import Derived.Test.YtpfhaocmcfnhnaaGreatRe
namespace Go.Proofs.YtpfhaocmcfnhnaaGreat
open Go.ChangeShapes Go.WideShapes Go.ChangeAt Go.RowKit
set_option linter.unusedVariables false
set_option linter.unusedSimpArgs false

namespace DM
theorem inr_is {X Y x y : Int} (h : inr X Y = (x, y, true)) : inside (rel X x) (rel Y y) = true := by
 unfold inr at h
 rw [pix_iff]
 split at h
 ·
  rename_i z e
  rw [e]
  simp only [Prod.mk.injEq] at h
  obtain ⟨rfl, rfl, _⟩ := h
  rfl
 · simp at h
theorem inr_none {X Y x y : Int} (h : inr X Y = (x, y, false)) (i j : Int) : inside (rel X i) (rel Y j) = false := by
 unfold inr at h
 split at h
 · simp at h
 ·
  rename_i e
  exact pix_none e i j
/-- The line that begins in a pixel without crossing its middle there. -/
def exT (ax ay bx by_ : Int) : Bool := extra (tall (bx - ax) (by_ - ay)) (mn (tall (bx - ax) (by_ - ay)) ax ay) (cr (tall (bx - ax) (by_ - ay)) ax ay) (mn (tall (bx - ax) (by_ - ay)) bx by_) (cr (tall (bx - ax) (by_ - ay)) bx by_)
theorem aG_inside (t : Bool) (ax ay x y : Int) : aG t (mn t ax ay) (cr t ax ay) (mn t x y) (cr t x y) = inside (rel ax x) (rel ay y) := by cases t <;> rfl
theorem mn_cr_back (t : Bool) (u v : Int) : mn t (mn t u v) (cr t u v) = u ∧ cr t (mn t u v) (cr t u v) = v := by cases t <;> exact ⟨rfl, rfl⟩
theorem ofA {ax ay bx by_ : Int} (h : ∀ x y, inside (rel ax x) (rel ay y) = false) : exT ax ay bx by_ = false := by
 unfold exT
 rw [← Bool.not_eq_true, extra_iff]
 rintro ⟨u, v, h1, _⟩
 generalize tall (bx - ax) (by_ - ay) = t at *
 have e := aG_inside t ax ay (mn t u v) (cr t u v)
 rw [(mn_cr_back t u v).1, (mn_cr_back t u v).2, h1, h] at e
 cases e
theorem ofB {ax ay bx by_ x y : Int} (hi : inside (rel ax x) (rel ay y) = true) (h : exits (rel ax x) (rel ay y) (rel bx x) (rel by_ y) = false) : exT ax ay bx by_ = false := by
 unfold exT
 rw [← Bool.not_eq_true, extra_iff]
 rintro ⟨u, v, h1, h2, _⟩
 generalize tall (bx - ax) (by_ - ay) = t at *
 rw [← aG_inside t] at hi
 obtain ⟨rfl, rfl⟩ := aG_one h1 hi
 rw [eG_exits, h] at h2
 cases h2
theorem crossed_is {am ac bm bc u : Int} (h : way am ac bm bc) : (decide (min (ahd am) (ahd bm) ≤ u) && decide (u < max (ahd am) (ahd bm))) = (decide (0 ≤ pl am bm u) && decide (pl am bm u < nl am bm)) := by
 have hN := nl_pos h
 rw [Bool.eq_iff_iff]
 simp only [Bool.and_eq_true, decide_eq_true_eq]
 unfold pl
 unfold nl at hN ⊢
 split
 ·
  rename_i hc
  rw [if_pos hc] at hN
  omega
 ·
  rename_i hc
  rw [if_neg hc] at hN
  omega
theorem ofC {ax ay bx by_ x y : Int} (hn : ¬ (ax = bx ∧ ay = by_)) (hi : inside (rel ax x) (rel ay y) = true) (h : exits (rel ax x) (rel ay y) (rel bx x) (rel by_ y) = true) {f g u : Int}
  (hf : ahd (mn (tall (bx - ax) (by_ - ay)) ax ay) = f) (hg : ahd (mn (tall (bx - ax) (by_ - ay)) bx by_) = g) (hu : mn (tall (bx - ax) (by_ - ay)) x y = u) : exT ax ay bx by_ = !(decide (min f g ≤ u) && decide (u < max f g)) := by
 have W := way_of hn
 unfold exT
 rw [← hf, ← hg, ← hu]
 clear hf hg hu
 generalize tall (bx - ax) (by_ - ay) = t at *
 rw [crossed_is W, Bool.eq_iff_iff, extra_iff]
 rw [← aG_inside t] at hi
 rw [← eG_exits t] at h
 simp only [Bool.not_eq_true', Bool.and_eq_false_iff, decide_eq_false_iff_not]
 constructor
 ·
  rintro ⟨u, v, h1, _, h3⟩
  obtain ⟨rfl, rfl⟩ := aG_one h1 hi
  omega
 ·
  intro h3
  exact ⟨_, _, hi, h, by omega⟩
theorem ahd_lim {u : Int} (h1 : -536870912 ≤ u) (h2 : u ≤ 536870912) : -2097152 ≤ ahd u ∧ ahd u ≤ 2097153 := by unfold ahd; omega
theorem inside_px {X Y x y : Int} (hX : -536870912 ≤ X ∧ X ≤ 536870912) (hY : -536870912 ≤ Y ∧ Y ≤ 536870912) (h : inside (rel X x) (rel Y y) = true) : Rx x y := by
 obtain ⟨⟨h1, h2⟩, h3, h4⟩ := inside_iff.1 h
 unfold rel at h1 h2 h3 h4
 unfold Rx
 omega
/-- What Of tells besides where the line begins and ends. -/
def OfIs (a b : Nat → Int) (x y : Int) (E : Bool) : Prop := ((a 0 = b 0 ∧ a 1 = b 1) → E = false) ∧ (¬ (a 0 = b 0 ∧ a 1 = b 1) → E = exT (a 0) (a 1) (b 0) (b 1)) ∧ (E = true → inside (rel (a 0) x) (rel (a 1) y) = true) ∧ Rx x y
end DM
/-- What Of answers. -/
def RetOf (w : World) (a b : Nat → Int) (e : Ending) (w' : World) : Prop := ∃ x y E, e = .returned (.agg (ln (DM.ahd (DM.mn (DM.tall (b 0 - a 0) (b 1 - a 1)) (a 0) (a 1))) (DM.ahd (DM.mn (DM.tall (b 0 - a 0) (b 1 - a 1)) (b 0) (b 1))) x y E).toArray) ∧ DM.OfIs a b x y E ∧ Below w.heap.size w w'
set_option maxRecDepth 100000 in
set_option maxHeartbeats 16000000 in
theorem of_any (a b : Nat → Int) (ha : DM.Rg a) (hb : DM.Rg b) (w_ : World) : Calls Tryz.prog 44 #[arr 2 a, arr 2 b] w_ (RetOf w_ a b) := by
 have O := Own.start w_
 have CW := fun w => wide_any a b ha hb w
 have CI := fun w => rin_any a ha w
 have CE := fun x y h w => rexits_any a b x y ha hb h w
 unfold DM.Rg at ha hb
 have A0 := fun w => ahead_any (a 0) ha.1.1 ha.1.2 w
 have A1 := fun w => ahead_any (a 1) ha.2.1 ha.2.2 w
 have B0 := fun w => ahead_any (b 0) hb.1.1 hb.1.2 w
 have B1 := fun w => ahead_any (b 1) hb.2.1 hb.2.2 w
 have QE : M.eqB 2 a b = true ↔ (a 0 = b 0 ∧ a 1 = b 1) := by
  rw [M.eqB_iff]
  exact ⟨fun h => ⟨h 0 (by omega), h 1 (by omega)⟩, fun ⟨h0, h1⟩ i hi => by
   rcases (by omega : i = 0 ∨ i = 1) with rfl | rfl
   · exact h0
   · exact h1⟩
 have FA := fun h => @DM.ofA (a 0) (a 1) (b 0) (b 1) h
 have FB := fun x y h1 h2 => @DM.ofB (a 0) (a 1) (b 0) (b 1) x y h1 h2
 have FC := fun x y hn h1 h2 f g u hf hg hu => @DM.ofC (a 0) (a 1) (b 0) (b 1) x y hn h1 h2 f g u hf hg hu
 have FI := fun x y h => @DM.inr_is (a 0) (a 1) x y h
 have FN := fun x y h => @DM.inr_none (a 0) (a 1) x y h
 have FX := fun x y h => @DM.inside_px (a 0) (a 1) x y ha.1 ha.2 h
 unfold RetOf DM.OfIs
 generalize DM.exT (a 0) (a 1) (b 0) (b 1) = E0 at *
 obtain ⟨t, ht⟩ : ∃ t, DM.tall (b 0 - a 0) (b 1 - a 1) = t := ⟨_, rfl⟩
 rw [ht] at CW FC ⊢
 clear ht
 obtain ⟨f0, hf0⟩ : ∃ z, DM.ahd (a 0) = z := ⟨_, rfl⟩
 obtain ⟨f1, hf1⟩ : ∃ z, DM.ahd (a 1) = z := ⟨_, rfl⟩
 obtain ⟨g0, hg0⟩ : ∃ z, DM.ahd (b 0) = z := ⟨_, rfl⟩
 obtain ⟨g1, hg1⟩ : ∃ z, DM.ahd (b 1) = z := ⟨_, rfl⟩
 rw [hf0] at A0
 rw [hf1] at A1
 rw [hg0] at B0
 rw [hg1] at B1
 obtain ⟨⟨x, y, ok⟩, hr⟩ : ∃ z, DM.inr (a 0) (a 1) = z := ⟨_, rfl⟩
 rw [hr] at CI
 simp only at CI
 have eP0 : Hid ((M.mat 2 a)[0]? = some (.int .i64 (a 0))) := cell_is rfl (by decide)
 have eP1 : Hid ((M.mat 2 a)[1]? = some (.int .i64 (a 1))) := cell_is rfl (by decide)
 have eQ0 : Hid ((M.mat 2 b)[0]? = some (.int .i64 (b 0))) := cell_is rfl (by decide)
 have eQ1 : Hid ((M.mat 2 b)[1]? = some (.int .i64 (b 1))) := cell_is rfl (by decide)
 obtain ⟨a0, ea0⟩ : ∃ z, a 0 = z := ⟨_, rfl⟩
 obtain ⟨a1, ea1⟩ : ∃ z, a 1 = z := ⟨_, rfl⟩
 obtain ⟨b0, eb0⟩ : ∃ z, b 0 = z := ⟨_, rfl⟩
 obtain ⟨b1, eb1⟩ : ∃ z, b 1 = z := ⟨_, rfl⟩
 rw [ea0] at A0 eP0 hf0
 rw [ea1] at A1 eP1 hf1
 rw [eb0] at B0 eQ0 hg0
 rw [eb1] at B1 eQ1 hg1
 rw [ea0, ea1] at FI FN FX hr FA
 rw [ea0, ea1, eb0, eb1] at FB FC QE CE
 rw [ea0, ea1, eb0, eb1]
 clear ha hb ea0 ea1 eb0 eb1
 have HMN : Hid (DM.ahd (DM.mn false a0 a1) = f0 ∧ DM.ahd (DM.mn false b0 b1) = g0 ∧ DM.ahd (DM.mn true a0 a1) = f1 ∧ DM.ahd (DM.mn true b0 b1) = g1) := Lib.hid ⟨hf0, hg0, hf1, hg1⟩
 clear hf0 hf1 hg0 hg1
 replace FA := Lib.hid FA
 replace FB := Lib.hid FB
 replace FC := Lib.hid FC
 replace FI := Lib.hid (FI x y)
 replace FN := Lib.hid (FN x y)
 replace FX := Lib.hid (FX x y)
 have HR := Lib.hid hr
 replace QE := Lib.hid QE
 replace CE := Lib.hid (CE x y)
 clear hr
 have HD : apart [⟨7, 99, 84, ln 0 0 0 0 false, ln 0 0 0 0 false⟩] := (by decide : [7, 99].Nodup)
 have tok0 : True := trivial
 go_enter Tryz.func44, Tryz.ntmps44
 go_wp2_with (first | ((with_reducible refine at_box 2 ?_); refine wpList_box_own O (M.mat 2 (a)) rfl ?_; clear O; intro g2 w1 O) | ((with_reducible refine at_box 3 ?_); refine wpList_box_own O (M.mat 2 (b)) rfl ?_; clear O; intro g3 w2 O) | ((with_reducible refine at_alloc 4 ?_); refine wpList_alloc_own O (ln 0 0 0 0 false) zeroL ?_; clear O; intro g4 w3 O))
 refine region_S (fun st w2 => NB w_ [(g4, 84, ln 0 0 0 0 false), (g3, 44, M.mat 2 b), (g2, 44, M.mat 2 a)] [⟨7, 99, 84, ln 0 0 0 0 false, ln 0 0 0 0 false⟩] st w2) [7] 12 8 [some 11, some 12, some 13, some 14, some 15, some 16, some 17, some 5] (fun g => [.pointer (some ⟨g2, 0, none⟩), .int .i64 a0, .int .i64 f0, .pointer (some ⟨g3, 0, none⟩), .int .i64 b0, .int .i64 g0, .agg (ln f0 g0 0 0 false).toArray, g 7]) 1 (by kernel_rfl) (by kernel_rfl) (by rfl) (by rfl) (fun _ => rfl) (by decide) ?_ (NB.start O.drew) (fun F hF => ?_)
 ·
  intro i hi
  simp only [List.mem_cons, List.not_mem_nil, or_false] at hi
  rcases hi with rfl
  · exact ⟨fun _ => rfl, [0, 1, 2, 3, 4, 5, 6], by kernel_rfl, fun g v => ⟨rfl, rfl, rfl, rfl, rfl, rfl, rfl, trivial⟩⟩
 simp only [fillD, Act.put, List.setIfInBounds_toArray, List.set_cons_zero, List.set_cons_succ] at hF
 have hF2 := funext hF
 clear hF
 subst hF2
 refine ⟨⟨doesN_want (by decide) rfl (fun g => rfl) (fun st w' hS hp K hK => ?_), doesN_want (by decide) rfl (fun g => rfl) (fun st w' hS hp K hK => ?_), doesN_want (by decide) rfl (fun g => rfl) (fun st w' hS hp K hK => ?_), doesN_want (by decide) rfl (fun g => rfl) (fun st w' hS hp K hK => ?_), doesN_want (by decide) rfl (fun g => rfl) (fun st w' hS hp K hK => ?_), doesN_want (by decide) rfl (fun g => rfl) (fun st w' hS hp K hK => ?_), doesN_want (by decide) rfl (fun g => rfl) (fun st w' hS hp K hK => ?_), doesC_want (by decide) rfl (fun g => rfl) (fun st w' hS hn hp K hK => ?_), trivial⟩, fun st w' hS hall => ?_⟩
 ·
  try dsimp only
  go_simp
  exact hK _ hS
 ·
  try dsimp only
  exact wp_cell_h (v := .int .i64 a0) hS.own.held 2 rfl eP0.out rfl agg3 rfl (hK _ hS)
 ·
  try dsimp only
  go_simp
  go_at_call 65
  refine (A0 _).mono ?_
  rintro e w2 ⟨rfl, hw⟩
  obtain rfl := hw.symm
  clear hw
  exact hK _ hS
 ·
  try dsimp only
  go_simp
  exact hK _ hS
 ·
  try dsimp only
  exact wp_cell_h (v := .int .i64 b0) hS.own.held 1 rfl eQ0.out rfl agg3 rfl (hK _ hS)
 ·
  try dsimp only
  go_simp
  go_at_call 65
  refine (B0 _).mono ?_
  rintro e w2 ⟨rfl, hw⟩
  obtain rfl := hw.symm
  clear hw
  exact hK _ hS
 ·
  try dsimp only
  refine wp_build_own [(0, .int .i64 f0), (1, .int .i64 g0)] ((ln f0 g0 0 0 false).toArray) ?_ (builtL f0 g0) (hK _ hS)
  simp only [List.map_toArray, List.map_cons, List.map_nil]
  rfl
 ·
  try dsimp only
  exact hS.alloc HD 0 rfl hn zeroL hK
 try dsimp only
 obtain ⟨g5, e5⟩ := hS.ptr 0 rfl (hall 7 (by decide))
 have O3 : Own w_ w' [(g5, 84, ln 0 0 0 0 false), (g4, 84, ln 0 0 0 0 false), (g3, 44, M.mat 2 b), (g2, 44, M.mat 2 a)] := by
  have h3 := hS.2.2
  rw [nows_cons, NbS.now_same e5 rfl] at h3
  exact h3
 clear hS O
 have O := O3
 clear O3
 simp only [seen, e5, Option.getD_some]
 clear hall e5
 refine wpAny_want (i := 8) (by kernel_rfl) rfl (by rfl) (fun K hK => ?_)
 refine wp_put_own O 0 (ln f0 g0 0 0 false) rfl rfl rfl (sL f0 g0 0 0 false) rfl (ln_one f0 g0 0 0 false) fun w9 O9 => hK _ _ ?_
 clear O
 have O := O9
 clear O9
 clear hK K
 try simp only [Act.put, List.setIfInBounds_toArray, List.set_cons_zero, List.set_cons_succ]
 refine wpAny_done (by kernel_rfl) ?_ _
 have O9 := Own.as O (l' := [(g5, 84, ln f0 g0 0 0 false), (g4, 84, ln 0 0 0 0 false), (g3, 44, M.mat 2 b), (g2, 44, M.mat 2 a)]) rfl
 clear O HD A0 B0 eP0 eQ0
 have O := O9
 clear O9
 cases t
 ·
  simp only [Bool.not_false] at CW
  clear A1 B1 eP1 eQ1
  cases ok
  ·
   have HN := Lib.hid (FA.out (FN.out HR.out))
   clear FA FB FC FI FN FX QE CE
   go_wp2_with (first | ((with_reducible first | refine at_load 18 ?_ | refine at_load 30 ?_); refine wpList_whole rfl O 3 rfl rfl Tryz.underlying44 rfl (sP _) ?_) | ((with_reducible refine at_load 19 ?_); refine wpList_whole rfl O 2 rfl rfl Tryz.underlying44 rfl (sP _) ?_) | (go_at_call 46; clear tok0; have tok1 : True := trivial; refine (CW _).mono ?_; rintro e w5 ⟨rfl, hb⟩; replace O := O.call hb; clear hb) | (go_at_call 66; clear tok1; have tok2 : True := trivial; refine (CI _).mono ?_; rintro e w6 ⟨rfl, hb⟩; replace O := O.call hb; clear hb) | ((with_reducible refine at_load 50 ?_); refine wpList_whole rfl O 0 rfl rfl Tryz.underlying84 rfl (sL f0 g0 0 0 false) ?_) | ((with_reducible refine at_store 4 ?_); refine wpList_put_own O 1 (ln f0 g0 0 0 false) rfl rfl rfl (sL f0 g0 0 0 false) rfl (ln_one f0 g0 0 0 false) ?_; clear O; intro w9 O))
   exact bodyPost_ret (v := .agg (ln f0 g0 0 0 false).toArray) (res_h rfl O.held 1 rfl rfl Tryz.underlying84 rfl (sL f0 g0 0 0 false)) rfl ⟨0, 0, false, by rw [HMN.out.1, HMN.out.2.1], ⟨fun _ => rfl, fun _ => HN.out.symm, fun h => absurd h (by decide), (by unfold DM.Rx; decide)⟩, O.below⟩
  ·
   have hin := FI.out HR.out
   have hpx := FX.out hin
   have CX0 := CE.out hpx
   clear FA FN FI FX CE
   cases hq : M.eqB 2 a b
   ·
    have hne : ¬ (a0 = b0 ∧ a1 = b1) := fun h => by
     have := QE.out.2 h
     rw [hq] at this
     cases this
    have HNE := Lib.hid hne
    have HQ := Lib.hid hq
    have HIN := Lib.hid hin
    have HPX := Lib.hid hpx
    clear hq hin hpx hne QE
    obtain ⟨ex, hex⟩ : ∃ z, DM.exits (DM.rel a0 x) (DM.rel a1 y) (DM.rel b0 x) (DM.rel b1 y) = z := ⟨_, rfl⟩
    have CX : ∀ w, Calls Tryz.prog 47 #[arr 2 a, arr 2 b, .int .i64 x, .int .i64 y] w fun e w' => e = .returned (.bool ex) ∧ Below w.heap.size w w' := fun w => by
     rw [← hex]
     exact CX0 w
    clear CX0
    cases ex
    ·
     have HN := Lib.hid (FB.out x y HIN.out hex)
     clear hex FB FC
     go_wp2_with (first | ((with_reducible first | refine at_load 18 ?_ | refine at_load 30 ?_ | refine at_load 38 ?_ | refine at_load 43 ?_); refine wpList_whole rfl O 3 rfl rfl Tryz.underlying44 rfl (sP _) ?_) | ((with_reducible first | refine at_load 19 ?_ | refine at_load 39 ?_ | refine at_load 44 ?_); refine wpList_whole rfl O 2 rfl rfl Tryz.underlying44 rfl (sP _) ?_) | (go_at_call 46; clear tok0; have tok1 : True := trivial; refine (CW _).mono ?_; rintro e w5 ⟨rfl, hb⟩; replace O := O.call hb; clear hb) | (go_at_call 66; clear tok1; have tok2 : True := trivial; refine (CI _).mono ?_; rintro e w6 ⟨rfl, hb⟩; replace O := O.call hb; clear hb) | ((with_reducible refine at_binOp 40 ?_); refine wpList_eqP rfl (a) (b) rfl rfl ?_; rw [HQ.out]) | (go_at_call 47; refine (CX _).mono ?_; rintro e w7 ⟨rfl, hb⟩; replace O := O.call hb; clear hb) | ((with_reducible refine at_load 50 ?_); refine wpList_whole rfl O 0 rfl rfl Tryz.underlying84 rfl (sL f0 g0 0 0 false) ?_) | ((with_reducible refine at_store 4 ?_); refine wpList_put_own O 1 (ln f0 g0 0 0 false) rfl rfl rfl (sL f0 g0 0 0 false) rfl (ln_one f0 g0 0 0 false) ?_; clear O; intro w9 O))
     exact bodyPost_ret (v := .agg (ln f0 g0 0 0 false).toArray) (res_h rfl O.held 1 rfl rfl Tryz.underlying84 rfl (sL f0 g0 0 0 false)) rfl ⟨0, 0, false, by rw [HMN.out.1, HMN.out.2.1], ⟨fun _ => rfl, fun _ => HN.out.symm, fun h => absurd h (by decide), (by unfold DM.Rx; decide)⟩, O.below⟩
    ·
     have HC := Lib.hid (FC.out x y HNE.out HIN.out hex f0 g0 x HMN.out.1 HMN.out.2.1 rfl)
     clear hex FB FC
     obtain ⟨k1, hk1⟩ : ∃ z, min f0 g0 = z := ⟨_, rfl⟩
     obtain ⟨k2, hk2⟩ : ∃ z, max f0 g0 = z := ⟨_, rfl⟩
     rw [hk1, hk2] at HC
     have FM := Lib.hid (And.intro (congrArg (Value.int IntKind.i64) hk1) (And.intro (congrArg (Value.int IntKind.i64) hk2) (And.intro (congrArg (Value.int IntKind.i64) ((min_if f0 g0).trans hk1)) (congrArg (Value.int IntKind.i64) ((max_if f0 g0).trans hk2)))))
     clear hk1 hk2
     obtain ⟨m1, m2, G1, G2⟩ := FM.out
     clear FM
     cases c1 : decide (k1 ≤ x)
     ·
      rw [c1, Bool.false_and] at HC
      go_wp2_with (first | ((with_reducible first | refine at_load 18 ?_ | refine at_load 30 ?_ | refine at_load 38 ?_ | refine at_load 43 ?_ | refine at_load 52 ?_); refine wpList_whole rfl O 3 rfl rfl Tryz.underlying44 rfl (sP _) ?_) | ((with_reducible first | refine at_load 19 ?_ | refine at_load 39 ?_ | refine at_load 44 ?_ | refine at_load 53 ?_); refine wpList_whole rfl O 2 rfl rfl Tryz.underlying44 rfl (sP _) ?_) | (go_at_call 46; clear tok0; have tok1 : True := trivial; refine (CW _).mono ?_; rintro e w5 ⟨rfl, hb⟩; replace O := O.call hb; clear hb) | (go_at_call 66; clear tok1; have tok2 : True := trivial; refine (CI _).mono ?_; rintro e w6 ⟨rfl, hb⟩; replace O := O.call hb; clear hb) | ((with_reducible refine at_binOp 40 ?_); refine wpList_eqP rfl (a) (b) rfl rfl ?_; rw [HQ.out]) | (go_at_call 47; refine (CX _).mono ?_; rintro e w7 ⟨rfl, hb⟩; replace O := O.call hb; clear hb) | (go_at_call 46; clear tok2; have tok3 : True := trivial; refine (CW _).mono ?_; rintro e w8 ⟨rfl, hb⟩; replace O := O.call hb; clear hb) | ((with_reducible first | refine at_load 59 ?_ | refine at_load 67 ?_); refine wpList_cell_h (v := .int .i64 f0) rfl O.held 0 rfl (i := 0) rfl rfl agg3 rfl ?_) | ((with_reducible first | refine at_load 61 ?_ | refine at_load 69 ?_); refine wpList_cell_h (v := .int .i64 g0) rfl O.held 0 rfl (i := 1) rfl rfl agg3 rfl ?_) | ((with_reducible refine at_store 77 ?_); refine wpList_set_own O 0 (i := 2) (.int .i64 x) rfl (show 2 < 5 by decide) rfl rfl size3s rfl rfl ?_; clear O; intro w10 O) | ((with_reducible refine at_store 78 ?_); refine wpList_set_own O 0 (i := 3) (.int .i64 y) rfl (show 3 < 5 by decide) rfl rfl size3s rfl rfl ?_; clear O; intro w11 O) | ((with_reducible refine at_store 79 ?_); refine wpList_set_own O 0 (i := 4) (.bool true) rfl (show 4 < 5 by decide) rfl rfl size4s rfl rfl ?_; clear O; intro w12 O) | ((with_reducible refine at_load 80 ?_); refine wpList_whole rfl O 0 rfl rfl Tryz.underlying84 rfl (sL f0 g0 x y true) ?_) | ((with_reducible refine at_store 4 ?_); refine wpList_put_own O 1 (ln f0 g0 x y true) rfl rfl rfl (sL f0 g0 x y true) rfl (ln_one f0 g0 x y true) ?_; clear O; intro w13 O))
      exact bodyPost_ret (v := .agg (ln f0 g0 x y true).toArray) (res_h rfl O.held 1 rfl rfl Tryz.underlying84 rfl (sL f0 g0 x y true)) rfl ⟨x, y, true, by rw [HMN.out.1, HMN.out.2.1], ⟨fun h => absurd h HNE.out, fun _ => HC.out.symm, fun _ => HIN.out, HPX.out⟩, O.below⟩
     ·
      rw [c1, Bool.true_and] at HC
      cases c2 : decide (x < k2)
      ·
       rw [c2] at HC
       go_wp2_with (first | ((with_reducible first | refine at_load 18 ?_ | refine at_load 30 ?_ | refine at_load 38 ?_ | refine at_load 43 ?_ | refine at_load 52 ?_); refine wpList_whole rfl O 3 rfl rfl Tryz.underlying44 rfl (sP _) ?_) | ((with_reducible first | refine at_load 19 ?_ | refine at_load 39 ?_ | refine at_load 44 ?_ | refine at_load 53 ?_); refine wpList_whole rfl O 2 rfl rfl Tryz.underlying44 rfl (sP _) ?_) | (go_at_call 46; clear tok0; have tok1 : True := trivial; refine (CW _).mono ?_; rintro e w5 ⟨rfl, hb⟩; replace O := O.call hb; clear hb) | (go_at_call 66; clear tok1; have tok2 : True := trivial; refine (CI _).mono ?_; rintro e w6 ⟨rfl, hb⟩; replace O := O.call hb; clear hb) | ((with_reducible refine at_binOp 40 ?_); refine wpList_eqP rfl (a) (b) rfl rfl ?_; rw [HQ.out]) | (go_at_call 47; refine (CX _).mono ?_; rintro e w7 ⟨rfl, hb⟩; replace O := O.call hb; clear hb) | (go_at_call 46; clear tok2; have tok3 : True := trivial; refine (CW _).mono ?_; rintro e w8 ⟨rfl, hb⟩; replace O := O.call hb; clear hb) | ((with_reducible first | refine at_load 59 ?_ | refine at_load 67 ?_); refine wpList_cell_h (v := .int .i64 f0) rfl O.held 0 rfl (i := 0) rfl rfl agg3 rfl ?_) | ((with_reducible first | refine at_load 61 ?_ | refine at_load 69 ?_); refine wpList_cell_h (v := .int .i64 g0) rfl O.held 0 rfl (i := 1) rfl rfl agg3 rfl ?_) | ((with_reducible refine at_store 77 ?_); refine wpList_set_own O 0 (i := 2) (.int .i64 x) rfl (show 2 < 5 by decide) rfl rfl size3s rfl rfl ?_; clear O; intro w10 O) | ((with_reducible refine at_store 78 ?_); refine wpList_set_own O 0 (i := 3) (.int .i64 y) rfl (show 3 < 5 by decide) rfl rfl size3s rfl rfl ?_; clear O; intro w11 O) | ((with_reducible refine at_store 79 ?_); refine wpList_set_own O 0 (i := 4) (.bool true) rfl (show 4 < 5 by decide) rfl rfl size4s rfl rfl ?_; clear O; intro w12 O) | ((with_reducible refine at_load 80 ?_); refine wpList_whole rfl O 0 rfl rfl Tryz.underlying84 rfl (sL f0 g0 x y true) ?_) | ((with_reducible refine at_store 4 ?_); refine wpList_put_own O 1 (ln f0 g0 x y true) rfl rfl rfl (sL f0 g0 x y true) rfl (ln_one f0 g0 x y true) ?_; clear O; intro w13 O))
       exact bodyPost_ret (v := .agg (ln f0 g0 x y true).toArray) (res_h rfl O.held 1 rfl rfl Tryz.underlying84 rfl (sL f0 g0 x y true)) rfl ⟨x, y, true, by rw [HMN.out.1, HMN.out.2.1], ⟨fun h => absurd h HNE.out, fun _ => HC.out.symm, fun _ => HIN.out, HPX.out⟩, O.below⟩
      ·
       rw [c2] at HC
       go_wp2_with (first | ((with_reducible first | refine at_load 18 ?_ | refine at_load 30 ?_ | refine at_load 38 ?_ | refine at_load 43 ?_ | refine at_load 52 ?_); refine wpList_whole rfl O 3 rfl rfl Tryz.underlying44 rfl (sP _) ?_) | ((with_reducible first | refine at_load 19 ?_ | refine at_load 39 ?_ | refine at_load 44 ?_ | refine at_load 53 ?_); refine wpList_whole rfl O 2 rfl rfl Tryz.underlying44 rfl (sP _) ?_) | (go_at_call 46; clear tok0; have tok1 : True := trivial; refine (CW _).mono ?_; rintro e w5 ⟨rfl, hb⟩; replace O := O.call hb; clear hb) | (go_at_call 66; clear tok1; have tok2 : True := trivial; refine (CI _).mono ?_; rintro e w6 ⟨rfl, hb⟩; replace O := O.call hb; clear hb) | ((with_reducible refine at_binOp 40 ?_); refine wpList_eqP rfl (a) (b) rfl rfl ?_; rw [HQ.out]) | (go_at_call 47; refine (CX _).mono ?_; rintro e w7 ⟨rfl, hb⟩; replace O := O.call hb; clear hb) | (go_at_call 46; clear tok2; have tok3 : True := trivial; refine (CW _).mono ?_; rintro e w8 ⟨rfl, hb⟩; replace O := O.call hb; clear hb) | ((with_reducible first | refine at_load 59 ?_ | refine at_load 67 ?_); refine wpList_cell_h (v := .int .i64 f0) rfl O.held 0 rfl (i := 0) rfl rfl agg3 rfl ?_) | ((with_reducible first | refine at_load 61 ?_ | refine at_load 69 ?_); refine wpList_cell_h (v := .int .i64 g0) rfl O.held 0 rfl (i := 1) rfl rfl agg3 rfl ?_) | ((with_reducible refine at_store 77 ?_); refine wpList_set_own O 0 (i := 2) (.int .i64 x) rfl (show 2 < 5 by decide) rfl rfl size3s rfl rfl ?_; clear O; intro w10 O) | ((with_reducible refine at_store 78 ?_); refine wpList_set_own O 0 (i := 3) (.int .i64 y) rfl (show 3 < 5 by decide) rfl rfl size3s rfl rfl ?_; clear O; intro w11 O) | ((with_reducible refine at_store 79 ?_); refine wpList_set_own O 0 (i := 4) (.bool false) rfl (show 4 < 5 by decide) rfl rfl size4s rfl rfl ?_; clear O; intro w12 O) | ((with_reducible refine at_load 80 ?_); refine wpList_whole rfl O 0 rfl rfl Tryz.underlying84 rfl (sL f0 g0 x y false) ?_) | ((with_reducible refine at_store 4 ?_); refine wpList_put_own O 1 (ln f0 g0 x y false) rfl rfl rfl (sL f0 g0 x y false) rfl (ln_one f0 g0 x y false) ?_; clear O; intro w13 O))
       exact bodyPost_ret (v := .agg (ln f0 g0 x y false).toArray) (res_h rfl O.held 1 rfl rfl Tryz.underlying84 rfl (sL f0 g0 x y false)) rfl ⟨x, y, false, by rw [HMN.out.1, HMN.out.2.1], ⟨fun h => absurd h HNE.out, fun _ => HC.out.symm, fun _ => HIN.out, HPX.out⟩, O.below⟩
   ·
    have HQ := Lib.hid hq
    have HEQ := Lib.hid (QE.out.1 hq)
    clear hq QE FB FC CX0 hin hpx
    go_wp2_with (first | ((with_reducible first | refine at_load 18 ?_ | refine at_load 30 ?_ | refine at_load 38 ?_); refine wpList_whole rfl O 3 rfl rfl Tryz.underlying44 rfl (sP _) ?_) | ((with_reducible first | refine at_load 19 ?_ | refine at_load 39 ?_); refine wpList_whole rfl O 2 rfl rfl Tryz.underlying44 rfl (sP _) ?_) | (go_at_call 46; clear tok0; have tok1 : True := trivial; refine (CW _).mono ?_; rintro e w5 ⟨rfl, hb⟩; replace O := O.call hb; clear hb) | (go_at_call 66; clear tok1; have tok2 : True := trivial; refine (CI _).mono ?_; rintro e w6 ⟨rfl, hb⟩; replace O := O.call hb; clear hb) | ((with_reducible refine at_binOp 40 ?_); refine wpList_eqP rfl (a) (b) rfl rfl ?_; rw [HQ.out]) | ((with_reducible refine at_load 50 ?_); refine wpList_whole rfl O 0 rfl rfl Tryz.underlying84 rfl (sL f0 g0 0 0 false) ?_) | ((with_reducible refine at_store 4 ?_); refine wpList_put_own O 1 (ln f0 g0 0 0 false) rfl rfl rfl (sL f0 g0 0 0 false) rfl (ln_one f0 g0 0 0 false) ?_; clear O; intro w9 O))
    exact bodyPost_ret (v := .agg (ln f0 g0 0 0 false).toArray) (res_h rfl O.held 1 rfl rfl Tryz.underlying84 rfl (sL f0 g0 0 0 false)) rfl ⟨0, 0, false, by rw [HMN.out.1, HMN.out.2.1], ⟨fun _ => rfl, fun h => absurd HEQ.out h, fun h => absurd h (by decide), (by unfold DM.Rx; decide)⟩, O.below⟩
 ·
  simp only [Bool.not_true] at CW
  go_wp2_with (first | ((with_reducible refine at_load 18 ?_); refine wpList_whole rfl O 3 rfl rfl Tryz.underlying44 rfl (sP _) ?_) | ((with_reducible refine at_load 19 ?_); refine wpList_whole rfl O 2 rfl rfl Tryz.underlying44 rfl (sP _) ?_) | (go_at_call 46; clear tok0; have tok1 : True := trivial; refine (CW _).mono ?_; rintro e w5 ⟨rfl, hb⟩; replace O := O.call hb; clear hb))
  have OO := O
  clear O
  have O := OO
  clear OO
  refine region_T ((fun w2 => Own w_ w2 [(g5, 84, ln f0 g0 0 0 false), (g4, 84, ln 0 0 0 0 false), (g3, 44, M.mat 2 b), (g2, 44, M.mat 2 a)])) [0, 1, 2, 3, 4, 5, 6] 12 [some 22, some 23, some 24, some 25, some 26, some 27, some 28] [.pointer (some ⟨g2, 1, none⟩), .int .i64 a1, .int .i64 f1, .pointer (some ⟨g3, 1, none⟩), .int .i64 b1, .int .i64 g1, .agg (ln f1 g1 0 0 false).toArray] 1 (by kernel_rfl) (by rfl) (by kernel_rfl) (by rfl) (by rfl) (O.drew) (fun F hF => ?_)
  simp only [fillD, Act.put, List.setIfInBounds_toArray, List.set_cons_zero, List.set_cons_succ] at hF
  subst hF
  refine ⟨⟨does_want rfl (by rfl) (fun w' O K hK => ?_), does_want rfl (by rfl) (fun w' O K hK => ?_), does_want rfl (by rfl) (fun w' O K hK => ?_), does_want rfl (by rfl) (fun w' O K hK => ?_), does_want rfl (by rfl) (fun w' O K hK => ?_), does_want rfl (by rfl) (fun w' O K hK => ?_), does_want rfl (by rfl) (fun w' O K hK => ?_), trivial⟩, fun w' O => ?_⟩
  ·
   go_simp
   exact hK _ O
  · exact wp_cell_h (v := .int .i64 (a1)) O.held 3 rfl eP1.out rfl agg3 rfl (hK _ O)
  ·
   go_simp
   go_at_call 65
   refine (A1 _).mono ?_
   rintro e w2 ⟨rfl, hw⟩
   obtain rfl := hw.symm
   clear hw
   exact hK _ O
  ·
   go_simp
   exact hK _ O
  · exact wp_cell_h (v := .int .i64 (b1)) O.held 2 rfl eQ1.out rfl agg3 rfl (hK _ O)
  ·
   go_simp
   go_at_call 65
   refine (B1 _).mono ?_
   rintro e w2 ⟨rfl, hw⟩
   obtain rfl := hw.symm
   clear hw
   exact hK _ O
  ·
   refine wp_build_own [(0, .int .i64 f1), (1, .int .i64 g1)] ((ln f1 g1 0 0 false).toArray) ?_ (builtL f1 g1) (hK _ O)
   simp only [List.map_toArray, List.map_cons, List.map_nil]
   rfl
  refine wpAny_want (i := 7) (by kernel_rfl) rfl (by rfl) (fun K hK => ?_)
  refine wp_put_own O 0 (ln f1 g1 0 0 false) rfl rfl rfl (sL f1 g1 0 0 false) rfl (ln_one f1 g1 0 0 false) fun w9 O9 => hK _ _ ?_
  clear O
  have O := O9
  clear O9
  clear hK K
  try simp only [Act.put, List.setIfInBounds_toArray, List.set_cons_zero, List.set_cons_succ]
  refine wpAny_done (by kernel_rfl) ?_ _
  have O9 := Own.as O (l' := [(g5, 84, ln f1 g1 0 0 false), (g4, 84, ln 0 0 0 0 false), (g3, 44, M.mat 2 b), (g2, 44, M.mat 2 a)]) rfl
  clear O A1 B1 eP1 eQ1
  have O := O9
  clear O9
  cases ok
  ·
   have HN := Lib.hid (FA.out (FN.out HR.out))
   clear FA FB FC FI FN FX QE CE
   go_wp2_with (first | ((with_reducible refine at_load 30 ?_); refine wpList_whole rfl O 3 rfl rfl Tryz.underlying44 rfl (sP _) ?_) | (go_at_call 66; clear tok1; have tok2 : True := trivial; refine (CI _).mono ?_; rintro e w6 ⟨rfl, hb⟩; replace O := O.call hb; clear hb) | ((with_reducible refine at_load 50 ?_); refine wpList_whole rfl O 0 rfl rfl Tryz.underlying84 rfl (sL f1 g1 0 0 false) ?_) | ((with_reducible refine at_store 4 ?_); refine wpList_put_own O 1 (ln f1 g1 0 0 false) rfl rfl rfl (sL f1 g1 0 0 false) rfl (ln_one f1 g1 0 0 false) ?_; clear O; intro w9 O))
   exact bodyPost_ret (v := .agg (ln f1 g1 0 0 false).toArray) (res_h rfl O.held 1 rfl rfl Tryz.underlying84 rfl (sL f1 g1 0 0 false)) rfl ⟨0, 0, false, by rw [HMN.out.2.2.1, HMN.out.2.2.2], ⟨fun _ => rfl, fun _ => HN.out.symm, fun h => absurd h (by decide), (by unfold DM.Rx; decide)⟩, O.below⟩
  ·
   have hin := FI.out HR.out
   have hpx := FX.out hin
   have CX0 := CE.out hpx
   clear FA FN FI FX CE
   cases hq : M.eqB 2 a b
   ·
    have hne : ¬ (a0 = b0 ∧ a1 = b1) := fun h => by
     have := QE.out.2 h
     rw [hq] at this
     cases this
    have HNE := Lib.hid hne
    have HQ := Lib.hid hq
    have HIN := Lib.hid hin
    have HPX := Lib.hid hpx
    clear hq hin hpx hne QE
    obtain ⟨ex, hex⟩ : ∃ z, DM.exits (DM.rel a0 x) (DM.rel a1 y) (DM.rel b0 x) (DM.rel b1 y) = z := ⟨_, rfl⟩
    have CX : ∀ w, Calls Tryz.prog 47 #[arr 2 a, arr 2 b, .int .i64 x, .int .i64 y] w fun e w' => e = .returned (.bool ex) ∧ Below w.heap.size w w' := fun w => by
     rw [← hex]
     exact CX0 w
    clear CX0
    cases ex
    ·
     have HN := Lib.hid (FB.out x y HIN.out hex)
     clear hex FB FC
     go_wp2_with (first | ((with_reducible first | refine at_load 30 ?_ | refine at_load 38 ?_ | refine at_load 43 ?_); refine wpList_whole rfl O 3 rfl rfl Tryz.underlying44 rfl (sP _) ?_) | (go_at_call 66; clear tok1; have tok2 : True := trivial; refine (CI _).mono ?_; rintro e w6 ⟨rfl, hb⟩; replace O := O.call hb; clear hb) | ((with_reducible first | refine at_load 39 ?_ | refine at_load 44 ?_); refine wpList_whole rfl O 2 rfl rfl Tryz.underlying44 rfl (sP _) ?_) | ((with_reducible refine at_binOp 40 ?_); refine wpList_eqP rfl (a) (b) rfl rfl ?_; rw [HQ.out]) | (go_at_call 47; refine (CX _).mono ?_; rintro e w7 ⟨rfl, hb⟩; replace O := O.call hb; clear hb) | ((with_reducible refine at_load 50 ?_); refine wpList_whole rfl O 0 rfl rfl Tryz.underlying84 rfl (sL f1 g1 0 0 false) ?_) | ((with_reducible refine at_store 4 ?_); refine wpList_put_own O 1 (ln f1 g1 0 0 false) rfl rfl rfl (sL f1 g1 0 0 false) rfl (ln_one f1 g1 0 0 false) ?_; clear O; intro w9 O))
     exact bodyPost_ret (v := .agg (ln f1 g1 0 0 false).toArray) (res_h rfl O.held 1 rfl rfl Tryz.underlying84 rfl (sL f1 g1 0 0 false)) rfl ⟨0, 0, false, by rw [HMN.out.2.2.1, HMN.out.2.2.2], ⟨fun _ => rfl, fun _ => HN.out.symm, fun h => absurd h (by decide), (by unfold DM.Rx; decide)⟩, O.below⟩
    ·
     have HC := Lib.hid (FC.out x y HNE.out HIN.out hex f1 g1 y HMN.out.2.2.1 HMN.out.2.2.2 rfl)
     clear hex FB FC
     obtain ⟨k1, hk1⟩ : ∃ z, min f1 g1 = z := ⟨_, rfl⟩
     obtain ⟨k2, hk2⟩ : ∃ z, max f1 g1 = z := ⟨_, rfl⟩
     rw [hk1, hk2] at HC
     have FM := Lib.hid (And.intro (congrArg (Value.int IntKind.i64) hk1) (And.intro (congrArg (Value.int IntKind.i64) hk2) (And.intro (congrArg (Value.int IntKind.i64) ((min_if f1 g1).trans hk1)) (congrArg (Value.int IntKind.i64) ((max_if f1 g1).trans hk2)))))
     clear hk1 hk2
     obtain ⟨m1, m2, G1, G2⟩ := FM.out
     clear FM
     cases c1 : decide (k1 ≤ y)
     ·
      rw [c1, Bool.false_and] at HC
      go_wp2_with (first | ((with_reducible first | refine at_load 30 ?_ | refine at_load 38 ?_ | refine at_load 43 ?_ | refine at_load 52 ?_); refine wpList_whole rfl O 3 rfl rfl Tryz.underlying44 rfl (sP _) ?_) | (go_at_call 66; clear tok1; have tok2 : True := trivial; refine (CI _).mono ?_; rintro e w6 ⟨rfl, hb⟩; replace O := O.call hb; clear hb) | ((with_reducible first | refine at_load 39 ?_ | refine at_load 44 ?_ | refine at_load 53 ?_); refine wpList_whole rfl O 2 rfl rfl Tryz.underlying44 rfl (sP _) ?_) | ((with_reducible refine at_binOp 40 ?_); refine wpList_eqP rfl (a) (b) rfl rfl ?_; rw [HQ.out]) | (go_at_call 47; refine (CX _).mono ?_; rintro e w7 ⟨rfl, hb⟩; replace O := O.call hb; clear hb) | (go_at_call 46; clear tok2; have tok3 : True := trivial; refine (CW _).mono ?_; rintro e w8 ⟨rfl, hb⟩; replace O := O.call hb; clear hb) | ((with_reducible first | refine at_load 59 ?_ | refine at_load 67 ?_); refine wpList_cell_h (v := .int .i64 f1) rfl O.held 0 rfl (i := 0) rfl rfl agg3 rfl ?_) | ((with_reducible first | refine at_load 61 ?_ | refine at_load 69 ?_); refine wpList_cell_h (v := .int .i64 g1) rfl O.held 0 rfl (i := 1) rfl rfl agg3 rfl ?_) | ((with_reducible refine at_store 77 ?_); refine wpList_set_own O 0 (i := 2) (.int .i64 x) rfl (show 2 < 5 by decide) rfl rfl size3s rfl rfl ?_; clear O; intro w10 O) | ((with_reducible refine at_store 78 ?_); refine wpList_set_own O 0 (i := 3) (.int .i64 y) rfl (show 3 < 5 by decide) rfl rfl size3s rfl rfl ?_; clear O; intro w11 O) | ((with_reducible refine at_store 79 ?_); refine wpList_set_own O 0 (i := 4) (.bool true) rfl (show 4 < 5 by decide) rfl rfl size4s rfl rfl ?_; clear O; intro w12 O) | ((with_reducible refine at_load 80 ?_); refine wpList_whole rfl O 0 rfl rfl Tryz.underlying84 rfl (sL f1 g1 x y true) ?_) | ((with_reducible refine at_store 4 ?_); refine wpList_put_own O 1 (ln f1 g1 x y true) rfl rfl rfl (sL f1 g1 x y true) rfl (ln_one f1 g1 x y true) ?_; clear O; intro w13 O))
      exact bodyPost_ret (v := .agg (ln f1 g1 x y true).toArray) (res_h rfl O.held 1 rfl rfl Tryz.underlying84 rfl (sL f1 g1 x y true)) rfl ⟨x, y, true, by rw [HMN.out.2.2.1, HMN.out.2.2.2], ⟨fun h => absurd h HNE.out, fun _ => HC.out.symm, fun _ => HIN.out, HPX.out⟩, O.below⟩
     ·
      rw [c1, Bool.true_and] at HC
      cases c2 : decide (y < k2)
      ·
       rw [c2] at HC
       go_wp2_with (first | ((with_reducible first | refine at_load 30 ?_ | refine at_load 38 ?_ | refine at_load 43 ?_ | refine at_load 52 ?_); refine wpList_whole rfl O 3 rfl rfl Tryz.underlying44 rfl (sP _) ?_) | (go_at_call 66; clear tok1; have tok2 : True := trivial; refine (CI _).mono ?_; rintro e w6 ⟨rfl, hb⟩; replace O := O.call hb; clear hb) | ((with_reducible first | refine at_load 39 ?_ | refine at_load 44 ?_ | refine at_load 53 ?_); refine wpList_whole rfl O 2 rfl rfl Tryz.underlying44 rfl (sP _) ?_) | ((with_reducible refine at_binOp 40 ?_); refine wpList_eqP rfl (a) (b) rfl rfl ?_; rw [HQ.out]) | (go_at_call 47; refine (CX _).mono ?_; rintro e w7 ⟨rfl, hb⟩; replace O := O.call hb; clear hb) | (go_at_call 46; clear tok2; have tok3 : True := trivial; refine (CW _).mono ?_; rintro e w8 ⟨rfl, hb⟩; replace O := O.call hb; clear hb) | ((with_reducible first | refine at_load 59 ?_ | refine at_load 67 ?_); refine wpList_cell_h (v := .int .i64 f1) rfl O.held 0 rfl (i := 0) rfl rfl agg3 rfl ?_) | ((with_reducible first | refine at_load 61 ?_ | refine at_load 69 ?_); refine wpList_cell_h (v := .int .i64 g1) rfl O.held 0 rfl (i := 1) rfl rfl agg3 rfl ?_) | ((with_reducible refine at_store 77 ?_); refine wpList_set_own O 0 (i := 2) (.int .i64 x) rfl (show 2 < 5 by decide) rfl rfl size3s rfl rfl ?_; clear O; intro w10 O) | ((with_reducible refine at_store 78 ?_); refine wpList_set_own O 0 (i := 3) (.int .i64 y) rfl (show 3 < 5 by decide) rfl rfl size3s rfl rfl ?_; clear O; intro w11 O) | ((with_reducible refine at_store 79 ?_); refine wpList_set_own O 0 (i := 4) (.bool true) rfl (show 4 < 5 by decide) rfl rfl size4s rfl rfl ?_; clear O; intro w12 O) | ((with_reducible refine at_load 80 ?_); refine wpList_whole rfl O 0 rfl rfl Tryz.underlying84 rfl (sL f1 g1 x y true) ?_) | ((with_reducible refine at_store 4 ?_); refine wpList_put_own O 1 (ln f1 g1 x y true) rfl rfl rfl (sL f1 g1 x y true) rfl (ln_one f1 g1 x y true) ?_; clear O; intro w13 O))
       exact bodyPost_ret (v := .agg (ln f1 g1 x y true).toArray) (res_h rfl O.held 1 rfl rfl Tryz.underlying84 rfl (sL f1 g1 x y true)) rfl ⟨x, y, true, by rw [HMN.out.2.2.1, HMN.out.2.2.2], ⟨fun h => absurd h HNE.out, fun _ => HC.out.symm, fun _ => HIN.out, HPX.out⟩, O.below⟩
      ·
       rw [c2] at HC
       go_wp2_with (first | ((with_reducible first | refine at_load 30 ?_ | refine at_load 38 ?_ | refine at_load 43 ?_ | refine at_load 52 ?_); refine wpList_whole rfl O 3 rfl rfl Tryz.underlying44 rfl (sP _) ?_) | (go_at_call 66; clear tok1; have tok2 : True := trivial; refine (CI _).mono ?_; rintro e w6 ⟨rfl, hb⟩; replace O := O.call hb; clear hb) | ((with_reducible first | refine at_load 39 ?_ | refine at_load 44 ?_ | refine at_load 53 ?_); refine wpList_whole rfl O 2 rfl rfl Tryz.underlying44 rfl (sP _) ?_) | ((with_reducible refine at_binOp 40 ?_); refine wpList_eqP rfl (a) (b) rfl rfl ?_; rw [HQ.out]) | (go_at_call 47; refine (CX _).mono ?_; rintro e w7 ⟨rfl, hb⟩; replace O := O.call hb; clear hb) | (go_at_call 46; clear tok2; have tok3 : True := trivial; refine (CW _).mono ?_; rintro e w8 ⟨rfl, hb⟩; replace O := O.call hb; clear hb) | ((with_reducible first | refine at_load 59 ?_ | refine at_load 67 ?_); refine wpList_cell_h (v := .int .i64 f1) rfl O.held 0 rfl (i := 0) rfl rfl agg3 rfl ?_) | ((with_reducible first | refine at_load 61 ?_ | refine at_load 69 ?_); refine wpList_cell_h (v := .int .i64 g1) rfl O.held 0 rfl (i := 1) rfl rfl agg3 rfl ?_) | ((with_reducible refine at_store 77 ?_); refine wpList_set_own O 0 (i := 2) (.int .i64 x) rfl (show 2 < 5 by decide) rfl rfl size3s rfl rfl ?_; clear O; intro w10 O) | ((with_reducible refine at_store 78 ?_); refine wpList_set_own O 0 (i := 3) (.int .i64 y) rfl (show 3 < 5 by decide) rfl rfl size3s rfl rfl ?_; clear O; intro w11 O) | ((with_reducible refine at_store 79 ?_); refine wpList_set_own O 0 (i := 4) (.bool false) rfl (show 4 < 5 by decide) rfl rfl size4s rfl rfl ?_; clear O; intro w12 O) | ((with_reducible refine at_load 80 ?_); refine wpList_whole rfl O 0 rfl rfl Tryz.underlying84 rfl (sL f1 g1 x y false) ?_) | ((with_reducible refine at_store 4 ?_); refine wpList_put_own O 1 (ln f1 g1 x y false) rfl rfl rfl (sL f1 g1 x y false) rfl (ln_one f1 g1 x y false) ?_; clear O; intro w13 O))
       exact bodyPost_ret (v := .agg (ln f1 g1 x y false).toArray) (res_h rfl O.held 1 rfl rfl Tryz.underlying84 rfl (sL f1 g1 x y false)) rfl ⟨x, y, false, by rw [HMN.out.2.2.1, HMN.out.2.2.2], ⟨fun h => absurd h HNE.out, fun _ => HC.out.symm, fun _ => HIN.out, HPX.out⟩, O.below⟩
   ·
    have HQ := Lib.hid hq
    have HEQ := Lib.hid (QE.out.1 hq)
    clear hq QE FB FC CX0 hin hpx
    go_wp2_with (first | ((with_reducible first | refine at_load 30 ?_ | refine at_load 38 ?_); refine wpList_whole rfl O 3 rfl rfl Tryz.underlying44 rfl (sP _) ?_) | (go_at_call 66; clear tok1; have tok2 : True := trivial; refine (CI _).mono ?_; rintro e w6 ⟨rfl, hb⟩; replace O := O.call hb; clear hb) | ((with_reducible refine at_load 39 ?_); refine wpList_whole rfl O 2 rfl rfl Tryz.underlying44 rfl (sP _) ?_) | ((with_reducible refine at_binOp 40 ?_); refine wpList_eqP rfl (a) (b) rfl rfl ?_; rw [HQ.out]) | ((with_reducible refine at_load 50 ?_); refine wpList_whole rfl O 0 rfl rfl Tryz.underlying84 rfl (sL f1 g1 0 0 false) ?_) | ((with_reducible refine at_store 4 ?_); refine wpList_put_own O 1 (ln f1 g1 0 0 false) rfl rfl rfl (sL f1 g1 0 0 false) rfl (ln_one f1 g1 0 0 false) ?_; clear O; intro w9 O))
    exact bodyPost_ret (v := .agg (ln f1 g1 0 0 false).toArray) (res_h rfl O.held 1 rfl rfl Tryz.underlying84 rfl (sL f1 g1 0 0 false)) rfl ⟨0, 0, false, by rw [HMN.out.2.2.1, HMN.out.2.2.2], ⟨fun _ => rfl, fun h => absurd HEQ.out h, fun h => absurd h (by decide), (by unfold DM.Rx; decide)⟩, O.below⟩
end Go.Proofs.YtpfhaocmcfnhnaaGreat
