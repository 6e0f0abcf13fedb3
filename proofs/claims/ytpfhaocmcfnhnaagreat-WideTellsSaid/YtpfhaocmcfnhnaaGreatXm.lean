/- Contract: the program's measure. -/
import Derived.Test.YtpfhaocmcfnhnaaGreatXz
import Derived.Test.YtpfhaocmcfnhnaaGreatNb
namespace Go.Proofs.YtpfhaocmcfnhnaaGreat
open Go.ChangeShapes Go.WideShapes Go.ChangeAt Go.RowKit
set_option linter.unusedVariables false
set_option linter.unusedSimpArgs false

namespace DM
theorem lin_out {ax ay bx by_ : Int} (hn : ¬ (ax = bx ∧ ay = by_)) {t : Bool} {am ac bm bc : Int} (ht : tall (bx - ax) (by_ - ay) = t) (e1 : mn t ax ay = am) (e2 : cr t ax ay = ac) (e3 : mn t bx by_ = bm) (e4 : cr t bx by_ = bc)
  (ha : -536870912 ≤ am ∧ am ≤ 536870912) (hb : -536870912 ≤ bm ∧ bm ≤ 536870912) {s c0 F C N : Int} {x0 x1 : Bool} (hs : stp am bm = s) (hc : cn0 am bm = c0) (h0 : xG t am ac bm bc (hold am) = x0)
  (hF : F = if x0 then hold am else hold am + s) (hC : C = if x0 then c0 else c0 - 1) (h1 : xG t am ac bm bc (hold bm) = x1) (hN : N = if 0 < C ∧ x1 = false then C - 1 else C) : Lin ax ay bx by_ F s N := by
 have h := lin_is hn ht e1 e2 e3 e4 ha hb
 have f1 : fst1 t am ac bm bc = F := by rw [hF, ← h0, ← hs]; rfl
 have c1 : cn1 t am ac bm bc = C := by rw [hC, ← h0, ← hc]; rfl
 have n1 : cn2 t am ac bm bc = N := by
  unfold cn2
  rw [last_is, h1, c1, hN]
 rw [f1, hs, n1] at h
 exact h
theorem cn0_lim3 {am bm : Int} (ha : -536870912 ≤ am ∧ am ≤ 536870912) (hb : -536870912 ≤ bm ∧ bm ≤ 536870912) : 1 ≤ cn0 am bm ∧ cn0 am bm ≤ 4194320 := by
 have h1 := (@cn0_lim am bm).1
 have h := (@cn0_lim am bm).2
 unfold hold at h
 exact ⟨h1, by omega⟩
end DM
/-- What measure answers. -/
def RetM (w : World) (a b : Nat → Int) (e : Ending) (w' : World) : Prop := ∃ f s n, e = .returned (.agg (wl (a 0) (a 1) (b 0) (b 1) (DM.wv (DM.tall (b 0 - a 0) (b 1 - a 1))) f s n).toArray) ∧ DM.Lin (a 0) (a 1) (b 0) (b 1) f s n ∧ Below w.heap.size w w'
set_option maxRecDepth 100000 in
set_option maxHeartbeats 16000000 in
theorem measure_any (a b : Nat → Int) (ha : DM.Rg a) (hb : DM.Rg b) (w_ : World) : Calls Tryz.prog 38 #[arr 2 a, arr 2 b] w_ (RetM w_ a b) := by
 have O := Own.start w_
 have CL := fun w => longer_any a b ha hb w
 have QE : M.eqB 2 a b = true ↔ (a 0 = b 0 ∧ a 1 = b 1) := by
  rw [M.eqB_iff]
  exact ⟨fun h => ⟨h 0 (by omega), h 1 (by omega)⟩, fun ⟨h0, h1⟩ i hi => by
   rcases (by omega : i = 0 ∨ i = 1) with rfl | rfl
   · exact h0
   · exact h1⟩
 have BW := fun t => builtWl a b t
 obtain ⟨a0, ea0⟩ : ∃ z, a 0 = z := ⟨_, rfl⟩
 obtain ⟨a1, ea1⟩ : ∃ z, a 1 = z := ⟨_, rfl⟩
 obtain ⟨b0, eb0⟩ : ∃ z, b 0 = z := ⟨_, rfl⟩
 obtain ⟨b1, eb1⟩ : ∃ z, b 1 = z := ⟨_, rfl⟩
 have HA : Hid (DM.Rg (DM.t2 a0 a1)) := Lib.hid (by rw [← ea0, ← ea1]; exact ha)
 have HB : Hid (DM.Rg (DM.t2 b0 b1)) := Lib.hid (by rw [← eb0, ← eb1]; exact hb)
 have MA := fun t w => along_any t a w
 have MB := fun t w => along_any t b w
 unfold RetM
 rw [ea0, ea1, eb0, eb1] at CL QE ⊢
 rw [ea0, ea1] at MA
 rw [eb0, eb1] at MB
 simp only [ea0, ea1, eb0, eb1] at BW
 clear ea0 ea1 eb0 eb1 ha hb
 obtain ⟨t, ht⟩ : ∃ t, DM.tall (b0 - a0) (b1 - a1) = t := ⟨_, rfl⟩
 rw [ht] at CL ⊢
 have HT := Lib.hid ht
 clear ht
 replace MA := MA t
 replace MB := MB t
 obtain ⟨tv, htv⟩ : ∃ z, DM.wv t = z := ⟨_, rfl⟩
 have HV := Lib.hid htv
 rw [htv] at CL MA MB ⊢
 replace BW := BW tv
 clear htv
 replace QE := Lib.hid QE
 obtain ⟨am, eam⟩ : ∃ z, DM.mn t a0 a1 = z := ⟨_, rfl⟩
 obtain ⟨bm, ebm⟩ : ∃ z, DM.mn t b0 b1 = z := ⟨_, rfl⟩
 rw [eam] at MA
 rw [ebm] at MB
 have lam := (DM.rg_mn t HA.out).1
 have lbm := (DM.rg_mn t HB.out).1
 rw [eam] at lam
 rw [ebm] at lbm
 have CHA := fun w => hold_any am lam.1 lam.2 w
 have CHB := fun w => hold_any bm lbm.1 lbm.2 w
 obtain ⟨B, eB⟩ : ∃ z, DM.hold am = z := ⟨_, rfl⟩
 obtain ⟨E, eE⟩ : ∃ z, DM.hold bm = z := ⟨_, rfl⟩
 rw [eB] at CHA
 rw [eE] at CHB
 have HBE := Lib.hid (And.intro eam (And.intro ebm (And.intro eB (And.intro eE (And.intro lam lbm)))))
 clear eam ebm eB eE lam lbm
 have HD : apart [⟨6, 99, 78, wl 0 0 0 0 0 0 0 0, wl 0 0 0 0 0 0 0 0⟩] := (by decide : [6, 99].Nodup)
 go_enter Tryz.func38, Tryz.ntmps38
 go_wp2_with (first | ((with_reducible refine at_box 2 ?_); refine wpList_box_own O (M.mat 2 (a)) rfl ?_; clear O; intro g2 w1 O) | ((with_reducible refine at_box 3 ?_); refine wpList_box_own O (M.mat 2 (b)) rfl ?_; clear O; intro g3 w2 O) | ((with_reducible refine at_alloc 4 ?_); refine wpList_alloc_own O (wl 0 0 0 0 0 0 0 0) zeroWl ?_; clear O; intro g4 w3 O))
 refine region_S (fun st w2 => NB w_ [(g4, 78, wl 0 0 0 0 0 0 0 0), (g3, 44, M.mat 2 b), (g2, 44, M.mat 2 a)] [⟨6, 99, 78, wl 0 0 0 0 0 0 0 0, wl 0 0 0 0 0 0 0 0⟩] st w2) [6] 12 7 [some 8, some 9, some 10, some 11, some 12, some 13, some 5] (fun g => [arr 2 a, arr 2 b, arr 2 a, arr 2 b, .int .i64 tv, .agg (wl a0 a1 b0 b1 tv 0 1 0).toArray, g 6]) 1 (by kernel_rfl) (by kernel_rfl) (by rfl) (by rfl) (fun _ => rfl) (by decide) ?_ (NB.start O.drew) (fun F hF => ?_)
 ·
  intro i hi
  simp only [List.mem_cons, List.not_mem_nil, or_false] at hi
  rcases hi with rfl
  · exact ⟨fun _ => rfl, [0, 1, 2, 3, 4, 5], by kernel_rfl, fun g v => ⟨rfl, rfl, rfl, rfl, rfl, rfl, trivial⟩⟩
 simp only [fillD, Act.put, List.setIfInBounds_toArray, List.set_cons_zero, List.set_cons_succ] at hF
 have hF2 := funext hF
 clear hF
 subst hF2
 refine ⟨⟨doesN_want (by decide) rfl (fun g => rfl) (fun st w' hS hp K hK => ?_), doesN_want (by decide) rfl (fun g => rfl) (fun st w' hS hp K hK => ?_), doesN_want (by decide) rfl (fun g => rfl) (fun st w' hS hp K hK => ?_), doesN_want (by decide) rfl (fun g => rfl) (fun st w' hS hp K hK => ?_), doesN_want (by decide) rfl (fun g => rfl) (fun st w' hS hp K hK => ?_), doesN_want (by decide) rfl (fun g => rfl) (fun st w' hS hp K hK => ?_), doesC_want (by decide) rfl (fun g => rfl) (fun st w' hS hn hp K hK => ?_), trivial⟩, fun st w' hS hall => ?_⟩
 ·
  try dsimp only
  exact wp_whole hS.own 2 rfl rfl Tryz.underlying44 rfl (sP _) (hK _ hS)
 ·
  try dsimp only
  exact wp_whole hS.own 1 rfl rfl Tryz.underlying44 rfl (sP _) (hK _ hS)
 ·
  try dsimp only
  exact wp_whole hS.own 2 rfl rfl Tryz.underlying44 rfl (sP _) (hK _ hS)
 ·
  try dsimp only
  exact wp_whole hS.own 1 rfl rfl Tryz.underlying44 rfl (sP _) (hK _ hS)
 ·
  try dsimp only
  go_simp
  go_at_call 55
  refine (CL _).mono ?_
  rintro e w2 ⟨rfl, hb⟩
  exact hK _ ⟨hS.1, hS.2.1, hS.2.2.call hb⟩
 ·
  try dsimp only
  refine wp_build_own [(0, arr 2 a), (1, arr 2 b), (2, .int .i64 tv), (4, .int .i64 1)] ((wl a0 a1 b0 b1 tv 0 1 0).toArray) ?_ BW (hK _ hS)
  simp only [List.map_toArray, List.map_cons, List.map_nil]
  rfl
 ·
  try dsimp only
  exact hS.alloc HD 0 rfl hn zeroWl hK
 try dsimp only
 obtain ⟨g5, e5⟩ := hS.ptr 0 rfl (hall 6 (by decide))
 have O3 : Own w_ w' [(g5, 78, wl 0 0 0 0 0 0 0 0), (g4, 78, wl 0 0 0 0 0 0 0 0), (g3, 44, M.mat 2 b), (g2, 44, M.mat 2 a)] := by
  have h3 := hS.2.2
  rw [nows_cons, NbS.now_same e5 rfl] at h3
  exact h3
 clear hS O
 have O := O3
 clear O3
 simp only [seen, e5, Option.getD_some]
 clear hall e5
 refine wpAny_want (i := 7) (by kernel_rfl) rfl (by rfl) (fun K hK => ?_)
 refine wp_put_own O 0 (wl a0 a1 b0 b1 tv 0 1 0) rfl rfl rfl (sWl a0 a1 b0 b1 tv 0 1 0) rfl (wl_one a0 a1 b0 b1 tv 0 1 0) fun w9 O9 => hK _ _ ?_
 clear O
 have O := O9
 clear O9
 clear hK K
 try simp only [Act.put, List.setIfInBounds_toArray, List.set_cons_zero, List.set_cons_succ]
 refine wpAny_done (by kernel_rfl) ?_ _
 have O9 := Own.as O (l' := [(g5, 78, wl a0 a1 b0 b1 tv 0 1 0), (g4, 78, wl 0 0 0 0 0 0 0 0), (g3, 44, M.mat 2 b), (g2, 44, M.mat 2 a)]) rfl
 clear O HD BW CL
 have O := O9
 clear O9
 cases hq : M.eqB 2 a b
 ·
  have hne : ¬ (a0 = b0 ∧ a1 = b1) := fun h => by
   have := QE.out.2 h
   rw [hq] at this
   cases this
  have HNE := Lib.hid hne
  have HQ := Lib.hid hq
  clear hq hne QE
  go_wp2_with (first | ((with_reducible refine at_load 14 ?_); refine wpList_whole rfl O 3 rfl rfl Tryz.underlying44 rfl (sP _) ?_) | ((with_reducible refine at_load 15 ?_); refine wpList_whole rfl O 2 rfl rfl Tryz.underlying44 rfl (sP _) ?_) | ((with_reducible refine at_binOp 16 ?_); refine wpList_eqP rfl (a) (b) rfl rfl ?_; rw [HQ.out]))
  have OO := O
  clear O
  have O := OO
  clear OO
  refine region_T ((fun w2 => Own w_ w2 [(g5, 78, wl a0 a1 b0 b1 tv 0 1 0), (g4, 78, wl 0 0 0 0 0 0 0 0), (g3, 44, M.mat 2 b), (g2, 44, M.mat 2 a)])) [0, 1, 2, 3, 4, 5, 6, 7, 8, 9, 10] 12 [some 18, some 19, some 20, some 21, some 22, some 23, some 24, some 25, some 26, some 27, some 6] [.pointer (some ⟨g5, 4, none⟩), .int .i64 tv, arr 2 a, .int .i64 am, .int .i64 B, .pointer (some ⟨g5, 4, none⟩), .int .i64 tv, arr 2 b, .int .i64 bm, .int .i64 E, .int .i64 B] 1 (by kernel_rfl) (by rfl) (by kernel_rfl) (by rfl) (by rfl) (O.drew) (fun F hF => ?_)
  simp only [fillD, Act.put, List.setIfInBounds_toArray, List.set_cons_zero, List.set_cons_succ] at hF
  subst hF
  refine ⟨⟨does_want rfl (by rfl) (fun w' O K hK => ?_), does_want rfl (by rfl) (fun w' O K hK => ?_), does_want rfl (by rfl) (fun w' O K hK => ?_), does_want rfl (by rfl) (fun w' O K hK => ?_), does_want rfl (by rfl) (fun w' O K hK => ?_), does_want rfl (by rfl) (fun w' O K hK => ?_), does_want rfl (by rfl) (fun w' O K hK => ?_), does_want rfl (by rfl) (fun w' O K hK => ?_), does_want rfl (by rfl) (fun w' O K hK => ?_), does_want rfl (by rfl) (fun w' O K hK => ?_), does_want rfl (by rfl) (fun w' O K hK => ?_), trivial⟩, fun w' O => ?_⟩
  ·
   go_simp
   exact hK _ O
  · exact wp_cell_h (v := .int .i64 tv) O.held 0 rfl (i := 4) rfl rfl agg50 rfl (hK _ O)
  · exact wp_whole O 3 rfl rfl Tryz.underlying44 rfl (sP _) (hK _ O)
  ·
   go_simp
   go_at_call 57
   refine (MA _).mono ?_
   rintro e w2 ⟨rfl, hb⟩
   exact hK _ (O.call hb)
  ·
   go_simp
   go_at_call 56
   refine (CHA _).mono ?_
   rintro e w2 ⟨rfl, hw⟩
   obtain rfl := hw.symm
   clear hw
   exact hK _ O
  ·
   go_simp
   exact hK _ O
  · exact wp_cell_h (v := .int .i64 tv) O.held 0 rfl (i := 4) rfl rfl agg50 rfl (hK _ O)
  · exact wp_whole O 2 rfl rfl Tryz.underlying44 rfl (sP _) (hK _ O)
  ·
   go_simp
   go_at_call 57
   refine (MB _).mono ?_
   rintro e w2 ⟨rfl, hb⟩
   exact hK _ (O.call hb)
  ·
   go_simp
   go_at_call 56
   refine (CHB _).mono ?_
   rintro e w2 ⟨rfl, hw⟩
   obtain rfl := hw.symm
   clear hw
   exact hK _ O
  ·
   go_simp
   exact hK _ O
  refine wpAny_one (i := 11) (by kernel_rfl) rfl (fun K hK => ?_)
  go_simp
  refine hK _ _ ?_
  clear hK K
  try simp only [Act.put, List.setIfInBounds_toArray, List.set_cons_zero, List.set_cons_succ]
  refine wpAny_done (by kernel_rfl) ?_ _
  clear CHA CHB MA MB
  by_cases hlt : E < B
  ·
   have OO := O
   clear O
   clear O
   have O := OO
   clear OO
   have hs : DM.stp am bm = -1 := by
    unfold DM.stp
    rw [HBE.out.2.2.1, HBE.out.2.2.2.1]
    exact if_pos hlt
   obtain ⟨s, HS⟩ : ∃ s : Int, Hid (s = -1) := ⟨-1, Lib.hid rfl⟩
   rw [← HS.out] at hs
   obtain ⟨c0, hc0⟩ : ∃ z, DM.cn0 am bm = z := ⟨_, rfl⟩
   have lc0 : 1 ≤ c0 ∧ c0 ≤ 4194320 := by rw [← hc0]; exact DM.cn0_lim3 HBE.out.2.2.2.2.1 HBE.out.2.2.2.2.2
   obtain ⟨d, hd⟩ : ∃ z, E - B = z := ⟨_, rfl⟩
   obtain ⟨m, hm⟩ : ∃ z, d * s = z := ⟨_, rfl⟩
   have hmc : m + 1 = c0 := by
    rw [← hc0, ← hm, ← hd]
    unfold DM.cn0
    rw [HBE.out.2.2.1, HBE.out.2.2.2.1, hs]
   have ld : -4194330 ≤ d ∧ d ≤ 4194330 := by
    have := HS.out
    rw [← hm, this] at hmc
    omega
   have hw := DM.way_of HNE.out
   rw [HT.out] at hw
   have LB : (-4194304 ≤ B ∧ B ≤ 4194304) ∧ -2097155 ≤ B ∧ B ≤ 2097155 := by
    have h1 := HBE.out.2.2.1
    have h2 := HBE.out.2.2.2.2.1
    unfold DM.hold at h1
    omega
   have CE0 := fun w => lexits_any a0 a1 b0 b1 t B s c0 0 B hw HA.out HB.out (by rw [HBE.out.1, HBE.out.2.1, ← HBE.out.2.2.1]; exact DM.ud_a am bm) (by rw [Int.zero_mul, Int.add_zero]) LB.1 w
   obtain ⟨ac, eac⟩ : ∃ z, DM.cr t a0 a1 = z := ⟨_, rfl⟩
   obtain ⟨bc, ebc⟩ : ∃ z, DM.cr t b0 b1 = z := ⟨_, rfl⟩
   have EA := HBE.out.1
   have EB := HBE.out.2.1
   have CE1 := fun F C hk hf w => lexits_any a0 a1 b0 b1 t F s C (C - 1) E hw HA.out HB.out (by rw [EA, EB, ← HBE.out.2.2.2.1]; exact DM.ud_b am bm) hk hf w
   rw [EA, EB, eac, ebc, HV.out] at CE0 CE1
   clear EA EB hw
   have hlast := DM.last_is t am ac bm bc
   have LO := fun x0 x1 F C N hx0 hF hC hx1 hN => @DM.lin_out a0 a1 b0 b1 HNE.out t am ac bm bc HT.out HBE.out.1 eac HBE.out.2.1 ebc HBE.out.2.2.2.2.1 HBE.out.2.2.2.2.2 s c0 F C N x0 x1 hs hc0 hx0 hF hC hx1 hN
   unfold DM.fst1 DM.cn1 at hlast
   rw [hs, hc0, HBE.out.2.2.1, HBE.out.2.2.2.1] at hlast
   rw [HBE.out.2.2.1, HBE.out.2.2.2.1] at LO
   have W1 : wrap64 (E - B) = d := by rw [hd]; exact IntWalk.wrap64_in _ (by omega)
   have W2 : wrap64 (d * s) = m := by rw [hm]; exact IntWalk.wrap64_in _ (by omega)
   have W3 : wrap64 (m + 1) = c0 := by rw [hmc]; exact IntWalk.wrap64_in _ (by omega)
   obtain ⟨x0, hx0⟩ : ∃ z, DM.xG t am ac bm bc B = z := ⟨_, rfl⟩
   obtain ⟨x1, hx1⟩ : ∃ z, DM.xG t am ac bm bc E = z := ⟨_, rfl⟩
   rw [hx0] at CE0 hlast
   rw [hx1] at CE1
   obtain ⟨f1, hf1⟩ : ∃ z, B + s = z := ⟨_, rfl⟩
   obtain ⟨c1, hc1⟩ : ∃ z, c0 - 1 = z := ⟨_, rfl⟩
   obtain ⟨c2, hc2⟩ : ∃ z, c1 - 1 = z := ⟨_, rfl⟩
   have lf1 : -4194304 ≤ f1 ∧ f1 ≤ 4194304 := by have := HS.out; omega
   have W4 : wrap64 (B + s) = f1 := by rw [hf1]; exact IntWalk.wrap64_in _ (by omega)
   have W5 : wrap64 (c0 - 1) = c1 := by rw [hc1]; exact IntWalk.wrap64_in _ (by omega)
   have W6 : wrap64 (c1 - 1) = c2 := by rw [hc2]; exact IntWalk.wrap64_in _ (by omega)
   have LB1 := LB.1
   have lc1 := lc0.1
   replace CE1 := fun F C hk hf => CE1 F C hk hf
   cases x0
   ·
    have hl2 : f1 + c2 * s = E := by
     simp only [Bool.false_eq_true, if_false] at hlast
     rw [hf1, hc1, hc2] at hlast
     exact hlast
    have CE2 := fun w => CE1 f1 c1 (by rw [hc2]; exact hl2) lf1 w
    rw [hc2] at CE2
    have LL := fun N hN => LO false x1 f1 c1 N hx0 hf1.symm hc1.symm hx1 hN
    have tok0 : True := trivial
    by_cases hgt : 0 < c1
    ·
     have hg : decide (0 < c1) = true := decide_eq_true hgt
     cases x1
     ·
      have HLL := Lib.hid (LL c2 (by rw [if_pos ⟨hgt, rfl⟩, hc2]))
      clear LL hgt
      clear hs hc0 lc0 hd hm hmc ld LB eac ebc hlast LO CE1 hx0 hx1 hf1 hc1 hc2 lf1 LB1 lc1 hl2
      go_wp2_with (first | ((with_reducible refine at_store 31 ?_); refine wpList_set_own O 0 (i := 6) (.int .i64 (-1)) rfl (show 6 < 8 by decide) rfl (rfl) size3 rfl rfl ?_; clear O; intro w10 O; have O9 := Own.as O (l' := [(g5, 78, wl a0 a1 b0 b1 tv 0 s 0), (g4, 78, wl 0 0 0 0 0 0 0 0), (g3, 44, M.mat 2 b), (g2, 44, M.mat 2 a)]) (by rw [HS.out]; rfl); clear O; have O := O9; clear O9) | ((with_reducible first | refine at_load 37 ?_ | refine at_load 48 ?_); refine wpList_cell_h (v := .int .i64 s) rfl O.held 0 rfl (i := 6) rfl rfl agg3 rfl ?_) | ((with_reducible refine at_store 40 ?_); refine wpList_set_own O 0 (i := 5) (.int .i64 B) rfl (show 5 < 8 by decide) rfl (rfl) size3 rfl rfl ?_; clear O; intro w11 O; have O9 := Own.as O (l' := [(g5, 78, wl a0 a1 b0 b1 tv B s 0), (g4, 78, wl 0 0 0 0 0 0 0 0), (g3, 44, M.mat 2 b), (g2, 44, M.mat 2 a)]) (rfl); clear O; have O := O9; clear O9) | ((with_reducible refine at_store 41 ?_); refine wpList_set_own O 0 (i := 7) (.int .i64 c0) rfl (show 7 < 8 by decide) rfl (by first | exact congrArg (Value.int IntKind.i64) W3 | rfl) size3 rfl rfl ?_; clear O; intro w12 O; have O9 := Own.as O (l' := [(g5, 78, wl a0 a1 b0 b1 tv B s c0), (g4, 78, wl 0 0 0 0 0 0 0 0), (g3, 44, M.mat 2 b), (g2, 44, M.mat 2 a)]) (rfl); clear O; have O := O9; clear O9) | ((with_reducible refine at_load 42 ?_); refine wpList_whole rfl O 0 rfl rfl Tryz.underlying78 rfl (sWl a0 a1 b0 b1 tv B s c0) ?_) | (go_at_call 58; clear tok0; have tok1 : True := trivial; refine (CE0 _).mono ?_; rintro e w13 ⟨rfl, hb⟩; replace O := O.call hb; clear hb) | ((with_reducible refine at_load 46 ?_); refine wpList_cell_h (v := .int .i64 B) rfl O.held 0 rfl (i := 5) rfl rfl agg3 rfl ?_) | ((with_reducible refine at_store 50 ?_); refine wpList_set_own O 0 (i := 5) (.int .i64 f1) rfl (show 5 < 8 by decide) rfl (by first | exact congrArg (Value.int IntKind.i64) W4 | rfl) size3 rfl rfl ?_; clear O; intro w14 O; have O9 := Own.as O (l' := [(g5, 78, wl a0 a1 b0 b1 tv f1 s c0), (g4, 78, wl 0 0 0 0 0 0 0 0), (g3, 44, M.mat 2 b), (g2, 44, M.mat 2 a)]) (rfl); clear O; have O := O9; clear O9) | ((with_reducible refine at_load 52 ?_); refine wpList_cell_h (v := .int .i64 c0) rfl O.held 0 rfl (i := 7) rfl rfl agg3 rfl ?_) | ((with_reducible refine at_store 54 ?_); refine wpList_set_own O 0 (i := 7) (.int .i64 c1) rfl (show 7 < 8 by decide) rfl (by first | exact congrArg (Value.int IntKind.i64) W5 | rfl) size3 rfl rfl ?_; clear O; intro w15 O; have O9 := Own.as O (l' := [(g5, 78, wl a0 a1 b0 b1 tv f1 s c1), (g4, 78, wl 0 0 0 0 0 0 0 0), (g3, 44, M.mat 2 b), (g2, 44, M.mat 2 a)]) (rfl); clear O; have O := O9; clear O9) | ((with_reducible first | refine at_load 56 ?_ | refine at_load 61 ?_ | refine at_load 67 ?_); refine wpList_cell_h (v := .int .i64 c1) rfl O.held 0 rfl (i := 7) rfl rfl agg3 rfl ?_) | ((with_reducible refine at_load 59 ?_); refine wpList_whole rfl O 0 rfl rfl Tryz.underlying78 rfl (sWl a0 a1 b0 b1 tv f1 s c1) ?_) | (go_at_call 58; clear tok1; have tok2 : True := trivial; refine (CE2 _).mono ?_; rintro e w16 ⟨rfl, hb⟩; replace O := O.call hb; clear hb) | ((with_reducible refine at_store 69 ?_); refine wpList_set_own O 0 (i := 7) (.int .i64 c2) rfl (show 7 < 8 by decide) rfl (by first | exact congrArg (Value.int IntKind.i64) W6 | rfl) size3 rfl rfl ?_; clear O; intro w17 O; have O9 := Own.as O (l' := [(g5, 78, wl a0 a1 b0 b1 tv f1 s c2), (g4, 78, wl 0 0 0 0 0 0 0 0), (g3, 44, M.mat 2 b), (g2, 44, M.mat 2 a)]) (rfl); clear O; have O := O9; clear O9) | ((with_reducible refine at_load 70 ?_); refine wpList_whole rfl O 0 rfl rfl Tryz.underlying78 rfl (sWl a0 a1 b0 b1 tv f1 s c2) ?_) | ((with_reducible refine at_store 4 ?_); refine wpList_put_own O 1 (wl a0 a1 b0 b1 tv f1 s c2) rfl rfl rfl (sWl a0 a1 b0 b1 tv f1 s c2) rfl (wl_one a0 a1 b0 b1 tv f1 s c2) ?_; clear O; intro w18 O))
      exact bodyPost_ret (v := .agg (wl a0 a1 b0 b1 tv f1 s c2).toArray) (res_h rfl O.held 1 rfl rfl Tryz.underlying78 rfl (sWl a0 a1 b0 b1 tv f1 s c2)) rfl ⟨f1, s, c2, rfl, HLL.out, O.below⟩
     ·
      have HLL := Lib.hid (LL c1 (by rw [if_neg (fun h => by cases h.2)]))
      clear LL hgt
      clear hs hc0 lc0 hd hm hmc ld LB eac ebc hlast LO CE1 hx0 hx1 hf1 hc1 hc2 lf1 LB1 lc1 hl2
      go_wp2_with (first | ((with_reducible refine at_store 31 ?_); refine wpList_set_own O 0 (i := 6) (.int .i64 (-1)) rfl (show 6 < 8 by decide) rfl (rfl) size3 rfl rfl ?_; clear O; intro w10 O; have O9 := Own.as O (l' := [(g5, 78, wl a0 a1 b0 b1 tv 0 s 0), (g4, 78, wl 0 0 0 0 0 0 0 0), (g3, 44, M.mat 2 b), (g2, 44, M.mat 2 a)]) (by rw [HS.out]; rfl); clear O; have O := O9; clear O9) | ((with_reducible first | refine at_load 37 ?_ | refine at_load 48 ?_); refine wpList_cell_h (v := .int .i64 s) rfl O.held 0 rfl (i := 6) rfl rfl agg3 rfl ?_) | ((with_reducible refine at_store 40 ?_); refine wpList_set_own O 0 (i := 5) (.int .i64 B) rfl (show 5 < 8 by decide) rfl (rfl) size3 rfl rfl ?_; clear O; intro w11 O; have O9 := Own.as O (l' := [(g5, 78, wl a0 a1 b0 b1 tv B s 0), (g4, 78, wl 0 0 0 0 0 0 0 0), (g3, 44, M.mat 2 b), (g2, 44, M.mat 2 a)]) (rfl); clear O; have O := O9; clear O9) | ((with_reducible refine at_store 41 ?_); refine wpList_set_own O 0 (i := 7) (.int .i64 c0) rfl (show 7 < 8 by decide) rfl (by first | exact congrArg (Value.int IntKind.i64) W3 | rfl) size3 rfl rfl ?_; clear O; intro w12 O; have O9 := Own.as O (l' := [(g5, 78, wl a0 a1 b0 b1 tv B s c0), (g4, 78, wl 0 0 0 0 0 0 0 0), (g3, 44, M.mat 2 b), (g2, 44, M.mat 2 a)]) (rfl); clear O; have O := O9; clear O9) | ((with_reducible refine at_load 42 ?_); refine wpList_whole rfl O 0 rfl rfl Tryz.underlying78 rfl (sWl a0 a1 b0 b1 tv B s c0) ?_) | (go_at_call 58; clear tok0; have tok1 : True := trivial; refine (CE0 _).mono ?_; rintro e w13 ⟨rfl, hb⟩; replace O := O.call hb; clear hb) | ((with_reducible refine at_load 46 ?_); refine wpList_cell_h (v := .int .i64 B) rfl O.held 0 rfl (i := 5) rfl rfl agg3 rfl ?_) | ((with_reducible refine at_store 50 ?_); refine wpList_set_own O 0 (i := 5) (.int .i64 f1) rfl (show 5 < 8 by decide) rfl (by first | exact congrArg (Value.int IntKind.i64) W4 | rfl) size3 rfl rfl ?_; clear O; intro w14 O; have O9 := Own.as O (l' := [(g5, 78, wl a0 a1 b0 b1 tv f1 s c0), (g4, 78, wl 0 0 0 0 0 0 0 0), (g3, 44, M.mat 2 b), (g2, 44, M.mat 2 a)]) (rfl); clear O; have O := O9; clear O9) | ((with_reducible refine at_load 52 ?_); refine wpList_cell_h (v := .int .i64 c0) rfl O.held 0 rfl (i := 7) rfl rfl agg3 rfl ?_) | ((with_reducible refine at_store 54 ?_); refine wpList_set_own O 0 (i := 7) (.int .i64 c1) rfl (show 7 < 8 by decide) rfl (by first | exact congrArg (Value.int IntKind.i64) W5 | rfl) size3 rfl rfl ?_; clear O; intro w15 O; have O9 := Own.as O (l' := [(g5, 78, wl a0 a1 b0 b1 tv f1 s c1), (g4, 78, wl 0 0 0 0 0 0 0 0), (g3, 44, M.mat 2 b), (g2, 44, M.mat 2 a)]) (rfl); clear O; have O := O9; clear O9) | ((with_reducible first | refine at_load 56 ?_ | refine at_load 61 ?_); refine wpList_cell_h (v := .int .i64 c1) rfl O.held 0 rfl (i := 7) rfl rfl agg3 rfl ?_) | ((with_reducible first | refine at_load 59 ?_ | refine at_load 70 ?_); refine wpList_whole rfl O 0 rfl rfl Tryz.underlying78 rfl (sWl a0 a1 b0 b1 tv f1 s c1) ?_) | (go_at_call 58; clear tok1; have tok2 : True := trivial; refine (CE2 _).mono ?_; rintro e w16 ⟨rfl, hb⟩; replace O := O.call hb; clear hb) | ((with_reducible refine at_store 4 ?_); refine wpList_put_own O 1 (wl a0 a1 b0 b1 tv f1 s c1) rfl rfl rfl (sWl a0 a1 b0 b1 tv f1 s c1) rfl (wl_one a0 a1 b0 b1 tv f1 s c1) ?_; clear O; intro w18 O))
      exact bodyPost_ret (v := .agg (wl a0 a1 b0 b1 tv f1 s c1).toArray) (res_h rfl O.held 1 rfl rfl Tryz.underlying78 rfl (sWl a0 a1 b0 b1 tv f1 s c1)) rfl ⟨f1, s, c1, rfl, HLL.out, O.below⟩
    ·
     have hg : decide (0 < c1) = false := decide_eq_false hgt
     have HLL := Lib.hid (LL c1 (by rw [if_neg (fun h => hgt h.1)]))
     clear LL hgt CE2
     clear hs hc0 lc0 hd hm hmc ld LB eac ebc hlast LO CE1 hx0 hx1 hf1 hc1 hc2 lf1 LB1 lc1 hl2
     go_wp2_with (first | ((with_reducible refine at_store 31 ?_); refine wpList_set_own O 0 (i := 6) (.int .i64 (-1)) rfl (show 6 < 8 by decide) rfl (rfl) size3 rfl rfl ?_; clear O; intro w10 O; have O9 := Own.as O (l' := [(g5, 78, wl a0 a1 b0 b1 tv 0 s 0), (g4, 78, wl 0 0 0 0 0 0 0 0), (g3, 44, M.mat 2 b), (g2, 44, M.mat 2 a)]) (by rw [HS.out]; rfl); clear O; have O := O9; clear O9) | ((with_reducible first | refine at_load 37 ?_ | refine at_load 48 ?_); refine wpList_cell_h (v := .int .i64 s) rfl O.held 0 rfl (i := 6) rfl rfl agg3 rfl ?_) | ((with_reducible refine at_store 40 ?_); refine wpList_set_own O 0 (i := 5) (.int .i64 B) rfl (show 5 < 8 by decide) rfl (rfl) size3 rfl rfl ?_; clear O; intro w11 O; have O9 := Own.as O (l' := [(g5, 78, wl a0 a1 b0 b1 tv B s 0), (g4, 78, wl 0 0 0 0 0 0 0 0), (g3, 44, M.mat 2 b), (g2, 44, M.mat 2 a)]) (rfl); clear O; have O := O9; clear O9) | ((with_reducible refine at_store 41 ?_); refine wpList_set_own O 0 (i := 7) (.int .i64 c0) rfl (show 7 < 8 by decide) rfl (by first | exact congrArg (Value.int IntKind.i64) W3 | rfl) size3 rfl rfl ?_; clear O; intro w12 O; have O9 := Own.as O (l' := [(g5, 78, wl a0 a1 b0 b1 tv B s c0), (g4, 78, wl 0 0 0 0 0 0 0 0), (g3, 44, M.mat 2 b), (g2, 44, M.mat 2 a)]) (rfl); clear O; have O := O9; clear O9) | ((with_reducible refine at_load 42 ?_); refine wpList_whole rfl O 0 rfl rfl Tryz.underlying78 rfl (sWl a0 a1 b0 b1 tv B s c0) ?_) | (go_at_call 58; clear tok0; have tok1 : True := trivial; refine (CE0 _).mono ?_; rintro e w13 ⟨rfl, hb⟩; replace O := O.call hb; clear hb) | ((with_reducible refine at_load 46 ?_); refine wpList_cell_h (v := .int .i64 B) rfl O.held 0 rfl (i := 5) rfl rfl agg3 rfl ?_) | ((with_reducible refine at_store 50 ?_); refine wpList_set_own O 0 (i := 5) (.int .i64 f1) rfl (show 5 < 8 by decide) rfl (by first | exact congrArg (Value.int IntKind.i64) W4 | rfl) size3 rfl rfl ?_; clear O; intro w14 O; have O9 := Own.as O (l' := [(g5, 78, wl a0 a1 b0 b1 tv f1 s c0), (g4, 78, wl 0 0 0 0 0 0 0 0), (g3, 44, M.mat 2 b), (g2, 44, M.mat 2 a)]) (rfl); clear O; have O := O9; clear O9) | ((with_reducible refine at_load 52 ?_); refine wpList_cell_h (v := .int .i64 c0) rfl O.held 0 rfl (i := 7) rfl rfl agg3 rfl ?_) | ((with_reducible refine at_store 54 ?_); refine wpList_set_own O 0 (i := 7) (.int .i64 c1) rfl (show 7 < 8 by decide) rfl (by first | exact congrArg (Value.int IntKind.i64) W5 | rfl) size3 rfl rfl ?_; clear O; intro w15 O; have O9 := Own.as O (l' := [(g5, 78, wl a0 a1 b0 b1 tv f1 s c1), (g4, 78, wl 0 0 0 0 0 0 0 0), (g3, 44, M.mat 2 b), (g2, 44, M.mat 2 a)]) (rfl); clear O; have O := O9; clear O9) | ((with_reducible refine at_load 56 ?_); refine wpList_cell_h (v := .int .i64 c1) rfl O.held 0 rfl (i := 7) rfl rfl agg3 rfl ?_) | ((with_reducible refine at_load 70 ?_); refine wpList_whole rfl O 0 rfl rfl Tryz.underlying78 rfl (sWl a0 a1 b0 b1 tv f1 s c1) ?_) | ((with_reducible refine at_store 4 ?_); refine wpList_put_own O 1 (wl a0 a1 b0 b1 tv f1 s c1) rfl rfl rfl (sWl a0 a1 b0 b1 tv f1 s c1) rfl (wl_one a0 a1 b0 b1 tv f1 s c1) ?_; clear O; intro w18 O))
     exact bodyPost_ret (v := .agg (wl a0 a1 b0 b1 tv f1 s c1).toArray) (res_h rfl O.held 1 rfl rfl Tryz.underlying78 rfl (sWl a0 a1 b0 b1 tv f1 s c1)) rfl ⟨f1, s, c1, rfl, HLL.out, O.below⟩
   ·
    have hl2 : B + c1 * s = E := by
     simp only [if_true] at hlast
     rw [hc1] at hlast
     exact hlast
    have CE2 := fun w => CE1 B c0 (by rw [hc1]; exact hl2) LB1 w
    rw [hc1] at CE2
    have LL := fun N hN => LO true x1 B c0 N hx0 rfl rfl hx1 hN
    have tok0 : True := trivial
    have hg : decide (0 < c0) = true := decide_eq_true (by omega)
    cases x1
    ·
     have HLL := Lib.hid (LL c1 (by rw [if_pos ⟨by omega, rfl⟩, hc1]))
     clear LL
     clear hs hc0 lc0 hd hm hmc ld LB eac ebc hlast LO CE1 hx0 hx1 hf1 hc1 hc2 lf1 LB1 lc1 hl2
     go_wp2_with (first | ((with_reducible refine at_store 31 ?_); refine wpList_set_own O 0 (i := 6) (.int .i64 (-1)) rfl (show 6 < 8 by decide) rfl (rfl) size3 rfl rfl ?_; clear O; intro w10 O; have O9 := Own.as O (l' := [(g5, 78, wl a0 a1 b0 b1 tv 0 s 0), (g4, 78, wl 0 0 0 0 0 0 0 0), (g3, 44, M.mat 2 b), (g2, 44, M.mat 2 a)]) (by rw [HS.out]; rfl); clear O; have O := O9; clear O9) | ((with_reducible refine at_load 37 ?_); refine wpList_cell_h (v := .int .i64 s) rfl O.held 0 rfl (i := 6) rfl rfl agg3 rfl ?_) | ((with_reducible refine at_store 40 ?_); refine wpList_set_own O 0 (i := 5) (.int .i64 B) rfl (show 5 < 8 by decide) rfl (rfl) size3 rfl rfl ?_; clear O; intro w11 O; have O9 := Own.as O (l' := [(g5, 78, wl a0 a1 b0 b1 tv B s 0), (g4, 78, wl 0 0 0 0 0 0 0 0), (g3, 44, M.mat 2 b), (g2, 44, M.mat 2 a)]) (rfl); clear O; have O := O9; clear O9) | ((with_reducible refine at_store 41 ?_); refine wpList_set_own O 0 (i := 7) (.int .i64 c0) rfl (show 7 < 8 by decide) rfl (by first | exact congrArg (Value.int IntKind.i64) W3 | rfl) size3 rfl rfl ?_; clear O; intro w12 O; have O9 := Own.as O (l' := [(g5, 78, wl a0 a1 b0 b1 tv B s c0), (g4, 78, wl 0 0 0 0 0 0 0 0), (g3, 44, M.mat 2 b), (g2, 44, M.mat 2 a)]) (rfl); clear O; have O := O9; clear O9) | ((with_reducible first | refine at_load 42 ?_ | refine at_load 59 ?_); refine wpList_whole rfl O 0 rfl rfl Tryz.underlying78 rfl (sWl a0 a1 b0 b1 tv B s c0) ?_) | (go_at_call 58; clear tok0; have tok1 : True := trivial; refine (CE0 _).mono ?_; rintro e w13 ⟨rfl, hb⟩; replace O := O.call hb; clear hb) | ((with_reducible first | refine at_load 56 ?_ | refine at_load 61 ?_ | refine at_load 67 ?_); refine wpList_cell_h (v := .int .i64 c0) rfl O.held 0 rfl (i := 7) rfl rfl agg3 rfl ?_) | (go_at_call 58; clear tok1; have tok2 : True := trivial; refine (CE2 _).mono ?_; rintro e w16 ⟨rfl, hb⟩; replace O := O.call hb; clear hb) | ((with_reducible refine at_store 69 ?_); refine wpList_set_own O 0 (i := 7) (.int .i64 c1) rfl (show 7 < 8 by decide) rfl (by first | exact congrArg (Value.int IntKind.i64) W5 | rfl) size3 rfl rfl ?_; clear O; intro w17 O; have O9 := Own.as O (l' := [(g5, 78, wl a0 a1 b0 b1 tv B s c1), (g4, 78, wl 0 0 0 0 0 0 0 0), (g3, 44, M.mat 2 b), (g2, 44, M.mat 2 a)]) (rfl); clear O; have O := O9; clear O9) | ((with_reducible refine at_load 70 ?_); refine wpList_whole rfl O 0 rfl rfl Tryz.underlying78 rfl (sWl a0 a1 b0 b1 tv B s c1) ?_) | ((with_reducible refine at_store 4 ?_); refine wpList_put_own O 1 (wl a0 a1 b0 b1 tv B s c1) rfl rfl rfl (sWl a0 a1 b0 b1 tv B s c1) rfl (wl_one a0 a1 b0 b1 tv B s c1) ?_; clear O; intro w18 O))
     exact bodyPost_ret (v := .agg (wl a0 a1 b0 b1 tv B s c1).toArray) (res_h rfl O.held 1 rfl rfl Tryz.underlying78 rfl (sWl a0 a1 b0 b1 tv B s c1)) rfl ⟨B, s, c1, rfl, HLL.out, O.below⟩
    ·
     have HLL := Lib.hid (LL c0 (by rw [if_neg (fun h => by cases h.2)]))
     clear LL
     clear hs hc0 lc0 hd hm hmc ld LB eac ebc hlast LO CE1 hx0 hx1 hf1 hc1 hc2 lf1 LB1 lc1 hl2
     go_wp2_with (first | ((with_reducible refine at_store 31 ?_); refine wpList_set_own O 0 (i := 6) (.int .i64 (-1)) rfl (show 6 < 8 by decide) rfl (rfl) size3 rfl rfl ?_; clear O; intro w10 O; have O9 := Own.as O (l' := [(g5, 78, wl a0 a1 b0 b1 tv 0 s 0), (g4, 78, wl 0 0 0 0 0 0 0 0), (g3, 44, M.mat 2 b), (g2, 44, M.mat 2 a)]) (by rw [HS.out]; rfl); clear O; have O := O9; clear O9) | ((with_reducible refine at_load 37 ?_); refine wpList_cell_h (v := .int .i64 s) rfl O.held 0 rfl (i := 6) rfl rfl agg3 rfl ?_) | ((with_reducible refine at_store 40 ?_); refine wpList_set_own O 0 (i := 5) (.int .i64 B) rfl (show 5 < 8 by decide) rfl (rfl) size3 rfl rfl ?_; clear O; intro w11 O; have O9 := Own.as O (l' := [(g5, 78, wl a0 a1 b0 b1 tv B s 0), (g4, 78, wl 0 0 0 0 0 0 0 0), (g3, 44, M.mat 2 b), (g2, 44, M.mat 2 a)]) (rfl); clear O; have O := O9; clear O9) | ((with_reducible refine at_store 41 ?_); refine wpList_set_own O 0 (i := 7) (.int .i64 c0) rfl (show 7 < 8 by decide) rfl (by first | exact congrArg (Value.int IntKind.i64) W3 | rfl) size3 rfl rfl ?_; clear O; intro w12 O; have O9 := Own.as O (l' := [(g5, 78, wl a0 a1 b0 b1 tv B s c0), (g4, 78, wl 0 0 0 0 0 0 0 0), (g3, 44, M.mat 2 b), (g2, 44, M.mat 2 a)]) (rfl); clear O; have O := O9; clear O9) | ((with_reducible first | refine at_load 42 ?_ | refine at_load 59 ?_ | refine at_load 70 ?_); refine wpList_whole rfl O 0 rfl rfl Tryz.underlying78 rfl (sWl a0 a1 b0 b1 tv B s c0) ?_) | (go_at_call 58; clear tok0; have tok1 : True := trivial; refine (CE0 _).mono ?_; rintro e w13 ⟨rfl, hb⟩; replace O := O.call hb; clear hb) | ((with_reducible first | refine at_load 56 ?_ | refine at_load 61 ?_); refine wpList_cell_h (v := .int .i64 c0) rfl O.held 0 rfl (i := 7) rfl rfl agg3 rfl ?_) | (go_at_call 58; clear tok1; have tok2 : True := trivial; refine (CE2 _).mono ?_; rintro e w16 ⟨rfl, hb⟩; replace O := O.call hb; clear hb) | ((with_reducible refine at_store 4 ?_); refine wpList_put_own O 1 (wl a0 a1 b0 b1 tv B s c0) rfl rfl rfl (sWl a0 a1 b0 b1 tv B s c0) rfl (wl_one a0 a1 b0 b1 tv B s c0) ?_; clear O; intro w18 O))
     exact bodyPost_ret (v := .agg (wl a0 a1 b0 b1 tv B s c0).toArray) (res_h rfl O.held 1 rfl rfl Tryz.underlying78 rfl (sWl a0 a1 b0 b1 tv B s c0)) rfl ⟨B, s, c0, rfl, HLL.out, O.below⟩
  ·
   have OO := O
   clear O
   clear O
   have O := OO
   clear OO
   have hs : DM.stp am bm = 1 := by
    unfold DM.stp
    rw [HBE.out.2.2.1, HBE.out.2.2.2.1]
    exact if_neg hlt
   obtain ⟨s, HS⟩ : ∃ s : Int, Hid (s = 1) := ⟨1, Lib.hid rfl⟩
   rw [← HS.out] at hs
   obtain ⟨c0, hc0⟩ : ∃ z, DM.cn0 am bm = z := ⟨_, rfl⟩
   have lc0 : 1 ≤ c0 ∧ c0 ≤ 4194320 := by rw [← hc0]; exact DM.cn0_lim3 HBE.out.2.2.2.2.1 HBE.out.2.2.2.2.2
   obtain ⟨d, hd⟩ : ∃ z, E - B = z := ⟨_, rfl⟩
   obtain ⟨m, hm⟩ : ∃ z, d * s = z := ⟨_, rfl⟩
   have hmc : m + 1 = c0 := by
    rw [← hc0, ← hm, ← hd]
    unfold DM.cn0
    rw [HBE.out.2.2.1, HBE.out.2.2.2.1, hs]
   have ld : -4194330 ≤ d ∧ d ≤ 4194330 := by
    have := HS.out
    rw [← hm, this] at hmc
    omega
   have hw := DM.way_of HNE.out
   rw [HT.out] at hw
   have LB : (-4194304 ≤ B ∧ B ≤ 4194304) ∧ -2097155 ≤ B ∧ B ≤ 2097155 := by
    have h1 := HBE.out.2.2.1
    have h2 := HBE.out.2.2.2.2.1
    unfold DM.hold at h1
    omega
   have CE0 := fun w => lexits_any a0 a1 b0 b1 t B s c0 0 B hw HA.out HB.out (by rw [HBE.out.1, HBE.out.2.1, ← HBE.out.2.2.1]; exact DM.ud_a am bm) (by rw [Int.zero_mul, Int.add_zero]) LB.1 w
   obtain ⟨ac, eac⟩ : ∃ z, DM.cr t a0 a1 = z := ⟨_, rfl⟩
   obtain ⟨bc, ebc⟩ : ∃ z, DM.cr t b0 b1 = z := ⟨_, rfl⟩
   have EA := HBE.out.1
   have EB := HBE.out.2.1
   have CE1 := fun F C hk hf w => lexits_any a0 a1 b0 b1 t F s C (C - 1) E hw HA.out HB.out (by rw [EA, EB, ← HBE.out.2.2.2.1]; exact DM.ud_b am bm) hk hf w
   rw [EA, EB, eac, ebc, HV.out] at CE0 CE1
   clear EA EB hw
   have hlast := DM.last_is t am ac bm bc
   have LO := fun x0 x1 F C N hx0 hF hC hx1 hN => @DM.lin_out a0 a1 b0 b1 HNE.out t am ac bm bc HT.out HBE.out.1 eac HBE.out.2.1 ebc HBE.out.2.2.2.2.1 HBE.out.2.2.2.2.2 s c0 F C N x0 x1 hs hc0 hx0 hF hC hx1 hN
   unfold DM.fst1 DM.cn1 at hlast
   rw [hs, hc0, HBE.out.2.2.1, HBE.out.2.2.2.1] at hlast
   rw [HBE.out.2.2.1, HBE.out.2.2.2.1] at LO
   have W1 : wrap64 (E - B) = d := by rw [hd]; exact IntWalk.wrap64_in _ (by omega)
   have W2 : wrap64 (d * s) = m := by rw [hm]; exact IntWalk.wrap64_in _ (by omega)
   have W3 : wrap64 (m + 1) = c0 := by rw [hmc]; exact IntWalk.wrap64_in _ (by omega)
   obtain ⟨x0, hx0⟩ : ∃ z, DM.xG t am ac bm bc B = z := ⟨_, rfl⟩
   obtain ⟨x1, hx1⟩ : ∃ z, DM.xG t am ac bm bc E = z := ⟨_, rfl⟩
   rw [hx0] at CE0 hlast
   rw [hx1] at CE1
   obtain ⟨f1, hf1⟩ : ∃ z, B + s = z := ⟨_, rfl⟩
   obtain ⟨c1, hc1⟩ : ∃ z, c0 - 1 = z := ⟨_, rfl⟩
   obtain ⟨c2, hc2⟩ : ∃ z, c1 - 1 = z := ⟨_, rfl⟩
   have lf1 : -4194304 ≤ f1 ∧ f1 ≤ 4194304 := by have := HS.out; omega
   have W4 : wrap64 (B + s) = f1 := by rw [hf1]; exact IntWalk.wrap64_in _ (by omega)
   have W5 : wrap64 (c0 - 1) = c1 := by rw [hc1]; exact IntWalk.wrap64_in _ (by omega)
   have W6 : wrap64 (c1 - 1) = c2 := by rw [hc2]; exact IntWalk.wrap64_in _ (by omega)
   have LB1 := LB.1
   have lc1 := lc0.1
   replace CE1 := fun F C hk hf => CE1 F C hk hf
   have O9 := Own.as O (l' := [(g5, 78, wl a0 a1 b0 b1 tv 0 s 0), (g4, 78, wl 0 0 0 0 0 0 0 0), (g3, 44, M.mat 2 b), (g2, 44, M.mat 2 a)]) (by rw [HS.out])
   clear O
   have O := O9
   clear O9
   cases x0
   ·
    have hl2 : f1 + c2 * s = E := by
     simp only [Bool.false_eq_true, if_false] at hlast
     rw [hf1, hc1, hc2] at hlast
     exact hlast
    have CE2 := fun w => CE1 f1 c1 (by rw [hc2]; exact hl2) lf1 w
    rw [hc2] at CE2
    have LL := fun N hN => LO false x1 f1 c1 N hx0 hf1.symm hc1.symm hx1 hN
    have tok0 : True := trivial
    by_cases hgt : 0 < c1
    ·
     have hg : decide (0 < c1) = true := decide_eq_true hgt
     cases x1
     ·
      have HLL := Lib.hid (LL c2 (by rw [if_pos ⟨hgt, rfl⟩, hc2]))
      clear LL hgt
      clear hs hc0 lc0 hd hm hmc ld LB eac ebc hlast LO CE1 hx0 hx1 hf1 hc1 hc2 lf1 LB1 lc1 hl2
      go_wp2_with (first | ((with_reducible first | refine at_load 37 ?_ | refine at_load 48 ?_); refine wpList_cell_h (v := .int .i64 s) rfl O.held 0 rfl (i := 6) rfl rfl agg3 rfl ?_) | ((with_reducible refine at_store 40 ?_); refine wpList_set_own O 0 (i := 5) (.int .i64 B) rfl (show 5 < 8 by decide) rfl (rfl) size3 rfl rfl ?_; clear O; intro w11 O; have O9 := Own.as O (l' := [(g5, 78, wl a0 a1 b0 b1 tv B s 0), (g4, 78, wl 0 0 0 0 0 0 0 0), (g3, 44, M.mat 2 b), (g2, 44, M.mat 2 a)]) (rfl); clear O; have O := O9; clear O9) | ((with_reducible refine at_store 41 ?_); refine wpList_set_own O 0 (i := 7) (.int .i64 c0) rfl (show 7 < 8 by decide) rfl (by first | exact congrArg (Value.int IntKind.i64) W3 | rfl) size3 rfl rfl ?_; clear O; intro w12 O; have O9 := Own.as O (l' := [(g5, 78, wl a0 a1 b0 b1 tv B s c0), (g4, 78, wl 0 0 0 0 0 0 0 0), (g3, 44, M.mat 2 b), (g2, 44, M.mat 2 a)]) (rfl); clear O; have O := O9; clear O9) | ((with_reducible refine at_load 42 ?_); refine wpList_whole rfl O 0 rfl rfl Tryz.underlying78 rfl (sWl a0 a1 b0 b1 tv B s c0) ?_) | (go_at_call 58; clear tok0; have tok1 : True := trivial; refine (CE0 _).mono ?_; rintro e w13 ⟨rfl, hb⟩; replace O := O.call hb; clear hb) | ((with_reducible refine at_load 46 ?_); refine wpList_cell_h (v := .int .i64 B) rfl O.held 0 rfl (i := 5) rfl rfl agg3 rfl ?_) | ((with_reducible refine at_store 50 ?_); refine wpList_set_own O 0 (i := 5) (.int .i64 f1) rfl (show 5 < 8 by decide) rfl (by first | exact congrArg (Value.int IntKind.i64) W4 | rfl) size3 rfl rfl ?_; clear O; intro w14 O; have O9 := Own.as O (l' := [(g5, 78, wl a0 a1 b0 b1 tv f1 s c0), (g4, 78, wl 0 0 0 0 0 0 0 0), (g3, 44, M.mat 2 b), (g2, 44, M.mat 2 a)]) (rfl); clear O; have O := O9; clear O9) | ((with_reducible refine at_load 52 ?_); refine wpList_cell_h (v := .int .i64 c0) rfl O.held 0 rfl (i := 7) rfl rfl agg3 rfl ?_) | ((with_reducible refine at_store 54 ?_); refine wpList_set_own O 0 (i := 7) (.int .i64 c1) rfl (show 7 < 8 by decide) rfl (by first | exact congrArg (Value.int IntKind.i64) W5 | rfl) size3 rfl rfl ?_; clear O; intro w15 O; have O9 := Own.as O (l' := [(g5, 78, wl a0 a1 b0 b1 tv f1 s c1), (g4, 78, wl 0 0 0 0 0 0 0 0), (g3, 44, M.mat 2 b), (g2, 44, M.mat 2 a)]) (rfl); clear O; have O := O9; clear O9) | ((with_reducible first | refine at_load 56 ?_ | refine at_load 61 ?_ | refine at_load 67 ?_); refine wpList_cell_h (v := .int .i64 c1) rfl O.held 0 rfl (i := 7) rfl rfl agg3 rfl ?_) | ((with_reducible refine at_load 59 ?_); refine wpList_whole rfl O 0 rfl rfl Tryz.underlying78 rfl (sWl a0 a1 b0 b1 tv f1 s c1) ?_) | (go_at_call 58; clear tok1; have tok2 : True := trivial; refine (CE2 _).mono ?_; rintro e w16 ⟨rfl, hb⟩; replace O := O.call hb; clear hb) | ((with_reducible refine at_store 69 ?_); refine wpList_set_own O 0 (i := 7) (.int .i64 c2) rfl (show 7 < 8 by decide) rfl (by first | exact congrArg (Value.int IntKind.i64) W6 | rfl) size3 rfl rfl ?_; clear O; intro w17 O; have O9 := Own.as O (l' := [(g5, 78, wl a0 a1 b0 b1 tv f1 s c2), (g4, 78, wl 0 0 0 0 0 0 0 0), (g3, 44, M.mat 2 b), (g2, 44, M.mat 2 a)]) (rfl); clear O; have O := O9; clear O9) | ((with_reducible refine at_load 70 ?_); refine wpList_whole rfl O 0 rfl rfl Tryz.underlying78 rfl (sWl a0 a1 b0 b1 tv f1 s c2) ?_) | ((with_reducible refine at_store 4 ?_); refine wpList_put_own O 1 (wl a0 a1 b0 b1 tv f1 s c2) rfl rfl rfl (sWl a0 a1 b0 b1 tv f1 s c2) rfl (wl_one a0 a1 b0 b1 tv f1 s c2) ?_; clear O; intro w18 O))
      exact bodyPost_ret (v := .agg (wl a0 a1 b0 b1 tv f1 s c2).toArray) (res_h rfl O.held 1 rfl rfl Tryz.underlying78 rfl (sWl a0 a1 b0 b1 tv f1 s c2)) rfl ⟨f1, s, c2, rfl, HLL.out, O.below⟩
     ·
      have HLL := Lib.hid (LL c1 (by rw [if_neg (fun h => by cases h.2)]))
      clear LL hgt
      clear hs hc0 lc0 hd hm hmc ld LB eac ebc hlast LO CE1 hx0 hx1 hf1 hc1 hc2 lf1 LB1 lc1 hl2
      go_wp2_with (first | ((with_reducible first | refine at_load 37 ?_ | refine at_load 48 ?_); refine wpList_cell_h (v := .int .i64 s) rfl O.held 0 rfl (i := 6) rfl rfl agg3 rfl ?_) | ((with_reducible refine at_store 40 ?_); refine wpList_set_own O 0 (i := 5) (.int .i64 B) rfl (show 5 < 8 by decide) rfl (rfl) size3 rfl rfl ?_; clear O; intro w11 O; have O9 := Own.as O (l' := [(g5, 78, wl a0 a1 b0 b1 tv B s 0), (g4, 78, wl 0 0 0 0 0 0 0 0), (g3, 44, M.mat 2 b), (g2, 44, M.mat 2 a)]) (rfl); clear O; have O := O9; clear O9) | ((with_reducible refine at_store 41 ?_); refine wpList_set_own O 0 (i := 7) (.int .i64 c0) rfl (show 7 < 8 by decide) rfl (by first | exact congrArg (Value.int IntKind.i64) W3 | rfl) size3 rfl rfl ?_; clear O; intro w12 O; have O9 := Own.as O (l' := [(g5, 78, wl a0 a1 b0 b1 tv B s c0), (g4, 78, wl 0 0 0 0 0 0 0 0), (g3, 44, M.mat 2 b), (g2, 44, M.mat 2 a)]) (rfl); clear O; have O := O9; clear O9) | ((with_reducible refine at_load 42 ?_); refine wpList_whole rfl O 0 rfl rfl Tryz.underlying78 rfl (sWl a0 a1 b0 b1 tv B s c0) ?_) | (go_at_call 58; clear tok0; have tok1 : True := trivial; refine (CE0 _).mono ?_; rintro e w13 ⟨rfl, hb⟩; replace O := O.call hb; clear hb) | ((with_reducible refine at_load 46 ?_); refine wpList_cell_h (v := .int .i64 B) rfl O.held 0 rfl (i := 5) rfl rfl agg3 rfl ?_) | ((with_reducible refine at_store 50 ?_); refine wpList_set_own O 0 (i := 5) (.int .i64 f1) rfl (show 5 < 8 by decide) rfl (by first | exact congrArg (Value.int IntKind.i64) W4 | rfl) size3 rfl rfl ?_; clear O; intro w14 O; have O9 := Own.as O (l' := [(g5, 78, wl a0 a1 b0 b1 tv f1 s c0), (g4, 78, wl 0 0 0 0 0 0 0 0), (g3, 44, M.mat 2 b), (g2, 44, M.mat 2 a)]) (rfl); clear O; have O := O9; clear O9) | ((with_reducible refine at_load 52 ?_); refine wpList_cell_h (v := .int .i64 c0) rfl O.held 0 rfl (i := 7) rfl rfl agg3 rfl ?_) | ((with_reducible refine at_store 54 ?_); refine wpList_set_own O 0 (i := 7) (.int .i64 c1) rfl (show 7 < 8 by decide) rfl (by first | exact congrArg (Value.int IntKind.i64) W5 | rfl) size3 rfl rfl ?_; clear O; intro w15 O; have O9 := Own.as O (l' := [(g5, 78, wl a0 a1 b0 b1 tv f1 s c1), (g4, 78, wl 0 0 0 0 0 0 0 0), (g3, 44, M.mat 2 b), (g2, 44, M.mat 2 a)]) (rfl); clear O; have O := O9; clear O9) | ((with_reducible first | refine at_load 56 ?_ | refine at_load 61 ?_); refine wpList_cell_h (v := .int .i64 c1) rfl O.held 0 rfl (i := 7) rfl rfl agg3 rfl ?_) | ((with_reducible first | refine at_load 59 ?_ | refine at_load 70 ?_); refine wpList_whole rfl O 0 rfl rfl Tryz.underlying78 rfl (sWl a0 a1 b0 b1 tv f1 s c1) ?_) | (go_at_call 58; clear tok1; have tok2 : True := trivial; refine (CE2 _).mono ?_; rintro e w16 ⟨rfl, hb⟩; replace O := O.call hb; clear hb) | ((with_reducible refine at_store 4 ?_); refine wpList_put_own O 1 (wl a0 a1 b0 b1 tv f1 s c1) rfl rfl rfl (sWl a0 a1 b0 b1 tv f1 s c1) rfl (wl_one a0 a1 b0 b1 tv f1 s c1) ?_; clear O; intro w18 O))
      exact bodyPost_ret (v := .agg (wl a0 a1 b0 b1 tv f1 s c1).toArray) (res_h rfl O.held 1 rfl rfl Tryz.underlying78 rfl (sWl a0 a1 b0 b1 tv f1 s c1)) rfl ⟨f1, s, c1, rfl, HLL.out, O.below⟩
    ·
     have hg : decide (0 < c1) = false := decide_eq_false hgt
     have HLL := Lib.hid (LL c1 (by rw [if_neg (fun h => hgt h.1)]))
     clear LL hgt CE2
     clear hs hc0 lc0 hd hm hmc ld LB eac ebc hlast LO CE1 hx0 hx1 hf1 hc1 hc2 lf1 LB1 lc1 hl2
     go_wp2_with (first | ((with_reducible first | refine at_load 37 ?_ | refine at_load 48 ?_); refine wpList_cell_h (v := .int .i64 s) rfl O.held 0 rfl (i := 6) rfl rfl agg3 rfl ?_) | ((with_reducible refine at_store 40 ?_); refine wpList_set_own O 0 (i := 5) (.int .i64 B) rfl (show 5 < 8 by decide) rfl (rfl) size3 rfl rfl ?_; clear O; intro w11 O; have O9 := Own.as O (l' := [(g5, 78, wl a0 a1 b0 b1 tv B s 0), (g4, 78, wl 0 0 0 0 0 0 0 0), (g3, 44, M.mat 2 b), (g2, 44, M.mat 2 a)]) (rfl); clear O; have O := O9; clear O9) | ((with_reducible refine at_store 41 ?_); refine wpList_set_own O 0 (i := 7) (.int .i64 c0) rfl (show 7 < 8 by decide) rfl (by first | exact congrArg (Value.int IntKind.i64) W3 | rfl) size3 rfl rfl ?_; clear O; intro w12 O; have O9 := Own.as O (l' := [(g5, 78, wl a0 a1 b0 b1 tv B s c0), (g4, 78, wl 0 0 0 0 0 0 0 0), (g3, 44, M.mat 2 b), (g2, 44, M.mat 2 a)]) (rfl); clear O; have O := O9; clear O9) | ((with_reducible refine at_load 42 ?_); refine wpList_whole rfl O 0 rfl rfl Tryz.underlying78 rfl (sWl a0 a1 b0 b1 tv B s c0) ?_) | (go_at_call 58; clear tok0; have tok1 : True := trivial; refine (CE0 _).mono ?_; rintro e w13 ⟨rfl, hb⟩; replace O := O.call hb; clear hb) | ((with_reducible refine at_load 46 ?_); refine wpList_cell_h (v := .int .i64 B) rfl O.held 0 rfl (i := 5) rfl rfl agg3 rfl ?_) | ((with_reducible refine at_store 50 ?_); refine wpList_set_own O 0 (i := 5) (.int .i64 f1) rfl (show 5 < 8 by decide) rfl (by first | exact congrArg (Value.int IntKind.i64) W4 | rfl) size3 rfl rfl ?_; clear O; intro w14 O; have O9 := Own.as O (l' := [(g5, 78, wl a0 a1 b0 b1 tv f1 s c0), (g4, 78, wl 0 0 0 0 0 0 0 0), (g3, 44, M.mat 2 b), (g2, 44, M.mat 2 a)]) (rfl); clear O; have O := O9; clear O9) | ((with_reducible refine at_load 52 ?_); refine wpList_cell_h (v := .int .i64 c0) rfl O.held 0 rfl (i := 7) rfl rfl agg3 rfl ?_) | ((with_reducible refine at_store 54 ?_); refine wpList_set_own O 0 (i := 7) (.int .i64 c1) rfl (show 7 < 8 by decide) rfl (by first | exact congrArg (Value.int IntKind.i64) W5 | rfl) size3 rfl rfl ?_; clear O; intro w15 O; have O9 := Own.as O (l' := [(g5, 78, wl a0 a1 b0 b1 tv f1 s c1), (g4, 78, wl 0 0 0 0 0 0 0 0), (g3, 44, M.mat 2 b), (g2, 44, M.mat 2 a)]) (rfl); clear O; have O := O9; clear O9) | ((with_reducible refine at_load 56 ?_); refine wpList_cell_h (v := .int .i64 c1) rfl O.held 0 rfl (i := 7) rfl rfl agg3 rfl ?_) | ((with_reducible refine at_load 70 ?_); refine wpList_whole rfl O 0 rfl rfl Tryz.underlying78 rfl (sWl a0 a1 b0 b1 tv f1 s c1) ?_) | ((with_reducible refine at_store 4 ?_); refine wpList_put_own O 1 (wl a0 a1 b0 b1 tv f1 s c1) rfl rfl rfl (sWl a0 a1 b0 b1 tv f1 s c1) rfl (wl_one a0 a1 b0 b1 tv f1 s c1) ?_; clear O; intro w18 O))
     exact bodyPost_ret (v := .agg (wl a0 a1 b0 b1 tv f1 s c1).toArray) (res_h rfl O.held 1 rfl rfl Tryz.underlying78 rfl (sWl a0 a1 b0 b1 tv f1 s c1)) rfl ⟨f1, s, c1, rfl, HLL.out, O.below⟩
   ·
    have hl2 : B + c1 * s = E := by
     simp only [if_true] at hlast
     rw [hc1] at hlast
     exact hlast
    have CE2 := fun w => CE1 B c0 (by rw [hc1]; exact hl2) LB1 w
    rw [hc1] at CE2
    have LL := fun N hN => LO true x1 B c0 N hx0 rfl rfl hx1 hN
    have tok0 : True := trivial
    have hg : decide (0 < c0) = true := decide_eq_true (by omega)
    cases x1
    ·
     have HLL := Lib.hid (LL c1 (by rw [if_pos ⟨by omega, rfl⟩, hc1]))
     clear LL
     clear hs hc0 lc0 hd hm hmc ld LB eac ebc hlast LO CE1 hx0 hx1 hf1 hc1 hc2 lf1 LB1 lc1 hl2
     go_wp2_with (first | ((with_reducible refine at_load 37 ?_); refine wpList_cell_h (v := .int .i64 s) rfl O.held 0 rfl (i := 6) rfl rfl agg3 rfl ?_) | ((with_reducible refine at_store 40 ?_); refine wpList_set_own O 0 (i := 5) (.int .i64 B) rfl (show 5 < 8 by decide) rfl (rfl) size3 rfl rfl ?_; clear O; intro w11 O; have O9 := Own.as O (l' := [(g5, 78, wl a0 a1 b0 b1 tv B s 0), (g4, 78, wl 0 0 0 0 0 0 0 0), (g3, 44, M.mat 2 b), (g2, 44, M.mat 2 a)]) (rfl); clear O; have O := O9; clear O9) | ((with_reducible refine at_store 41 ?_); refine wpList_set_own O 0 (i := 7) (.int .i64 c0) rfl (show 7 < 8 by decide) rfl (by first | exact congrArg (Value.int IntKind.i64) W3 | rfl) size3 rfl rfl ?_; clear O; intro w12 O; have O9 := Own.as O (l' := [(g5, 78, wl a0 a1 b0 b1 tv B s c0), (g4, 78, wl 0 0 0 0 0 0 0 0), (g3, 44, M.mat 2 b), (g2, 44, M.mat 2 a)]) (rfl); clear O; have O := O9; clear O9) | ((with_reducible first | refine at_load 42 ?_ | refine at_load 59 ?_); refine wpList_whole rfl O 0 rfl rfl Tryz.underlying78 rfl (sWl a0 a1 b0 b1 tv B s c0) ?_) | (go_at_call 58; clear tok0; have tok1 : True := trivial; refine (CE0 _).mono ?_; rintro e w13 ⟨rfl, hb⟩; replace O := O.call hb; clear hb) | ((with_reducible first | refine at_load 56 ?_ | refine at_load 61 ?_ | refine at_load 67 ?_); refine wpList_cell_h (v := .int .i64 c0) rfl O.held 0 rfl (i := 7) rfl rfl agg3 rfl ?_) | (go_at_call 58; clear tok1; have tok2 : True := trivial; refine (CE2 _).mono ?_; rintro e w16 ⟨rfl, hb⟩; replace O := O.call hb; clear hb) | ((with_reducible refine at_store 69 ?_); refine wpList_set_own O 0 (i := 7) (.int .i64 c1) rfl (show 7 < 8 by decide) rfl (by first | exact congrArg (Value.int IntKind.i64) W5 | rfl) size3 rfl rfl ?_; clear O; intro w17 O; have O9 := Own.as O (l' := [(g5, 78, wl a0 a1 b0 b1 tv B s c1), (g4, 78, wl 0 0 0 0 0 0 0 0), (g3, 44, M.mat 2 b), (g2, 44, M.mat 2 a)]) (rfl); clear O; have O := O9; clear O9) | ((with_reducible refine at_load 70 ?_); refine wpList_whole rfl O 0 rfl rfl Tryz.underlying78 rfl (sWl a0 a1 b0 b1 tv B s c1) ?_) | ((with_reducible refine at_store 4 ?_); refine wpList_put_own O 1 (wl a0 a1 b0 b1 tv B s c1) rfl rfl rfl (sWl a0 a1 b0 b1 tv B s c1) rfl (wl_one a0 a1 b0 b1 tv B s c1) ?_; clear O; intro w18 O))
     exact bodyPost_ret (v := .agg (wl a0 a1 b0 b1 tv B s c1).toArray) (res_h rfl O.held 1 rfl rfl Tryz.underlying78 rfl (sWl a0 a1 b0 b1 tv B s c1)) rfl ⟨B, s, c1, rfl, HLL.out, O.below⟩
    ·
     have HLL := Lib.hid (LL c0 (by rw [if_neg (fun h => by cases h.2)]))
     clear LL
     clear hs hc0 lc0 hd hm hmc ld LB eac ebc hlast LO CE1 hx0 hx1 hf1 hc1 hc2 lf1 LB1 lc1 hl2
     go_wp2_with (first | ((with_reducible refine at_load 37 ?_); refine wpList_cell_h (v := .int .i64 s) rfl O.held 0 rfl (i := 6) rfl rfl agg3 rfl ?_) | ((with_reducible refine at_store 40 ?_); refine wpList_set_own O 0 (i := 5) (.int .i64 B) rfl (show 5 < 8 by decide) rfl (rfl) size3 rfl rfl ?_; clear O; intro w11 O; have O9 := Own.as O (l' := [(g5, 78, wl a0 a1 b0 b1 tv B s 0), (g4, 78, wl 0 0 0 0 0 0 0 0), (g3, 44, M.mat 2 b), (g2, 44, M.mat 2 a)]) (rfl); clear O; have O := O9; clear O9) | ((with_reducible refine at_store 41 ?_); refine wpList_set_own O 0 (i := 7) (.int .i64 c0) rfl (show 7 < 8 by decide) rfl (by first | exact congrArg (Value.int IntKind.i64) W3 | rfl) size3 rfl rfl ?_; clear O; intro w12 O; have O9 := Own.as O (l' := [(g5, 78, wl a0 a1 b0 b1 tv B s c0), (g4, 78, wl 0 0 0 0 0 0 0 0), (g3, 44, M.mat 2 b), (g2, 44, M.mat 2 a)]) (rfl); clear O; have O := O9; clear O9) | ((with_reducible first | refine at_load 42 ?_ | refine at_load 59 ?_ | refine at_load 70 ?_); refine wpList_whole rfl O 0 rfl rfl Tryz.underlying78 rfl (sWl a0 a1 b0 b1 tv B s c0) ?_) | (go_at_call 58; clear tok0; have tok1 : True := trivial; refine (CE0 _).mono ?_; rintro e w13 ⟨rfl, hb⟩; replace O := O.call hb; clear hb) | ((with_reducible first | refine at_load 56 ?_ | refine at_load 61 ?_); refine wpList_cell_h (v := .int .i64 c0) rfl O.held 0 rfl (i := 7) rfl rfl agg3 rfl ?_) | (go_at_call 58; clear tok1; have tok2 : True := trivial; refine (CE2 _).mono ?_; rintro e w16 ⟨rfl, hb⟩; replace O := O.call hb; clear hb) | ((with_reducible refine at_store 4 ?_); refine wpList_put_own O 1 (wl a0 a1 b0 b1 tv B s c0) rfl rfl rfl (sWl a0 a1 b0 b1 tv B s c0) rfl (wl_one a0 a1 b0 b1 tv B s c0) ?_; clear O; intro w18 O))
     exact bodyPost_ret (v := .agg (wl a0 a1 b0 b1 tv B s c0).toArray) (res_h rfl O.held 1 rfl rfl Tryz.underlying78 rfl (sWl a0 a1 b0 b1 tv B s c0)) rfl ⟨B, s, c0, rfl, HLL.out, O.below⟩
 ·
  have heq := QE.out.1 hq
  have HL : Hid (DM.Lin a0 a1 b0 b1 0 1 0) := Lib.hid (by obtain ⟨rfl, rfl⟩ := heq; exact DM.lin_same _ _)
  have HQ := Lib.hid hq
  clear hq heq QE CHA CHB MA MB
  go_wp2_with (first | ((with_reducible refine at_load 14 ?_); refine wpList_whole rfl O 3 rfl rfl Tryz.underlying44 rfl (sP _) ?_) | ((with_reducible refine at_load 15 ?_); refine wpList_whole rfl O 2 rfl rfl Tryz.underlying44 rfl (sP _) ?_) | ((with_reducible refine at_binOp 16 ?_); refine wpList_eqP rfl (a) (b) rfl rfl ?_; rw [HQ.out]) | ((with_reducible refine at_load 17 ?_); refine wpList_whole rfl O 0 rfl rfl Tryz.underlying78 rfl (sWl a0 a1 b0 b1 tv 0 1 0) ?_) | ((with_reducible refine at_store 4 ?_); refine wpList_put_own O 1 (wl a0 a1 b0 b1 tv 0 1 0) rfl rfl rfl (sWl a0 a1 b0 b1 tv 0 1 0) rfl (wl_one a0 a1 b0 b1 tv 0 1 0) ?_; clear O; intro w7 O))
  exact bodyPost_ret (v := .agg (wl a0 a1 b0 b1 tv 0 1 0).toArray) (res_h rfl O.held 1 rfl rfl Tryz.underlying78 rfl (sWl a0 a1 b0 b1 tv 0 1 0)) rfl ⟨0, 1, 0, rfl, HL.out, O.below⟩
end Go.Proofs.YtpfhaocmcfnhnaaGreat
