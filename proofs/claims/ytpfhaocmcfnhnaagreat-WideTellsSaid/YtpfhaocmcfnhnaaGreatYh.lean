/- Contract: the program's Within. -/
import Derived.Test.YtpfhaocmcfnhnaaGreatYz
import Derived.Test.YtpfhaocmcfnhnaaGreatXm
namespace Go.Proofs.YtpfhaocmcfnhnaaGreat
open Go.ChangeShapes Go.WideShapes Go.ChangeAt Go.RowKit
set_option linter.unusedVariables false
set_option linter.unusedSimpArgs false

attribute [local go_sem] Oper.semAt_some
theorem wpListIn_oneR {n l : Nat} {P : Program} {ops : Array Oper} {rest : List Oper} {o : Oper} {a : Act} {w : World} {Q : Exit → Act → World → Prop} (hw : Region.wanted o (yielded ops a.tmps) = true) (hd : ∀ c, o.op ≠ .defer c)
  (h : ∀ K : Act → World → Prop, (∀ a w, wpListIn (Fence.wide.inRound l) n P ops Q rest a w → K a w) → o.wp P a w K Q) : wpListIn (Fence.wide.inRound l) n P ops Q (o :: rest) a w :=
 wpListIn_step fun K hK => by rw [if_pos hw]; exact Oper.wpIn_round' hd (h K hK)
theorem at_lit_in (d : Nat) {F : Fence} {m : Nat} {ops : Array Oper} {Q : Exit → Act → World → Prop} {a : Act} {w : World} {rest : List Oper} {ty : TypeId} {pos : String} {after : Array Edge} {t : TypeId} {len : Nat} {parts : Array (Nat × Operand)} {gd : Option (Nat × Bool)}
  (h : wpListIn F m Tryz.prog ops Q (⟨some d, .buildSlice t len parts, ty, pos, after, gd⟩ :: rest) a w) : wpListIn F m Tryz.prog ops Q (⟨some d, .buildSlice t len parts, ty, pos, after, gd⟩ :: rest) a w := h
theorem at_app_in (d : Nat) {F : Fence} {m : Nat} {ops : Array Oper} {Q : Exit → Act → World → Prop} {a : Act} {w : World} {rest : List Oper} {ty : TypeId} {pos : String} {after : Array Edge} {t t' : TypeId} {x y : Operand} {gd : Option (Nat × Bool)}
  (h : wpListIn F m Tryz.prog ops Q (⟨some d, .call { callee := .builtin .append, args := #[x, y], argTypes := #[t, t'] }, ty, pos, after, gd⟩ :: rest) a w) : wpListIn F m Tryz.prog ops Q (⟨some d, .call { callee := .builtin .append, args := #[x, y], argTypes := #[t, t'] }, ty, pos, after, gd⟩ :: rest) a w := h
/-- How a round is left before the rectangle's end, and behind it. -/
def IxW (w0 : World) (B gr gl : Nat) (r : Nat → Int) (Lc : List Value) (c : Code) (pre : List (Int × Int × Int)) (W : World) : Prop :=
 ∃ p x, c = .exit 0 ∧ pre = p ++ [x] ∧ RC.has r x.2.1 x.2.2 = false ∧ WI w0 B gr gl r Lc p W
theorem IxW.ownFrom {w0 : World} {B gr gl : Nat} {r : Nat → Int} {Lc : List Value} {D : Nat} (hD : w0.heap.size ≤ D) (c : Code) : OwnFrom D (IxW w0 B gr gl r Lc c) := fun s A C row hs hg hr => by
 obtain ⟨p, x, h1, h2, h3, h4⟩ := hs
 exact ⟨p, x, h1, h2, h3, h4.grown hg (fun q e => ⟨Nat.le_trans hD (hr q e).1, (hr q e).2⟩)⟩
set_option maxRecDepth 100000 in
set_option maxHeartbeats 16000000 in
theorem within_any (a b r : Nat → Int) (ha : DM.Rg a) (hb : DM.Rg b) (w_ : World) :
  Calls Tryz.prog 16 #[arr 2 a, arr 2 b, arr 4 r] w_ (RetT w_ (if RC.right r then DM.wth (a 0) (a 1) (b 0) (b 1) r else [])) := by
 have O := Own.start w_
 have CM := fun w => measure_any a b ha hb w
 have HA : Hid (DM.Rg (DM.t2 (a 0) (a 1))) := Lib.hid ha
 have HB : Hid (DM.Rg (DM.t2 (b 0) (b 1))) := Lib.hid hb
 unfold RetM at CM
 obtain ⟨t, ht⟩ : ∃ t, DM.tall (b 0 - a 0) (b 1 - a 1) = t := ⟨_, rfl⟩
 rw [ht] at CM
 have HT := Lib.hid ht
 clear ht ha hb
 obtain ⟨ys, hys⟩ : ∃ ys, (if RC.right r then DM.wth (a 0) (a 1) (b 0) (b 1) r else []) = ys := ⟨_, rfl⟩
 rw [hys]
 have HYS := Lib.hid hys
 clear hys
 refine (callsIn_wide (n := 5)).1 (callsIn_of_wp_marks (F := Fence.wide) (n := 5) Tryz.func16 rfl trivial ?_ rfl)
 refine wpIn_wide.2 ?_
 simp only [Tryz.ntmps16, List.size_toArray, List.length_cons, List.length_nil, Nat.reduceAdd, Nat.reduceSub, Array.replicate_succ, Array.replicate_zero, List.push_toArray, List.append_toArray, List.nil_append, List.cons_append]
 go_wp2_with (first | ((with_reducible refine at_box 3 ?_); refine wpList_box_own O (M.mat 2 (a)) rfl ?_; clear O; intro g3 w1 O) | ((with_reducible refine at_box 4 ?_); refine wpList_box_own O (M.mat 2 (b)) rfl ?_; clear O; intro g4 w2 O) | ((with_reducible refine at_box 5 ?_); refine wpList_box_own O (M.mat 4 (r)) rfl ?_; clear O; intro g5 w3 O) | ((with_reducible refine at_load 10 ?_); refine wpList_whole rfl O 2 rfl rfl Tryz.underlying44 rfl (sP _) ?_) | ((with_reducible refine at_load 11 ?_); refine wpList_whole rfl O 1 rfl rfl Tryz.underlying44 rfl (sP _) ?_) | (go_at_call 38; refine (CM _).mono ?_; rintro e w4 ⟨f, s, n, rfl, hL, hb⟩; replace O := O.call hb; clear hb) | ((with_reducible refine at_alloc 7 ?_); refine wpList_alloc_own O (wl 0 0 0 0 0 0 0 0) zeroWl ?_; clear O; intro g7 w5 O) | ((with_reducible refine at_store 7 ?_); refine wpList_put_own O 0 (wl (a 0) (a 1) (b 0) (b 1) (DM.wv t) f s n) rfl rfl rfl (sWl (a 0) (a 1) (b 0) (b 1) (DM.wv t) f s n) rfl (wl_one (a 0) (a 1) (b 0) (b 1) (DM.wv t) f s n) ?_; clear O; intro w6 O))
 have O9 := O.alloc 52 [.slice none 0 0]
 clear O CM
 have O := O9
 clear O9
 obtain ⟨B, hB⟩ : ∃ B, w6.heap.size = B := ⟨_, rfl⟩
 rw [hB] at O ⊢
 obtain ⟨w7, hw7⟩ : ∃ w7, w6.alloc (.cells [Value.slice none 0 0].toArray 52) = w7 := ⟨_, rfl⟩
 rw [hw7] at O
 have hw8 : w6.alloc (.cells #[Value.slice none 0 0] 52) = w7 := hw7
 rw [hw8]
 clear hw7 hw8 hB
 have CR := fun w => reach_any (a 0) (a 1) (b 0) (b 1) t f s n r HT.out hL HA.out HB.out w
 replace hL := Lib.hid hL
 have OO := O
 clear O
 have O := OO
 clear OO
 refine region_T ((fun w2 => Own w_ w2 [(B, 52, [.slice none 0 0]), (g7, 78, wl (a 0) (a 1) (b 0) (b 1) (DM.wv t) f s n), (g5, 29, M.mat 4 r), (g4, 44, M.mat 2 b), (g3, 44, M.mat 2 a)])) [0, 1, 2, 3] 12 [some 13, some 14, some 15, some 16] [.agg (wl (a 0) (a 1) (b 0) (b 1) (DM.wv t) f s n).toArray, .agg (wl (a 0) (a 1) (b 0) (b 1) (DM.wv t) f s n).toArray, arr 4 r, .int .i64 (DM.fstR (a 0) (a 1) (b 0) (b 1) r : Int)] 1 (by kernel_rfl) (by rfl) (by kernel_rfl) (by rfl) (by rfl) (O.drew) (fun F hF => ?_)
 simp only [fillD, Act.put, List.setIfInBounds_toArray, List.set_cons_zero, List.set_cons_succ] at hF
 subst hF
 refine ⟨⟨does_want rfl (by rfl) (fun w' O K hK => ?_), does_want rfl (by rfl) (fun w' O K hK => ?_), does_want rfl (by rfl) (fun w' O K hK => ?_), does_want rfl (by rfl) (fun w' O K hK => ?_), trivial⟩, fun w' O => ?_⟩
 · exact wp_whole O 1 rfl rfl Tryz.underlying78 rfl (sWl (a 0) (a 1) (b 0) (b 1) (DM.wv t) f s n) (hK _ O)
 · exact wp_whole O 1 rfl rfl Tryz.underlying78 rfl (sWl (a 0) (a 1) (b 0) (b 1) (DM.wv t) f s n) (hK _ O)
 · exact wp_whole O 2 rfl rfl Tryz.underlying29 rfl (sR _) (hK _ O)
 ·
  go_simp
  go_at_call 40
  refine (CR _).mono ?_
  rintro e w2 ⟨rfl, hb⟩
  exact hK _ (O.call hb)
 refine wpAny_want (i := 4) (by kernel_rfl) rfl (by rfl) (fun K hK => ?_)
 go_simp
 go_at_call 39
 refine (from_any (a 0) (a 1) (b 0) (b 1) (DM.wv t) f s n (DM.fstR (a 0) (a 1) (b 0) (b 1) r : Int) _).mono ?_
 rintro e w9 ⟨gl, gk, rfl, hgl, hgk, -, -, hb9⟩
 refine hK _ _ ?_
 clear hK K
 try simp only [Act.put, List.setIfInBounds_toArray, List.set_cons_zero, List.set_cons_succ]
 refine wpAny_done (by kernel_rfl) ?_ _
 clear CR
 go_wp2_with fail
 have OB := (O.2.2 _ List.mem_cons_self)
 have OR := (O.2.2 _ (List.mem_cons_of_mem _ (List.mem_cons_of_mem _ List.mem_cons_self)))
 have h0 : WI w_ B g5 gl r (wl (a 0) (a 1) (b 0) (b 1) (DM.wv t) f s n) [] w9 := ⟨O.below.trans (hb9.mono O.below.size), ⟨_, (hb9.block B (lt_of OB.2)).trans OB.2, World.ownsRow_nil _ _ _ _⟩, (hb9.block g5 (lt_of OR.2)).trans OR.2, hgl, OB.1, fun y hy => by cases hy⟩
 have hD : w_.heap.size ≤ w9.heap.size := h0.1.size
 have hlt : gl < w9.heap.size := lt_of hgl
 have HS := from_stops 2 (a 0) (a 1) (b 0) (b 1) t f s n r gl gk HT.out hL.out HA.out HB.out w9 hgl hgk
 have hN := DM.steps_len (a 0) (a 1) (b 0) (b 1)
 have hnn := hL.out.2.2.2.1.2
 have hcn := hL.out.1
 unfold DM.cnt14 at hcn
 have hTL : (DM.tailR (a 0) (a 1) (b 0) (b 1) r).length ≤ 4194320 := by
  unfold DM.tailR
  rw [List.length_drop]
  omega
 replace hTL := Lib.hid hTL
 clear hN hnn hcn OB OR O hb9 hgk
 refine (wpIn_wide (n := 3)).1 ?_
 refine wpIn_rangeFunc_ownH (F := Fence.wide) (n := 3) rfl (by decide) (gf := 59) (lb := #[.pointer (some ⟨gk, 0, none⟩), .pointer (some ⟨gl, 0, none⟩)]) rfl trivial (enters_of Tryz.func59 (by kernel_rfl) rfl) HS (fun h k => k.trans h)
  (fun W l o o' h1 h2 h3 h4 => World.putObj_heap_other (by omega)) (Below.refl _ _) (fun _ => rfl) (WI w_ B g5 gl r (wl (a 0) (a 1) (b 0) (b 1) (DM.wv t) f s n)) (IxW w_ B g5 gl r (wl (a 0) (a 1) (b 0) (b 1) (DM.wv t) f s n)) (WI.ownFrom hD) (fun c => IxW.ownFrom hD c) h0
  (fun x a' W => ∃ gs, W.heap[gs]? = some (.cells (M.mat 3 (sF x)).toArray 56 (0, 0)) ∧ a' = { tmps := #[arr 2 a, arr 2 b, arr 4 r, .pointer (some ⟨g3, 0, none⟩), .pointer (some ⟨g4, 0, none⟩), .pointer (some ⟨g5, 0, none⟩), .slice none 0 0, .pointer (some ⟨g7, 0, none⟩), .pointer (some ⟨B, 0, none⟩), .pointer (some ⟨gs, 0, none⟩), arr 2 a, arr 2 b, .agg (wl (a 0) (a 1) (b 0) (b 1) (DM.wv t) f s n).toArray, .agg (wl (a 0) (a 1) (b 0) (b 1) (DM.wv t) f s n).toArray, .agg (wl (a 0) (a 1) (b 0) (b 1) (DM.wv t) f s n).toArray, arr 4 r, .int .i64 (DM.fstR (a 0) (a 1) (b 0) (b 1) r : Int), .func (.func 59) #[] #[.pointer (some ⟨gk, 0, none⟩), .pointer (some ⟨gl, 0, none⟩)], arr 3 (sF x), undef, undef, undef, undef, undef, undef, undef, undef, undef, undef, undef, undef], defers := [] })
  (fun x a' s A C row hs hg hr => by
   obtain ⟨gs, h1, h2⟩ := hs
   exact ⟨gs, (hg.block gs (lt_of h1) (cells_ne h1 (fun q e => (hr q e).2))).trans h1, h2⟩) ?assign ?body ?done ?stop
 case assign =>
  rintro l pre x W K hI hK
  refine wpIn_region_lit (wpListIn_round (fun h => ?_) ?_ ?_)
  ·
   obtain ⟨_, _, h⟩ := h
   exact h
  ·
   intro o ho c
   simp only [List.mem_cons, List.not_mem_nil, or_false] at ho
   rcases ho with rfl | rfl <;> simp
  ·
   have O := Own.start W
   go_simp
   go_wp2_with (first | ((with_reducible refine at_alloc 9 ?_); refine wpList_alloc_own O (M.mat 3 M.zero) zeroT ?_; clear O; intro gs v1 O) | ((with_reducible refine at_store 9 ?_); refine wpList_put_own O 0 (M.mat 3 (sF x)) rfl rfl rfl (sT _) (M.mat_len2 _ _ _) (M.mat_one _ _) ?_; clear O; intro v2 O))
   exact hK _ _ (keeps_below O.below) (O.below.block gl (lt_of hI.2.2.2.1)) (hI.below O.below) ⟨gs, (O.2.2 _ List.mem_cons_self).2, rfl⟩
 case body =>
  rintro l pre x a' W hl hrec hI ⟨gs, hgs, rfl⟩ hlen
  refine wpIn_block ?_
  refine wpIn_seq ?_
  refine wpIn_seq ?_
  have CH := fun w => has_any r x.2.1 x.2.2 w
  have K1 : Hid ((M.mat 3 (sF x))[1]? = some (.int .i64 x.2.1)) := Lib.hid rfl
  have K2 : Hid ((M.mat 3 (sF x))[2]? = some (.int .i64 x.2.2)) := Lib.hid rfl
  have hgr := hI.2.2.1
  have O := Own.start W
  cases hx : RC.has r x.2.1 x.2.2
  ·
   rw [hx] at CH
   refine wpIn_region_lit (wpListIn_round (fun h => ?_) ?_ ?_)
   ·
    obtain ⟨_, _, h⟩ := h
    exact h
   ·
    intro o ho c
    simp only [List.mem_cons, List.not_mem_nil, or_false] at ho
    rcases ho with rfl | rfl | rfl | rfl | rfl | rfl | rfl <;> simp
   ·
    have HX := Lib.hid hx
    clear hx
    go_wp2_with (first | ((with_reducible refine at_load 19 ?_); refine wpList_whole rfl (old1 O hgr) 0 rfl rfl Tryz.underlying29 rfl (sR _) ?_) | ((with_reducible refine at_load 21 ?_); refine wpList_cell_h (v := .int .i64 x.2.1) rfl (old1 O hgs).held 0 rfl K1.out rfl agg3 rfl ?_) | ((with_reducible refine at_load 23 ?_); refine wpList_cell_h (v := .int .i64 x.2.2) rfl (old1 O hgs).held 0 rfl K2.out rfl agg3 rfl ?_) | (go_at_call 37; refine (CH _).mono ?_; rintro e v1 ⟨rfl, hb⟩; replace O := O.call hb; clear hb))
    refine wpIn_cond_true rfl (wpIn_exit ?_)
    exact ⟨keeps_below O.below, pre, x, rfl, rfl, HX.out, hI.below O.below⟩
  ·
   rw [hx] at CH
   refine wpIn_region_lit (wpListIn_round (fun h => ?_) ?_ ?_)
   ·
    obtain ⟨_, _, h⟩ := h
    exact h
   ·
    intro o ho c
    simp only [List.mem_cons, List.not_mem_nil, or_false] at ho
    rcases ho with rfl | rfl | rfl | rfl | rfl | rfl | rfl <;> simp
   ·
    have HX := Lib.hid hx
    clear hx
    go_wp2_with (first | ((with_reducible refine at_load 19 ?_); refine wpList_whole rfl (old1 O hgr) 0 rfl rfl Tryz.underlying29 rfl (sR _) ?_) | ((with_reducible refine at_load 21 ?_); refine wpList_cell_h (v := .int .i64 x.2.1) rfl (old1 O hgs).held 0 rfl K1.out rfl agg3 rfl ?_) | ((with_reducible refine at_load 23 ?_); refine wpList_cell_h (v := .int .i64 x.2.2) rfl (old1 O hgs).held 0 rfl K2.out rfl agg3 rfl ?_) | (go_at_call 37; refine (CH _).mono ?_; rintro e v1 ⟨rfl, hb⟩; replace O := O.call hb; clear hb))
    refine wpIn_cond_false rfl (wpIn_skip ?_)
    simp only [Exit.then]
    have hI5 := hI.below O.below
    have hgs5 := (O.below.block gs (lt_of hgs)).trans hgs
    have hKF : KeepsFrom w9.heap.size W v1 := keeps_below O.below
    clear O
    obtain ⟨u, hu, hrow⟩ := hI5.2.1
    have hc : v1.cell? ⟨B, 0, none⟩ = some u := (see1 (cs := [u]) hu).cell 0 rfl rfl
    obtain ⟨i0, hi, hz0, hz1, hz2⟩ := info_parts infoTb
    have hTL2 := hTL.out
    have hmax : pre.length + 1 ≤ maxLen := by unfold maxLen; omega
    have hmb : (pre.length + 1) * 24 ≤ 140737488355328 := by omega
    replace hmax := Lib.hid hmax
    replace hmb := Lib.hid hmb
    clear hTL2 hlen
    gi_wp2_with (first
     | ((with_reducible refine at_load_in 27 ?_); refine wpListIn_oneR rfl (by intro c h; cases h) (fun K hK => ?_); refine wp_whole (see1 hgs5) 0 rfl rfl Tryz.underlying56 rfl (sT _) (hK _ _ ?_); clear hK)
     | ((with_reducible refine at_lit_in 28 ?_); refine wpListIn_oneR rfl (by intro c h; cases h) (fun K hK => ?_); refine wp_lit_h (Own.start v1).held 3 (.agg (M.mat 3 M.zero).toArray) infoT Tryz.underlying52 [(0, arr 3 (sF x))] (tC [x]) rfl (tC_len _) (by decide) (by decide) (by kernel_rfl) (fun g2 v2 O2 => hK _ _ ?_); clear hK; have hb2 := O2.below; have hI6 := hI5.below hb2; have hL2 := (O2.2.2.2 _ List.mem_cons_self).2.2 (Nat.succ_pos 0))
     | ((with_reducible refine at_app_in 29 ?_); obtain ⟨u6, hu6, hrow6⟩ := hI6.2.1; have hu7 : u6 = u := (by have h9 := ((hb2.block B (lt_of hu)).trans hu).symm.trans hu6; simpa using h9.symm); subst hu7; obtain ⟨ad, ead, _, _, _, hcell⟩ := hL2; have ead2 := Option.some.inj ead; subst ead2; refine wpListIn_append_own v2 rfl _ _ 52 rfl w_.heap.size 56 i0 (.agg (M.mat 3 M.zero).toArray) 3 24 Tryz.underlying52 hi hz0 hz1 hz2 rfl (by decide) u6 pre.length (tC pre) rfl hrow6 ⟨g2, 0, none⟩ 1 1 (tC [x]) rfl (tC_len [x]) hcell (tC_one _) hmax.out hmb.out hI6.1.size ?_; intro u' v3 hown hgrow _; obtain ⟨g', cap', rfl⟩ := ownsRow_succ hown; obtain ⟨b1, hW, hKO⟩ := WI.push hI6 HX.out hu6 hrow6 hown hgrow; have hc3 : v3.cell? ⟨B, 0, none⟩ = some u6 := (see1 (cs := [u6]) b1).cell 0 rfl rfl; have hf3 : v3.frozen? ⟨B, 0, none⟩ = false := Boxed.frozen (t := 52) b1; clear hc))
    exact ⟨(hKF.trans (keeps_below hb2)).trans (hKO.from _), hW.2.2.2.1.trans hI.2.2.2.1.symm, hW⟩
 case done =>
  rintro D xs W hDD rfl hI hK
  have e : ys = DM.tailR (a 0) (a 1) (b 0) (b 1) r := HYS.out.symm.trans (DM.within_done hI.2.2.2.2.2)
  obtain ⟨u, hu, hrow⟩ := hI.2.1
  have hc : W.cell? ⟨B, 0, none⟩ = some u := (see1 (cs := [u]) hu).cell 0 rfl rfl
  have hg := hI.grown (grownBy_putObj' W D (.deferred none)) (fun q e => by cases e; exact ⟨Nat.le_trans hD hDD, _, hK, rfl⟩)
  have hu2 : Bx (W.putObj D (.deferred none)) B u := ((grownBy_putObj' W D (.deferred none)).block B (lt_of hu) (cells_ne hu (fun q e => by cases e; exact ⟨_, hK, rfl⟩))).trans hu
  have h9 := hg.ret hu2
  rw [← e] at h9
  have HF := Lib.hid h9
  clear hg hu2 hu hrow h9
  go_wp2_with fail
  refine ⟨by simp, .inl ⟨_, _, rfl, run_takeDeferred hK, ?_⟩⟩
  refine ⟨_, results_tmp (show Tryz.f16.results = #[.tmp 6] from rfl) _ _ _, ?_⟩
  exact HF.out
 case stop =>
  rintro D c pre W hDD hp hI hK
  obtain ⟨p, x, rfl, rfl, hx, hW⟩ := hI
  have e : ys = p := HYS.out.symm.trans (DM.within_stop hL.out hp hW.2.2.2.2.2 hx)
  obtain ⟨u, hu, hrow⟩ := hW.2.1
  have hc : W.cell? ⟨B, 0, none⟩ = some u := (see1 (cs := [u]) hu).cell 0 rfl rfl
  have hg := hW.grown (grownBy_putObj' W D (.deferred none)) (fun q e => by cases e; exact ⟨Nat.le_trans hD hDD, _, hK, rfl⟩)
  have hu2 : Bx (W.putObj D (.deferred none)) B u := ((grownBy_putObj' W D (.deferred none)).block B (lt_of hu) (cells_ne hu (fun q e => by cases e; exact ⟨_, hK, rfl⟩))).trans hu
  have h9 := hg.ret hu2
  rw [← e] at h9
  have HF := Lib.hid h9
  clear hg hu2 hu hrow h9
  refine wpIn_exit ?_
  go_wp2_with fail
  refine ⟨by simp, .inl ⟨_, _, rfl, run_takeDeferred hK, ?_⟩⟩
  refine ⟨_, results_tmp (show Tryz.f16.results = #[.tmp 6] from rfl) _ _ _, ?_⟩
  exact HF.out
end Go.Proofs.YtpfhaocmcfnhnaaGreat
