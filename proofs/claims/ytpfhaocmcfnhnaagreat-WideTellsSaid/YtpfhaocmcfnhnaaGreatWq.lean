/- Contracts: the closure that makes fragments, and what makes it. -/
import Derived.Test.YtpfhaocmcfnhnaaGreatWd
namespace Go.Proofs.YtpfhaocmcfnhnaaGreat
open Go.ChangeShapes Go.WideShapes Go.ChangeAt Go.RowKit
set_option linter.unusedVariables false
set_option linter.unusedSimpArgs false

theorem Own.join {w0 w w' : World} {bs cs : List (Nat × TypeId × List Value)} (O : Own w0 w bs) (C : Own w w' cs) : Own w0 w' (cs ++ bs) := by
 refine ⟨O.1.trans (C.1.mono O.1.size), ?_, fun x hx => ?_⟩
 ·
  rw [List.map_append, List.nodup_append]
  refine ⟨C.2.1, O.2.1, fun u hu v hv e => ?_⟩
  obtain ⟨x, hx, rfl⟩ := List.mem_map.1 hu
  obtain ⟨y, hy, rfl⟩ := List.mem_map.1 hv
  have h1 := (C.2.2 x hx).1
  have h2 := O.lt hy
  omega
 ·
  rcases List.mem_append.1 hx with hx | hx
  · exact ⟨Nat.le_trans O.1.size (C.2.2 x hx).1, (C.2.2 x hx).2⟩
  · exact ⟨(O.2.2 x hx).1, (C.1.block x.1 (O.lt hx)).trans (O.2.2 x hx).2⟩
set_option maxHeartbeats 4000000 in
theorem wbrush_any (l r : Nat → Int) (w : World) : Calls Tryz.prog 15 #[arr 17 l, arr 4 r] w fun e w' => ∃ gl gr, e = .returned (.func (.func 35) #[] #[.pointer (some ⟨gl, 0, none⟩), .pointer (some ⟨gr, 0, none⟩)]) ∧ Own w w' [(gr, 29, M.mat 4 r), (gl, 47, M.mat 17 l)] := by
 have O := Own.start w
 go_enter Tryz.func15, Tryz.ntmps15
 go_wp2_with (first | ((with_reducible refine at_box 2 ?_); refine wpList_box_own O (M.mat 17 (l)) rfl ?_; clear O; intro g2 w1 O) | ((with_reducible refine at_box 3 ?_); refine wpList_box_own O (M.mat 4 (r)) rfl ?_; clear O; intro g3 w2 O))
 go_ret
 exact ⟨g2, g3, rfl, O⟩
namespace WD
theorem px_lim {t : Bool} {s : Int × Int × Int} {i : Nat} (hi : i ≤ 64) (h1 : -4194304 ≤ s.2.1 ∧ s.2.1 ≤ 4194304) (h2 : -4194304 ≤ s.2.2 ∧ s.2.2 ≤ 4194304) : (0 ≤ i * bx t ∧ i * bx t ≤ 64) ∧ (0 ≤ i * by_ t ∧ i * by_ t ≤ 64) ∧ (-4194304 ≤ px t s i ∧ px t s i ≤ 4194368) ∧ (-4194304 ≤ py t s i ∧ py t s i ≤ 4194368) := by
 unfold px py
 rcases bx_is t with ⟨e1, e2⟩ | ⟨e1, e2⟩ <;> rw [e1, e2] <;> simp only [Int.mul_one, Int.mul_zero] <;> omega
end WD
set_option maxRecDepth 100000 in
set_option maxHeartbeats 16000000 in
theorem wbrush1_any {w0 w : World} {bs : List (Nat × TypeId × List Value)} {es : List Ent} {A : Option Addr} {c gl gr : Nat} (L : List (Nat → Int)) (a b r : Nat → Int) (n : Nat) (t : Bool) (s : Int × Int × Int) (hf : VM.fit a = true ∧ VM.fit b = true) (hn : n ≤ 64)
  (h1 : -4194304 ≤ s.2.1 ∧ s.2.1 ≤ 4194304) (h2 : -4194304 ≤ s.2.2 ∧ s.2.2 ≤ 4194304) (hL : L.length ≤ 500000000) (O : Held w0 w ((gr, 29, M.mat 4 r) :: (gl, 47, M.mat 17 (WD.ln a b n (DM.t2 (WD.bx t) (WD.by_ t)))) :: bs) (gR A c L) es) :
  Calls Tryz.prog 35 #[.slice A L.length c, arr 3 (sF s), .pointer (some ⟨gl, 0, none⟩), .pointer (some ⟨gr, 0, none⟩)] w fun e w' => ∃ A' c', e = .returned (.slice A' (L ++ WD.sp a b t r s n).length c') ∧ Held w0 w' ((gr, 29, M.mat 4 r) :: (gl, 47, M.mat 17 (WD.ln a b n (DM.t2 (WD.bx t) (WD.by_ t)))) :: bs) (gR A' c' (L ++ WD.sp a b t r s n)) es := by
 have CA := fun w => palong_any a b s.2.1 s.2.2 hf.1 hf.2 h1 h2 w
 obtain ⟨z, hz⟩ : ∃ z, WD.zz a b s.2.1 s.2.2 = z := ⟨_, rfl⟩
 obtain ⟨q, hq⟩ : ∃ q, WD.cc a b s.2.1 s.2.2 = q := ⟨_, rfl⟩
 unfold RetZ at CA
 change ∀ w, Calls _ _ _ w (fun e w' => e = .returned (.tuple #[.int .i64 (WD.zz a b s.2.1 s.2.2), arr 4 (WD.cc a b s.2.1 s.2.2)]) ∧ Below w.heap.size w w') at CA
 rw [hz, hq] at CA
 have HFG := Lib.hid (fun i => show WD.fg a b t s i = WD.fr (WD.px t s i) (WD.py t s i) z q by rw [WD.fg, hz, hq])
 have HPX := Lib.hid (fun i (hi : i ≤ 64) => @WD.px_lim t s i hi h1 h2)
 have HSL := Lib.hid (fun i => WD.sp_len a b t r s i)
 have HY := Lib.hid (fun i h => @WD.sp_yes a b t r s i h)
 have HN := Lib.hid (fun i h => @WD.sp_no a b t r s i h)
 have K1 : Hid ((M.mat 3 (sF s))[1]? = some (.int .i64 s.2.1)) := Lib.hid rfl
 have K2 : Hid ((M.mat 3 (sF s))[2]? = some (.int .i64 s.2.2)) := Lib.hid rfl
 have LA := Lib.hid (ln_a a b n (DM.t2 (WD.bx t) (WD.by_ t)))
 have LB := Lib.hid (ln_b a b n (DM.t2 (WD.bx t) (WD.by_ t)))
 have LN := Lib.hid (ln_n a b n (DM.t2 (WD.bx t) (WD.by_ t)))
 have LX := Lib.hid (ln_p a b n (WD.bx t) (WD.by_ t)).1
 have LY := Lib.hid (ln_p a b n (WD.bx t) (WD.by_ t)).2
 have HL := Lib.hid hL
 clear hf h1 h2 hz hq hL
 obtain ⟨BC, hBC⟩ : ∃ BC : List (Nat × TypeId × List Value), (gr, 29, M.mat 4 r) :: (gl, 47, M.mat 17 (WD.ln a b n (DM.t2 (WD.bx t) (WD.by_ t)))) :: bs = BC := ⟨_, rfl⟩
 have HBC := Lib.hid hBC
 have kr : BC[0]? = some (gr, 29, M.mat 4 r) := by rw [← hBC]; rfl
 have kl : BC[1]? = some (gl, 47, M.mat 17 (WD.ln a b n (DM.t2 (WD.bx t) (WD.by_ t)))) := by rw [← hBC]; rfl
 rw [hBC] at O ⊢
 clear hBC
 go_enter Tryz.func35, Tryz.ntmps35
 go_wp2_with (first | ((with_reducible refine at_box 5 ?_); refine wpList_box_h O (M.mat 3 (sF s)) rfl ?_; clear O; intro g5 w1 O) | ((with_reducible refine at_load 14 ?_); refine wpList_mid_h rfl O 2 kl (M.mat 7 a) LA.out rfl Tryz.underlying25 rfl (sW _) ?_) | ((with_reducible refine at_load 16 ?_); refine wpList_mid_h rfl O 2 kl (M.mat 7 b) LB.out rfl Tryz.underlying25 rfl (sW _) ?_) | ((with_reducible refine at_load 18 ?_); refine wpList_cell_h (v := .int .i64 (s.2.1)) rfl O 0 rfl K1.out rfl agg3 rfl ?_) | ((with_reducible refine at_load 20 ?_); refine wpList_cell_h (v := .int .i64 (s.2.2)) rfl O 0 rfl K2.out rfl agg3 rfl ?_) | (go_at_call 36; refine (CA _).mono ?_; rintro e w2 ⟨rfl, hb⟩; replace O := O.call hb; clear hb) | ((with_reducible refine at_alloc 8 ?_); refine wpList_alloc_h O (M.mat 4 M.zero) zeroC ?_; clear O; intro g8 w3 O) | ((with_reducible refine at_store 8 ?_); refine wpList_put_h O 0 (M.mat 4 (q)) rfl rfl rfl (sC _) (M.mat_len2 _ _ _) (M.mat_one _ _) ?_; clear O; intro w4 O) | ((with_reducible refine at_load 25 ?_); refine wpList_cell_h (v := .int .i64 (n)) rfl O 3 kl LN.out rfl agg3 rfl ?_))
 clear CA LA LB LN
 have O9 : Held w0 w4 ((g8, 23, M.mat 4 q) :: (g5, 56, M.mat 3 (sF s)) :: BC) (gR A c (L ++ WD.sp a b t r s 0)) es := by
  rw [WD.sp_zero, List.append_nil]
  exact O
 clear O
 have O := O9
 clear O9
 go_loopw [0, 26] (fun t0 t26 wr => ∃ (k : Nat) (A : Option Addr) (c : Nat), k ≤ n ∧ t0 = .slice A (L ++ WD.sp a b t r s k).length c ∧ t26 = .int .i64 (k : Int) ∧ Held w0 wr ((g8, 23, M.mat 4 q) :: (g5, 56, M.mat 3 (sF s)) :: BC) (gR A c (L ++ WD.sp a b t r s k)) es) (fun t0 t26 _ => n - (intOf t26).toNat)
 case atStart => exact ⟨0, A, c, Nat.zero_le _, by rw [WD.sp_zero, List.append_nil], rfl, O⟩
 case round =>
  clear O
  obtain ⟨k, A, c, hk, rfl, rfl, O⟩ := hrel
  obtain ⟨LL, hLL⟩ : ∃ LL, L ++ WD.sp a b t r s k = LL := ⟨_, rfl⟩
  rw [hLL] at O ⊢
  have HLL := Lib.hid hLL
  clear hLL
  have q0 : (0 : Int) ≤ k := by omega
  by_cases hlt : k < n
  ·
   have q1 : (k : Int) < n := by omega
   obtain ⟨⟨l1, l2⟩, ⟨l3, l4⟩, ⟨l5, l6⟩, l7, l8⟩ := HPX.out k (by omega)
   have CH := fun w => has_any r (WD.px t s k) (WD.py t s k) w
   have HFk := HFG.out k
   have HYk := HY.out k
   have HNk := HN.out k
   have WX1 : Hid (IntKind.i64.wrap ((k : Int) * WD.bx t) = (k : Int) * WD.bx t) := Lib.hid (IntWalk.i64_in _ (by omega))
   have WY1 : Hid (IntKind.i64.wrap ((k : Int) * WD.by_ t) = (k : Int) * WD.by_ t) := Lib.hid (IntWalk.i64_in _ (by omega))
   have WX2 : Hid (IntKind.i64.wrap (s.2.1 + (k : Int) * WD.bx t) = WD.px t s k) := Lib.hid (IntWalk.i64_in _ (by unfold WD.px at l5 l6; omega))
   have WY2 : Hid (IntKind.i64.wrap (s.2.2 + (k : Int) * WD.by_ t) = WD.py t s k) := Lib.hid (IntWalk.i64_in _ (by unfold WD.py at l7 l8; omega))
   have HLk := Lib.hid (show LL.length + 1 ≤ 1000000000 by
    have h8 := HL.out
    have h9 := HSL.out k
    rw [← HLL.out, List.length_append]
    omega)
   generalize WD.px t s k = X at *
   generalize WD.py t s k = Y at *
   clear l1 l2 l3 l4 l5 l6 l7 l8
   go_wp2_with fail
   refine region_T (fun w2 => Held w0 w2 ((g8, 23, M.mat 4 q) :: (g5, 56, M.mat 3 (sF s)) :: BC) (gR A c LL) es) [0, 1, 2, 3, 4, 5, 6, 7, 8, 9, 10, 11, 12, 13, 14, 15, 16] 12 [some 29, some 30, some 31, some 32, some 33, some 34, some 35, some 36, some 37, some 38, some 39, some 40, some 41, some 42, some 43, some 44, some 10] [.pointer (some ⟨g5, 1, none⟩), .int .i64 (s.2.1), .int .i64 (k : Int), .pointer (some ⟨gl, 15, none⟩), .pointer (some ⟨gl, 15, none⟩), .int .i64 (WD.bx t), .int .i64 ((k : Int) * WD.bx t), .int .i64 (X), .pointer (some ⟨g5, 2, none⟩), .int .i64 (s.2.2), .int .i64 (k : Int), .pointer (some ⟨gl, 15, none⟩), .pointer (some ⟨gl, 16, none⟩), .int .i64 (WD.by_ t), .int .i64 ((k : Int) * WD.by_ t), .int .i64 (Y), .int .i64 (X)] 1 (by kernel_rfl) (by rfl) (by kernel_rfl) (by rfl) (by rfl) (O.drew) (fun F hF => ?_)
   simp only [fillD, Act.put, List.setIfInBounds_toArray, List.set_cons_zero, List.set_cons_succ] at hF
   subst hF
   refine ⟨⟨does_want rfl (by rfl) (fun w' O K hK => ?_), does_want rfl (by rfl) (fun w' O K hK => ?_), does_want rfl (by rfl) (fun w' O K hK => ?_), does_want rfl (by rfl) (fun w' O K hK => ?_), does_want rfl (by rfl) (fun w' O K hK => ?_), does_want rfl (by rfl) (fun w' O K hK => ?_), does_want rfl (by rfl) (fun w' O K hK => ?_), does_want rfl (by rfl) (fun w' O K hK => ?_), does_want rfl (by rfl) (fun w' O K hK => ?_), does_want rfl (by rfl) (fun w' O K hK => ?_), does_want rfl (by rfl) (fun w' O K hK => ?_), does_want rfl (by rfl) (fun w' O K hK => ?_), does_want rfl (by rfl) (fun w' O K hK => ?_), does_want rfl (by rfl) (fun w' O K hK => ?_), does_want rfl (by rfl) (fun w' O K hK => ?_), does_want rfl (by rfl) (fun w' O K hK => ?_), does_want rfl (by rfl) (fun w' O K hK => ?_), trivial⟩, fun w' O => ?_⟩
   ·
    go_simp
    exact hK _ O
   · exact wp_cell_h (v := .int .i64 (s.2.1)) O 1 rfl K1.out rfl agg3 rfl (hK _ O)
   ·
    go_simp
    exact hK _ O
   ·
    go_simp
    exact hK _ O
   ·
    go_simp
    exact hK _ O
   · exact wp_cell_h (v := .int .i64 (WD.bx t)) O 3 kl LX.out rfl agg3 rfl (hK _ O)
   ·
    go_simp
    simp only [WX1.out]
    exact hK _ O
   ·
    go_simp
    simp only [WX2.out]
    exact hK _ O
   ·
    go_simp
    exact hK _ O
   · exact wp_cell_h (v := .int .i64 (s.2.2)) O 1 rfl K2.out rfl agg3 rfl (hK _ O)
   ·
    go_simp
    exact hK _ O
   ·
    go_simp
    exact hK _ O
   ·
    go_simp
    exact hK _ O
   · exact wp_cell_h (v := .int .i64 (WD.by_ t)) O 3 kl LY.out rfl agg3 rfl (hK _ O)
   ·
    go_simp
    simp only [WY1.out]
    exact hK _ O
   ·
    go_simp
    simp only [WY2.out]
    exact hK _ O
   ·
    go_simp
    exact hK _ O
   refine wpAny_one (i := 17) (by kernel_rfl) rfl (fun K hK => ?_)
   go_simp
   refine hK _ _ ?_
   clear hK K
   try simp only [Act.put, List.setIfInBounds_toArray, List.set_cons_zero, List.set_cons_succ]
   refine wpAny_done (by kernel_rfl) ?_ _
   cases hh : RC.has r X Y
   ·
    rw [hh] at CH
    have HR := Lib.hid (HNk hh)
    clear hh HYk HNk
    go_wp2_with (first | ((with_reducible refine at_load 45 ?_); refine wpList_rowg_h rfl O 2 kr rfl Tryz.underlying29 rfl (sR _) ?_) | (go_at_call 37; refine (CH _).mono ?_; rintro e w6 ⟨rfl, hb⟩; replace O := O.call hb; clear hb))
    go_roundw
    case rel => exact ⟨k + 1, A, c, by omega, by rw [HR.out, HLL.out], by go_num, by rw [HR.out, HLL.out]; exact O⟩
    case measure => simp [intOf]; omega
   ·
    rw [hh] at CH
    have HR := Lib.hid (HYk hh)
    have HF9 := Lib.hid HFk
    clear hh HYk HNk HFk
    go_wp2_with (first | ((with_reducible refine at_load 45 ?_); refine wpList_rowg_h rfl O 2 kr rfl Tryz.underlying29 rfl (sR _) ?_) | (go_at_call 37; refine (CH _).mono ?_; rintro e w6 ⟨rfl, hb⟩; replace O := O.call hb; clear hb) | ((with_reducible refine at_load 53 ?_); refine wpList_rowg_h rfl O 0 rfl rfl Tryz.underlying23 rfl (sC _) ?_) | ((with_reducible refine at_build 54 ?_); refine wpList_build_g rfl ([(0, .int .i64 X), (1, .int .i64 Y), (2, .int .i64 z), (3, arr 4 q), (4, .int .i64 64)]) ((M.mat 8 (WD.fr X Y z q)).toArray) ?_ (builtG _ _ _ _) ?_; (focus (simp only [List.map_toArray, List.map_cons, List.map_nil]; rfl))) | ((with_reducible refine at_lit 55 ?_); refine wpList_lit_h rfl O 8 (.agg (M.mat 8 M.zero).toArray) infoG Tryz.underlying34 [(0, arr 8 (WD.fr X Y z q))] (gC [WD.fr X Y z q]) rfl (gC_len _) (by decide) (by decide) (by kernel_rfl) ?_; clear O; intro g7 u5 O) | ((with_reducible refine at_app 56 ?_); refine wpList_app_huge rfl O (.agg (M.mat 8 M.zero).toArray) 64 infoGb rfl (Nat.succ_pos _) Tryz.underlying34 rfl (gE w0.heap.size (some ⟨g7, 0, none⟩) 1 [WD.fr X Y z q]) (O.mem List.mem_cons_self) rfl rfl (gC_one _) (HLk.out) (by decide) ?_; clear O; intro va u6 O; obtain ⟨TA, Tc, e1, O2⟩ := gR_of (l := LL) (m := [WD.fr X Y z q]) rfl (O.pick (es' := es) (fun y hy => List.mem_cons_of_mem _ hy)); subst e1; clear O; have O := O2; clear O2))
    go_roundw
    case rel => exact ⟨k + 1, TA, Tc, by omega, by rw [HR.out, HF9.out, ← List.append_assoc, HLL.out]; first | done | rfl | simp, by go_num, by rw [HR.out, HF9.out, ← List.append_assoc, HLL.out]; exact O⟩
    case measure => simp [intOf]; omega
  ·
   obtain rfl : k = n := by omega
   have q1 : ¬ (k : Int) < k := by omega
   go_wp2_with fail
   go_ret
   exact ⟨A, c, by first | (rw [HLL.out]; done) | (rw [← HLL.out]; simp), by rw [HLL.out]; exact O.tail.tail⟩
end Go.Proofs.YtpfhaocmcfnhnaaGreat
