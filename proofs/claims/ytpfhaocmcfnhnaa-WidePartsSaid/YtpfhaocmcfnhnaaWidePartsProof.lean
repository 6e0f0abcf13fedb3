/-
  WideParts: the fragments of two parts of every line (before and behind any point of it), the second one dashed as the first one leaves the dash, are where the whole line's are, pixel by pixel, and the same dash is left.
-/
import Derived.Test.YtpfhaocmcfnhnaaWv
import Derived.Deep.DeepCutAuto
namespace Go.Proofs.Ytpfhaocmcfnhnaa.wideParts
open Go.ChangeShapes Go.WideShapes Go.ChangeAt Go.RowKit
set_option linter.unusedVariables false
set_option linter.unusedSimpArgs false

theorem own : ownKnob Try.prog.godebug = none := by kernel_rfl
theorem mul_lim17 {m d : Int} (hm : 0 ≤ m ∧ m < 32) (hd : -128 ≤ d ∧ d ≤ 127) : -4000 ≤ m * d ∧ m * d ≤ 4000 := by
  obtain ⟨n, rfl⟩ : ∃ n : Nat, m = n := ⟨m.toNat, by omega⟩
  have h := hm.2
  have h1 : (n : Int) * d ≤ n * 127 := Int.mul_le_mul_of_nonneg_left hd.2 (by omega)
  have h2 : (n : Int) * -128 ≤ n * d := Int.mul_le_mul_of_nonneg_left hd.1 (by omega)
  omega
theorem nxt_off {a b : Nat → Int} {n : Int} {d : Nat → Int} : WD.nxt a b n false d = d := by
  unfold WD.nxt
  rw [Bool.and_false, if_neg (by decide)]
theorem map_fst {A B C : List (Nat → Int)} (h : A.map (fun f => (f 0, f 1)) = B.map (fun f => (f 0, f 1)) ++ C.map (fun f => (f 0, f 1))) {i : Nat} {f : Nat → Int} (hi : i < B.length) (hf : A[i]? = some f) : ∃ g, B[i]? = some g ∧ g 0 = f 0 ∧ g 1 = f 1 := by
  have e := congrArg (fun l => l[i]?) h
  try dsimp only at e
  rw [List.getElem?_map, hf, List.getElem?_append_left (by rw [List.length_map]; exact hi), List.getElem?_map, List.getElem?_eq_getElem hi] at e
  refine ⟨_, List.getElem?_eq_getElem hi, ?_⟩
  have e2 := Option.some.inj e
  injection e2 with e3 e4
  exact ⟨e3.symm, e4.symm⟩
theorem map_snd {A B C : List (Nat → Int)} (h : A.map (fun f => (f 0, f 1)) = B.map (fun f => (f 0, f 1)) ++ C.map (fun f => (f 0, f 1))) {i : Nat} {f : Nat → Int} (hi : ¬ i < B.length) (hf : A[i]? = some f) : ∃ g, C[i - B.length]? = some g ∧ g 0 = f 0 ∧ g 1 = f 1 := by
  have e := congrArg (fun l => l[i]?) h
  have hl := congrArg List.length h
  rw [List.length_append, List.length_map, List.length_map, List.length_map] at hl
  have hA := (List.getElem?_eq_some_iff.1 hf).1
  have hC : i - B.length < C.length := by omega
  try dsimp only at e
  rw [List.getElem?_map, hf, List.getElem?_append_right (by rw [List.length_map]; omega), List.length_map, List.getElem?_map, List.getElem?_eq_getElem hC] at e
  refine ⟨_, List.getElem?_eq_getElem hC, ?_⟩
  have e2 := Option.some.inj e
  injection e2 with e3 e4
  exact ⟨e3.symm, e4.symm⟩
theorem part2i8 (x y : Int) (w : World) : (part 32 (two .i8 x y).toArray 0).run Try.prog w = .ok (.int .i8 x) w ∧ (part 32 (two .i8 x y).toArray 1).run Try.prog w = .ok (.int .i8 y) w := ⟨by kernel_rfl, by kernel_rfl⟩
theorem info_i8 : ∃ i, Try.prog.info? 32 = some i := by
  have h : (Try.prog.info? 32).isSome = true := by kernel_rfl
  exact Option.isSome_iff_exists.1 h
theorem run_eq2i8 (x y p q : Int) (w : World) : (Op.equalIn 10000 33 (.agg (two .i8 x y).toArray) (.agg (two .i8 p q).toArray)).run Try.prog w = .ok (x == p && y == q) w := by
  obtain ⟨i, hi⟩ := info_i8
  rw [show (10000 : Nat) = 9998 + 1 + 1 from rfl, run_equalIn_array w (9998 + 1) _ _ Try.underlying33 hi]
  show (Op.eqItems (9998 + 1) 32 (Try.prog.cellsOf 32) (two .i8 x y).toArray (two .i8 p q).toArray [0, 1]).run Try.prog w = _
  rw [oi8]
  unfold Op.eqItems
  simp only [Sem.run_bind, Nat.zero_mul, (part2i8 x y w).1, (part2i8 p q w).1, Result.andThen_ok, run_equalIn_int w 9998 32 .i8 .i8 _ _ Try.underlying32]
  cases h : x == p
  · simp
  · rw [if_neg (by decide)]
    unfold Op.eqItems
    simp only [Sem.run_bind, Nat.mul_one, (part2i8 x y w).2, (part2i8 p q w).2, Result.andThen_ok, run_equalIn_int w 9998 32 .i8 .i8 _ _ Try.underlying32]
    cases h2 : y == q
    · simp [h2]
    · simp [h2, Op.eqItems]
section
variable {ops : Array Oper} {Q : Exit → Act → World → Prop} {a : Act} {w : World} {rest : List Oper} {dst : Option Tmp} {ty : TypeId} {pos : String} {after : Array Edge} {K : Act → World → Prop}
theorem wp_eq2i8 {t' : TypeId} {x y : Operand} {gd : Option (Nat × Bool)} (a0 a1 b0 b1 : Int) (hx : a.eval x = .agg (two .i8 a0 a1).toArray) (hy : a.eval y = .agg (two .i8 b0 b1).toArray)
    (h : K (a.put dst (.bool (a0 == b0 && a1 == b1))) w) : Oper.wp Try.prog ⟨dst, .binOp .eql 33 x y t', ty, pos, after, gd⟩ a w K Q := by
  unfold Oper.wp execOp
  simp only [hx, hy, Sem.run_bind, run_eqGuard_agg _ _ _ _ _ _ _ Try.eqGuardType33, run_eql_struct, run_eq2i8, Result.andThen_ok]
  exact h
theorem wpList_eq2i8 {t' : TypeId} {x y : Operand} {gd : Option (Nat × Bool)} (hw : Region.wanted ⟨dst, .binOp .eql 33 x y t', ty, pos, after, gd⟩ (yielded ops a.tmps) = true) (a0 a1 b0 b1 : Int) (hx : a.eval x = .agg (two .i8 a0 a1).toArray) (hy : a.eval y = .agg (two .i8 b0 b1).toArray)
    (h : wpList Try.prog ops Q rest (a.put dst (.bool (a0 == b0 && a1 == b1))) w) : wpList Try.prog ops Q (⟨dst, .binOp .eql 33 x y t', ty, pos, after, gd⟩ :: rest) a w :=
  wpList_step fun K hK => by rw [if_pos hw]; exact wp_eq2i8 a0 a1 b0 b1 hx hy (hK _ _ h)
end

set_option maxRecDepth 100000 in
set_option maxHeartbeats 16000000 in
theorem walk (w : World) (x y d0 d1 m k u : Int) (d : Nat → Int) (s : Bool) (hlim : ((-32768 ≤ x ∧ x ≤ 32767) ∧ (-32768 ≤ y ∧ y ≤ 32767)) ∧ ((-128 ≤ d0 ∧ d0 ≤ 127) ∧ (-128 ≤ d1 ∧ d1 ≤ 127)) ∧ ((0 ≤ m ∧ m ≤ 255) ∧ (0 ≤ k ∧ k ≤ 255)) ∧ (0 ≤ u ∧ u ≤ 255)) :
    Calls Try.prog 5 #[.agg (pt x y d0 d1 m k u d s).toArray] w fun e w' => e = .returned (.bool true) ∧ Below w.heap.size w w' := by
  have O := Held.start w [] (by simp)
  have CR := fun w => dright_any d w
  cases hd : HM.right d
  · rw [hd] at CR
    clear hd
    go_enter Try.func5, Try.ntmps5
    go_wp2_with (first | ((with_reducible refine at_box 1 ?_); refine wpList_box_h O (pt x y d0 d1 m k u d s) rfl ?_; clear O; intro g1 w1 O) | ((with_reducible refine at_load 19 ?_); refine wpList_mid_h rfl O 0 rfl (M.mat 3 d) (pt_dash x y d0 d1 m k u d s) rfl Try.underlying27 rfl (sH _) ?_) | (go_at_call 13; refine (CR _).mono ?_; rintro e w2 ⟨rfl, hb⟩; replace O := O.call hb; clear hb) | (go_at_call 9; refine (awake_any _).mono ?_; rintro e w9 ⟨rfl, hb⟩; replace O := O.call hb; clear hb))
    go_ret
    exact ⟨rfl, O.below⟩
  rw [hd] at CR
  obtain ⟨⟨⟨x1, x2⟩, y1, y2⟩, ⟨⟨d1', d2'⟩, d3', d4'⟩, ⟨⟨m1, m2⟩, k1, k2⟩, u1, u2⟩ := hlim
  obtain ⟨mm, hmm⟩ : ∃ z, m.tmod 32 = z := ⟨_, rfl⟩
  obtain ⟨kk, hkk⟩ : ∃ z, k.tmod 32 = z := ⟨_, rfl⟩
  obtain ⟨uu, huu⟩ : ∃ z, u.tmod 8 = z := ⟨_, rfl⟩
  have mb : 0 ≤ mm ∧ mm < 32 := by rw [← hmm]; exact ⟨Int.tmod_nonneg _ m1, Int.tmod_lt_of_pos _ (by decide)⟩
  have kb : 0 ≤ kk ∧ kk < 32 := by rw [← hkk]; exact ⟨Int.tmod_nonneg _ k1, Int.tmod_lt_of_pos _ (by decide)⟩
  have ub : 0 ≤ uu ∧ uu < 8 := by rw [← huu]; exact ⟨Int.tmod_nonneg _ u1, Int.tmod_lt_of_pos _ (by decide)⟩
  have Hm : Hid (m.tmod 32 = mm ∧ IntKind.u8.wrap mm = mm ∧ IntKind.i64.wrap mm = mm ∧ m % 32 = mm) := Lib.hid ⟨hmm, IntWalk.u8_in _ (by omega), IntWalk.i64_in _ (by omega), by rw [← hmm, Int.tmod_eq_emod_of_nonneg m1]⟩
  have Hk : Hid (k.tmod 32 = kk ∧ IntKind.u8.wrap kk = kk ∧ IntKind.i64.wrap kk = kk ∧ k % 32 = kk) := Lib.hid ⟨hkk, IntWalk.u8_in _ (by omega), IntWalk.i64_in _ (by omega), by rw [← hkk, Int.tmod_eq_emod_of_nonneg k1]⟩
  have Hu : Hid (u.tmod 8 = uu ∧ IntKind.u8.wrap uu = uu ∧ IntKind.i64.wrap uu = uu ∧ u % 8 = uu) := Lib.hid ⟨huu, IntWalk.u8_in _ (by omega), IntWalk.i64_in _ (by omega), by rw [← huu, Int.tmod_eq_emod_of_nonneg u1]⟩
  obtain ⟨n, hnn⟩ : ∃ z, 1 + uu = z := ⟨_, rfl⟩
  have Hn : Hid (1 + uu = n ∧ IntKind.i64.wrap n = n) := Lib.hid ⟨hnn, IntWalk.i64_in _ (by omega)⟩
  have hn : 1 ≤ n ∧ n ≤ 64 := by omega
  obtain ⟨e0, he0⟩ : ∃ z, mm * d0 = z := ⟨_, rfl⟩
  have be0 : -4000 ≤ e0 ∧ e0 ≤ 4000 := by rw [← he0]; exact mul_lim17 mb (by omega)
  obtain ⟨e1, he1⟩ : ∃ z, mm * d1 = z := ⟨_, rfl⟩
  have be1 : -4000 ≤ e1 ∧ e1 ≤ 4000 := by rw [← he1]; exact mul_lim17 mb (by omega)
  obtain ⟨f0, hf0⟩ : ∃ z, kk * d0 = z := ⟨_, rfl⟩
  have bf0 : -4000 ≤ f0 ∧ f0 ≤ 4000 := by rw [← hf0]; exact mul_lim17 kb (by omega)
  obtain ⟨f1, hf1⟩ : ∃ z, kk * d1 = z := ⟨_, rfl⟩
  have bf1 : -4000 ≤ f1 ∧ f1 ≤ 4000 := by rw [← hf1]; exact mul_lim17 kb (by omega)
  obtain ⟨c0, hc0⟩ : ∃ z, x + e0 = z := ⟨_, rfl⟩
  obtain ⟨c1, hc1⟩ : ∃ z, y + e1 = z := ⟨_, rfl⟩
  obtain ⟨b0, hb0⟩ : ∃ z, c0 + f0 = z := ⟨_, rfl⟩
  obtain ⟨b1, hb1⟩ : ∃ z, c1 + f1 = z := ⟨_, rfl⟩
  have W1 : wrap64 (x) = x := by exact IntWalk.wrap64_in _ (by omega)
  have W2 : wrap64 (y) = y := by exact IntWalk.wrap64_in _ (by omega)
  have W3 : wrap64 (d0) = d0 := by exact IntWalk.wrap64_in _ (by omega)
  have W4 : wrap64 (d1) = d1 := by exact IntWalk.wrap64_in _ (by omega)
  have W5 : wrap64 (mm * d0) = e0 := by rw [he0]; exact IntWalk.wrap64_in _ (by omega)
  have W6 : wrap64 (mm * d1) = e1 := by rw [he1]; exact IntWalk.wrap64_in _ (by omega)
  have W7 : wrap64 (kk * d0) = f0 := by rw [hf0]; exact IntWalk.wrap64_in _ (by omega)
  have W8 : wrap64 (kk * d1) = f1 := by rw [hf1]; exact IntWalk.wrap64_in _ (by omega)
  have W9 : wrap64 (x + e0) = c0 := by rw [hc0]; exact IntWalk.wrap64_in _ (by omega)
  have W10 : wrap64 (y + e1) = c1 := by rw [hc1]; exact IntWalk.wrap64_in _ (by omega)
  have W11 : wrap64 (c0 + f0) = b0 := by rw [hb0]; exact IntWalk.wrap64_in _ (by omega)
  have W12 : wrap64 (c1 + f1) = b1 := by rw [hb1]; exact IntWalk.wrap64_in _ (by omega)
  have hfa := WD.wn_fit (x := x) (y := y) (by omega) (by omega)
  have hfb := WD.wn_fit (x := b0) (y := b1) (by omega) (by omega)
  have hfc := WD.wn_fit (x := c0) (y := c1) (by omega) (by omega)
  have hP := WD.parts_any (a := WD.wn x y) (b := WD.wn b0 b1) (c := WD.wn c0 c1) (m := mm) (k := kk) (u := d0) (v := d1) mb.1 kb.1 (show c0 = x + mm * d0 by rw [he0]; exact hc0.symm) (show c1 = y + mm * d1 by rw [he1]; exact hc1.symm) (show b0 = c0 + kk * d0 by rw [hf0]; exact hb0.symm) (show b1 = c1 + kk * d1 by rw [hf1]; exact hb1.symm) hfa hfb hfc hn hd s (RC.mk (-400) (-400) 400 400)
  have CL := fun w => wline_any (WD.wn x y) (WD.wn b0 b1) n s d (RC.mk (-400) (-400) 400 400) w
  have CP := fun w => wline_any (WD.wn x y) (WD.wn c0 c1) n s d (RC.mk (-400) (-400) 400 400) w
  have hoff : s = false → WD.nxt (WD.wn x y) (WD.wn b0 b1) n s d = d ∧ WD.nxt (WD.wn x y) (WD.wn c0 c1) n s d = d := fun h => by subst h; exact ⟨nxt_off, nxt_off⟩
  obtain ⟨ee, hee⟩ : ∃ e, WD.nxt (WD.wn x y) (WD.wn c0 c1) n s d = e := ⟨_, rfl⟩
  rw [hee] at CP hP hoff
  have CQ := fun w => wline_any (WD.wn c0 c1) (WD.wn b0 b1) n s ee (RC.mk (-400) (-400) 400 400) w
  have hlen := WD.lin_len (WD.wn x y) (WD.wn b0 b1) n s d (RC.mk (-400) (-400) 400 400)
  obtain ⟨dx, hdx⟩ : ∃ e, WD.nxt (WD.wn x y) (WD.wn b0 b1) n s d = e := ⟨_, rfl⟩
  obtain ⟨df, hdf⟩ : ∃ e, WD.nxt (WD.wn c0 c1) (WD.wn b0 b1) n s ee = e := ⟨_, rfl⟩
  obtain ⟨LX, hLX⟩ : ∃ l, WD.lin (WD.wn x y) (WD.wn b0 b1) n s d (RC.mk (-400) (-400) 400 400) = l := ⟨_, rfl⟩
  obtain ⟨LY, hLY⟩ : ∃ l, WD.lin (WD.wn x y) (WD.wn c0 c1) n s d (RC.mk (-400) (-400) 400 400) = l := ⟨_, rfl⟩
  obtain ⟨LZ, hLZ⟩ : ∃ l, WD.lin (WD.wn c0 c1) (WD.wn b0 b1) n s ee (RC.mk (-400) (-400) 400 400) = l := ⟨_, rfl⟩
  rw [hLX, hdx] at CL
  rw [hLY] at CP
  rw [hLZ, hdf] at CQ
  rw [hLX] at hlen
  rw [hLX, hLY, hLZ, hdx, hdf] at hP
  rw [hdx] at hoff
  obtain ⟨hmap, -, hsame⟩ := hP
  have hl : LX.length = LY.length + LZ.length := by
    have := congrArg List.length hmap
    rwa [List.length_append, List.length_map, List.length_map, List.length_map] at this
  have HY := Lib.hid (fun i (f : Nat → Int) (hi : i < LY.length) (h : LX[i]? = some f) => map_fst hmap hi h)
  have HZ := Lib.hid (fun i (f : Nat → Int) (hi : ¬ i < LY.length) (h : LX[i]? = some f) => map_snd hmap hi h)
  have hsm : M.eqB 3 dx df = true := M.eqB_iff.2 hsame
  have HSM := Lib.hid hsm
  have HL := Lib.hid hl
  have HLEN := Lib.hid hlen
  have WL : wrap64 ((LY.length : Int) + LZ.length) = LX.length := by
    rw [show (LY.length : Int) + LZ.length = LX.length by omega]
    exact IntWalk.wrap64_in _ (by omega)
  have HOFF := Lib.hid hoff
  have kne : ((LX.length : Int) != (LX.length : Int)) = false := by simp
  clear hoff hmap hsame hsm hl hlen hLX hLY hLZ hdx hdf hee hfa hfb hfc hd hmm hkk huu hnn he0 he1 hf0 hf1 hc0 hc1 hb0 hb1 be0 be1 bf0 bf1 x1 x2 y1 y2 d1' d2' d3' d4' m1 m2 k1 k2 u1 u2
  have FW := Lib.hid (And.intro W1 (And.intro W2 (And.intro W3 (And.intro W4 (And.intro W5 (And.intro W6 (And.intro W7 (And.intro W8 (And.intro W9 (And.intro W10 (And.intro W11 (W12))))))))))))
  clear W1 W2 W3 W4 W5 W6 W7 W8 W9 W10 W11 W12
  have tk0 : True := trivial
  by_cases hm0 : mm = 0
  · have q9 : (mm == 0) = true := by simp [hm0]
    have q8 : decide (mm = 0) = true := decide_eq_true hm0
    have q7 : (mm = 0) = True := eq_true hm0
    clear mb kb ub hn hm0
    go_enter Try.func5, Try.ntmps5
    go_wp2_with (first | ((with_reducible refine at_box 1 ?_); refine wpList_box_h O (pt x y d0 d1 m k u d s) rfl ?_; clear O; intro g1 w1 O) | ((with_reducible refine at_load 19 ?_); refine wpList_mid_h rfl O 0 rfl (M.mat 3 d) (pt_dash x y d0 d1 m k u d s) rfl Try.underlying27 rfl (sH _) ?_) | (go_at_call 13; refine (CR _).mono ?_; rintro e w2 ⟨rfl, hb⟩; replace O := O.call hb; clear hb))
    have OX : Held w w2 [(g1, 50, pt x y d0 d1 m k u d s)] nilRow [] := O
    clear O CR
    have O := OX
    clear OX
    have OO := O
    clear O
    have O := OO
    clear OO
    refine region_T ((fun w2 => Held w w2 [(g1, 50, pt x y d0 d1 m k u d s)] nilRow [])) [0, 1, 2, 3, 4, 5, 6, 7, 8, 9, 10, 11, 12, 13, 14, 15, 16] 12 [some 23, some 24, some 25, some 26, some 27, some 28, some 29, some 30, some 31, some 32, some 33, some 34, some 35, some 36, some 37, some 3, some 4] [.pointer (some ⟨g1, 4, none⟩), .pointer (some ⟨g1, 4, none⟩), .int .u8 m, .int .u8 mm, .int .i64 (mm), .pointer (some ⟨g1, 4, none⟩), .pointer (some ⟨g1, 5, none⟩), .int .u8 k, .int .u8 kk, .int .i64 (kk), .pointer (some ⟨g1, 6, none⟩), .int .u8 u, .int .u8 uu, .int .i64 (uu), .int .i64 (n), .int .i64 (mm), .int .i64 (kk)] 1 (by kernel_rfl) (by rfl) (by kernel_rfl) (by rfl) (by rfl) (O.drew) (fun F hF => ?_)
    simp only [fillD, Act.put, List.setIfInBounds_toArray, List.set_cons_zero, List.set_cons_succ] at hF
    subst hF
    refine ⟨⟨does_want rfl (by rfl) (fun w' O K hK => ?_), does_want rfl (by rfl) (fun w' O K hK => ?_), does_want rfl (by rfl) (fun w' O K hK => ?_), does_want rfl (by rfl) (fun w' O K hK => ?_), does_want rfl (by rfl) (fun w' O K hK => ?_), does_want rfl (by rfl) (fun w' O K hK => ?_), does_want rfl (by rfl) (fun w' O K hK => ?_), does_want rfl (by rfl) (fun w' O K hK => ?_), does_want rfl (by rfl) (fun w' O K hK => ?_), does_want rfl (by rfl) (fun w' O K hK => ?_), does_want rfl (by rfl) (fun w' O K hK => ?_), does_want rfl (by rfl) (fun w' O K hK => ?_), does_want rfl (by rfl) (fun w' O K hK => ?_), does_want rfl (by rfl) (fun w' O K hK => ?_), does_want rfl (by rfl) (fun w' O K hK => ?_), does_want rfl (by rfl) (fun w' O K hK => ?_), does_want rfl (by rfl) (fun w' O K hK => ?_), trivial⟩, fun w' O => ?_⟩
    · go_simp
      exact hK _ O
    · first | (go_simp; exact hK _ O) | exact wp_ino Try.underlying48 sizeOf5 (by decide) 0 rfl rfl (by omega) (by omega) (hK _ O)
    · exact wp_cell_h (v := .int .u8 m) O 0 (i := 4) rfl rfl rfl agg5 rfl (hK _ O)
    · obtain ⟨e1, e2, e3, e4⟩ := Hm.out
      go_simp
      first | exact hK _ O | (rw [e4]; exact hK _ O) | (rw [e4, e2]; exact hK _ O) | (rw [e1]; exact hK _ O) | (rw [e1, e2]; exact hK _ O) | (simp only [e1, e2, e3]; exact hK _ O) | (rw [e3]; exact hK _ O)
    · obtain ⟨e1, e2, e3, e4⟩ := Hm.out
      go_simp
      first | exact hK _ O | (rw [e4]; exact hK _ O) | (rw [e4, e2]; exact hK _ O) | (rw [e1]; exact hK _ O) | (rw [e1, e2]; exact hK _ O) | (simp only [e1, e2, e3]; exact hK _ O) | (rw [e3]; exact hK _ O)
    · go_simp
      exact hK _ O
    · first | (go_simp; exact hK _ O) | exact wp_ino Try.underlying48 sizeOf5 (by decide) 1 rfl rfl (by omega) (by omega) (hK _ O)
    · exact wp_cell_h (v := .int .u8 k) O 0 (i := 5) rfl rfl rfl agg5 rfl (hK _ O)
    · obtain ⟨e1, e2, e3, e4⟩ := Hk.out
      go_simp
      first | exact hK _ O | (rw [e4]; exact hK _ O) | (rw [e4, e2]; exact hK _ O) | (rw [e1]; exact hK _ O) | (rw [e1, e2]; exact hK _ O) | (simp only [e1, e2, e3]; exact hK _ O) | (rw [e3]; exact hK _ O)
    · obtain ⟨e1, e2, e3, e4⟩ := Hk.out
      go_simp
      first | exact hK _ O | (rw [e4]; exact hK _ O) | (rw [e4, e2]; exact hK _ O) | (rw [e1]; exact hK _ O) | (rw [e1, e2]; exact hK _ O) | (simp only [e1, e2, e3]; exact hK _ O) | (rw [e3]; exact hK _ O)
    · go_simp
      exact hK _ O
    · exact wp_cell_h (v := .int .u8 u) O 0 (i := 6) rfl rfl rfl agg5 rfl (hK _ O)
    · obtain ⟨e1, e2, e3, e4⟩ := Hu.out
      go_simp
      first | exact hK _ O | (rw [e4]; exact hK _ O) | (rw [e4, e2]; exact hK _ O) | (rw [e1]; exact hK _ O) | (rw [e1, e2]; exact hK _ O) | (simp only [e1, e2, e3]; exact hK _ O) | (rw [e3]; exact hK _ O)
    · obtain ⟨e1, e2, e3, e4⟩ := Hu.out
      go_simp
      first | exact hK _ O | (rw [e4]; exact hK _ O) | (rw [e4, e2]; exact hK _ O) | (rw [e1]; exact hK _ O) | (rw [e1, e2]; exact hK _ O) | (simp only [e1, e2, e3]; exact hK _ O) | (rw [e3]; exact hK _ O)
    · obtain ⟨e1, e2⟩ := Hn.out
      go_simp
      first | exact hK _ O | (rw [e1]; exact hK _ O) | (rw [e1, e2]; exact hK _ O) | (simp only [e1, e2]; exact hK _ O)
    · go_simp
      exact hK _ O
    · go_simp
      exact hK _ O
    refine wpAny_one (i := 17) (by kernel_rfl) rfl (fun K hK => ?_)
    go_simp
    refine hK _ _ ?_
    clear hK K
    try simp only [Act.put, List.setIfInBounds_toArray, List.set_cons_zero, List.set_cons_succ]
    refine wpAny_done (by kernel_rfl) ?_ _
    clear Hm Hk Hu Hn
    have W1 := FW.out.1
    have W2 := FW.out.2.1
    have W3 := FW.out.2.2.1
    have W4 := FW.out.2.2.2.1
    have W5 := FW.out.2.2.2.2.1
    have W6 := FW.out.2.2.2.2.2.1
    have W7 := FW.out.2.2.2.2.2.2.1
    have W8 := FW.out.2.2.2.2.2.2.2.1
    have W9 := FW.out.2.2.2.2.2.2.2.2.1
    have W10 := FW.out.2.2.2.2.2.2.2.2.2.1
    have W11 := FW.out.2.2.2.2.2.2.2.2.2.2.1
    have W12 := FW.out.2.2.2.2.2.2.2.2.2.2.2
    go_wp2_with (first | ((with_reducible refine at_index_ 39 ?_); refine wpList_ino rfl Try.underlying47 sizeOfi16 (by decide) (0) rfl rfl (by rfl) (by omega) ?_) | ((with_reducible refine at_load 40 ?_); refine wpList_cell_h (v := .int .i16 x) rfl O 0 rfl (i := 0) rfl rfl aggi16 rfl ?_) | ((with_reducible refine at_index_ 43 ?_); refine wpList_ino rfl Try.underlying47 sizeOfi16 (by decide) (1) rfl rfl (by rfl) (by omega) ?_) | ((with_reducible refine at_load 44 ?_); refine wpList_cell_h (v := .int .i16 y) rfl O 0 rfl (i := 1) rfl rfl aggi16 rfl ?_) | ((with_reducible refine at_build 46 ?_); refine wpList_build_g rfl ([(0, .int .i64 x), (1, .int .i64 y)]) ((M.mat 7 (WD.wn x y)).toArray) ?_ (builtW17 _ _) ?_; (focus (simp only [List.map_toArray, List.map_cons, List.map_nil]; rfl))) | ((with_reducible refine at_alloc 6 ?_); refine wpList_alloc_h O (M.mat 7 M.zero) zeroW17 ?_; clear O; intro g6 w4 O) | ((with_reducible refine at_store 6 ?_); refine wpList_put_h O 0 (M.mat 7 (WD.wn x y)) rfl rfl rfl (sW _) (M.mat_len2 _ _ _) (M.mat_one _ _) ?_; clear O; intro w5 O) | ((with_reducible refine at_load 48 ?_); refine wpList_cell_h (v := .int .i64 x) rfl O 0 rfl (show (M.mat 7 (WD.wn x y))[0]? = _ from rfl) rfl agg3 rfl ?_) | ((with_reducible refine at_index_ 51 ?_); refine wpList_ino rfl Try.underlying33 sizeOfi8 (by decide) (0) rfl rfl (by rfl) (by omega) ?_) | ((with_reducible refine at_load 52 ?_); refine wpList_cell_h (v := .int .i8 d0) rfl O 1 rfl (i := 2) rfl rfl aggi8 rfl ?_) | ((with_reducible refine at_load 57 ?_); refine wpList_cell_h (v := .int .i64 y) rfl O 0 rfl (show (M.mat 7 (WD.wn x y))[1]? = _ from rfl) rfl agg3 rfl ?_) | ((with_reducible refine at_index_ 60 ?_); refine wpList_ino rfl Try.underlying33 sizeOfi8 (by decide) (1) rfl rfl (by rfl) (by omega) ?_) | ((with_reducible refine at_load 61 ?_); refine wpList_cell_h (v := .int .i8 d1) rfl O 1 rfl (i := 3) rfl rfl aggi8 rfl ?_) | ((with_reducible refine at_build 65 ?_); refine wpList_build_g rfl ([(0, .int .i64 c0), (1, .int .i64 c1)]) ((M.mat 7 (WD.wn c0 c1)).toArray) ?_ (builtW17 _ _) ?_; (focus (simp only [List.map_toArray, List.map_cons, List.map_nil]; rfl))) | ((with_reducible refine at_alloc 7 ?_); refine wpList_alloc_h O (M.mat 7 M.zero) zeroW17 ?_; clear O; intro g7 w6 O) | ((with_reducible refine at_store 7 ?_); refine wpList_put_h O 0 (M.mat 7 (WD.wn c0 c1)) rfl rfl rfl (sW _) (M.mat_len2 _ _ _) (M.mat_one _ _) ?_; clear O; intro w7 O) | ((with_reducible refine at_load 67 ?_); refine wpList_cell_h (v := .int .i64 c0) rfl O 0 rfl (show (M.mat 7 (WD.wn c0 c1))[0]? = _ from rfl) rfl agg3 rfl ?_) | ((with_reducible refine at_index_ 70 ?_); refine wpList_ino rfl Try.underlying33 sizeOfi8 (by decide) (0) rfl rfl (by rfl) (by omega) ?_) | ((with_reducible refine at_load 71 ?_); refine wpList_cell_h (v := .int .i8 d0) rfl O 2 rfl (i := 2) rfl rfl aggi8 rfl ?_) | ((with_reducible refine at_load 76 ?_); refine wpList_cell_h (v := .int .i64 c1) rfl O 0 rfl (show (M.mat 7 (WD.wn c0 c1))[1]? = _ from rfl) rfl agg3 rfl ?_) | ((with_reducible refine at_index_ 79 ?_); refine wpList_ino rfl Try.underlying33 sizeOfi8 (by decide) (1) rfl rfl (by rfl) (by omega) ?_) | ((with_reducible refine at_load 80 ?_); refine wpList_cell_h (v := .int .i8 d1) rfl O 2 rfl (i := 3) rfl rfl aggi8 rfl ?_) | ((with_reducible refine at_build 84 ?_); refine wpList_build_g rfl ([(0, .int .i64 b0), (1, .int .i64 b1)]) ((M.mat 7 (WD.wn b0 b1)).toArray) ?_ (builtW17 _ _) ?_; (focus (simp only [List.map_toArray, List.map_cons, List.map_nil]; rfl))) | ((with_reducible refine at_alloc 8 ?_); refine wpList_alloc_h O (M.mat 7 M.zero) zeroW17 ?_; clear O; intro g8 w8 O) | ((with_reducible refine at_store 8 ?_); refine wpList_put_h O 0 (M.mat 7 (WD.wn b0 b1)) rfl rfl rfl (sW _) (M.mat_len2 _ _ _) (M.mat_one _ _) ?_; clear O; intro w9 O) | ((with_reducible refine at_build 85 ?_); refine wpList_build_g rfl ([(0, .int .i64 (-400)), (1, .int .i64 (-400)), (2, .int .i64 400), (3, .int .i64 400)]) ((M.mat 4 (RC.mk (-400) (-400) 400 400)).toArray) ?_ (builtR17 _ _ _ _) ?_; (focus (simp only [List.map_toArray, List.map_cons, List.map_nil]; rfl))) | ((with_reducible refine at_alloc 9 ?_); refine wpList_alloc_h O (M.mat 4 M.zero) zeroR ?_; clear O; intro g9 w10 O) | ((with_reducible refine at_store 9 ?_); refine wpList_put_h O 0 (M.mat 4 (RC.mk (-400) (-400) 400 400)) rfl rfl rfl (sR _) (M.mat_len2 _ _ _) (M.mat_one _ _) ?_; clear O; intro w11 O) | ((with_reducible refine at_load 87 ?_); refine wpList_rowg_h rfl O 3 rfl rfl Try.underlying25 rfl (sW _) ?_) | ((with_reducible refine at_load 88 ?_); refine wpList_rowg_h rfl O 1 rfl rfl Try.underlying25 rfl (sW _) ?_) | ((with_reducible refine at_load 91 ?_); refine wpList_cell_h (v := .bool s) rfl O 4 rfl (i := 10) rfl rfl agg4' rfl ?_) | ((with_reducible refine at_load 93 ?_); refine wpList_mid_h rfl O 4 rfl (M.mat 3 d) (pt_dash x y d0 d1 m k u d s) rfl Try.underlying27 rfl (sH _) ?_) | ((with_reducible refine at_load 94 ?_); refine wpList_rowg_h rfl O 0 rfl rfl Try.underlying29 rfl (sR _) ?_) | (go_at_call 11; clear tk0; have tk1 : True := trivial; refine (CL _).mono ?_; rintro e w12 ⟨XA, xc, rfl, hV, hb⟩; have O2 := O.gain hb hV; clear O hb hV; have O := O2; clear O2) | ((with_reducible refine at_alloc 11 ?_); refine wpList_alloc_h O (M.mat 3 M.zero) zeroH ?_; clear O; intro g11 w13 O) | ((with_reducible refine at_store 11 ?_); refine wpList_put_h O 0 (M.mat 3 (dx)) rfl rfl rfl (sH _) (M.mat_len2 _ _ _) (M.mat_one _ _) ?_; clear O; intro w14 O) | ((with_reducible refine at_load 99 ?_); refine wpList_rowg_h rfl O 4 rfl rfl Try.underlying25 rfl (sW _) ?_) | ((with_reducible refine at_load 100 ?_); refine wpList_rowg_h rfl O 3 rfl rfl Try.underlying25 rfl (sW _) ?_) | ((with_reducible refine at_load 103 ?_); refine wpList_cell_h (v := .bool s) rfl O 5 rfl (i := 10) rfl rfl agg4' rfl ?_) | ((with_reducible refine at_load 105 ?_); refine wpList_mid_h rfl O 5 rfl (M.mat 3 d) (pt_dash x y d0 d1 m k u d s) rfl Try.underlying27 rfl (sH _) ?_) | ((with_reducible refine at_load 106 ?_); refine wpList_rowg_h rfl O 1 rfl rfl Try.underlying29 rfl (sR _) ?_) | (go_at_call 11; clear tk1; have tk2 : True := trivial; refine (CP _).mono ?_; rintro e w15 ⟨YA, yc, rfl, hV, hb⟩; have O2 := O.gain hb hV; clear O hb hV; have O := O2; clear O2) | ((with_reducible refine at_alloc 13 ?_); refine wpList_alloc_h O (M.mat 3 M.zero) zeroH ?_; clear O; intro g13 w16 O) | ((with_reducible refine at_store 13 ?_); refine wpList_put_h O 0 (M.mat 3 (ee)) rfl rfl rfl (sH _) (M.mat_len2 _ _ _) (M.mat_one _ _) ?_; clear O; intro w17 O) | ((with_reducible refine at_load 111 ?_); refine wpList_rowg_h rfl O 4 rfl rfl Try.underlying25 rfl (sW _) ?_) | ((with_reducible refine at_load 112 ?_); refine wpList_rowg_h rfl O 3 rfl rfl Try.underlying25 rfl (sW _) ?_) | ((with_reducible refine at_load 115 ?_); refine wpList_cell_h (v := .bool s) rfl O 6 rfl (i := 10) rfl rfl agg4' rfl ?_) | ((with_reducible refine at_load 116 ?_); refine wpList_rowg_h rfl O 0 rfl rfl Try.underlying27 rfl (sH _) ?_) | ((with_reducible refine at_load 117 ?_); refine wpList_rowg_h rfl O 2 rfl rfl Try.underlying29 rfl (sR _) ?_) | (go_at_call 11; clear tk2; have tk3 : True := trivial; refine (CQ _).mono ?_; rintro e w18 ⟨ZA, zc, rfl, hV, hb⟩; have O2 := O.gain hb hV; clear O hb hV; have O := O2; clear O2) | ((with_reducible refine at_alloc 15 ?_); refine wpList_alloc_h O (M.mat 3 M.zero) zeroH ?_; clear O; intro g15 w19 O) | ((with_reducible refine at_store 15 ?_); refine wpList_put_h O 0 (M.mat 3 (df)) rfl rfl rfl (sH _) (M.mat_len2 _ _ _) (M.mat_one _ _) ?_; clear O; intro w20 O) | (go_at_call 9; refine (awake_any _).mono ?_; rintro e w30 ⟨rfl, hb⟩; replace O := O.call hb; clear hb))
    go_ret
    exact ⟨rfl, O.below⟩
  have z9 : (mm == 0) = false := by simp [hm0]
  have z8 : decide (mm = 0) = false := decide_eq_false hm0
  have z7 : (mm = 0) = False := eq_false hm0
  clear hm0
  by_cases hk0 : kk = 0
  · have q9 : (kk == 0) = true := by simp [hk0]
    have q8 : decide (kk = 0) = true := decide_eq_true hk0
    have q7 : (kk = 0) = True := eq_true hk0
    clear mb kb ub hn hk0
    go_enter Try.func5, Try.ntmps5
    go_wp2_with (first | ((with_reducible refine at_box 1 ?_); refine wpList_box_h O (pt x y d0 d1 m k u d s) rfl ?_; clear O; intro g1 w1 O) | ((with_reducible refine at_load 19 ?_); refine wpList_mid_h rfl O 0 rfl (M.mat 3 d) (pt_dash x y d0 d1 m k u d s) rfl Try.underlying27 rfl (sH _) ?_) | (go_at_call 13; refine (CR _).mono ?_; rintro e w2 ⟨rfl, hb⟩; replace O := O.call hb; clear hb))
    have OX : Held w w2 [(g1, 50, pt x y d0 d1 m k u d s)] nilRow [] := O
    clear O CR
    have O := OX
    clear OX
    have OO := O
    clear O
    have O := OO
    clear OO
    refine region_T ((fun w2 => Held w w2 [(g1, 50, pt x y d0 d1 m k u d s)] nilRow [])) [0, 1, 2, 3, 4, 5, 6, 7, 8, 9, 10, 11, 12, 13, 14, 15, 16] 12 [some 23, some 24, some 25, some 26, some 27, some 28, some 29, some 30, some 31, some 32, some 33, some 34, some 35, some 36, some 37, some 3, some 4] [.pointer (some ⟨g1, 4, none⟩), .pointer (some ⟨g1, 4, none⟩), .int .u8 m, .int .u8 mm, .int .i64 (mm), .pointer (some ⟨g1, 4, none⟩), .pointer (some ⟨g1, 5, none⟩), .int .u8 k, .int .u8 kk, .int .i64 (kk), .pointer (some ⟨g1, 6, none⟩), .int .u8 u, .int .u8 uu, .int .i64 (uu), .int .i64 (n), .int .i64 (mm), .int .i64 (kk)] 1 (by kernel_rfl) (by rfl) (by kernel_rfl) (by rfl) (by rfl) (O.drew) (fun F hF => ?_)
    simp only [fillD, Act.put, List.setIfInBounds_toArray, List.set_cons_zero, List.set_cons_succ] at hF
    subst hF
    refine ⟨⟨does_want rfl (by rfl) (fun w' O K hK => ?_), does_want rfl (by rfl) (fun w' O K hK => ?_), does_want rfl (by rfl) (fun w' O K hK => ?_), does_want rfl (by rfl) (fun w' O K hK => ?_), does_want rfl (by rfl) (fun w' O K hK => ?_), does_want rfl (by rfl) (fun w' O K hK => ?_), does_want rfl (by rfl) (fun w' O K hK => ?_), does_want rfl (by rfl) (fun w' O K hK => ?_), does_want rfl (by rfl) (fun w' O K hK => ?_), does_want rfl (by rfl) (fun w' O K hK => ?_), does_want rfl (by rfl) (fun w' O K hK => ?_), does_want rfl (by rfl) (fun w' O K hK => ?_), does_want rfl (by rfl) (fun w' O K hK => ?_), does_want rfl (by rfl) (fun w' O K hK => ?_), does_want rfl (by rfl) (fun w' O K hK => ?_), does_want rfl (by rfl) (fun w' O K hK => ?_), does_want rfl (by rfl) (fun w' O K hK => ?_), trivial⟩, fun w' O => ?_⟩
    · go_simp
      exact hK _ O
    · first | (go_simp; exact hK _ O) | exact wp_ino Try.underlying48 sizeOf5 (by decide) 0 rfl rfl (by omega) (by omega) (hK _ O)
    · exact wp_cell_h (v := .int .u8 m) O 0 (i := 4) rfl rfl rfl agg5 rfl (hK _ O)
    · obtain ⟨e1, e2, e3, e4⟩ := Hm.out
      go_simp
      first | exact hK _ O | (rw [e4]; exact hK _ O) | (rw [e4, e2]; exact hK _ O) | (rw [e1]; exact hK _ O) | (rw [e1, e2]; exact hK _ O) | (simp only [e1, e2, e3]; exact hK _ O) | (rw [e3]; exact hK _ O)
    · obtain ⟨e1, e2, e3, e4⟩ := Hm.out
      go_simp
      first | exact hK _ O | (rw [e4]; exact hK _ O) | (rw [e4, e2]; exact hK _ O) | (rw [e1]; exact hK _ O) | (rw [e1, e2]; exact hK _ O) | (simp only [e1, e2, e3]; exact hK _ O) | (rw [e3]; exact hK _ O)
    · go_simp
      exact hK _ O
    · first | (go_simp; exact hK _ O) | exact wp_ino Try.underlying48 sizeOf5 (by decide) 1 rfl rfl (by omega) (by omega) (hK _ O)
    · exact wp_cell_h (v := .int .u8 k) O 0 (i := 5) rfl rfl rfl agg5 rfl (hK _ O)
    · obtain ⟨e1, e2, e3, e4⟩ := Hk.out
      go_simp
      first | exact hK _ O | (rw [e4]; exact hK _ O) | (rw [e4, e2]; exact hK _ O) | (rw [e1]; exact hK _ O) | (rw [e1, e2]; exact hK _ O) | (simp only [e1, e2, e3]; exact hK _ O) | (rw [e3]; exact hK _ O)
    · obtain ⟨e1, e2, e3, e4⟩ := Hk.out
      go_simp
      first | exact hK _ O | (rw [e4]; exact hK _ O) | (rw [e4, e2]; exact hK _ O) | (rw [e1]; exact hK _ O) | (rw [e1, e2]; exact hK _ O) | (simp only [e1, e2, e3]; exact hK _ O) | (rw [e3]; exact hK _ O)
    · go_simp
      exact hK _ O
    · exact wp_cell_h (v := .int .u8 u) O 0 (i := 6) rfl rfl rfl agg5 rfl (hK _ O)
    · obtain ⟨e1, e2, e3, e4⟩ := Hu.out
      go_simp
      first | exact hK _ O | (rw [e4]; exact hK _ O) | (rw [e4, e2]; exact hK _ O) | (rw [e1]; exact hK _ O) | (rw [e1, e2]; exact hK _ O) | (simp only [e1, e2, e3]; exact hK _ O) | (rw [e3]; exact hK _ O)
    · obtain ⟨e1, e2, e3, e4⟩ := Hu.out
      go_simp
      first | exact hK _ O | (rw [e4]; exact hK _ O) | (rw [e4, e2]; exact hK _ O) | (rw [e1]; exact hK _ O) | (rw [e1, e2]; exact hK _ O) | (simp only [e1, e2, e3]; exact hK _ O) | (rw [e3]; exact hK _ O)
    · obtain ⟨e1, e2⟩ := Hn.out
      go_simp
      first | exact hK _ O | (rw [e1]; exact hK _ O) | (rw [e1, e2]; exact hK _ O) | (simp only [e1, e2]; exact hK _ O)
    · go_simp
      exact hK _ O
    · go_simp
      exact hK _ O
    refine wpAny_one (i := 17) (by kernel_rfl) rfl (fun K hK => ?_)
    go_simp
    refine hK _ _ ?_
    clear hK K
    try simp only [Act.put, List.setIfInBounds_toArray, List.set_cons_zero, List.set_cons_succ]
    refine wpAny_done (by kernel_rfl) ?_ _
    clear Hm Hk Hu Hn
    have W1 := FW.out.1
    have W2 := FW.out.2.1
    have W3 := FW.out.2.2.1
    have W4 := FW.out.2.2.2.1
    have W5 := FW.out.2.2.2.2.1
    have W6 := FW.out.2.2.2.2.2.1
    have W7 := FW.out.2.2.2.2.2.2.1
    have W8 := FW.out.2.2.2.2.2.2.2.1
    have W9 := FW.out.2.2.2.2.2.2.2.2.1
    have W10 := FW.out.2.2.2.2.2.2.2.2.2.1
    have W11 := FW.out.2.2.2.2.2.2.2.2.2.2.1
    have W12 := FW.out.2.2.2.2.2.2.2.2.2.2.2
    go_wp2_with (first | ((with_reducible refine at_index_ 39 ?_); refine wpList_ino rfl Try.underlying47 sizeOfi16 (by decide) (0) rfl rfl (by rfl) (by omega) ?_) | ((with_reducible refine at_load 40 ?_); refine wpList_cell_h (v := .int .i16 x) rfl O 0 rfl (i := 0) rfl rfl aggi16 rfl ?_) | ((with_reducible refine at_index_ 43 ?_); refine wpList_ino rfl Try.underlying47 sizeOfi16 (by decide) (1) rfl rfl (by rfl) (by omega) ?_) | ((with_reducible refine at_load 44 ?_); refine wpList_cell_h (v := .int .i16 y) rfl O 0 rfl (i := 1) rfl rfl aggi16 rfl ?_) | ((with_reducible refine at_build 46 ?_); refine wpList_build_g rfl ([(0, .int .i64 x), (1, .int .i64 y)]) ((M.mat 7 (WD.wn x y)).toArray) ?_ (builtW17 _ _) ?_; (focus (simp only [List.map_toArray, List.map_cons, List.map_nil]; rfl))) | ((with_reducible refine at_alloc 6 ?_); refine wpList_alloc_h O (M.mat 7 M.zero) zeroW17 ?_; clear O; intro g6 w4 O) | ((with_reducible refine at_store 6 ?_); refine wpList_put_h O 0 (M.mat 7 (WD.wn x y)) rfl rfl rfl (sW _) (M.mat_len2 _ _ _) (M.mat_one _ _) ?_; clear O; intro w5 O) | ((with_reducible refine at_load 48 ?_); refine wpList_cell_h (v := .int .i64 x) rfl O 0 rfl (show (M.mat 7 (WD.wn x y))[0]? = _ from rfl) rfl agg3 rfl ?_) | ((with_reducible refine at_index_ 51 ?_); refine wpList_ino rfl Try.underlying33 sizeOfi8 (by decide) (0) rfl rfl (by rfl) (by omega) ?_) | ((with_reducible refine at_load 52 ?_); refine wpList_cell_h (v := .int .i8 d0) rfl O 1 rfl (i := 2) rfl rfl aggi8 rfl ?_) | ((with_reducible refine at_load 57 ?_); refine wpList_cell_h (v := .int .i64 y) rfl O 0 rfl (show (M.mat 7 (WD.wn x y))[1]? = _ from rfl) rfl agg3 rfl ?_) | ((with_reducible refine at_index_ 60 ?_); refine wpList_ino rfl Try.underlying33 sizeOfi8 (by decide) (1) rfl rfl (by rfl) (by omega) ?_) | ((with_reducible refine at_load 61 ?_); refine wpList_cell_h (v := .int .i8 d1) rfl O 1 rfl (i := 3) rfl rfl aggi8 rfl ?_) | ((with_reducible refine at_build 65 ?_); refine wpList_build_g rfl ([(0, .int .i64 c0), (1, .int .i64 c1)]) ((M.mat 7 (WD.wn c0 c1)).toArray) ?_ (builtW17 _ _) ?_; (focus (simp only [List.map_toArray, List.map_cons, List.map_nil]; rfl))) | ((with_reducible refine at_alloc 7 ?_); refine wpList_alloc_h O (M.mat 7 M.zero) zeroW17 ?_; clear O; intro g7 w6 O) | ((with_reducible refine at_store 7 ?_); refine wpList_put_h O 0 (M.mat 7 (WD.wn c0 c1)) rfl rfl rfl (sW _) (M.mat_len2 _ _ _) (M.mat_one _ _) ?_; clear O; intro w7 O) | ((with_reducible refine at_load 67 ?_); refine wpList_cell_h (v := .int .i64 c0) rfl O 0 rfl (show (M.mat 7 (WD.wn c0 c1))[0]? = _ from rfl) rfl agg3 rfl ?_) | ((with_reducible refine at_index_ 70 ?_); refine wpList_ino rfl Try.underlying33 sizeOfi8 (by decide) (0) rfl rfl (by rfl) (by omega) ?_) | ((with_reducible refine at_load 71 ?_); refine wpList_cell_h (v := .int .i8 d0) rfl O 2 rfl (i := 2) rfl rfl aggi8 rfl ?_) | ((with_reducible refine at_load 76 ?_); refine wpList_cell_h (v := .int .i64 c1) rfl O 0 rfl (show (M.mat 7 (WD.wn c0 c1))[1]? = _ from rfl) rfl agg3 rfl ?_) | ((with_reducible refine at_index_ 79 ?_); refine wpList_ino rfl Try.underlying33 sizeOfi8 (by decide) (1) rfl rfl (by rfl) (by omega) ?_) | ((with_reducible refine at_load 80 ?_); refine wpList_cell_h (v := .int .i8 d1) rfl O 2 rfl (i := 3) rfl rfl aggi8 rfl ?_) | ((with_reducible refine at_build 84 ?_); refine wpList_build_g rfl ([(0, .int .i64 b0), (1, .int .i64 b1)]) ((M.mat 7 (WD.wn b0 b1)).toArray) ?_ (builtW17 _ _) ?_; (focus (simp only [List.map_toArray, List.map_cons, List.map_nil]; rfl))) | ((with_reducible refine at_alloc 8 ?_); refine wpList_alloc_h O (M.mat 7 M.zero) zeroW17 ?_; clear O; intro g8 w8 O) | ((with_reducible refine at_store 8 ?_); refine wpList_put_h O 0 (M.mat 7 (WD.wn b0 b1)) rfl rfl rfl (sW _) (M.mat_len2 _ _ _) (M.mat_one _ _) ?_; clear O; intro w9 O) | ((with_reducible refine at_build 85 ?_); refine wpList_build_g rfl ([(0, .int .i64 (-400)), (1, .int .i64 (-400)), (2, .int .i64 400), (3, .int .i64 400)]) ((M.mat 4 (RC.mk (-400) (-400) 400 400)).toArray) ?_ (builtR17 _ _ _ _) ?_; (focus (simp only [List.map_toArray, List.map_cons, List.map_nil]; rfl))) | ((with_reducible refine at_alloc 9 ?_); refine wpList_alloc_h O (M.mat 4 M.zero) zeroR ?_; clear O; intro g9 w10 O) | ((with_reducible refine at_store 9 ?_); refine wpList_put_h O 0 (M.mat 4 (RC.mk (-400) (-400) 400 400)) rfl rfl rfl (sR _) (M.mat_len2 _ _ _) (M.mat_one _ _) ?_; clear O; intro w11 O) | ((with_reducible refine at_load 87 ?_); refine wpList_rowg_h rfl O 3 rfl rfl Try.underlying25 rfl (sW _) ?_) | ((with_reducible refine at_load 88 ?_); refine wpList_rowg_h rfl O 1 rfl rfl Try.underlying25 rfl (sW _) ?_) | ((with_reducible refine at_load 91 ?_); refine wpList_cell_h (v := .bool s) rfl O 4 rfl (i := 10) rfl rfl agg4' rfl ?_) | ((with_reducible refine at_load 93 ?_); refine wpList_mid_h rfl O 4 rfl (M.mat 3 d) (pt_dash x y d0 d1 m k u d s) rfl Try.underlying27 rfl (sH _) ?_) | ((with_reducible refine at_load 94 ?_); refine wpList_rowg_h rfl O 0 rfl rfl Try.underlying29 rfl (sR _) ?_) | (go_at_call 11; clear tk0; have tk1 : True := trivial; refine (CL _).mono ?_; rintro e w12 ⟨XA, xc, rfl, hV, hb⟩; have O2 := O.gain hb hV; clear O hb hV; have O := O2; clear O2) | ((with_reducible refine at_alloc 11 ?_); refine wpList_alloc_h O (M.mat 3 M.zero) zeroH ?_; clear O; intro g11 w13 O) | ((with_reducible refine at_store 11 ?_); refine wpList_put_h O 0 (M.mat 3 (dx)) rfl rfl rfl (sH _) (M.mat_len2 _ _ _) (M.mat_one _ _) ?_; clear O; intro w14 O) | ((with_reducible refine at_load 99 ?_); refine wpList_rowg_h rfl O 4 rfl rfl Try.underlying25 rfl (sW _) ?_) | ((with_reducible refine at_load 100 ?_); refine wpList_rowg_h rfl O 3 rfl rfl Try.underlying25 rfl (sW _) ?_) | ((with_reducible refine at_load 103 ?_); refine wpList_cell_h (v := .bool s) rfl O 5 rfl (i := 10) rfl rfl agg4' rfl ?_) | ((with_reducible refine at_load 105 ?_); refine wpList_mid_h rfl O 5 rfl (M.mat 3 d) (pt_dash x y d0 d1 m k u d s) rfl Try.underlying27 rfl (sH _) ?_) | ((with_reducible refine at_load 106 ?_); refine wpList_rowg_h rfl O 1 rfl rfl Try.underlying29 rfl (sR _) ?_) | (go_at_call 11; clear tk1; have tk2 : True := trivial; refine (CP _).mono ?_; rintro e w15 ⟨YA, yc, rfl, hV, hb⟩; have O2 := O.gain hb hV; clear O hb hV; have O := O2; clear O2) | ((with_reducible refine at_alloc 13 ?_); refine wpList_alloc_h O (M.mat 3 M.zero) zeroH ?_; clear O; intro g13 w16 O) | ((with_reducible refine at_store 13 ?_); refine wpList_put_h O 0 (M.mat 3 (ee)) rfl rfl rfl (sH _) (M.mat_len2 _ _ _) (M.mat_one _ _) ?_; clear O; intro w17 O) | ((with_reducible refine at_load 111 ?_); refine wpList_rowg_h rfl O 4 rfl rfl Try.underlying25 rfl (sW _) ?_) | ((with_reducible refine at_load 112 ?_); refine wpList_rowg_h rfl O 3 rfl rfl Try.underlying25 rfl (sW _) ?_) | ((with_reducible refine at_load 115 ?_); refine wpList_cell_h (v := .bool s) rfl O 6 rfl (i := 10) rfl rfl agg4' rfl ?_) | ((with_reducible refine at_load 116 ?_); refine wpList_rowg_h rfl O 0 rfl rfl Try.underlying27 rfl (sH _) ?_) | ((with_reducible refine at_load 117 ?_); refine wpList_rowg_h rfl O 2 rfl rfl Try.underlying29 rfl (sR _) ?_) | (go_at_call 11; clear tk2; have tk3 : True := trivial; refine (CQ _).mono ?_; rintro e w18 ⟨ZA, zc, rfl, hV, hb⟩; have O2 := O.gain hb hV; clear O hb hV; have O := O2; clear O2) | ((with_reducible refine at_alloc 15 ?_); refine wpList_alloc_h O (M.mat 3 M.zero) zeroH ?_; clear O; intro g15 w19 O) | ((with_reducible refine at_store 15 ?_); refine wpList_put_h O 0 (M.mat 3 (df)) rfl rfl rfl (sH _) (M.mat_len2 _ _ _) (M.mat_one _ _) ?_; clear O; intro w20 O) | (go_at_call 9; refine (awake_any _).mono ?_; rintro e w30 ⟨rfl, hb⟩; replace O := O.call hb; clear hb))
    go_ret
    exact ⟨rfl, O.below⟩
  have y9 : (kk == 0) = false := by simp [hk0]
  have y8 : decide (kk = 0) = false := decide_eq_false hk0
  have y7 : (kk = 0) = False := eq_false hk0
  clear hk0
  obtain ⟨zz, hzz⟩ : ∃ z, (d0 == 0 && d1 == 0) = z := ⟨_, rfl⟩
  have HD0 := Lib.hid hzz
  clear mb kb ub hn hzz
  cases zz
  rotate_left
  · go_enter Try.func5, Try.ntmps5
    go_wp2_with (first | ((with_reducible refine at_box 1 ?_); refine wpList_box_h O (pt x y d0 d1 m k u d s) rfl ?_; clear O; intro g1 w1 O) | ((with_reducible refine at_load 19 ?_); refine wpList_mid_h rfl O 0 rfl (M.mat 3 d) (pt_dash x y d0 d1 m k u d s) rfl Try.underlying27 rfl (sH _) ?_) | (go_at_call 13; refine (CR _).mono ?_; rintro e w2 ⟨rfl, hb⟩; replace O := O.call hb; clear hb))
    have OX : Held w w2 [(g1, 50, pt x y d0 d1 m k u d s)] nilRow [] := O
    clear O CR
    have O := OX
    clear OX
    have OO := O
    clear O
    have O := OO
    clear OO
    refine region_T ((fun w2 => Held w w2 [(g1, 50, pt x y d0 d1 m k u d s)] nilRow [])) [0, 1, 2, 3, 4, 5, 6, 7, 8, 9, 10, 11, 12, 13, 14, 15, 16] 12 [some 23, some 24, some 25, some 26, some 27, some 28, some 29, some 30, some 31, some 32, some 33, some 34, some 35, some 36, some 37, some 3, some 4] [.pointer (some ⟨g1, 4, none⟩), .pointer (some ⟨g1, 4, none⟩), .int .u8 m, .int .u8 mm, .int .i64 (mm), .pointer (some ⟨g1, 4, none⟩), .pointer (some ⟨g1, 5, none⟩), .int .u8 k, .int .u8 kk, .int .i64 (kk), .pointer (some ⟨g1, 6, none⟩), .int .u8 u, .int .u8 uu, .int .i64 (uu), .int .i64 (n), .int .i64 (mm), .int .i64 (kk)] 1 (by kernel_rfl) (by rfl) (by kernel_rfl) (by rfl) (by rfl) (O.drew) (fun F hF => ?_)
    simp only [fillD, Act.put, List.setIfInBounds_toArray, List.set_cons_zero, List.set_cons_succ] at hF
    subst hF
    refine ⟨⟨does_want rfl (by rfl) (fun w' O K hK => ?_), does_want rfl (by rfl) (fun w' O K hK => ?_), does_want rfl (by rfl) (fun w' O K hK => ?_), does_want rfl (by rfl) (fun w' O K hK => ?_), does_want rfl (by rfl) (fun w' O K hK => ?_), does_want rfl (by rfl) (fun w' O K hK => ?_), does_want rfl (by rfl) (fun w' O K hK => ?_), does_want rfl (by rfl) (fun w' O K hK => ?_), does_want rfl (by rfl) (fun w' O K hK => ?_), does_want rfl (by rfl) (fun w' O K hK => ?_), does_want rfl (by rfl) (fun w' O K hK => ?_), does_want rfl (by rfl) (fun w' O K hK => ?_), does_want rfl (by rfl) (fun w' O K hK => ?_), does_want rfl (by rfl) (fun w' O K hK => ?_), does_want rfl (by rfl) (fun w' O K hK => ?_), does_want rfl (by rfl) (fun w' O K hK => ?_), does_want rfl (by rfl) (fun w' O K hK => ?_), trivial⟩, fun w' O => ?_⟩
    · go_simp
      exact hK _ O
    · first | (go_simp; exact hK _ O) | exact wp_ino Try.underlying48 sizeOf5 (by decide) 0 rfl rfl (by omega) (by omega) (hK _ O)
    · exact wp_cell_h (v := .int .u8 m) O 0 (i := 4) rfl rfl rfl agg5 rfl (hK _ O)
    · obtain ⟨e1, e2, e3, e4⟩ := Hm.out
      go_simp
      first | exact hK _ O | (rw [e4]; exact hK _ O) | (rw [e4, e2]; exact hK _ O) | (rw [e1]; exact hK _ O) | (rw [e1, e2]; exact hK _ O) | (simp only [e1, e2, e3]; exact hK _ O) | (rw [e3]; exact hK _ O)
    · obtain ⟨e1, e2, e3, e4⟩ := Hm.out
      go_simp
      first | exact hK _ O | (rw [e4]; exact hK _ O) | (rw [e4, e2]; exact hK _ O) | (rw [e1]; exact hK _ O) | (rw [e1, e2]; exact hK _ O) | (simp only [e1, e2, e3]; exact hK _ O) | (rw [e3]; exact hK _ O)
    · go_simp
      exact hK _ O
    · first | (go_simp; exact hK _ O) | exact wp_ino Try.underlying48 sizeOf5 (by decide) 1 rfl rfl (by omega) (by omega) (hK _ O)
    · exact wp_cell_h (v := .int .u8 k) O 0 (i := 5) rfl rfl rfl agg5 rfl (hK _ O)
    · obtain ⟨e1, e2, e3, e4⟩ := Hk.out
      go_simp
      first | exact hK _ O | (rw [e4]; exact hK _ O) | (rw [e4, e2]; exact hK _ O) | (rw [e1]; exact hK _ O) | (rw [e1, e2]; exact hK _ O) | (simp only [e1, e2, e3]; exact hK _ O) | (rw [e3]; exact hK _ O)
    · obtain ⟨e1, e2, e3, e4⟩ := Hk.out
      go_simp
      first | exact hK _ O | (rw [e4]; exact hK _ O) | (rw [e4, e2]; exact hK _ O) | (rw [e1]; exact hK _ O) | (rw [e1, e2]; exact hK _ O) | (simp only [e1, e2, e3]; exact hK _ O) | (rw [e3]; exact hK _ O)
    · go_simp
      exact hK _ O
    · exact wp_cell_h (v := .int .u8 u) O 0 (i := 6) rfl rfl rfl agg5 rfl (hK _ O)
    · obtain ⟨e1, e2, e3, e4⟩ := Hu.out
      go_simp
      first | exact hK _ O | (rw [e4]; exact hK _ O) | (rw [e4, e2]; exact hK _ O) | (rw [e1]; exact hK _ O) | (rw [e1, e2]; exact hK _ O) | (simp only [e1, e2, e3]; exact hK _ O) | (rw [e3]; exact hK _ O)
    · obtain ⟨e1, e2, e3, e4⟩ := Hu.out
      go_simp
      first | exact hK _ O | (rw [e4]; exact hK _ O) | (rw [e4, e2]; exact hK _ O) | (rw [e1]; exact hK _ O) | (rw [e1, e2]; exact hK _ O) | (simp only [e1, e2, e3]; exact hK _ O) | (rw [e3]; exact hK _ O)
    · obtain ⟨e1, e2⟩ := Hn.out
      go_simp
      first | exact hK _ O | (rw [e1]; exact hK _ O) | (rw [e1, e2]; exact hK _ O) | (simp only [e1, e2]; exact hK _ O)
    · go_simp
      exact hK _ O
    · go_simp
      exact hK _ O
    refine wpAny_one (i := 17) (by kernel_rfl) rfl (fun K hK => ?_)
    go_simp
    refine hK _ _ ?_
    clear hK K
    try simp only [Act.put, List.setIfInBounds_toArray, List.set_cons_zero, List.set_cons_succ]
    refine wpAny_done (by kernel_rfl) ?_ _
    clear Hm Hk Hu Hn
    have W1 := FW.out.1
    have W2 := FW.out.2.1
    have W3 := FW.out.2.2.1
    have W4 := FW.out.2.2.2.1
    have W5 := FW.out.2.2.2.2.1
    have W6 := FW.out.2.2.2.2.2.1
    have W7 := FW.out.2.2.2.2.2.2.1
    have W8 := FW.out.2.2.2.2.2.2.2.1
    have W9 := FW.out.2.2.2.2.2.2.2.2.1
    have W10 := FW.out.2.2.2.2.2.2.2.2.2.1
    have W11 := FW.out.2.2.2.2.2.2.2.2.2.2.1
    have W12 := FW.out.2.2.2.2.2.2.2.2.2.2.2
    go_wp2_with (first | ((with_reducible refine at_index_ 39 ?_); refine wpList_ino rfl Try.underlying47 sizeOfi16 (by decide) (0) rfl rfl (by rfl) (by omega) ?_) | ((with_reducible refine at_load 40 ?_); refine wpList_cell_h (v := .int .i16 x) rfl O 0 rfl (i := 0) rfl rfl aggi16 rfl ?_) | ((with_reducible refine at_index_ 43 ?_); refine wpList_ino rfl Try.underlying47 sizeOfi16 (by decide) (1) rfl rfl (by rfl) (by omega) ?_) | ((with_reducible refine at_load 44 ?_); refine wpList_cell_h (v := .int .i16 y) rfl O 0 rfl (i := 1) rfl rfl aggi16 rfl ?_) | ((with_reducible refine at_build 46 ?_); refine wpList_build_g rfl ([(0, .int .i64 x), (1, .int .i64 y)]) ((M.mat 7 (WD.wn x y)).toArray) ?_ (builtW17 _ _) ?_; (focus (simp only [List.map_toArray, List.map_cons, List.map_nil]; rfl))) | ((with_reducible refine at_alloc 6 ?_); refine wpList_alloc_h O (M.mat 7 M.zero) zeroW17 ?_; clear O; intro g6 w4 O) | ((with_reducible refine at_store 6 ?_); refine wpList_put_h O 0 (M.mat 7 (WD.wn x y)) rfl rfl rfl (sW _) (M.mat_len2 _ _ _) (M.mat_one _ _) ?_; clear O; intro w5 O) | ((with_reducible refine at_load 48 ?_); refine wpList_cell_h (v := .int .i64 x) rfl O 0 rfl (show (M.mat 7 (WD.wn x y))[0]? = _ from rfl) rfl agg3 rfl ?_) | ((with_reducible refine at_index_ 51 ?_); refine wpList_ino rfl Try.underlying33 sizeOfi8 (by decide) (0) rfl rfl (by rfl) (by omega) ?_) | ((with_reducible refine at_load 52 ?_); refine wpList_cell_h (v := .int .i8 d0) rfl O 1 rfl (i := 2) rfl rfl aggi8 rfl ?_) | ((with_reducible refine at_load 57 ?_); refine wpList_cell_h (v := .int .i64 y) rfl O 0 rfl (show (M.mat 7 (WD.wn x y))[1]? = _ from rfl) rfl agg3 rfl ?_) | ((with_reducible refine at_index_ 60 ?_); refine wpList_ino rfl Try.underlying33 sizeOfi8 (by decide) (1) rfl rfl (by rfl) (by omega) ?_) | ((with_reducible refine at_load 61 ?_); refine wpList_cell_h (v := .int .i8 d1) rfl O 1 rfl (i := 3) rfl rfl aggi8 rfl ?_) | ((with_reducible refine at_build 65 ?_); refine wpList_build_g rfl ([(0, .int .i64 c0), (1, .int .i64 c1)]) ((M.mat 7 (WD.wn c0 c1)).toArray) ?_ (builtW17 _ _) ?_; (focus (simp only [List.map_toArray, List.map_cons, List.map_nil]; rfl))) | ((with_reducible refine at_alloc 7 ?_); refine wpList_alloc_h O (M.mat 7 M.zero) zeroW17 ?_; clear O; intro g7 w6 O) | ((with_reducible refine at_store 7 ?_); refine wpList_put_h O 0 (M.mat 7 (WD.wn c0 c1)) rfl rfl rfl (sW _) (M.mat_len2 _ _ _) (M.mat_one _ _) ?_; clear O; intro w7 O) | ((with_reducible refine at_load 67 ?_); refine wpList_cell_h (v := .int .i64 c0) rfl O 0 rfl (show (M.mat 7 (WD.wn c0 c1))[0]? = _ from rfl) rfl agg3 rfl ?_) | ((with_reducible refine at_index_ 70 ?_); refine wpList_ino rfl Try.underlying33 sizeOfi8 (by decide) (0) rfl rfl (by rfl) (by omega) ?_) | ((with_reducible refine at_load 71 ?_); refine wpList_cell_h (v := .int .i8 d0) rfl O 2 rfl (i := 2) rfl rfl aggi8 rfl ?_) | ((with_reducible refine at_load 76 ?_); refine wpList_cell_h (v := .int .i64 c1) rfl O 0 rfl (show (M.mat 7 (WD.wn c0 c1))[1]? = _ from rfl) rfl agg3 rfl ?_) | ((with_reducible refine at_index_ 79 ?_); refine wpList_ino rfl Try.underlying33 sizeOfi8 (by decide) (1) rfl rfl (by rfl) (by omega) ?_) | ((with_reducible refine at_load 80 ?_); refine wpList_cell_h (v := .int .i8 d1) rfl O 2 rfl (i := 3) rfl rfl aggi8 rfl ?_) | ((with_reducible refine at_build 84 ?_); refine wpList_build_g rfl ([(0, .int .i64 b0), (1, .int .i64 b1)]) ((M.mat 7 (WD.wn b0 b1)).toArray) ?_ (builtW17 _ _) ?_; (focus (simp only [List.map_toArray, List.map_cons, List.map_nil]; rfl))) | ((with_reducible refine at_alloc 8 ?_); refine wpList_alloc_h O (M.mat 7 M.zero) zeroW17 ?_; clear O; intro g8 w8 O) | ((with_reducible refine at_store 8 ?_); refine wpList_put_h O 0 (M.mat 7 (WD.wn b0 b1)) rfl rfl rfl (sW _) (M.mat_len2 _ _ _) (M.mat_one _ _) ?_; clear O; intro w9 O) | ((with_reducible refine at_build 85 ?_); refine wpList_build_g rfl ([(0, .int .i64 (-400)), (1, .int .i64 (-400)), (2, .int .i64 400), (3, .int .i64 400)]) ((M.mat 4 (RC.mk (-400) (-400) 400 400)).toArray) ?_ (builtR17 _ _ _ _) ?_; (focus (simp only [List.map_toArray, List.map_cons, List.map_nil]; rfl))) | ((with_reducible refine at_alloc 9 ?_); refine wpList_alloc_h O (M.mat 4 M.zero) zeroR ?_; clear O; intro g9 w10 O) | ((with_reducible refine at_store 9 ?_); refine wpList_put_h O 0 (M.mat 4 (RC.mk (-400) (-400) 400 400)) rfl rfl rfl (sR _) (M.mat_len2 _ _ _) (M.mat_one _ _) ?_; clear O; intro w11 O) | ((with_reducible refine at_load 87 ?_); refine wpList_rowg_h rfl O 3 rfl rfl Try.underlying25 rfl (sW _) ?_) | ((with_reducible refine at_load 88 ?_); refine wpList_rowg_h rfl O 1 rfl rfl Try.underlying25 rfl (sW _) ?_) | ((with_reducible refine at_load 91 ?_); refine wpList_cell_h (v := .bool s) rfl O 4 rfl (i := 10) rfl rfl agg4' rfl ?_) | ((with_reducible refine at_load 93 ?_); refine wpList_mid_h rfl O 4 rfl (M.mat 3 d) (pt_dash x y d0 d1 m k u d s) rfl Try.underlying27 rfl (sH _) ?_) | ((with_reducible refine at_load 94 ?_); refine wpList_rowg_h rfl O 0 rfl rfl Try.underlying29 rfl (sR _) ?_) | (go_at_call 11; clear tk0; have tk1 : True := trivial; refine (CL _).mono ?_; rintro e w12 ⟨XA, xc, rfl, hV, hb⟩; have O2 := O.gain hb hV; clear O hb hV; have O := O2; clear O2) | ((with_reducible refine at_alloc 11 ?_); refine wpList_alloc_h O (M.mat 3 M.zero) zeroH ?_; clear O; intro g11 w13 O) | ((with_reducible refine at_store 11 ?_); refine wpList_put_h O 0 (M.mat 3 (dx)) rfl rfl rfl (sH _) (M.mat_len2 _ _ _) (M.mat_one _ _) ?_; clear O; intro w14 O) | ((with_reducible refine at_load 99 ?_); refine wpList_rowg_h rfl O 4 rfl rfl Try.underlying25 rfl (sW _) ?_) | ((with_reducible refine at_load 100 ?_); refine wpList_rowg_h rfl O 3 rfl rfl Try.underlying25 rfl (sW _) ?_) | ((with_reducible refine at_load 103 ?_); refine wpList_cell_h (v := .bool s) rfl O 5 rfl (i := 10) rfl rfl agg4' rfl ?_) | ((with_reducible refine at_load 105 ?_); refine wpList_mid_h rfl O 5 rfl (M.mat 3 d) (pt_dash x y d0 d1 m k u d s) rfl Try.underlying27 rfl (sH _) ?_) | ((with_reducible refine at_load 106 ?_); refine wpList_rowg_h rfl O 1 rfl rfl Try.underlying29 rfl (sR _) ?_) | (go_at_call 11; clear tk1; have tk2 : True := trivial; refine (CP _).mono ?_; rintro e w15 ⟨YA, yc, rfl, hV, hb⟩; have O2 := O.gain hb hV; clear O hb hV; have O := O2; clear O2) | ((with_reducible refine at_alloc 13 ?_); refine wpList_alloc_h O (M.mat 3 M.zero) zeroH ?_; clear O; intro g13 w16 O) | ((with_reducible refine at_store 13 ?_); refine wpList_put_h O 0 (M.mat 3 (ee)) rfl rfl rfl (sH _) (M.mat_len2 _ _ _) (M.mat_one _ _) ?_; clear O; intro w17 O) | ((with_reducible refine at_load 111 ?_); refine wpList_rowg_h rfl O 4 rfl rfl Try.underlying25 rfl (sW _) ?_) | ((with_reducible refine at_load 112 ?_); refine wpList_rowg_h rfl O 3 rfl rfl Try.underlying25 rfl (sW _) ?_) | ((with_reducible refine at_load 115 ?_); refine wpList_cell_h (v := .bool s) rfl O 6 rfl (i := 10) rfl rfl agg4' rfl ?_) | ((with_reducible refine at_load 116 ?_); refine wpList_rowg_h rfl O 0 rfl rfl Try.underlying27 rfl (sH _) ?_) | ((with_reducible refine at_load 117 ?_); refine wpList_rowg_h rfl O 2 rfl rfl Try.underlying29 rfl (sR _) ?_) | (go_at_call 11; clear tk2; have tk3 : True := trivial; refine (CQ _).mono ?_; rintro e w18 ⟨ZA, zc, rfl, hV, hb⟩; have O2 := O.gain hb hV; clear O hb hV; have O := O2; clear O2) | ((with_reducible refine at_alloc 15 ?_); refine wpList_alloc_h O (M.mat 3 M.zero) zeroH ?_; clear O; intro g15 w19 O) | ((with_reducible refine at_store 15 ?_); refine wpList_put_h O 0 (M.mat 3 (df)) rfl rfl rfl (sH _) (M.mat_len2 _ _ _) (M.mat_one _ _) ?_; clear O; intro w20 O) | ((with_reducible refine at_load 129 ?_); refine wpList_mid_h rfl O 7 rfl (two .i8 d0 d1) (pt_d x y d0 d1 m k u d s) rfl Try.underlying33 rfl (s2i8 _ _) ?_) | ((with_reducible refine at_build 130 ?_); refine wpList_build_g rfl ([]) ((two .i8 0 0).toArray) ?_ (built2i8) ?_; (focus (simp only [List.map_toArray, List.map_cons, List.map_nil]; rfl))) | ((with_reducible refine at_binOp 131 ?_); refine wpList_eq2i8 rfl d0 d1 0 0 rfl rfl ?_; rw [HD0.out]) | (go_at_call 9; refine (awake_any _).mono ?_; rintro e w30 ⟨rfl, hb⟩; replace O := O.call hb; clear hb))
    go_ret
    exact ⟨rfl, O.below⟩
  cases s
  · obtain ⟨hx1, hx2⟩ := HOFF.out rfl
    have HX1 : Hid ((!M.eqB 3 dx d) = false) := Lib.hid (by rw [hx1, M.eqB_refl]; rfl)
    have HX2 : Hid ((!M.eqB 3 ee d) = false) := Lib.hid (by rw [hx2, M.eqB_refl]; rfl)
    clear HOFF hx1 hx2
    go_enter Try.func5, Try.ntmps5
    go_wp2_with (first | ((with_reducible refine at_box 1 ?_); refine wpList_box_h O (pt x y d0 d1 m k u d false) rfl ?_; clear O; intro g1 w1 O) | ((with_reducible refine at_load 19 ?_); refine wpList_mid_h rfl O 0 rfl (M.mat 3 d) (pt_dash x y d0 d1 m k u d false) rfl Try.underlying27 rfl (sH _) ?_) | (go_at_call 13; refine (CR _).mono ?_; rintro e w2 ⟨rfl, hb⟩; replace O := O.call hb; clear hb))
    have OX : Held w w2 [(g1, 50, pt x y d0 d1 m k u d false)] nilRow [] := O
    clear O CR
    have O := OX
    clear OX
    have OO := O
    clear O
    have O := OO
    clear OO
    refine region_T ((fun w2 => Held w w2 [(g1, 50, pt x y d0 d1 m k u d false)] nilRow [])) [0, 1, 2, 3, 4, 5, 6, 7, 8, 9, 10, 11, 12, 13, 14, 15, 16] 12 [some 23, some 24, some 25, some 26, some 27, some 28, some 29, some 30, some 31, some 32, some 33, some 34, some 35, some 36, some 37, some 3, some 4] [.pointer (some ⟨g1, 4, none⟩), .pointer (some ⟨g1, 4, none⟩), .int .u8 m, .int .u8 mm, .int .i64 (mm), .pointer (some ⟨g1, 4, none⟩), .pointer (some ⟨g1, 5, none⟩), .int .u8 k, .int .u8 kk, .int .i64 (kk), .pointer (some ⟨g1, 6, none⟩), .int .u8 u, .int .u8 uu, .int .i64 (uu), .int .i64 (n), .int .i64 (mm), .int .i64 (kk)] 1 (by kernel_rfl) (by rfl) (by kernel_rfl) (by rfl) (by rfl) (O.drew) (fun F hF => ?_)
    simp only [fillD, Act.put, List.setIfInBounds_toArray, List.set_cons_zero, List.set_cons_succ] at hF
    subst hF
    refine ⟨⟨does_want rfl (by rfl) (fun w' O K hK => ?_), does_want rfl (by rfl) (fun w' O K hK => ?_), does_want rfl (by rfl) (fun w' O K hK => ?_), does_want rfl (by rfl) (fun w' O K hK => ?_), does_want rfl (by rfl) (fun w' O K hK => ?_), does_want rfl (by rfl) (fun w' O K hK => ?_), does_want rfl (by rfl) (fun w' O K hK => ?_), does_want rfl (by rfl) (fun w' O K hK => ?_), does_want rfl (by rfl) (fun w' O K hK => ?_), does_want rfl (by rfl) (fun w' O K hK => ?_), does_want rfl (by rfl) (fun w' O K hK => ?_), does_want rfl (by rfl) (fun w' O K hK => ?_), does_want rfl (by rfl) (fun w' O K hK => ?_), does_want rfl (by rfl) (fun w' O K hK => ?_), does_want rfl (by rfl) (fun w' O K hK => ?_), does_want rfl (by rfl) (fun w' O K hK => ?_), does_want rfl (by rfl) (fun w' O K hK => ?_), trivial⟩, fun w' O => ?_⟩
    · go_simp
      exact hK _ O
    · first | (go_simp; exact hK _ O) | exact wp_ino Try.underlying48 sizeOf5 (by decide) 0 rfl rfl (by omega) (by omega) (hK _ O)
    · exact wp_cell_h (v := .int .u8 m) O 0 (i := 4) rfl rfl rfl agg5 rfl (hK _ O)
    · obtain ⟨e1, e2, e3, e4⟩ := Hm.out
      go_simp
      first | exact hK _ O | (rw [e4]; exact hK _ O) | (rw [e4, e2]; exact hK _ O) | (rw [e1]; exact hK _ O) | (rw [e1, e2]; exact hK _ O) | (simp only [e1, e2, e3]; exact hK _ O) | (rw [e3]; exact hK _ O)
    · obtain ⟨e1, e2, e3, e4⟩ := Hm.out
      go_simp
      first | exact hK _ O | (rw [e4]; exact hK _ O) | (rw [e4, e2]; exact hK _ O) | (rw [e1]; exact hK _ O) | (rw [e1, e2]; exact hK _ O) | (simp only [e1, e2, e3]; exact hK _ O) | (rw [e3]; exact hK _ O)
    · go_simp
      exact hK _ O
    · first | (go_simp; exact hK _ O) | exact wp_ino Try.underlying48 sizeOf5 (by decide) 1 rfl rfl (by omega) (by omega) (hK _ O)
    · exact wp_cell_h (v := .int .u8 k) O 0 (i := 5) rfl rfl rfl agg5 rfl (hK _ O)
    · obtain ⟨e1, e2, e3, e4⟩ := Hk.out
      go_simp
      first | exact hK _ O | (rw [e4]; exact hK _ O) | (rw [e4, e2]; exact hK _ O) | (rw [e1]; exact hK _ O) | (rw [e1, e2]; exact hK _ O) | (simp only [e1, e2, e3]; exact hK _ O) | (rw [e3]; exact hK _ O)
    · obtain ⟨e1, e2, e3, e4⟩ := Hk.out
      go_simp
      first | exact hK _ O | (rw [e4]; exact hK _ O) | (rw [e4, e2]; exact hK _ O) | (rw [e1]; exact hK _ O) | (rw [e1, e2]; exact hK _ O) | (simp only [e1, e2, e3]; exact hK _ O) | (rw [e3]; exact hK _ O)
    · go_simp
      exact hK _ O
    · exact wp_cell_h (v := .int .u8 u) O 0 (i := 6) rfl rfl rfl agg5 rfl (hK _ O)
    · obtain ⟨e1, e2, e3, e4⟩ := Hu.out
      go_simp
      first | exact hK _ O | (rw [e4]; exact hK _ O) | (rw [e4, e2]; exact hK _ O) | (rw [e1]; exact hK _ O) | (rw [e1, e2]; exact hK _ O) | (simp only [e1, e2, e3]; exact hK _ O) | (rw [e3]; exact hK _ O)
    · obtain ⟨e1, e2, e3, e4⟩ := Hu.out
      go_simp
      first | exact hK _ O | (rw [e4]; exact hK _ O) | (rw [e4, e2]; exact hK _ O) | (rw [e1]; exact hK _ O) | (rw [e1, e2]; exact hK _ O) | (simp only [e1, e2, e3]; exact hK _ O) | (rw [e3]; exact hK _ O)
    · obtain ⟨e1, e2⟩ := Hn.out
      go_simp
      first | exact hK _ O | (rw [e1]; exact hK _ O) | (rw [e1, e2]; exact hK _ O) | (simp only [e1, e2]; exact hK _ O)
    · go_simp
      exact hK _ O
    · go_simp
      exact hK _ O
    refine wpAny_one (i := 17) (by kernel_rfl) rfl (fun K hK => ?_)
    go_simp
    refine hK _ _ ?_
    clear hK K
    try simp only [Act.put, List.setIfInBounds_toArray, List.set_cons_zero, List.set_cons_succ]
    refine wpAny_done (by kernel_rfl) ?_ _
    clear Hm Hk Hu Hn
    have W1 := FW.out.1
    have W2 := FW.out.2.1
    have W3 := FW.out.2.2.1
    have W4 := FW.out.2.2.2.1
    have W5 := FW.out.2.2.2.2.1
    have W6 := FW.out.2.2.2.2.2.1
    have W7 := FW.out.2.2.2.2.2.2.1
    have W8 := FW.out.2.2.2.2.2.2.2.1
    have W9 := FW.out.2.2.2.2.2.2.2.2.1
    have W10 := FW.out.2.2.2.2.2.2.2.2.2.1
    have W11 := FW.out.2.2.2.2.2.2.2.2.2.2.1
    have W12 := FW.out.2.2.2.2.2.2.2.2.2.2.2
    go_wp2_with (first | ((with_reducible refine at_index_ 39 ?_); refine wpList_ino rfl Try.underlying47 sizeOfi16 (by decide) (0) rfl rfl (by rfl) (by omega) ?_) | ((with_reducible refine at_load 40 ?_); refine wpList_cell_h (v := .int .i16 x) rfl O 0 rfl (i := 0) rfl rfl aggi16 rfl ?_) | ((with_reducible refine at_index_ 43 ?_); refine wpList_ino rfl Try.underlying47 sizeOfi16 (by decide) (1) rfl rfl (by rfl) (by omega) ?_) | ((with_reducible refine at_load 44 ?_); refine wpList_cell_h (v := .int .i16 y) rfl O 0 rfl (i := 1) rfl rfl aggi16 rfl ?_) | ((with_reducible refine at_build 46 ?_); refine wpList_build_g rfl ([(0, .int .i64 x), (1, .int .i64 y)]) ((M.mat 7 (WD.wn x y)).toArray) ?_ (builtW17 _ _) ?_; (focus (simp only [List.map_toArray, List.map_cons, List.map_nil]; rfl))) | ((with_reducible refine at_alloc 6 ?_); refine wpList_alloc_h O (M.mat 7 M.zero) zeroW17 ?_; clear O; intro g6 w4 O) | ((with_reducible refine at_store 6 ?_); refine wpList_put_h O 0 (M.mat 7 (WD.wn x y)) rfl rfl rfl (sW _) (M.mat_len2 _ _ _) (M.mat_one _ _) ?_; clear O; intro w5 O) | ((with_reducible refine at_load 48 ?_); refine wpList_cell_h (v := .int .i64 x) rfl O 0 rfl (show (M.mat 7 (WD.wn x y))[0]? = _ from rfl) rfl agg3 rfl ?_) | ((with_reducible refine at_index_ 51 ?_); refine wpList_ino rfl Try.underlying33 sizeOfi8 (by decide) (0) rfl rfl (by rfl) (by omega) ?_) | ((with_reducible refine at_load 52 ?_); refine wpList_cell_h (v := .int .i8 d0) rfl O 1 rfl (i := 2) rfl rfl aggi8 rfl ?_) | ((with_reducible refine at_load 57 ?_); refine wpList_cell_h (v := .int .i64 y) rfl O 0 rfl (show (M.mat 7 (WD.wn x y))[1]? = _ from rfl) rfl agg3 rfl ?_) | ((with_reducible refine at_index_ 60 ?_); refine wpList_ino rfl Try.underlying33 sizeOfi8 (by decide) (1) rfl rfl (by rfl) (by omega) ?_) | ((with_reducible refine at_load 61 ?_); refine wpList_cell_h (v := .int .i8 d1) rfl O 1 rfl (i := 3) rfl rfl aggi8 rfl ?_) | ((with_reducible refine at_build 65 ?_); refine wpList_build_g rfl ([(0, .int .i64 c0), (1, .int .i64 c1)]) ((M.mat 7 (WD.wn c0 c1)).toArray) ?_ (builtW17 _ _) ?_; (focus (simp only [List.map_toArray, List.map_cons, List.map_nil]; rfl))) | ((with_reducible refine at_alloc 7 ?_); refine wpList_alloc_h O (M.mat 7 M.zero) zeroW17 ?_; clear O; intro g7 w6 O) | ((with_reducible refine at_store 7 ?_); refine wpList_put_h O 0 (M.mat 7 (WD.wn c0 c1)) rfl rfl rfl (sW _) (M.mat_len2 _ _ _) (M.mat_one _ _) ?_; clear O; intro w7 O) | ((with_reducible refine at_load 67 ?_); refine wpList_cell_h (v := .int .i64 c0) rfl O 0 rfl (show (M.mat 7 (WD.wn c0 c1))[0]? = _ from rfl) rfl agg3 rfl ?_) | ((with_reducible refine at_index_ 70 ?_); refine wpList_ino rfl Try.underlying33 sizeOfi8 (by decide) (0) rfl rfl (by rfl) (by omega) ?_) | ((with_reducible refine at_load 71 ?_); refine wpList_cell_h (v := .int .i8 d0) rfl O 2 rfl (i := 2) rfl rfl aggi8 rfl ?_) | ((with_reducible refine at_load 76 ?_); refine wpList_cell_h (v := .int .i64 c1) rfl O 0 rfl (show (M.mat 7 (WD.wn c0 c1))[1]? = _ from rfl) rfl agg3 rfl ?_) | ((with_reducible refine at_index_ 79 ?_); refine wpList_ino rfl Try.underlying33 sizeOfi8 (by decide) (1) rfl rfl (by rfl) (by omega) ?_) | ((with_reducible refine at_load 80 ?_); refine wpList_cell_h (v := .int .i8 d1) rfl O 2 rfl (i := 3) rfl rfl aggi8 rfl ?_) | ((with_reducible refine at_build 84 ?_); refine wpList_build_g rfl ([(0, .int .i64 b0), (1, .int .i64 b1)]) ((M.mat 7 (WD.wn b0 b1)).toArray) ?_ (builtW17 _ _) ?_; (focus (simp only [List.map_toArray, List.map_cons, List.map_nil]; rfl))) | ((with_reducible refine at_alloc 8 ?_); refine wpList_alloc_h O (M.mat 7 M.zero) zeroW17 ?_; clear O; intro g8 w8 O) | ((with_reducible refine at_store 8 ?_); refine wpList_put_h O 0 (M.mat 7 (WD.wn b0 b1)) rfl rfl rfl (sW _) (M.mat_len2 _ _ _) (M.mat_one _ _) ?_; clear O; intro w9 O) | ((with_reducible refine at_build 85 ?_); refine wpList_build_g rfl ([(0, .int .i64 (-400)), (1, .int .i64 (-400)), (2, .int .i64 400), (3, .int .i64 400)]) ((M.mat 4 (RC.mk (-400) (-400) 400 400)).toArray) ?_ (builtR17 _ _ _ _) ?_; (focus (simp only [List.map_toArray, List.map_cons, List.map_nil]; rfl))) | ((with_reducible refine at_alloc 9 ?_); refine wpList_alloc_h O (M.mat 4 M.zero) zeroR ?_; clear O; intro g9 w10 O) | ((with_reducible refine at_store 9 ?_); refine wpList_put_h O 0 (M.mat 4 (RC.mk (-400) (-400) 400 400)) rfl rfl rfl (sR _) (M.mat_len2 _ _ _) (M.mat_one _ _) ?_; clear O; intro w11 O) | ((with_reducible refine at_load 87 ?_); refine wpList_rowg_h rfl O 3 rfl rfl Try.underlying25 rfl (sW _) ?_) | ((with_reducible refine at_load 88 ?_); refine wpList_rowg_h rfl O 1 rfl rfl Try.underlying25 rfl (sW _) ?_) | ((with_reducible refine at_load 91 ?_); refine wpList_cell_h (v := .bool false) rfl O 4 rfl (i := 10) rfl rfl agg4' rfl ?_) | ((with_reducible refine at_load 93 ?_); refine wpList_mid_h rfl O 4 rfl (M.mat 3 d) (pt_dash x y d0 d1 m k u d false) rfl Try.underlying27 rfl (sH _) ?_) | ((with_reducible refine at_load 94 ?_); refine wpList_rowg_h rfl O 0 rfl rfl Try.underlying29 rfl (sR _) ?_) | (go_at_call 11; clear tk0; have tk1 : True := trivial; refine (CL _).mono ?_; rintro e w12 ⟨XA, xc, rfl, hV, hb⟩; have O2 := O.gain hb hV; clear O hb hV; have O := O2; clear O2) | ((with_reducible refine at_alloc 11 ?_); refine wpList_alloc_h O (M.mat 3 M.zero) zeroH ?_; clear O; intro g11 w13 O) | ((with_reducible refine at_store 11 ?_); refine wpList_put_h O 0 (M.mat 3 (dx)) rfl rfl rfl (sH _) (M.mat_len2 _ _ _) (M.mat_one _ _) ?_; clear O; intro w14 O) | ((with_reducible refine at_load 99 ?_); refine wpList_rowg_h rfl O 4 rfl rfl Try.underlying25 rfl (sW _) ?_) | ((with_reducible refine at_load 100 ?_); refine wpList_rowg_h rfl O 3 rfl rfl Try.underlying25 rfl (sW _) ?_) | ((with_reducible refine at_load 103 ?_); refine wpList_cell_h (v := .bool false) rfl O 5 rfl (i := 10) rfl rfl agg4' rfl ?_) | ((with_reducible refine at_load 105 ?_); refine wpList_mid_h rfl O 5 rfl (M.mat 3 d) (pt_dash x y d0 d1 m k u d false) rfl Try.underlying27 rfl (sH _) ?_) | ((with_reducible refine at_load 106 ?_); refine wpList_rowg_h rfl O 1 rfl rfl Try.underlying29 rfl (sR _) ?_) | (go_at_call 11; clear tk1; have tk2 : True := trivial; refine (CP _).mono ?_; rintro e w15 ⟨YA, yc, rfl, hV, hb⟩; have O2 := O.gain hb hV; clear O hb hV; have O := O2; clear O2) | ((with_reducible refine at_alloc 13 ?_); refine wpList_alloc_h O (M.mat 3 M.zero) zeroH ?_; clear O; intro g13 w16 O) | ((with_reducible refine at_store 13 ?_); refine wpList_put_h O 0 (M.mat 3 (ee)) rfl rfl rfl (sH _) (M.mat_len2 _ _ _) (M.mat_one _ _) ?_; clear O; intro w17 O) | ((with_reducible refine at_load 111 ?_); refine wpList_rowg_h rfl O 4 rfl rfl Try.underlying25 rfl (sW _) ?_) | ((with_reducible refine at_load 112 ?_); refine wpList_rowg_h rfl O 3 rfl rfl Try.underlying25 rfl (sW _) ?_) | ((with_reducible refine at_load 115 ?_); refine wpList_cell_h (v := .bool false) rfl O 6 rfl (i := 10) rfl rfl agg4' rfl ?_) | ((with_reducible refine at_load 116 ?_); refine wpList_rowg_h rfl O 0 rfl rfl Try.underlying27 rfl (sH _) ?_) | ((with_reducible refine at_load 117 ?_); refine wpList_rowg_h rfl O 2 rfl rfl Try.underlying29 rfl (sR _) ?_) | (go_at_call 11; clear tk2; have tk3 : True := trivial; refine (CQ _).mono ?_; rintro e w18 ⟨ZA, zc, rfl, hV, hb⟩; have O2 := O.gain hb hV; clear O hb hV; have O := O2; clear O2) | ((with_reducible refine at_alloc 15 ?_); refine wpList_alloc_h O (M.mat 3 M.zero) zeroH ?_; clear O; intro g15 w19 O) | ((with_reducible refine at_store 15 ?_); refine wpList_put_h O 0 (M.mat 3 (df)) rfl rfl rfl (sH _) (M.mat_len2 _ _ _) (M.mat_one _ _) ?_; clear O; intro w20 O) | ((with_reducible refine at_load 129 ?_); refine wpList_mid_h rfl O 7 rfl (two .i8 d0 d1) (pt_d x y d0 d1 m k u d false) rfl Try.underlying33 rfl (s2i8 _ _) ?_) | ((with_reducible refine at_build 130 ?_); refine wpList_build_g rfl ([]) ((two .i8 0 0).toArray) ?_ (built2i8) ?_; (focus (simp only [List.map_toArray, List.map_cons, List.map_nil]; rfl))) | ((with_reducible refine at_binOp 131 ?_); refine wpList_eq2i8 rfl d0 d1 0 0 rfl rfl ?_; rw [HD0.out]) | ((with_reducible refine at_load 145 ?_); refine wpList_cell_h (v := .bool false) rfl O 7 rfl (i := 10) rfl rfl agg4' rfl ?_) | ((with_reducible refine at_load 148 ?_); refine wpList_rowg_h rfl O 2 rfl rfl Try.underlying27 rfl (sH _) ?_) | ((with_reducible refine at_load 150 ?_); refine wpList_mid_h rfl O 7 rfl (M.mat 3 d) (pt_dash x y d0 d1 m k u d false) rfl Try.underlying27 rfl (sH _) ?_) | ((with_reducible refine at_binOp 151 ?_); refine wpList_neqH rfl (dx) (d) rfl rfl ?_; rw [HX1.out]) | ((with_reducible refine at_load 153 ?_); refine wpList_rowg_h rfl O 1 rfl rfl Try.underlying27 rfl (sH _) ?_) | ((with_reducible refine at_load 155 ?_); refine wpList_mid_h rfl O 7 rfl (M.mat 3 d) (pt_dash x y d0 d1 m k u d false) rfl Try.underlying27 rfl (sH _) ?_) | ((with_reducible refine at_binOp 156 ?_); refine wpList_neqH rfl (ee) (d) rfl rfl ?_; rw [HX2.out]))
    have OX : Held w w20 [(g15, 27, M.mat 3 df), (g13, 27, M.mat 3 ee), (g11, 27, M.mat 3 dx), (g9, 29, M.mat 4 (RC.mk (-400) (-400) 400 400)), (g8, 25, M.mat 7 (WD.wn b0 b1)), (g7, 25, M.mat 7 (WD.wn c0 c1)), (g6, 25, M.mat 7 (WD.wn x y)), (g1, 50, pt x y d0 d1 m k u d false)] nilRow [gE w.heap.size ZA zc LZ, gE w.heap.size YA yc LY, gE w.heap.size XA xc LX] := O
    clear O WL CL CP CQ tk3 kne W1 W2 W3 W4 W5 W6 W7 W8 W9 W10 W11 W12
    have O := OX
    clear OX
    go_loopw [16] (fun t16 wr => ∃ i : Nat, i ≤ LX.length ∧ t16 = .int .i64 (i : Int) ∧ Held w wr [(g15, 27, M.mat 3 df), (g13, 27, M.mat 3 ee), (g11, 27, M.mat 3 dx), (g9, 29, M.mat 4 (RC.mk (-400) (-400) 400 400)), (g8, 25, M.mat 7 (WD.wn b0 b1)), (g7, 25, M.mat 7 (WD.wn c0 c1)), (g6, 25, M.mat 7 (WD.wn x y)), (g1, 50, pt x y d0 d1 m k u d false)] nilRow [gE w.heap.size ZA zc LZ, gE w.heap.size YA yc LY, gE w.heap.size XA xc LX]) (fun t16 _ => LX.length - (intOf t16).toNat)
    case atStart => exact ⟨0, Nat.zero_le _, rfl, O⟩
    case round =>
      clear O
      obtain ⟨i, hi, rfl, O⟩ := hrel
      have q0 : (0 : Int) ≤ i := by omega
      by_cases hlt : i < LX.length
      · have q1 : (i : Int) < LX.length := by omega
        have W1 : wrap64 ((i : Int) + 1) = (i : Int) + 1 := IntWalk.wrap64_in _ (by have := HLEN.out; omega)
        obtain ⟨f, hf⟩ : ∃ f, LX[i]? = some f := ⟨_, List.getElem?_eq_getElem hlt⟩
        obtain ⟨X, hX⟩ : ∃ X, f 0 = X := ⟨_, rfl⟩
        obtain ⟨Y, hY⟩ : ∃ Y, f 1 = Y := ⟨_, rfl⟩
        have FX : Hid ((gC LX)[i * 8]? = some (.int .i64 X)) := Lib.hid (by rw [← hX]; exact gC_at hf 0 _ rfl)
        have FY : Hid ((gC LX)[i * 8 + 1]? = some (.int .i64 Y)) := Lib.hid (by rw [← hY]; exact gC_at hf 1 _ rfl)
        by_cases hy : i < LY.length
        · have q2 : (i : Int) < LY.length := by omega
          obtain ⟨g, hg, hg0, hg1⟩ := HY.out i f hy hf
          have GX : Hid ((M.mat 8 g)[0]? = some (.int .i64 X)) := Lib.hid (by rw [← hX, ← hg0]; rfl)
          have GY : Hid ((M.mat 8 g)[1]? = some (.int .i64 Y)) := Lib.hid (by rw [← hY, ← hg1]; rfl)
          have HG := Lib.hid hg
          clear hf hX hY hg hg0 hg1
          go_wp2_with (first | ((with_reducible refine at_alloc 17 ?_); refine wpList_alloc_h O (M.mat 8 M.zero) zeroG ?_; clear O; intro g17 v1 O) | ((with_reducible refine at_index_ 181 ?_); refine wpList_at_h rfl Try.underlying38 sizeOfG (gE w.heap.size YA yc LY) (O.mem (List.mem_cons_of_mem _ List.mem_cons_self)) rfl i rfl (by first | rfl | omega) (by show i < LY.length; omega) rfl ?_) | ((with_reducible refine at_load 182 ?_); refine wpList_elem_h rfl (gE w.heap.size YA yc LY) (O.mem (List.mem_cons_of_mem _ List.mem_cons_self)) (i * 8) (M.mat 8 g) (gC_at HG.out) (by rw [M.mat_len]; decide) rfl Try.underlying43 rfl (sG _) ?_) | ((with_reducible refine at_store 17 ?_); refine wpList_put_h O 0 (M.mat 8 (g)) rfl rfl rfl (sG _) (M.mat_len2 _ _ _) (M.mat_one _ _) ?_; clear O; intro v2 O))
          have OO := O
          clear O
          have O := OO
          clear OO
          refine region_T ((fun w2 => Held w w2 ((g17, 43, M.mat 8 g) :: [(g15, 27, M.mat 3 df), (g13, 27, M.mat 3 ee), (g11, 27, M.mat 3 dx), (g9, 29, M.mat 4 (RC.mk (-400) (-400) 400 400)), (g8, 25, M.mat 7 (WD.wn b0 b1)), (g7, 25, M.mat 7 (WD.wn c0 c1)), (g6, 25, M.mat 7 (WD.wn x y)), (g1, 50, pt x y d0 d1 m k u d false)]) nilRow [gE w.heap.size ZA zc LZ, gE w.heap.size YA yc LY, gE w.heap.size XA xc LX])) [0, 1, 2, 3, 4, 5, 6, 7, 8, 9, 10, 11, 12, 13, 14, 15, 16] 12 [some 190, some 191, some 192, some 193, some 194, some 195, some 196, some 197, some 198, some 199, some 200, some 201, some 202, some 203, some 204, some 205, some 206] [.pointer (some ⟨g17, 0, none⟩), .int .i64 (X), .slice XA LX.length xc, .int .i64 (i : Int), .pointer (some ((adr XA).add (i * 8))), .pointer (some ((adr XA).add (i * 8))), .int .i64 (X), .bool false, .bool false, .pointer (some ⟨g17, 1, none⟩), .int .i64 (Y), .slice XA LX.length xc, .int .i64 (i : Int), .pointer (some ((adr XA).add (i * 8))), .pointer (some ⟨((adr XA).add (i * 8)).block, ((adr XA).add (i * 8)).off + 1, none⟩), .int .i64 (Y), .bool false] 1 (by kernel_rfl) (by rfl) (by kernel_rfl) (by rfl) (by rfl) (O.drew) (fun F hF => ?_)
          simp only [fillD, Act.put, List.setIfInBounds_toArray, List.set_cons_zero, List.set_cons_succ] at hF
          subst hF
          refine ⟨⟨does_want rfl (by rfl) (fun w' O K hK => ?_), does_want rfl (by rfl) (fun w' O K hK => ?_), does_want rfl (by rfl) (fun w' O K hK => ?_), does_want rfl (by rfl) (fun w' O K hK => ?_), does_want rfl (by rfl) (fun w' O K hK => ?_), does_want rfl (by rfl) (fun w' O K hK => ?_), does_want rfl (by rfl) (fun w' O K hK => ?_), does_want rfl (by rfl) (fun w' O K hK => ?_), does_want rfl (by rfl) (fun w' O K hK => ?_), does_want rfl (by rfl) (fun w' O K hK => ?_), does_want rfl (by rfl) (fun w' O K hK => ?_), does_want rfl (by rfl) (fun w' O K hK => ?_), does_want rfl (by rfl) (fun w' O K hK => ?_), does_want rfl (by rfl) (fun w' O K hK => ?_), does_want rfl (by rfl) (fun w' O K hK => ?_), does_want rfl (by rfl) (fun w' O K hK => ?_), does_want rfl (by rfl) (fun w' O K hK => ?_), trivial⟩, fun w' O => ?_⟩
          · go_simp
            exact hK _ O
          · exact wp_cell_h (v := .int .i64 (X)) O 0 rfl GX.out rfl agg3 rfl (hK _ O)
          · go_simp
            exact hK _ O
          · go_simp
            exact hK _ O
          · exact wp_at_h Try.underlying38 sizeOfG (gE w.heap.size XA xc LX) (O.mem (List.mem_cons_of_mem _ (List.mem_cons_of_mem _ List.mem_cons_self))) rfl i rfl rfl (by omega) rfl (hK _ O)
          · go_simp
            exact hK _ O
          · exact wp_ecell_h (gE w.heap.size XA xc LX) (O.mem (List.mem_cons_of_mem _ (List.mem_cons_of_mem _ List.mem_cons_self))) (i * 8) (v := .int .i64 X) FX.out rfl agg3 rfl (hK _ O)
          · go_simp
            first | exact hK _ O | (simp; exact hK _ O)
          · go_simp
            exact hK _ O
          · go_simp
            exact hK _ O
          · exact wp_cell_h (v := .int .i64 (Y)) O 0 rfl GY.out rfl agg3 rfl (hK _ O)
          · go_simp
            exact hK _ O
          · go_simp
            exact hK _ O
          · exact wp_at_h Try.underlying38 sizeOfG (gE w.heap.size XA xc LX) (O.mem (List.mem_cons_of_mem _ (List.mem_cons_of_mem _ List.mem_cons_self))) rfl i rfl rfl (by omega) rfl (hK _ O)
          · go_simp
            exact hK _ O
          · exact wp_ecell_h (gE w.heap.size XA xc LX) (O.mem (List.mem_cons_of_mem _ (List.mem_cons_of_mem _ List.mem_cons_self))) (i * 8 + 1) (v := .int .i64 Y) FY.out (congrArg (fun z => Value.pointer (some z)) (add_fld _ (i * 8) 1 (by decide))) agg3 rfl (hK _ O)
          · go_simp
            first | exact hK _ O | (simp; exact hK _ O)
          refine wpAny_one (i := 17) (by kernel_rfl) rfl (fun K hK => ?_)
          go_simp
          refine hK _ _ ?_
          clear hK K
          try simp only [Act.put, List.setIfInBounds_toArray, List.set_cons_zero, List.set_cons_succ]
          refine wpAny_done (by kernel_rfl) ?_ _
          go_wp2_with fail
          go_roundw
          case rel => exact ⟨i + 1, by omega, by go_num, O.tail⟩
          case measure => first | exact meas_lt W1 hlt | exact meas_lt2 hlt
        · have q2 : ¬ (i : Int) < LY.length := by omega
          obtain ⟨g, hg, hg0, hg1⟩ := HZ.out i f hy hf
          have GX : Hid ((M.mat 8 g)[0]? = some (.int .i64 X)) := Lib.hid (by rw [← hX, ← hg0]; rfl)
          have GY : Hid ((M.mat 8 g)[1]? = some (.int .i64 Y)) := Lib.hid (by rw [← hY, ← hg1]; rfl)
          have hjl : i - LY.length < LZ.length := (List.getElem?_eq_some_iff.1 hg).1
          obtain ⟨j, hj⟩ : ∃ j, i - LY.length = j := ⟨_, rfl⟩
          rw [hj] at hg hjl
          have HG := Lib.hid hg
          have W2 : wrap64 ((i : Int) - LY.length) = (j : Int) := by
            rw [show (i : Int) - LY.length = j by omega]
            exact IntWalk.wrap64_in _ (by have := HLEN.out; omega)
          have q4 : ¬ (j : Int) < 0 := by omega
          clear hf hX hY hg hg0 hg1 hj
          go_wp2_with (first | ((with_reducible refine at_alloc 17 ?_); refine wpList_alloc_h O (M.mat 8 M.zero) zeroG ?_; clear O; intro g17 v1 O) | ((with_reducible refine at_index_ 188 ?_); refine wpList_at_h rfl Try.underlying38 sizeOfG (gE w.heap.size ZA zc LZ) (O.mem List.mem_cons_self) rfl j rfl (by first | rfl | exact W2 | omega) (by show j < LZ.length; omega) rfl ?_) | ((with_reducible refine at_load 189 ?_); refine wpList_elem_h rfl (gE w.heap.size ZA zc LZ) (O.mem List.mem_cons_self) (j * 8) (M.mat 8 g) (gC_at HG.out) (by rw [M.mat_len]; decide) rfl Try.underlying43 rfl (sG _) ?_) | ((with_reducible refine at_store 17 ?_); refine wpList_put_h O 0 (M.mat 8 (g)) rfl rfl rfl (sG _) (M.mat_len2 _ _ _) (M.mat_one _ _) ?_; clear O; intro v2 O))
          try clear W2 q4
          have OO := O
          clear O
          have O := OO
          clear OO
          refine region_T ((fun w2 => Held w w2 ((g17, 43, M.mat 8 g) :: [(g15, 27, M.mat 3 df), (g13, 27, M.mat 3 ee), (g11, 27, M.mat 3 dx), (g9, 29, M.mat 4 (RC.mk (-400) (-400) 400 400)), (g8, 25, M.mat 7 (WD.wn b0 b1)), (g7, 25, M.mat 7 (WD.wn c0 c1)), (g6, 25, M.mat 7 (WD.wn x y)), (g1, 50, pt x y d0 d1 m k u d false)]) nilRow [gE w.heap.size ZA zc LZ, gE w.heap.size YA yc LY, gE w.heap.size XA xc LX])) [0, 1, 2, 3, 4, 5, 6, 7, 8, 9, 10, 11, 12, 13, 14, 15, 16] 12 [some 190, some 191, some 192, some 193, some 194, some 195, some 196, some 197, some 198, some 199, some 200, some 201, some 202, some 203, some 204, some 205, some 206] [.pointer (some ⟨g17, 0, none⟩), .int .i64 (X), .slice XA LX.length xc, .int .i64 (i : Int), .pointer (some ((adr XA).add (i * 8))), .pointer (some ((adr XA).add (i * 8))), .int .i64 (X), .bool false, .bool false, .pointer (some ⟨g17, 1, none⟩), .int .i64 (Y), .slice XA LX.length xc, .int .i64 (i : Int), .pointer (some ((adr XA).add (i * 8))), .pointer (some ⟨((adr XA).add (i * 8)).block, ((adr XA).add (i * 8)).off + 1, none⟩), .int .i64 (Y), .bool false] 1 (by kernel_rfl) (by rfl) (by kernel_rfl) (by rfl) (by rfl) (O.drew) (fun F hF => ?_)
          simp only [fillD, Act.put, List.setIfInBounds_toArray, List.set_cons_zero, List.set_cons_succ] at hF
          subst hF
          refine ⟨⟨does_want rfl (by rfl) (fun w' O K hK => ?_), does_want rfl (by rfl) (fun w' O K hK => ?_), does_want rfl (by rfl) (fun w' O K hK => ?_), does_want rfl (by rfl) (fun w' O K hK => ?_), does_want rfl (by rfl) (fun w' O K hK => ?_), does_want rfl (by rfl) (fun w' O K hK => ?_), does_want rfl (by rfl) (fun w' O K hK => ?_), does_want rfl (by rfl) (fun w' O K hK => ?_), does_want rfl (by rfl) (fun w' O K hK => ?_), does_want rfl (by rfl) (fun w' O K hK => ?_), does_want rfl (by rfl) (fun w' O K hK => ?_), does_want rfl (by rfl) (fun w' O K hK => ?_), does_want rfl (by rfl) (fun w' O K hK => ?_), does_want rfl (by rfl) (fun w' O K hK => ?_), does_want rfl (by rfl) (fun w' O K hK => ?_), does_want rfl (by rfl) (fun w' O K hK => ?_), does_want rfl (by rfl) (fun w' O K hK => ?_), trivial⟩, fun w' O => ?_⟩
          · go_simp
            exact hK _ O
          · exact wp_cell_h (v := .int .i64 (X)) O 0 rfl GX.out rfl agg3 rfl (hK _ O)
          · go_simp
            exact hK _ O
          · go_simp
            exact hK _ O
          · exact wp_at_h Try.underlying38 sizeOfG (gE w.heap.size XA xc LX) (O.mem (List.mem_cons_of_mem _ (List.mem_cons_of_mem _ List.mem_cons_self))) rfl i rfl rfl (by omega) rfl (hK _ O)
          · go_simp
            exact hK _ O
          · exact wp_ecell_h (gE w.heap.size XA xc LX) (O.mem (List.mem_cons_of_mem _ (List.mem_cons_of_mem _ List.mem_cons_self))) (i * 8) (v := .int .i64 X) FX.out rfl agg3 rfl (hK _ O)
          · go_simp
            first | exact hK _ O | (simp; exact hK _ O)
          · go_simp
            exact hK _ O
          · go_simp
            exact hK _ O
          · exact wp_cell_h (v := .int .i64 (Y)) O 0 rfl GY.out rfl agg3 rfl (hK _ O)
          · go_simp
            exact hK _ O
          · go_simp
            exact hK _ O
          · exact wp_at_h Try.underlying38 sizeOfG (gE w.heap.size XA xc LX) (O.mem (List.mem_cons_of_mem _ (List.mem_cons_of_mem _ List.mem_cons_self))) rfl i rfl rfl (by omega) rfl (hK _ O)
          · go_simp
            exact hK _ O
          · exact wp_ecell_h (gE w.heap.size XA xc LX) (O.mem (List.mem_cons_of_mem _ (List.mem_cons_of_mem _ List.mem_cons_self))) (i * 8 + 1) (v := .int .i64 Y) FY.out (congrArg (fun z => Value.pointer (some z)) (add_fld _ (i * 8) 1 (by decide))) agg3 rfl (hK _ O)
          · go_simp
            first | exact hK _ O | (simp; exact hK _ O)
          refine wpAny_one (i := 17) (by kernel_rfl) rfl (fun K hK => ?_)
          go_simp
          refine hK _ _ ?_
          clear hK K
          try simp only [Act.put, List.setIfInBounds_toArray, List.set_cons_zero, List.set_cons_succ]
          refine wpAny_done (by kernel_rfl) ?_ _
          go_wp2_with fail
          go_roundw
          case rel => exact ⟨i + 1, by omega, by go_num, O.tail⟩
          case measure => first | exact meas_lt W1 hlt | exact meas_lt2 hlt
      · have q1 : ¬ (i : Int) < LX.length := by omega
        go_wp2_with (first | (go_at_call 9; refine (awake_any _).mono ?_; rintro e w40 ⟨rfl, hb⟩; replace O := O.call hb; clear hb) | ((with_reducible refine at_load 210 ?_); refine wpList_rowg_h rfl O 2 rfl rfl Try.underlying27 rfl (sH _) ?_) | ((with_reducible refine at_load 211 ?_); refine wpList_rowg_h rfl O 0 rfl rfl Try.underlying27 rfl (sH _) ?_) | ((with_reducible refine at_binOp 212 ?_); refine wpList_eqH rfl (dx) (df) rfl rfl ?_; rw [HSM.out]))
        go_ret
        exact ⟨rfl, O.below⟩
  · clear HOFF
    go_enter Try.func5, Try.ntmps5
    go_wp2_with (first | ((with_reducible refine at_box 1 ?_); refine wpList_box_h O (pt x y d0 d1 m k u d true) rfl ?_; clear O; intro g1 w1 O) | ((with_reducible refine at_load 19 ?_); refine wpList_mid_h rfl O 0 rfl (M.mat 3 d) (pt_dash x y d0 d1 m k u d true) rfl Try.underlying27 rfl (sH _) ?_) | (go_at_call 13; refine (CR _).mono ?_; rintro e w2 ⟨rfl, hb⟩; replace O := O.call hb; clear hb))
    have OX : Held w w2 [(g1, 50, pt x y d0 d1 m k u d true)] nilRow [] := O
    clear O CR
    have O := OX
    clear OX
    have OO := O
    clear O
    have O := OO
    clear OO
    refine region_T ((fun w2 => Held w w2 [(g1, 50, pt x y d0 d1 m k u d true)] nilRow [])) [0, 1, 2, 3, 4, 5, 6, 7, 8, 9, 10, 11, 12, 13, 14, 15, 16] 12 [some 23, some 24, some 25, some 26, some 27, some 28, some 29, some 30, some 31, some 32, some 33, some 34, some 35, some 36, some 37, some 3, some 4] [.pointer (some ⟨g1, 4, none⟩), .pointer (some ⟨g1, 4, none⟩), .int .u8 m, .int .u8 mm, .int .i64 (mm), .pointer (some ⟨g1, 4, none⟩), .pointer (some ⟨g1, 5, none⟩), .int .u8 k, .int .u8 kk, .int .i64 (kk), .pointer (some ⟨g1, 6, none⟩), .int .u8 u, .int .u8 uu, .int .i64 (uu), .int .i64 (n), .int .i64 (mm), .int .i64 (kk)] 1 (by kernel_rfl) (by rfl) (by kernel_rfl) (by rfl) (by rfl) (O.drew) (fun F hF => ?_)
    simp only [fillD, Act.put, List.setIfInBounds_toArray, List.set_cons_zero, List.set_cons_succ] at hF
    subst hF
    refine ⟨⟨does_want rfl (by rfl) (fun w' O K hK => ?_), does_want rfl (by rfl) (fun w' O K hK => ?_), does_want rfl (by rfl) (fun w' O K hK => ?_), does_want rfl (by rfl) (fun w' O K hK => ?_), does_want rfl (by rfl) (fun w' O K hK => ?_), does_want rfl (by rfl) (fun w' O K hK => ?_), does_want rfl (by rfl) (fun w' O K hK => ?_), does_want rfl (by rfl) (fun w' O K hK => ?_), does_want rfl (by rfl) (fun w' O K hK => ?_), does_want rfl (by rfl) (fun w' O K hK => ?_), does_want rfl (by rfl) (fun w' O K hK => ?_), does_want rfl (by rfl) (fun w' O K hK => ?_), does_want rfl (by rfl) (fun w' O K hK => ?_), does_want rfl (by rfl) (fun w' O K hK => ?_), does_want rfl (by rfl) (fun w' O K hK => ?_), does_want rfl (by rfl) (fun w' O K hK => ?_), does_want rfl (by rfl) (fun w' O K hK => ?_), trivial⟩, fun w' O => ?_⟩
    · go_simp
      exact hK _ O
    · first | (go_simp; exact hK _ O) | exact wp_ino Try.underlying48 sizeOf5 (by decide) 0 rfl rfl (by omega) (by omega) (hK _ O)
    · exact wp_cell_h (v := .int .u8 m) O 0 (i := 4) rfl rfl rfl agg5 rfl (hK _ O)
    · obtain ⟨e1, e2, e3, e4⟩ := Hm.out
      go_simp
      first | exact hK _ O | (rw [e4]; exact hK _ O) | (rw [e4, e2]; exact hK _ O) | (rw [e1]; exact hK _ O) | (rw [e1, e2]; exact hK _ O) | (simp only [e1, e2, e3]; exact hK _ O) | (rw [e3]; exact hK _ O)
    · obtain ⟨e1, e2, e3, e4⟩ := Hm.out
      go_simp
      first | exact hK _ O | (rw [e4]; exact hK _ O) | (rw [e4, e2]; exact hK _ O) | (rw [e1]; exact hK _ O) | (rw [e1, e2]; exact hK _ O) | (simp only [e1, e2, e3]; exact hK _ O) | (rw [e3]; exact hK _ O)
    · go_simp
      exact hK _ O
    · first | (go_simp; exact hK _ O) | exact wp_ino Try.underlying48 sizeOf5 (by decide) 1 rfl rfl (by omega) (by omega) (hK _ O)
    · exact wp_cell_h (v := .int .u8 k) O 0 (i := 5) rfl rfl rfl agg5 rfl (hK _ O)
    · obtain ⟨e1, e2, e3, e4⟩ := Hk.out
      go_simp
      first | exact hK _ O | (rw [e4]; exact hK _ O) | (rw [e4, e2]; exact hK _ O) | (rw [e1]; exact hK _ O) | (rw [e1, e2]; exact hK _ O) | (simp only [e1, e2, e3]; exact hK _ O) | (rw [e3]; exact hK _ O)
    · obtain ⟨e1, e2, e3, e4⟩ := Hk.out
      go_simp
      first | exact hK _ O | (rw [e4]; exact hK _ O) | (rw [e4, e2]; exact hK _ O) | (rw [e1]; exact hK _ O) | (rw [e1, e2]; exact hK _ O) | (simp only [e1, e2, e3]; exact hK _ O) | (rw [e3]; exact hK _ O)
    · go_simp
      exact hK _ O
    · exact wp_cell_h (v := .int .u8 u) O 0 (i := 6) rfl rfl rfl agg5 rfl (hK _ O)
    · obtain ⟨e1, e2, e3, e4⟩ := Hu.out
      go_simp
      first | exact hK _ O | (rw [e4]; exact hK _ O) | (rw [e4, e2]; exact hK _ O) | (rw [e1]; exact hK _ O) | (rw [e1, e2]; exact hK _ O) | (simp only [e1, e2, e3]; exact hK _ O) | (rw [e3]; exact hK _ O)
    · obtain ⟨e1, e2, e3, e4⟩ := Hu.out
      go_simp
      first | exact hK _ O | (rw [e4]; exact hK _ O) | (rw [e4, e2]; exact hK _ O) | (rw [e1]; exact hK _ O) | (rw [e1, e2]; exact hK _ O) | (simp only [e1, e2, e3]; exact hK _ O) | (rw [e3]; exact hK _ O)
    · obtain ⟨e1, e2⟩ := Hn.out
      go_simp
      first | exact hK _ O | (rw [e1]; exact hK _ O) | (rw [e1, e2]; exact hK _ O) | (simp only [e1, e2]; exact hK _ O)
    · go_simp
      exact hK _ O
    · go_simp
      exact hK _ O
    refine wpAny_one (i := 17) (by kernel_rfl) rfl (fun K hK => ?_)
    go_simp
    refine hK _ _ ?_
    clear hK K
    try simp only [Act.put, List.setIfInBounds_toArray, List.set_cons_zero, List.set_cons_succ]
    refine wpAny_done (by kernel_rfl) ?_ _
    clear Hm Hk Hu Hn
    have W1 := FW.out.1
    have W2 := FW.out.2.1
    have W3 := FW.out.2.2.1
    have W4 := FW.out.2.2.2.1
    have W5 := FW.out.2.2.2.2.1
    have W6 := FW.out.2.2.2.2.2.1
    have W7 := FW.out.2.2.2.2.2.2.1
    have W8 := FW.out.2.2.2.2.2.2.2.1
    have W9 := FW.out.2.2.2.2.2.2.2.2.1
    have W10 := FW.out.2.2.2.2.2.2.2.2.2.1
    have W11 := FW.out.2.2.2.2.2.2.2.2.2.2.1
    have W12 := FW.out.2.2.2.2.2.2.2.2.2.2.2
    go_wp2_with (first | ((with_reducible refine at_index_ 39 ?_); refine wpList_ino rfl Try.underlying47 sizeOfi16 (by decide) (0) rfl rfl (by rfl) (by omega) ?_) | ((with_reducible refine at_load 40 ?_); refine wpList_cell_h (v := .int .i16 x) rfl O 0 rfl (i := 0) rfl rfl aggi16 rfl ?_) | ((with_reducible refine at_index_ 43 ?_); refine wpList_ino rfl Try.underlying47 sizeOfi16 (by decide) (1) rfl rfl (by rfl) (by omega) ?_) | ((with_reducible refine at_load 44 ?_); refine wpList_cell_h (v := .int .i16 y) rfl O 0 rfl (i := 1) rfl rfl aggi16 rfl ?_) | ((with_reducible refine at_build 46 ?_); refine wpList_build_g rfl ([(0, .int .i64 x), (1, .int .i64 y)]) ((M.mat 7 (WD.wn x y)).toArray) ?_ (builtW17 _ _) ?_; (focus (simp only [List.map_toArray, List.map_cons, List.map_nil]; rfl))) | ((with_reducible refine at_alloc 6 ?_); refine wpList_alloc_h O (M.mat 7 M.zero) zeroW17 ?_; clear O; intro g6 w4 O) | ((with_reducible refine at_store 6 ?_); refine wpList_put_h O 0 (M.mat 7 (WD.wn x y)) rfl rfl rfl (sW _) (M.mat_len2 _ _ _) (M.mat_one _ _) ?_; clear O; intro w5 O) | ((with_reducible refine at_load 48 ?_); refine wpList_cell_h (v := .int .i64 x) rfl O 0 rfl (show (M.mat 7 (WD.wn x y))[0]? = _ from rfl) rfl agg3 rfl ?_) | ((with_reducible refine at_index_ 51 ?_); refine wpList_ino rfl Try.underlying33 sizeOfi8 (by decide) (0) rfl rfl (by rfl) (by omega) ?_) | ((with_reducible refine at_load 52 ?_); refine wpList_cell_h (v := .int .i8 d0) rfl O 1 rfl (i := 2) rfl rfl aggi8 rfl ?_) | ((with_reducible refine at_load 57 ?_); refine wpList_cell_h (v := .int .i64 y) rfl O 0 rfl (show (M.mat 7 (WD.wn x y))[1]? = _ from rfl) rfl agg3 rfl ?_) | ((with_reducible refine at_index_ 60 ?_); refine wpList_ino rfl Try.underlying33 sizeOfi8 (by decide) (1) rfl rfl (by rfl) (by omega) ?_) | ((with_reducible refine at_load 61 ?_); refine wpList_cell_h (v := .int .i8 d1) rfl O 1 rfl (i := 3) rfl rfl aggi8 rfl ?_) | ((with_reducible refine at_build 65 ?_); refine wpList_build_g rfl ([(0, .int .i64 c0), (1, .int .i64 c1)]) ((M.mat 7 (WD.wn c0 c1)).toArray) ?_ (builtW17 _ _) ?_; (focus (simp only [List.map_toArray, List.map_cons, List.map_nil]; rfl))) | ((with_reducible refine at_alloc 7 ?_); refine wpList_alloc_h O (M.mat 7 M.zero) zeroW17 ?_; clear O; intro g7 w6 O) | ((with_reducible refine at_store 7 ?_); refine wpList_put_h O 0 (M.mat 7 (WD.wn c0 c1)) rfl rfl rfl (sW _) (M.mat_len2 _ _ _) (M.mat_one _ _) ?_; clear O; intro w7 O) | ((with_reducible refine at_load 67 ?_); refine wpList_cell_h (v := .int .i64 c0) rfl O 0 rfl (show (M.mat 7 (WD.wn c0 c1))[0]? = _ from rfl) rfl agg3 rfl ?_) | ((with_reducible refine at_index_ 70 ?_); refine wpList_ino rfl Try.underlying33 sizeOfi8 (by decide) (0) rfl rfl (by rfl) (by omega) ?_) | ((with_reducible refine at_load 71 ?_); refine wpList_cell_h (v := .int .i8 d0) rfl O 2 rfl (i := 2) rfl rfl aggi8 rfl ?_) | ((with_reducible refine at_load 76 ?_); refine wpList_cell_h (v := .int .i64 c1) rfl O 0 rfl (show (M.mat 7 (WD.wn c0 c1))[1]? = _ from rfl) rfl agg3 rfl ?_) | ((with_reducible refine at_index_ 79 ?_); refine wpList_ino rfl Try.underlying33 sizeOfi8 (by decide) (1) rfl rfl (by rfl) (by omega) ?_) | ((with_reducible refine at_load 80 ?_); refine wpList_cell_h (v := .int .i8 d1) rfl O 2 rfl (i := 3) rfl rfl aggi8 rfl ?_) | ((with_reducible refine at_build 84 ?_); refine wpList_build_g rfl ([(0, .int .i64 b0), (1, .int .i64 b1)]) ((M.mat 7 (WD.wn b0 b1)).toArray) ?_ (builtW17 _ _) ?_; (focus (simp only [List.map_toArray, List.map_cons, List.map_nil]; rfl))) | ((with_reducible refine at_alloc 8 ?_); refine wpList_alloc_h O (M.mat 7 M.zero) zeroW17 ?_; clear O; intro g8 w8 O) | ((with_reducible refine at_store 8 ?_); refine wpList_put_h O 0 (M.mat 7 (WD.wn b0 b1)) rfl rfl rfl (sW _) (M.mat_len2 _ _ _) (M.mat_one _ _) ?_; clear O; intro w9 O) | ((with_reducible refine at_build 85 ?_); refine wpList_build_g rfl ([(0, .int .i64 (-400)), (1, .int .i64 (-400)), (2, .int .i64 400), (3, .int .i64 400)]) ((M.mat 4 (RC.mk (-400) (-400) 400 400)).toArray) ?_ (builtR17 _ _ _ _) ?_; (focus (simp only [List.map_toArray, List.map_cons, List.map_nil]; rfl))) | ((with_reducible refine at_alloc 9 ?_); refine wpList_alloc_h O (M.mat 4 M.zero) zeroR ?_; clear O; intro g9 w10 O) | ((with_reducible refine at_store 9 ?_); refine wpList_put_h O 0 (M.mat 4 (RC.mk (-400) (-400) 400 400)) rfl rfl rfl (sR _) (M.mat_len2 _ _ _) (M.mat_one _ _) ?_; clear O; intro w11 O) | ((with_reducible refine at_load 87 ?_); refine wpList_rowg_h rfl O 3 rfl rfl Try.underlying25 rfl (sW _) ?_) | ((with_reducible refine at_load 88 ?_); refine wpList_rowg_h rfl O 1 rfl rfl Try.underlying25 rfl (sW _) ?_) | ((with_reducible refine at_load 91 ?_); refine wpList_cell_h (v := .bool true) rfl O 4 rfl (i := 10) rfl rfl agg4' rfl ?_) | ((with_reducible refine at_load 93 ?_); refine wpList_mid_h rfl O 4 rfl (M.mat 3 d) (pt_dash x y d0 d1 m k u d true) rfl Try.underlying27 rfl (sH _) ?_) | ((with_reducible refine at_load 94 ?_); refine wpList_rowg_h rfl O 0 rfl rfl Try.underlying29 rfl (sR _) ?_) | (go_at_call 11; clear tk0; have tk1 : True := trivial; refine (CL _).mono ?_; rintro e w12 ⟨XA, xc, rfl, hV, hb⟩; have O2 := O.gain hb hV; clear O hb hV; have O := O2; clear O2) | ((with_reducible refine at_alloc 11 ?_); refine wpList_alloc_h O (M.mat 3 M.zero) zeroH ?_; clear O; intro g11 w13 O) | ((with_reducible refine at_store 11 ?_); refine wpList_put_h O 0 (M.mat 3 (dx)) rfl rfl rfl (sH _) (M.mat_len2 _ _ _) (M.mat_one _ _) ?_; clear O; intro w14 O) | ((with_reducible refine at_load 99 ?_); refine wpList_rowg_h rfl O 4 rfl rfl Try.underlying25 rfl (sW _) ?_) | ((with_reducible refine at_load 100 ?_); refine wpList_rowg_h rfl O 3 rfl rfl Try.underlying25 rfl (sW _) ?_) | ((with_reducible refine at_load 103 ?_); refine wpList_cell_h (v := .bool true) rfl O 5 rfl (i := 10) rfl rfl agg4' rfl ?_) | ((with_reducible refine at_load 105 ?_); refine wpList_mid_h rfl O 5 rfl (M.mat 3 d) (pt_dash x y d0 d1 m k u d true) rfl Try.underlying27 rfl (sH _) ?_) | ((with_reducible refine at_load 106 ?_); refine wpList_rowg_h rfl O 1 rfl rfl Try.underlying29 rfl (sR _) ?_) | (go_at_call 11; clear tk1; have tk2 : True := trivial; refine (CP _).mono ?_; rintro e w15 ⟨YA, yc, rfl, hV, hb⟩; have O2 := O.gain hb hV; clear O hb hV; have O := O2; clear O2) | ((with_reducible refine at_alloc 13 ?_); refine wpList_alloc_h O (M.mat 3 M.zero) zeroH ?_; clear O; intro g13 w16 O) | ((with_reducible refine at_store 13 ?_); refine wpList_put_h O 0 (M.mat 3 (ee)) rfl rfl rfl (sH _) (M.mat_len2 _ _ _) (M.mat_one _ _) ?_; clear O; intro w17 O) | ((with_reducible refine at_load 111 ?_); refine wpList_rowg_h rfl O 4 rfl rfl Try.underlying25 rfl (sW _) ?_) | ((with_reducible refine at_load 112 ?_); refine wpList_rowg_h rfl O 3 rfl rfl Try.underlying25 rfl (sW _) ?_) | ((with_reducible refine at_load 115 ?_); refine wpList_cell_h (v := .bool true) rfl O 6 rfl (i := 10) rfl rfl agg4' rfl ?_) | ((with_reducible refine at_load 116 ?_); refine wpList_rowg_h rfl O 0 rfl rfl Try.underlying27 rfl (sH _) ?_) | ((with_reducible refine at_load 117 ?_); refine wpList_rowg_h rfl O 2 rfl rfl Try.underlying29 rfl (sR _) ?_) | (go_at_call 11; clear tk2; have tk3 : True := trivial; refine (CQ _).mono ?_; rintro e w18 ⟨ZA, zc, rfl, hV, hb⟩; have O2 := O.gain hb hV; clear O hb hV; have O := O2; clear O2) | ((with_reducible refine at_alloc 15 ?_); refine wpList_alloc_h O (M.mat 3 M.zero) zeroH ?_; clear O; intro g15 w19 O) | ((with_reducible refine at_store 15 ?_); refine wpList_put_h O 0 (M.mat 3 (df)) rfl rfl rfl (sH _) (M.mat_len2 _ _ _) (M.mat_one _ _) ?_; clear O; intro w20 O) | ((with_reducible refine at_load 129 ?_); refine wpList_mid_h rfl O 7 rfl (two .i8 d0 d1) (pt_d x y d0 d1 m k u d true) rfl Try.underlying33 rfl (s2i8 _ _) ?_) | ((with_reducible refine at_build 130 ?_); refine wpList_build_g rfl ([]) ((two .i8 0 0).toArray) ?_ (built2i8) ?_; (focus (simp only [List.map_toArray, List.map_cons, List.map_nil]; rfl))) | ((with_reducible refine at_binOp 131 ?_); refine wpList_eq2i8 rfl d0 d1 0 0 rfl rfl ?_; rw [HD0.out]) | ((with_reducible refine at_load 145 ?_); refine wpList_cell_h (v := .bool true) rfl O 7 rfl (i := 10) rfl rfl agg4' rfl ?_))
    have OX : Held w w20 [(g15, 27, M.mat 3 df), (g13, 27, M.mat 3 ee), (g11, 27, M.mat 3 dx), (g9, 29, M.mat 4 (RC.mk (-400) (-400) 400 400)), (g8, 25, M.mat 7 (WD.wn b0 b1)), (g7, 25, M.mat 7 (WD.wn c0 c1)), (g6, 25, M.mat 7 (WD.wn x y)), (g1, 50, pt x y d0 d1 m k u d true)] nilRow [gE w.heap.size ZA zc LZ, gE w.heap.size YA yc LY, gE w.heap.size XA xc LX] := O
    clear O WL CL CP CQ tk3 kne W1 W2 W3 W4 W5 W6 W7 W8 W9 W10 W11 W12
    have O := OX
    clear OX
    go_loopw [16] (fun t16 wr => ∃ i : Nat, i ≤ LX.length ∧ t16 = .int .i64 (i : Int) ∧ Held w wr [(g15, 27, M.mat 3 df), (g13, 27, M.mat 3 ee), (g11, 27, M.mat 3 dx), (g9, 29, M.mat 4 (RC.mk (-400) (-400) 400 400)), (g8, 25, M.mat 7 (WD.wn b0 b1)), (g7, 25, M.mat 7 (WD.wn c0 c1)), (g6, 25, M.mat 7 (WD.wn x y)), (g1, 50, pt x y d0 d1 m k u d true)] nilRow [gE w.heap.size ZA zc LZ, gE w.heap.size YA yc LY, gE w.heap.size XA xc LX]) (fun t16 _ => LX.length - (intOf t16).toNat)
    case atStart => exact ⟨0, Nat.zero_le _, rfl, O⟩
    case round =>
      clear O
      obtain ⟨i, hi, rfl, O⟩ := hrel
      have q0 : (0 : Int) ≤ i := by omega
      by_cases hlt : i < LX.length
      · have q1 : (i : Int) < LX.length := by omega
        have W1 : wrap64 ((i : Int) + 1) = (i : Int) + 1 := IntWalk.wrap64_in _ (by have := HLEN.out; omega)
        obtain ⟨f, hf⟩ : ∃ f, LX[i]? = some f := ⟨_, List.getElem?_eq_getElem hlt⟩
        obtain ⟨X, hX⟩ : ∃ X, f 0 = X := ⟨_, rfl⟩
        obtain ⟨Y, hY⟩ : ∃ Y, f 1 = Y := ⟨_, rfl⟩
        have FX : Hid ((gC LX)[i * 8]? = some (.int .i64 X)) := Lib.hid (by rw [← hX]; exact gC_at hf 0 _ rfl)
        have FY : Hid ((gC LX)[i * 8 + 1]? = some (.int .i64 Y)) := Lib.hid (by rw [← hY]; exact gC_at hf 1 _ rfl)
        by_cases hy : i < LY.length
        · have q2 : (i : Int) < LY.length := by omega
          obtain ⟨g, hg, hg0, hg1⟩ := HY.out i f hy hf
          have GX : Hid ((M.mat 8 g)[0]? = some (.int .i64 X)) := Lib.hid (by rw [← hX, ← hg0]; rfl)
          have GY : Hid ((M.mat 8 g)[1]? = some (.int .i64 Y)) := Lib.hid (by rw [← hY, ← hg1]; rfl)
          have HG := Lib.hid hg
          clear hf hX hY hg hg0 hg1
          go_wp2_with (first | ((with_reducible refine at_alloc 17 ?_); refine wpList_alloc_h O (M.mat 8 M.zero) zeroG ?_; clear O; intro g17 v1 O) | ((with_reducible refine at_index_ 181 ?_); refine wpList_at_h rfl Try.underlying38 sizeOfG (gE w.heap.size YA yc LY) (O.mem (List.mem_cons_of_mem _ List.mem_cons_self)) rfl i rfl (by first | rfl | omega) (by show i < LY.length; omega) rfl ?_) | ((with_reducible refine at_load 182 ?_); refine wpList_elem_h rfl (gE w.heap.size YA yc LY) (O.mem (List.mem_cons_of_mem _ List.mem_cons_self)) (i * 8) (M.mat 8 g) (gC_at HG.out) (by rw [M.mat_len]; decide) rfl Try.underlying43 rfl (sG _) ?_) | ((with_reducible refine at_store 17 ?_); refine wpList_put_h O 0 (M.mat 8 (g)) rfl rfl rfl (sG _) (M.mat_len2 _ _ _) (M.mat_one _ _) ?_; clear O; intro v2 O))
          have OO := O
          clear O
          have O := OO
          clear OO
          refine region_T ((fun w2 => Held w w2 ((g17, 43, M.mat 8 g) :: [(g15, 27, M.mat 3 df), (g13, 27, M.mat 3 ee), (g11, 27, M.mat 3 dx), (g9, 29, M.mat 4 (RC.mk (-400) (-400) 400 400)), (g8, 25, M.mat 7 (WD.wn b0 b1)), (g7, 25, M.mat 7 (WD.wn c0 c1)), (g6, 25, M.mat 7 (WD.wn x y)), (g1, 50, pt x y d0 d1 m k u d true)]) nilRow [gE w.heap.size ZA zc LZ, gE w.heap.size YA yc LY, gE w.heap.size XA xc LX])) [0, 1, 2, 3, 4, 5, 6, 7, 8, 9, 10, 11, 12, 13, 14, 15, 16] 12 [some 190, some 191, some 192, some 193, some 194, some 195, some 196, some 197, some 198, some 199, some 200, some 201, some 202, some 203, some 204, some 205, some 206] [.pointer (some ⟨g17, 0, none⟩), .int .i64 (X), .slice XA LX.length xc, .int .i64 (i : Int), .pointer (some ((adr XA).add (i * 8))), .pointer (some ((adr XA).add (i * 8))), .int .i64 (X), .bool false, .bool false, .pointer (some ⟨g17, 1, none⟩), .int .i64 (Y), .slice XA LX.length xc, .int .i64 (i : Int), .pointer (some ((adr XA).add (i * 8))), .pointer (some ⟨((adr XA).add (i * 8)).block, ((adr XA).add (i * 8)).off + 1, none⟩), .int .i64 (Y), .bool false] 1 (by kernel_rfl) (by rfl) (by kernel_rfl) (by rfl) (by rfl) (O.drew) (fun F hF => ?_)
          simp only [fillD, Act.put, List.setIfInBounds_toArray, List.set_cons_zero, List.set_cons_succ] at hF
          subst hF
          refine ⟨⟨does_want rfl (by rfl) (fun w' O K hK => ?_), does_want rfl (by rfl) (fun w' O K hK => ?_), does_want rfl (by rfl) (fun w' O K hK => ?_), does_want rfl (by rfl) (fun w' O K hK => ?_), does_want rfl (by rfl) (fun w' O K hK => ?_), does_want rfl (by rfl) (fun w' O K hK => ?_), does_want rfl (by rfl) (fun w' O K hK => ?_), does_want rfl (by rfl) (fun w' O K hK => ?_), does_want rfl (by rfl) (fun w' O K hK => ?_), does_want rfl (by rfl) (fun w' O K hK => ?_), does_want rfl (by rfl) (fun w' O K hK => ?_), does_want rfl (by rfl) (fun w' O K hK => ?_), does_want rfl (by rfl) (fun w' O K hK => ?_), does_want rfl (by rfl) (fun w' O K hK => ?_), does_want rfl (by rfl) (fun w' O K hK => ?_), does_want rfl (by rfl) (fun w' O K hK => ?_), does_want rfl (by rfl) (fun w' O K hK => ?_), trivial⟩, fun w' O => ?_⟩
          · go_simp
            exact hK _ O
          · exact wp_cell_h (v := .int .i64 (X)) O 0 rfl GX.out rfl agg3 rfl (hK _ O)
          · go_simp
            exact hK _ O
          · go_simp
            exact hK _ O
          · exact wp_at_h Try.underlying38 sizeOfG (gE w.heap.size XA xc LX) (O.mem (List.mem_cons_of_mem _ (List.mem_cons_of_mem _ List.mem_cons_self))) rfl i rfl rfl (by omega) rfl (hK _ O)
          · go_simp
            exact hK _ O
          · exact wp_ecell_h (gE w.heap.size XA xc LX) (O.mem (List.mem_cons_of_mem _ (List.mem_cons_of_mem _ List.mem_cons_self))) (i * 8) (v := .int .i64 X) FX.out rfl agg3 rfl (hK _ O)
          · go_simp
            first | exact hK _ O | (simp; exact hK _ O)
          · go_simp
            exact hK _ O
          · go_simp
            exact hK _ O
          · exact wp_cell_h (v := .int .i64 (Y)) O 0 rfl GY.out rfl agg3 rfl (hK _ O)
          · go_simp
            exact hK _ O
          · go_simp
            exact hK _ O
          · exact wp_at_h Try.underlying38 sizeOfG (gE w.heap.size XA xc LX) (O.mem (List.mem_cons_of_mem _ (List.mem_cons_of_mem _ List.mem_cons_self))) rfl i rfl rfl (by omega) rfl (hK _ O)
          · go_simp
            exact hK _ O
          · exact wp_ecell_h (gE w.heap.size XA xc LX) (O.mem (List.mem_cons_of_mem _ (List.mem_cons_of_mem _ List.mem_cons_self))) (i * 8 + 1) (v := .int .i64 Y) FY.out (congrArg (fun z => Value.pointer (some z)) (add_fld _ (i * 8) 1 (by decide))) agg3 rfl (hK _ O)
          · go_simp
            first | exact hK _ O | (simp; exact hK _ O)
          refine wpAny_one (i := 17) (by kernel_rfl) rfl (fun K hK => ?_)
          go_simp
          refine hK _ _ ?_
          clear hK K
          try simp only [Act.put, List.setIfInBounds_toArray, List.set_cons_zero, List.set_cons_succ]
          refine wpAny_done (by kernel_rfl) ?_ _
          go_wp2_with fail
          go_roundw
          case rel => exact ⟨i + 1, by omega, by go_num, O.tail⟩
          case measure => first | exact meas_lt W1 hlt | exact meas_lt2 hlt
        · have q2 : ¬ (i : Int) < LY.length := by omega
          obtain ⟨g, hg, hg0, hg1⟩ := HZ.out i f hy hf
          have GX : Hid ((M.mat 8 g)[0]? = some (.int .i64 X)) := Lib.hid (by rw [← hX, ← hg0]; rfl)
          have GY : Hid ((M.mat 8 g)[1]? = some (.int .i64 Y)) := Lib.hid (by rw [← hY, ← hg1]; rfl)
          have hjl : i - LY.length < LZ.length := (List.getElem?_eq_some_iff.1 hg).1
          obtain ⟨j, hj⟩ : ∃ j, i - LY.length = j := ⟨_, rfl⟩
          rw [hj] at hg hjl
          have HG := Lib.hid hg
          have W2 : wrap64 ((i : Int) - LY.length) = (j : Int) := by
            rw [show (i : Int) - LY.length = j by omega]
            exact IntWalk.wrap64_in _ (by have := HLEN.out; omega)
          have q4 : ¬ (j : Int) < 0 := by omega
          clear hf hX hY hg hg0 hg1 hj
          go_wp2_with (first | ((with_reducible refine at_alloc 17 ?_); refine wpList_alloc_h O (M.mat 8 M.zero) zeroG ?_; clear O; intro g17 v1 O) | ((with_reducible refine at_index_ 188 ?_); refine wpList_at_h rfl Try.underlying38 sizeOfG (gE w.heap.size ZA zc LZ) (O.mem List.mem_cons_self) rfl j rfl (by first | rfl | exact W2 | omega) (by show j < LZ.length; omega) rfl ?_) | ((with_reducible refine at_load 189 ?_); refine wpList_elem_h rfl (gE w.heap.size ZA zc LZ) (O.mem List.mem_cons_self) (j * 8) (M.mat 8 g) (gC_at HG.out) (by rw [M.mat_len]; decide) rfl Try.underlying43 rfl (sG _) ?_) | ((with_reducible refine at_store 17 ?_); refine wpList_put_h O 0 (M.mat 8 (g)) rfl rfl rfl (sG _) (M.mat_len2 _ _ _) (M.mat_one _ _) ?_; clear O; intro v2 O))
          try clear W2 q4
          have OO := O
          clear O
          have O := OO
          clear OO
          refine region_T ((fun w2 => Held w w2 ((g17, 43, M.mat 8 g) :: [(g15, 27, M.mat 3 df), (g13, 27, M.mat 3 ee), (g11, 27, M.mat 3 dx), (g9, 29, M.mat 4 (RC.mk (-400) (-400) 400 400)), (g8, 25, M.mat 7 (WD.wn b0 b1)), (g7, 25, M.mat 7 (WD.wn c0 c1)), (g6, 25, M.mat 7 (WD.wn x y)), (g1, 50, pt x y d0 d1 m k u d true)]) nilRow [gE w.heap.size ZA zc LZ, gE w.heap.size YA yc LY, gE w.heap.size XA xc LX])) [0, 1, 2, 3, 4, 5, 6, 7, 8, 9, 10, 11, 12, 13, 14, 15, 16] 12 [some 190, some 191, some 192, some 193, some 194, some 195, some 196, some 197, some 198, some 199, some 200, some 201, some 202, some 203, some 204, some 205, some 206] [.pointer (some ⟨g17, 0, none⟩), .int .i64 (X), .slice XA LX.length xc, .int .i64 (i : Int), .pointer (some ((adr XA).add (i * 8))), .pointer (some ((adr XA).add (i * 8))), .int .i64 (X), .bool false, .bool false, .pointer (some ⟨g17, 1, none⟩), .int .i64 (Y), .slice XA LX.length xc, .int .i64 (i : Int), .pointer (some ((adr XA).add (i * 8))), .pointer (some ⟨((adr XA).add (i * 8)).block, ((adr XA).add (i * 8)).off + 1, none⟩), .int .i64 (Y), .bool false] 1 (by kernel_rfl) (by rfl) (by kernel_rfl) (by rfl) (by rfl) (O.drew) (fun F hF => ?_)
          simp only [fillD, Act.put, List.setIfInBounds_toArray, List.set_cons_zero, List.set_cons_succ] at hF
          subst hF
          refine ⟨⟨does_want rfl (by rfl) (fun w' O K hK => ?_), does_want rfl (by rfl) (fun w' O K hK => ?_), does_want rfl (by rfl) (fun w' O K hK => ?_), does_want rfl (by rfl) (fun w' O K hK => ?_), does_want rfl (by rfl) (fun w' O K hK => ?_), does_want rfl (by rfl) (fun w' O K hK => ?_), does_want rfl (by rfl) (fun w' O K hK => ?_), does_want rfl (by rfl) (fun w' O K hK => ?_), does_want rfl (by rfl) (fun w' O K hK => ?_), does_want rfl (by rfl) (fun w' O K hK => ?_), does_want rfl (by rfl) (fun w' O K hK => ?_), does_want rfl (by rfl) (fun w' O K hK => ?_), does_want rfl (by rfl) (fun w' O K hK => ?_), does_want rfl (by rfl) (fun w' O K hK => ?_), does_want rfl (by rfl) (fun w' O K hK => ?_), does_want rfl (by rfl) (fun w' O K hK => ?_), does_want rfl (by rfl) (fun w' O K hK => ?_), trivial⟩, fun w' O => ?_⟩
          · go_simp
            exact hK _ O
          · exact wp_cell_h (v := .int .i64 (X)) O 0 rfl GX.out rfl agg3 rfl (hK _ O)
          · go_simp
            exact hK _ O
          · go_simp
            exact hK _ O
          · exact wp_at_h Try.underlying38 sizeOfG (gE w.heap.size XA xc LX) (O.mem (List.mem_cons_of_mem _ (List.mem_cons_of_mem _ List.mem_cons_self))) rfl i rfl rfl (by omega) rfl (hK _ O)
          · go_simp
            exact hK _ O
          · exact wp_ecell_h (gE w.heap.size XA xc LX) (O.mem (List.mem_cons_of_mem _ (List.mem_cons_of_mem _ List.mem_cons_self))) (i * 8) (v := .int .i64 X) FX.out rfl agg3 rfl (hK _ O)
          · go_simp
            first | exact hK _ O | (simp; exact hK _ O)
          · go_simp
            exact hK _ O
          · go_simp
            exact hK _ O
          · exact wp_cell_h (v := .int .i64 (Y)) O 0 rfl GY.out rfl agg3 rfl (hK _ O)
          · go_simp
            exact hK _ O
          · go_simp
            exact hK _ O
          · exact wp_at_h Try.underlying38 sizeOfG (gE w.heap.size XA xc LX) (O.mem (List.mem_cons_of_mem _ (List.mem_cons_of_mem _ List.mem_cons_self))) rfl i rfl rfl (by omega) rfl (hK _ O)
          · go_simp
            exact hK _ O
          · exact wp_ecell_h (gE w.heap.size XA xc LX) (O.mem (List.mem_cons_of_mem _ (List.mem_cons_of_mem _ List.mem_cons_self))) (i * 8 + 1) (v := .int .i64 Y) FY.out (congrArg (fun z => Value.pointer (some z)) (add_fld _ (i * 8) 1 (by decide))) agg3 rfl (hK _ O)
          · go_simp
            first | exact hK _ O | (simp; exact hK _ O)
          refine wpAny_one (i := 17) (by kernel_rfl) rfl (fun K hK => ?_)
          go_simp
          refine hK _ _ ?_
          clear hK K
          try simp only [Act.put, List.setIfInBounds_toArray, List.set_cons_zero, List.set_cons_succ]
          refine wpAny_done (by kernel_rfl) ?_ _
          go_wp2_with fail
          go_roundw
          case rel => exact ⟨i + 1, by omega, by go_num, O.tail⟩
          case measure => first | exact meas_lt W1 hlt | exact meas_lt2 hlt
      · have q1 : ¬ (i : Int) < LX.length := by omega
        go_wp2_with (first | (go_at_call 9; refine (awake_any _).mono ?_; rintro e w40 ⟨rfl, hb⟩; replace O := O.call hb; clear hb) | ((with_reducible refine at_load 210 ?_); refine wpList_rowg_h rfl O 2 rfl rfl Try.underlying27 rfl (sH _) ?_) | ((with_reducible refine at_load 211 ?_); refine wpList_rowg_h rfl O 0 rfl rfl Try.underlying27 rfl (sH _) ?_) | ((with_reducible refine at_binOp 212 ?_); refine wpList_eqH rfl (dx) (df) rfl rfl ?_; rw [HSM.out]))
        go_ret
        exact ⟨rfl, O.below⟩

theorem readable : ∀ t ∈ Try.f5.params.toList, Try.prog.readableRec t = true ∧ t < Try.prog.types.size := by
  intro t ht
  rw [Try.params5] at ht
  simp only [List.mem_cons, List.not_mem_nil, or_false] at ht
  repeat (first | (rcases ht with rfl | ht; exact ⟨by kernel_rfl, of_decide_eq_true (by kernel_rfl)⟩) | (subst ht; exact ⟨by kernel_rfl, of_decide_eq_true (by kernel_rfl)⟩))
set_option maxRecDepth 100000 in
theorem lifted (os : Os) (started : os.Started) (H : Type) (enc : TypeId × Value → H) :
    ReturnsInHanded {} Try.checked os 5 .any (Rows.widePartsSpec.pre6 enc Try.prog Try.f5 Rows.widePartsRow.domain false) (Rows.widePartsSpec.post enc Try.prog Try.f5 false true false false) := by
  refine returnsInHanded_of_change (C := Try.checked) own started (by kernel_rfl) Try.func5
    (ChangeSpec.witness6 (enc := enc) (C := Try.checked) false ⟨#[], #[.agg #[.int .i16 0, .int .i16 0, .int .i8 0, .int .i8 0, .int .u8 0, .int .u8 0, .int .u8 0, .int .i64 0, .int .i64 0, .int .i64 0, .bool false]], []⟩ 8 (by kernel_rfl) (by kernel_rfl) (by kernel_rfl) (by kernel_rfl)) ?_
  intro W base args ds gs before hval0 hW hcnd _
  have hval : ∀ (j : Nat) t v, Try.f5.params[j]? = some t → args[j]? = some v → Value.okWide Try.prog W .any base t v := hval0
  have hW' := hW
  obtain ⟨p, q, hA0, hV, rfl, hfz, hnd⟩ := hW
  have hA : DataW.TrodAll enc Try.prog W 0 (fun _ => true) true Try.f5.params.toList args.toList ds p := hA0
  rw [Try.params5] at hA hval
  have hlt : ∀ x ∈ p ++ q, x.block < W.heap.size := fun x hx => hW'.lt x hx
  obtain ⟨v0, vs0, d0, ds0, p0, q0, hargs, rfl, rfl, h0, rr0⟩ := trodAll_cons hA
  obtain ⟨rfl, rfl, rfl⟩ := trodAll_nil rr0
  obtain rfl : args = #[v0] := by cases args; simp_all
  obtain ⟨rfl, rfl⟩ := trodVars_none hV
  obtain ⟨x0, y0, f0, g0, m0, k0, u0, e0, s0, rfl, z0⟩ := openParts (hval 0 50 v0 rfl rfl) h0
  clear hA0 hval0
  refine (walk W x0 y0 f0 g0 m0 k0 u0 e0 s0 z0).mono fun e W' ⟨he, hg⟩ => ?_
  subst he
  exact ⟨_, rfl, post_true (tb := 4) laid readable (by kernel_rfl) Try.underlying4 rfl (fun l hl => by
    match l, hl with
    | [_], _ => exact ⟨rfl, rfl, rfl⟩) hW' hg⟩

theorem over : Rows.widePartsRow.holds Try.pinned (OpenSpec.ofChange Rows.widePartsSpec) :=
  OpenClaim.holds_of_wide 5 Try.f5 rfl rfl rfl rfl rfl rfl rfl ⟨rfl, rfl, rfl, rfl, rfl⟩ rfl rfl rfl rfl rfl (by kernel_rfl) Try.func5 (by kernel_rfl)
    (of_decide_eq_true (by kernel_rfl)) (by unfold Func.isWrapper; first | (rw [if_pos (by decide +kernel)]; kernel_rfl) | (rw [if_neg (by decide +kernel)]; exact ⟨rfl, rfl⟩))
    (fun os started H enc _ => lifted os started H enc)

theorem proved : Rows.WidePartsSaid :=
  over
#print axioms proved
end Go.Proofs.Ytpfhaocmcfnhnaa.wideParts
