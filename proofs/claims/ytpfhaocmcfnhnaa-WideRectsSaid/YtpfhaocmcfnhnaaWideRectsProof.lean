/-
  WideRects: of every line, what any rectangle (of 2000 pixels at most) shows is what one within it shows there, in the same order, with the same dash behind it.
-/
import Derived.Test.YtpfhaocmcfnhnaaWx
import Derived.Test.YtpfhaocmcfnhnaaWr
import Derived.Deep.DeepCutAuto
namespace Go.Proofs.Ytpfhaocmcfnhnaa.wideRects
open Go.ChangeShapes Go.WideShapes Go.ChangeAt Go.RowKit
set_option linter.unusedVariables false
set_option linter.unusedSimpArgs false

theorem own : ownKnob Try.prog.godebug = none := by kernel_rfl
theorem both_in {r q : Nat → Int} {x y : Int} (h : RC.has (RC.both r q) x y = true) : RC.has r x y = true := by
  unfold RC.both at h
  split at h
  · rename_i hh
    split at h
    · have h1 := RC.has_iff.1 h
      simp only [Bool.and_eq_true] at hh
      unfold RC.meet at h1
      simp only [RC.mk] at h1
      simp at h1
      exact RC.has_iff.2 ⟨hh.1, by omega, by omega, by omega, by omega⟩
    · rw [WD.has_bad RC.right_zero] at h
      cases h
  · rw [WD.has_bad RC.right_zero] at h
    cases h

set_option maxRecDepth 100000 in
set_option maxHeartbeats 16000000 in
theorem walk (w : World) (a b : Nat → Int) (n : Int) (s : Bool) (d r : Nat → Int) (u v : Int) (huv : (-128 ≤ u ∧ u ≤ 127) ∧ (-128 ≤ v ∧ v ≤ 127)) :
    Calls Try.prog 3 #[.agg (lw a b n s d r).toArray, .agg (two .i8 u v).toArray] w fun e w' => e = .returned (.bool true) ∧ Below w.heap.size w w' := by
  have O := Held.start w [] (by simp)
  have CR := fun w => rright_any r w
  have CA := fun w => rarea_any r w
  cases hr : RC.right r
  · rw [hr] at CR
    clear hr CA
    go_enter Try.func3, Try.ntmps3
    go_wp2_with (first | ((with_reducible refine at_box 2 ?_); refine wpList_box_h O (lw a b n s d r) rfl ?_; clear O; intro g2 w1 O) | ((with_reducible refine at_box 3 ?_); refine wpList_box_h O (two .i8 u v) rfl ?_; clear O; intro g3 w2 O) | ((with_reducible refine at_load 13 ?_); refine wpList_mid_h rfl O 1 rfl (M.mat 4 r) (lw_r a b n s d r) rfl Try.underlying29 rfl (sR _) ?_) | (go_at_call 7; refine (CR _).mono ?_; rintro e w3 ⟨rfl, hb⟩; replace O := O.call hb; clear hb) | (go_at_call 9; refine (awake_any _).mono ?_; rintro e w9 ⟨rfl, hb⟩; replace O := O.call hb; clear hb))
    go_ret
    exact ⟨rfl, O.below⟩
  rw [hr] at CR
  obtain ⟨A, hA⟩ : ∃ A, RC.area r = A := ⟨_, rfl⟩
  rw [hA] at CA
  cases k2 : decide (2000 < A)
  rotate_left
  · clear hr hA
    go_enter Try.func3, Try.ntmps3
    go_wp2_with (first | ((with_reducible refine at_box 2 ?_); refine wpList_box_h O (lw a b n s d r) rfl ?_; clear O; intro g2 w1 O) | ((with_reducible refine at_box 3 ?_); refine wpList_box_h O (two .i8 u v) rfl ?_; clear O; intro g3 w2 O) | ((with_reducible refine at_load 13 ?_); refine wpList_mid_h rfl O 1 rfl (M.mat 4 r) (lw_r a b n s d r) rfl Try.underlying29 rfl (sR _) ?_) | (go_at_call 7; refine (CR _).mono ?_; rintro e w3 ⟨rfl, hb⟩; replace O := O.call hb; clear hb) | ((with_reducible refine at_load 18 ?_); refine wpList_mid_h rfl O 1 rfl (M.mat 4 r) (lw_r a b n s d r) rfl Try.underlying29 rfl (sR _) ?_) | (go_at_call 8; refine (CA _).mono ?_; rintro e w4 ⟨rfl, hb⟩; replace O := O.call hb; clear hb) | (go_at_call 9; refine (awake_any _).mono ?_; rintro e w9 ⟨rfl, hb⟩; replace O := O.call hb; clear hb))
    go_ret
    exact ⟨rfl, O.below⟩
  obtain ⟨⟨u1, u2⟩, v1, v2⟩ := huv
  have hl := RC.right_iff.1 hr
  obtain ⟨x0, ex0⟩ : ∃ z, r 0 = z := ⟨_, rfl⟩
  obtain ⟨y0, ey0⟩ : ∃ z, r 1 = z := ⟨_, rfl⟩
  obtain ⟨x1, ex1⟩ : ∃ z, r 2 = z := ⟨_, rfl⟩
  obtain ⟨y1, ey1⟩ : ∃ z, r 3 = z := ⟨_, rfl⟩
  have D0 : Hid ((lw a b n s d r)[19]? = some (.int .i64 x0)) := Lib.hid (by rw [← ex0]; rfl)
  have D1 : Hid ((lw a b n s d r)[20]? = some (.int .i64 y0)) := Lib.hid (by rw [← ey0]; rfl)
  have D2 : Hid ((lw a b n s d r)[21]? = some (.int .i64 x1)) := Lib.hid (by rw [← ex1]; rfl)
  have D3 : Hid ((lw a b n s d r)[22]? = some (.int .i64 y1)) := Lib.hid (by rw [← ey1]; rfl)
  rw [ex0, ey0, ex1, ey1] at hl
  have W1 : wrap64 u = u := IntWalk.wrap64_in _ (by omega)
  have W2 : wrap64 v = v := IntWalk.wrap64_in _ (by omega)
  obtain ⟨p0, hp0⟩ : ∃ p, x0 + u = p := ⟨_, rfl⟩
  obtain ⟨p1, hp1⟩ : ∃ p, y0 + v = p := ⟨_, rfl⟩
  have W3 : wrap64 (x0 + u) = p0 := (IntWalk.wrap64_in _ (by omega)).trans hp0
  have W4 : wrap64 (y0 + v) = p1 := (IntWalk.wrap64_in _ (by omega)).trans hp1
  have CB := fun w => rand_any r (RC.mk p0 p1 x1 y1) w
  have hsub : ∀ p q, RC.has (RC.both r (RC.mk p0 p1 x1 y1)) p q = true → RC.has r p q = true := fun p q h => both_in h
  obtain ⟨c, hc⟩ : ∃ c, RC.both r (RC.mk p0 p1 x1 y1) = c := ⟨_, rfl⟩
  rw [hc] at CB hsub
  have CL := fun w => wline_any a b n s d r w
  have CM := fun w => wline_any a b n s d c w
  have hcut := WD.lin_cut hsub a b n s d
  have hhas := fun f => @WD.lin_has a b n s d r f
  have hlen := WD.lin_len a b n s d r
  obtain ⟨LA, hLA⟩ : ∃ l, WD.lin a b n s d r = l := ⟨_, rfl⟩
  obtain ⟨LB, hLB⟩ : ∃ l, WD.lin a b n s d c = l := ⟨_, rfl⟩
  obtain ⟨dd, hdd⟩ : ∃ l, WD.nxt a b n s d = l := ⟨_, rfl⟩
  rw [hLA] at CL hcut hhas hlen
  rw [hLB] at CM hcut
  rw [hdd] at CL CM
  have HH := Lib.hid (fun i f (h : LA[i]? = some f) => hhas f (List.mem_of_getElem? h))
  have HY := Lib.hid (fun i f (h : LA[i]? = some f) (hp : RC.has c (f 0) (f 1) = true) => @cntp_yes _ (fun f => RC.has c (f 0) (f 1)) LA i f h hp)
  have HN := Lib.hid (fun i f (h : LA[i]? = some f) (hp : RC.has c (f 0) (f 1) = false) => @cntp_no _ (fun f => RC.has c (f 0) (f 1)) LA i f h hp)
  have HE := Lib.hid (cntp_all (fun f : Nat → Int => RC.has c (f 0) (f 1)) LA)
  have HZ := Lib.hid (cntp_zero (fun f : Nat → Int => RC.has c (f 0) (f 1)) LA)
  have HLE := Lib.hid (cntp_le (fun f : Nat → Int => RC.has c (f 0) (f 1)) LA)
  rw [← hcut] at HY HE
  obtain ⟨cn, hcn⟩ : ∃ g : Nat → Nat, cntp (fun f : Nat → Int => RC.has c (f 0) (f 1)) LA = g := ⟨_, rfl⟩
  rw [hcn] at HY HN HE HZ HLE
  have HLEN := Lib.hid hlen
  have HR := Lib.hid (fun u v => rhas_any r u v)
  have HC := Lib.hid (fun u v => rhas_any c u v)
  clear hr hA hl hp0 hp1 hc hsub hcut hhas hlen hLA hLB hdd hcn u1 u2 v1 v2 ex0 ey0 ex1 ey1
  have tk0 : True := trivial
  go_enter Try.func3, Try.ntmps3
  go_wp2_with (first | ((with_reducible refine at_box 2 ?_); refine wpList_box_h O (lw a b n s d r) rfl ?_; clear O; intro g2 w1 O) | ((with_reducible refine at_box 3 ?_); refine wpList_box_h O (two .i8 u v) rfl ?_; clear O; intro g3 w2 O) | ((with_reducible refine at_load 13 ?_); refine wpList_mid_h rfl O 1 rfl (M.mat 4 r) (lw_r a b n s d r) rfl Try.underlying29 rfl (sR _) ?_) | (go_at_call 7; refine (CR _).mono ?_; rintro e w3 ⟨rfl, hb⟩; replace O := O.call hb; clear hb) | ((with_reducible refine at_load 18 ?_); refine wpList_mid_h rfl O 1 rfl (M.mat 4 r) (lw_r a b n s d r) rfl Try.underlying29 rfl (sR _) ?_) | (go_at_call 8; refine (CA _).mono ?_; rintro e w4 ⟨rfl, hb⟩; replace O := O.call hb; clear hb) | ((with_reducible refine at_load 24 ?_); refine wpList_mid_h rfl O 1 rfl (M.mat 4 r) (lw_r a b n s d r) rfl Try.underlying29 rfl (sR _) ?_) | ((with_reducible refine at_load 27 ?_); refine wpList_cell_h (v := .int .i64 x0) rfl O 1 rfl D0.out rfl agg3 rfl ?_) | ((with_reducible refine at_index_ 28 ?_); refine wpList_ino rfl Try.underlying33 sizeOfi8 (by decide) (0) rfl rfl (by rfl) (by omega) ?_) | ((with_reducible refine at_load 29 ?_); refine wpList_cell_h (v := .int .i8 u) rfl O 0 (i := 0) rfl rfl rfl aggi8 rfl ?_) | ((with_reducible refine at_load 34 ?_); refine wpList_cell_h (v := .int .i64 y0) rfl O 1 rfl D1.out rfl agg3 rfl ?_) | ((with_reducible refine at_index_ 35 ?_); refine wpList_ino rfl Try.underlying33 sizeOfi8 (by decide) (1) rfl rfl (by rfl) (by omega) ?_) | ((with_reducible refine at_load 36 ?_); refine wpList_cell_h (v := .int .i8 v) rfl O 0 (i := 1) rfl rfl rfl aggi8 rfl ?_) | ((with_reducible refine at_load 41 ?_); refine wpList_cell_h (v := .int .i64 x1) rfl O 1 rfl D2.out rfl agg3 rfl ?_) | ((with_reducible refine at_load 44 ?_); refine wpList_cell_h (v := .int .i64 y1) rfl O 1 rfl D3.out rfl agg3 rfl ?_) | ((with_reducible refine at_build 45 ?_); refine wpList_build_g rfl ([(0, .int .i64 p0), (1, .int .i64 p1), (2, .int .i64 x1), (3, .int .i64 y1)]) ((M.mat 4 (RC.mk p0 p1 x1 y1)).toArray) ?_ (builtR17 _ _ _ _) ?_; (focus (simp only [List.map_toArray, List.map_cons, List.map_nil]; rfl))) | (go_at_call 10; refine (CB _).mono ?_; rintro e w5 ⟨rfl, hb⟩; replace O := O.call hb; clear hb) | ((with_reducible refine at_alloc 5 ?_); refine wpList_alloc_h O (M.mat 4 M.zero) zeroR ?_; clear O; intro g5 w6 O) | ((with_reducible refine at_store 5 ?_); refine wpList_put_h O 0 (M.mat 4 (c)) rfl rfl rfl (sR _) (M.mat_len2 _ _ _) (M.mat_one _ _) ?_; clear O; intro w7 O) | ((with_reducible refine at_load 49 ?_); refine wpList_mid_h rfl O 2 rfl (M.mat 7 a) (lw_a a b n s d r) rfl Try.underlying25 rfl (sW _) ?_) | ((with_reducible refine at_load 51 ?_); refine wpList_mid_h rfl O 2 rfl (M.mat 7 b) (lw_b a b n s d r) rfl Try.underlying25 rfl (sW _) ?_) | ((with_reducible refine at_load 53 ?_); refine wpList_cell_h (v := .int .i64 n) rfl O 2 rfl (lw_n a b n s d r) rfl agg3 rfl ?_) | ((with_reducible refine at_load 55 ?_); refine wpList_cell_h (v := .bool s) rfl O 2 rfl (lw_s a b n s d r) rfl agg4' rfl ?_) | ((with_reducible refine at_load 57 ?_); refine wpList_mid_h rfl O 2 rfl (M.mat 3 d) (lw_d a b n s d r) rfl Try.underlying27 rfl (sH _) ?_) | ((with_reducible refine at_load 59 ?_); refine wpList_mid_h rfl O 2 rfl (M.mat 4 r) (lw_r a b n s d r) rfl Try.underlying29 rfl (sR _) ?_) | (go_at_call 11; clear tk0; have tk1 : True := trivial; refine (CL _).mono ?_; rintro e w8 ⟨XA, xc, rfl, hV, hb⟩; have O2 := O.gain hb hV; clear O hb hV; have O := O2; clear O2) | ((with_reducible refine at_alloc 7 ?_); refine wpList_alloc_h O (M.mat 3 M.zero) zeroH ?_; clear O; intro g7 w9 O) | ((with_reducible refine at_store 7 ?_); refine wpList_put_h O 0 (M.mat 3 (dd)) rfl rfl rfl (sH _) (M.mat_len2 _ _ _) (M.mat_one _ _) ?_; clear O; intro w10 O) | ((with_reducible refine at_load 65 ?_); refine wpList_mid_h rfl O 3 rfl (M.mat 7 a) (lw_a a b n s d r) rfl Try.underlying25 rfl (sW _) ?_) | ((with_reducible refine at_load 67 ?_); refine wpList_mid_h rfl O 3 rfl (M.mat 7 b) (lw_b a b n s d r) rfl Try.underlying25 rfl (sW _) ?_) | ((with_reducible refine at_load 69 ?_); refine wpList_cell_h (v := .int .i64 n) rfl O 3 rfl (lw_n a b n s d r) rfl agg3 rfl ?_) | ((with_reducible refine at_load 71 ?_); refine wpList_cell_h (v := .bool s) rfl O 3 rfl (lw_s a b n s d r) rfl agg4' rfl ?_) | ((with_reducible refine at_load 73 ?_); refine wpList_mid_h rfl O 3 rfl (M.mat 3 d) (lw_d a b n s d r) rfl Try.underlying27 rfl (sH _) ?_) | ((with_reducible refine at_load 74 ?_); refine wpList_rowg_h rfl O 1 rfl rfl Try.underlying29 rfl (sR _) ?_) | (go_at_call 11; clear tk1; have tk2 : True := trivial; refine (CM _).mono ?_; rintro e w11 ⟨YA, yc, rfl, hV, hb⟩; have O2 := O.gain hb hV; clear O hb hV; have O := O2; clear O2) | ((with_reducible refine at_alloc 9 ?_); refine wpList_alloc_h O (M.mat 3 M.zero) zeroH ?_; clear O; intro g9 w12 O) | ((with_reducible refine at_store 9 ?_); refine wpList_put_h O 0 (M.mat 3 (dd)) rfl rfl rfl (sH _) (M.mat_len2 _ _ _) (M.mat_one _ _) ?_; clear O; intro w13 O))
  have OX : Held w w13 [(g9, 27, M.mat 3 dd), (g7, 27, M.mat 3 dd), (g5, 29, M.mat 4 c), (g3, 33, two .i8 u v), (g2, 31, lw a b n s d r)] nilRow [gE w.heap.size YA yc LB, gE w.heap.size XA xc LA] := O
  clear O W1 W2 W3 W4 CR CA CB CL CM D0 D1 D2 D3 k2 tk2
  have O := OX
  clear OX
  go_loopw [10, 11] (fun t10 t11 wr => ∃ i : Nat, i ≤ LA.length ∧ t10 = .int .i64 (cn i : Int) ∧ t11 = .int .i64 (i : Int) ∧ Held w wr [(g9, 27, M.mat 3 dd), (g7, 27, M.mat 3 dd), (g5, 29, M.mat 4 c), (g3, 33, two .i8 u v), (g2, 31, lw a b n s d r)] nilRow [gE w.heap.size YA yc LB, gE w.heap.size XA xc LA]) (fun t10 t11 _ => LA.length - (intOf t11).toNat)
  case atStart => exact ⟨0, Nat.zero_le _, by rw [HZ.out]; rfl, rfl, O⟩
  case round =>
    clear O
    obtain ⟨i, hi, rfl, rfl, O⟩ := hrel
    have q0 : (0 : Int) ≤ i := by omega
    by_cases hlt : i < LA.length
    · have q1 : (i : Int) < LA.length := by omega
      obtain ⟨f, hf⟩ : ∃ f, LA[i]? = some f := ⟨_, List.getElem?_eq_getElem hlt⟩
      have W1 : wrap64 ((i : Int) + 1) = (i : Int) + 1 := IntWalk.wrap64_in _ (by have := HLEN.out; omega)
      have HF := Lib.hid hf
      have hh := HH.out i f hf
      have hy := HY.out i f hf
      have hn := HN.out i f hf
      have CR := HR.out (f 0) (f 1)
      have CC := HC.out (f 0) (f 1)
      rw [hh] at CR
      obtain ⟨X, hX⟩ : ∃ X, f 0 = X := ⟨_, rfl⟩
      obtain ⟨Y, hY⟩ : ∃ Y, f 1 = Y := ⟨_, rfl⟩
      rw [hX, hY] at CR CC hy hn
      have FX : Hid ((gC LA)[i * 8]? = some (.int .i64 X)) := Lib.hid (by rw [← hX]; exact gC_at hf 0 _ rfl)
      have FY : Hid ((gC LA)[i * 8 + 1]? = some (.int .i64 Y)) := Lib.hid (by rw [← hY]; exact gC_at hf 1 _ rfl)
      clear hf hh hX hY
      go_wp2_with fail
      have OO := O
      clear O
      have O := OO
      clear OO
      refine region_T ((fun w2 => Held w w2 [(g9, 27, M.mat 3 dd), (g7, 27, M.mat 3 dd), (g5, 29, M.mat 4 c), (g3, 33, two .i8 u v), (g2, 31, lw a b n s d r)] nilRow [gE w.heap.size YA yc LB, gE w.heap.size XA xc LA])) [0, 1, 2, 3, 4, 5, 6, 7, 8, 9, 10, 11, 12] 12 [some 84, some 85, some 86, some 87, some 88, some 89, some 90, some 91, some 92, some 93, some 94, some 95, some 96] [.pointer (some ⟨g2, 19, none⟩), arr 4 r, .slice XA LA.length xc, .int .i64 (i : Int), .pointer (some ((adr XA).add (i * 8))), .pointer (some ((adr XA).add (i * 8))), .int .i64 (X), .slice XA LA.length xc, .int .i64 (i : Int), .pointer (some ((adr XA).add (i * 8))), .pointer (some ⟨((adr XA).add (i * 8)).block, ((adr XA).add (i * 8)).off + 1, none⟩), .int .i64 (Y), .bool true] 1 (by kernel_rfl) (by rfl) (by kernel_rfl) (by rfl) (by rfl) (O.drew) (fun F hF => ?_)
      simp only [fillD, Act.put, List.setIfInBounds_toArray, List.set_cons_zero, List.set_cons_succ] at hF
      subst hF
      refine ⟨⟨does_want rfl (by rfl) (fun w' O K hK => ?_), does_want rfl (by rfl) (fun w' O K hK => ?_), does_want rfl (by rfl) (fun w' O K hK => ?_), does_want rfl (by rfl) (fun w' O K hK => ?_), does_want rfl (by rfl) (fun w' O K hK => ?_), does_want rfl (by rfl) (fun w' O K hK => ?_), does_want rfl (by rfl) (fun w' O K hK => ?_), does_want rfl (by rfl) (fun w' O K hK => ?_), does_want rfl (by rfl) (fun w' O K hK => ?_), does_want rfl (by rfl) (fun w' O K hK => ?_), does_want rfl (by rfl) (fun w' O K hK => ?_), does_want rfl (by rfl) (fun w' O K hK => ?_), does_want rfl (by rfl) (fun w' O K hK => ?_), trivial⟩, fun w' O => ?_⟩
      · go_simp
        exact hK _ O
      · exact wp_mid_h O 4 rfl (M.mat 4 r) (lw_r a b n s d r) rfl Try.underlying29 rfl (sR _) (hK _ O)
      · go_simp
        exact hK _ O
      · go_simp
        exact hK _ O
      · exact wp_at_h Try.underlying38 sizeOfG (gE w.heap.size XA xc LA) (O.mem (List.mem_cons_of_mem _ List.mem_cons_self)) rfl i rfl rfl (by omega) rfl (hK _ O)
      · go_simp
        exact hK _ O
      · exact wp_ecell_h (gE w.heap.size XA xc LA) (O.mem (List.mem_cons_of_mem _ List.mem_cons_self)) (i * 8) (v := .int .i64 X) FX.out rfl agg3 rfl (hK _ O)
      · go_simp
        exact hK _ O
      · go_simp
        exact hK _ O
      · exact wp_at_h Try.underlying38 sizeOfG (gE w.heap.size XA xc LA) (O.mem (List.mem_cons_of_mem _ List.mem_cons_self)) rfl i rfl rfl (by omega) rfl (hK _ O)
      · go_simp
        exact hK _ O
      · exact wp_ecell_h (gE w.heap.size XA xc LA) (O.mem (List.mem_cons_of_mem _ List.mem_cons_self)) (i * 8 + 1) (v := .int .i64 Y) FY.out (congrArg (fun z => Value.pointer (some z)) (add_fld _ (i * 8) 1 (by decide))) agg3 rfl (hK _ O)
      · go_simp
        go_at_call 12
        refine (CR _).mono ?_
        rintro e w2 ⟨rfl, hb⟩
        exact hK _ (O.call hb)
      refine wpAny_one (i := 13) (by kernel_rfl) rfl (fun K hK => ?_)
      go_simp
      refine hK _ _ ?_
      clear hK K
      try simp only [Act.put, List.setIfInBounds_toArray, List.set_cons_zero, List.set_cons_succ]
      refine wpAny_done (by kernel_rfl) ?_ _
      clear CR
      cases hc : RC.has c X Y
      · rw [hc] at CC
        have HR1 := Lib.hid (hn hc)
        clear hy hn hc
        go_wp2_with fail
        have OO := O
        clear O
        have O := OO
        clear OO
        refine region_T ((fun w2 => Held w w2 [(g9, 27, M.mat 3 dd), (g7, 27, M.mat 3 dd), (g5, 29, M.mat 4 c), (g3, 33, two .i8 u v), (g2, 31, lw a b n s d r)] nilRow [gE w.heap.size YA yc LB, gE w.heap.size XA xc LA])) [0, 1, 2, 3, 4, 5, 6, 7, 8, 9, 10, 11] 12 [some 98, some 99, some 100, some 101, some 102, some 103, some 104, some 105, some 106, some 107, some 108, some 109] [arr 4 c, .slice XA LA.length xc, .int .i64 (i : Int), .pointer (some ((adr XA).add (i * 8))), .pointer (some ((adr XA).add (i * 8))), .int .i64 (X), .slice XA LA.length xc, .int .i64 (i : Int), .pointer (some ((adr XA).add (i * 8))), .pointer (some ⟨((adr XA).add (i * 8)).block, ((adr XA).add (i * 8)).off + 1, none⟩), .int .i64 (Y), .bool false] 1 (by kernel_rfl) (by rfl) (by kernel_rfl) (by rfl) (by rfl) (O.drew) (fun F hF => ?_)
        simp only [fillD, Act.put, List.setIfInBounds_toArray, List.set_cons_zero, List.set_cons_succ] at hF
        subst hF
        refine ⟨⟨does_want rfl (by rfl) (fun w' O K hK => ?_), does_want rfl (by rfl) (fun w' O K hK => ?_), does_want rfl (by rfl) (fun w' O K hK => ?_), does_want rfl (by rfl) (fun w' O K hK => ?_), does_want rfl (by rfl) (fun w' O K hK => ?_), does_want rfl (by rfl) (fun w' O K hK => ?_), does_want rfl (by rfl) (fun w' O K hK => ?_), does_want rfl (by rfl) (fun w' O K hK => ?_), does_want rfl (by rfl) (fun w' O K hK => ?_), does_want rfl (by rfl) (fun w' O K hK => ?_), does_want rfl (by rfl) (fun w' O K hK => ?_), does_want rfl (by rfl) (fun w' O K hK => ?_), trivial⟩, fun w' O => ?_⟩
        · exact wp_row_h O 2 rfl rfl Try.underlying29 rfl (sR _) (hK _ O)
        · go_simp
          exact hK _ O
        · go_simp
          exact hK _ O
        · exact wp_at_h Try.underlying38 sizeOfG (gE w.heap.size XA xc LA) (O.mem (List.mem_cons_of_mem _ List.mem_cons_self)) rfl i rfl rfl (by omega) rfl (hK _ O)
        · go_simp
          exact hK _ O
        · exact wp_ecell_h (gE w.heap.size XA xc LA) (O.mem (List.mem_cons_of_mem _ List.mem_cons_self)) (i * 8) (v := .int .i64 X) FX.out rfl agg3 rfl (hK _ O)
        · go_simp
          exact hK _ O
        · go_simp
          exact hK _ O
        · exact wp_at_h Try.underlying38 sizeOfG (gE w.heap.size XA xc LA) (O.mem (List.mem_cons_of_mem _ List.mem_cons_self)) rfl i rfl rfl (by omega) rfl (hK _ O)
        · go_simp
          exact hK _ O
        · exact wp_ecell_h (gE w.heap.size XA xc LA) (O.mem (List.mem_cons_of_mem _ List.mem_cons_self)) (i * 8 + 1) (v := .int .i64 Y) FY.out (congrArg (fun z => Value.pointer (some z)) (add_fld _ (i * 8) 1 (by decide))) agg3 rfl (hK _ O)
        · go_simp
          go_at_call 12
          refine (CC _).mono ?_
          rintro e w2 ⟨rfl, hb⟩
          exact hK _ (O.call hb)
        refine wpAny_one (i := 12) (by kernel_rfl) rfl (fun K hK => ?_)
        go_simp
        refine hK _ _ ?_
        clear hK K
        try simp only [Act.put, List.setIfInBounds_toArray, List.set_cons_zero, List.set_cons_succ]
        refine wpAny_done (by kernel_rfl) ?_ _
        go_wp2_with fail
        go_roundw
        case rel => exact ⟨i + 1, by omega, by rw [HR1.out]; first | done | rfl | (go_num; done), by go_num, O⟩
        case measure => first | exact meas_lt W1 hlt | exact meas_lt2 hlt
      · rw [hc] at CC
        obtain ⟨hy1, hy2⟩ := hy hc
        have HR1 := Lib.hid hy1
        have hlt2 : cn i < LB.length := (List.getElem?_eq_some_iff.1 hy2).1
        have HG := Lib.hid hy2
        have W5 : wrap64 ((cn i : Int) + 1) = (cn i : Int) + 1 := IntWalk.wrap64_in _ (by have := HLEN.out; have := HLE.out i; omega)
        clear hy hn hc hy1 hy2
        obtain ⟨j, hj⟩ : ∃ j, cn i = j := ⟨_, rfl⟩
        rw [hj] at hlt2 HG W5 HR1 ⊢
        have HJ := Lib.hid hj
        clear hj
        have kb : decide ((LB.length : Int) ≤ j) = false := decide_eq_false (by omega)
        have kn : decide (LB.length ≤ j) = false := decide_eq_false (by omega)
        have km : ¬ LB.length ≤ j := by omega
        have q2 : (0 : Int) ≤ j := by omega
        go_wp2_with fail
        have OO := O
        clear O
        have O := OO
        clear OO
        refine region_T ((fun w2 => Held w w2 [(g9, 27, M.mat 3 dd), (g7, 27, M.mat 3 dd), (g5, 29, M.mat 4 c), (g3, 33, two .i8 u v), (g2, 31, lw a b n s d r)] nilRow [gE w.heap.size YA yc LB, gE w.heap.size XA xc LA])) [0, 1, 2, 3, 4, 5, 6, 7, 8, 9, 10, 11] 12 [some 98, some 99, some 100, some 101, some 102, some 103, some 104, some 105, some 106, some 107, some 108, some 109] [arr 4 c, .slice XA LA.length xc, .int .i64 (i : Int), .pointer (some ((adr XA).add (i * 8))), .pointer (some ((adr XA).add (i * 8))), .int .i64 (X), .slice XA LA.length xc, .int .i64 (i : Int), .pointer (some ((adr XA).add (i * 8))), .pointer (some ⟨((adr XA).add (i * 8)).block, ((adr XA).add (i * 8)).off + 1, none⟩), .int .i64 (Y), .bool true] 1 (by kernel_rfl) (by rfl) (by kernel_rfl) (by rfl) (by rfl) (O.drew) (fun F hF => ?_)
        simp only [fillD, Act.put, List.setIfInBounds_toArray, List.set_cons_zero, List.set_cons_succ] at hF
        subst hF
        refine ⟨⟨does_want rfl (by rfl) (fun w' O K hK => ?_), does_want rfl (by rfl) (fun w' O K hK => ?_), does_want rfl (by rfl) (fun w' O K hK => ?_), does_want rfl (by rfl) (fun w' O K hK => ?_), does_want rfl (by rfl) (fun w' O K hK => ?_), does_want rfl (by rfl) (fun w' O K hK => ?_), does_want rfl (by rfl) (fun w' O K hK => ?_), does_want rfl (by rfl) (fun w' O K hK => ?_), does_want rfl (by rfl) (fun w' O K hK => ?_), does_want rfl (by rfl) (fun w' O K hK => ?_), does_want rfl (by rfl) (fun w' O K hK => ?_), does_want rfl (by rfl) (fun w' O K hK => ?_), trivial⟩, fun w' O => ?_⟩
        · exact wp_row_h O 2 rfl rfl Try.underlying29 rfl (sR _) (hK _ O)
        · go_simp
          exact hK _ O
        · go_simp
          exact hK _ O
        · exact wp_at_h Try.underlying38 sizeOfG (gE w.heap.size XA xc LA) (O.mem (List.mem_cons_of_mem _ List.mem_cons_self)) rfl i rfl rfl (by omega) rfl (hK _ O)
        · go_simp
          exact hK _ O
        · exact wp_ecell_h (gE w.heap.size XA xc LA) (O.mem (List.mem_cons_of_mem _ List.mem_cons_self)) (i * 8) (v := .int .i64 X) FX.out rfl agg3 rfl (hK _ O)
        · go_simp
          exact hK _ O
        · go_simp
          exact hK _ O
        · exact wp_at_h Try.underlying38 sizeOfG (gE w.heap.size XA xc LA) (O.mem (List.mem_cons_of_mem _ List.mem_cons_self)) rfl i rfl rfl (by omega) rfl (hK _ O)
        · go_simp
          exact hK _ O
        · exact wp_ecell_h (gE w.heap.size XA xc LA) (O.mem (List.mem_cons_of_mem _ List.mem_cons_self)) (i * 8 + 1) (v := .int .i64 Y) FY.out (congrArg (fun z => Value.pointer (some z)) (add_fld _ (i * 8) 1 (by decide))) agg3 rfl (hK _ O)
        · go_simp
          go_at_call 12
          refine (CC _).mono ?_
          rintro e w2 ⟨rfl, hb⟩
          exact hK _ (O.call hb)
        refine wpAny_one (i := 12) (by kernel_rfl) rfl (fun K hK => ?_)
        go_simp
        refine hK _ _ ?_
        clear hK K
        try simp only [Act.put, List.setIfInBounds_toArray, List.set_cons_zero, List.set_cons_succ]
        refine wpAny_done (by kernel_rfl) ?_ _
        go_wp2_with fail
        have OO := O
        clear O
        have O := OO
        clear OO
        refine region_T ((fun w2 => Held w w2 [(g9, 27, M.mat 3 dd), (g7, 27, M.mat 3 dd), (g5, 29, M.mat 4 c), (g3, 33, two .i8 u v), (g2, 31, lw a b n s d r)] nilRow [gE w.heap.size YA yc LB, gE w.heap.size XA xc LA])) [0, 1, 2, 3, 4, 5, 6, 7, 8, 9, 10, 11, 12, 13] 12 [some 111, some 112, some 113, some 114, some 115, some 116, some 117, some 118, some 119, some 120, some 121, some 122, some 123, some 124] [.int .i64 (j : Int), .slice YA LB.length yc, .int .i64 (LB.length : Int), .bool false, .bool false, .slice XA LA.length xc, .int .i64 (i : Int), .pointer (some ((adr XA).add (i * 8))), arr 8 f, .slice YA LB.length yc, .int .i64 (j : Int), .pointer (some ((adr YA).add (j * 8))), arr 8 f, .bool false] 1 (by kernel_rfl) (by rfl) (by kernel_rfl) (by rfl) (by rfl) (O.drew) (fun F hF => ?_)
        simp only [fillD, Act.put, List.setIfInBounds_toArray, List.set_cons_zero, List.set_cons_succ] at hF
        subst hF
        refine ⟨⟨does_want rfl (by rfl) (fun w' O K hK => ?_), does_want rfl (by rfl) (fun w' O K hK => ?_), does_want rfl (by rfl) (fun w' O K hK => ?_), does_want rfl (by rfl) (fun w' O K hK => ?_), does_want rfl (by rfl) (fun w' O K hK => ?_), does_want rfl (by rfl) (fun w' O K hK => ?_), does_want rfl (by rfl) (fun w' O K hK => ?_), does_want rfl (by rfl) (fun w' O K hK => ?_), does_want rfl (by rfl) (fun w' O K hK => ?_), does_want rfl (by rfl) (fun w' O K hK => ?_), does_want rfl (by rfl) (fun w' O K hK => ?_), does_want rfl (by rfl) (fun w' O K hK => ?_), does_want rfl (by rfl) (fun w' O K hK => ?_), does_want rfl (by rfl) (fun w' O K hK => ?_), trivial⟩, fun w' O => ?_⟩
        · go_simp
          exact hK _ O
        · go_simp
          exact hK _ O
        · go_simp
          exact hK _ O
        · go_simp
          first | exact hK _ O | (rw [kb]; exact hK _ O) | (simp only [kb]; exact hK _ O) | (simp only [kn]; exact hK _ O) | (simp only [km, decide_false]; exact hK _ O)
        · go_simp
          exact hK _ O
        · go_simp
          exact hK _ O
        · go_simp
          exact hK _ O
        · exact wp_at_h Try.underlying38 sizeOfG (gE w.heap.size XA xc LA) (O.mem (List.mem_cons_of_mem _ List.mem_cons_self)) rfl i rfl rfl (by omega) rfl (hK _ O)
        · exact wp_elem_h (gE w.heap.size XA xc LA) (O.mem (List.mem_cons_of_mem _ List.mem_cons_self)) (i * 8) (M.mat 8 f) (gC_at HF.out) (by rw [M.mat_len]; decide) rfl Try.underlying43 rfl (sG _) (hK _ O)
        · go_simp
          exact hK _ O
        · go_simp
          exact hK _ O
        · exact wp_at_h Try.underlying38 sizeOfG (gE w.heap.size YA yc LB) (O.mem List.mem_cons_self) rfl j rfl rfl (by omega) rfl (hK _ O)
        · exact wp_elem_h (gE w.heap.size YA yc LB) (O.mem List.mem_cons_self) (j * 8) (M.mat 8 f) (gC_at HG.out) (by rw [M.mat_len]; decide) rfl Try.underlying43 rfl (sG _) (hK _ O)
        · refine wp_neqG f f rfl rfl ?_
          rw [M.eqB_refl]
          exact hK _ O
        refine wpAny_one (i := 14) (by kernel_rfl) rfl (fun K hK => ?_)
        go_simp
        refine hK _ _ ?_
        clear hK K
        try simp only [Act.put, List.setIfInBounds_toArray, List.set_cons_zero, List.set_cons_succ]
        refine wpAny_done (by kernel_rfl) ?_ _
        clear kb kn km
        go_wp2_with fail
        go_roundw
        case rel => exact ⟨i + 1, by omega, by rw [HR1.out]; first | done | rfl | (go_num; done), by go_num, O⟩
        case measure => first | exact meas_lt W1 hlt | exact meas_lt2 hlt
    · have q1 : ¬ (i : Int) < LA.length := by omega
      obtain rfl : i = LA.length := by omega
      have he := HE.out
      rw [he]
      clear he hlt
      go_wp2_with (first | (go_at_call 9; refine (awake_any _).mono ?_; rintro e w20 ⟨rfl, hb⟩; replace O := O.call hb; clear hb) | ((with_reducible refine at_load 136 ?_); refine wpList_rowg_h rfl O 1 rfl rfl Try.underlying27 rfl (sH _) ?_) | ((with_reducible refine at_load 137 ?_); refine wpList_rowg_h rfl O 0 rfl rfl Try.underlying27 rfl (sH _) ?_) | ((with_reducible refine at_binOp 138 ?_); refine wpList_eqH rfl (dd) (dd) rfl rfl ?_; rw [M.eqB_refl]))
      go_ret
      exact ⟨rfl, O.below⟩

theorem readable : ∀ t ∈ Try.f3.params.toList, Try.prog.readableRec t = true ∧ t < Try.prog.types.size := by
  intro t ht
  rw [Try.params3] at ht
  simp only [List.mem_cons, List.not_mem_nil, or_false] at ht
  repeat (first | (rcases ht with rfl | ht; exact ⟨by kernel_rfl, of_decide_eq_true (by kernel_rfl)⟩) | (subst ht; exact ⟨by kernel_rfl, of_decide_eq_true (by kernel_rfl)⟩))
set_option maxRecDepth 100000 in
theorem lifted (os : Os) (started : os.Started) (H : Type) (enc : TypeId × Value → H) :
    ReturnsInHanded {} Try.checked os 3 .any (Rows.wideRectsSpec.pre6 enc Try.prog Try.f3 Rows.wideRectsRow.domain false) (Rows.wideRectsSpec.post enc Try.prog Try.f3 false true false false) := by
  refine returnsInHanded_of_change (C := Try.checked) own started (by kernel_rfl) Try.func3
    (ChangeSpec.witness6 (enc := enc) (C := Try.checked) false ⟨#[], #[.agg #[.int .i64 0, .int .i64 0, .int .i64 0, .int .i64 0, .int .i64 0, .int .i64 0, .int .i64 0, .int .i64 0, .int .i64 0, .int .i64 0, .int .i64 0, .int .i64 0, .int .i64 0, .int .i64 0, .int .i64 0, .bool false, .int .i64 0, .int .i64 0, .int .i64 0, .int .i64 0, .int .i64 0, .int .i64 0, .int .i64 0], .agg #[.int .i8 0, .int .i8 0]], []⟩ 8 (by kernel_rfl) (by kernel_rfl) (by kernel_rfl) (by kernel_rfl)) ?_
  intro W base args ds gs before hval0 hW hcnd _
  have hval : ∀ (j : Nat) t v, Try.f3.params[j]? = some t → args[j]? = some v → Value.okWide Try.prog W .any base t v := hval0
  have hW' := hW
  obtain ⟨p, q, hA0, hV, rfl, hfz, hnd⟩ := hW
  have hA : DataW.TrodAll enc Try.prog W 0 (fun _ => true) true Try.f3.params.toList args.toList ds p := hA0
  rw [Try.params3] at hA hval
  have hlt : ∀ x ∈ p ++ q, x.block < W.heap.size := fun x hx => hW'.lt x hx
  obtain ⟨v0, vs0, d0, ds0, p0, q0, hargs, rfl, rfl, h0, rr0⟩ := trodAll_cons hA
  obtain ⟨v1, vs1, d1, ds1, p1, q1, rfl, rfl, rfl, h1, rr1⟩ := trodAll_cons rr0
  obtain ⟨rfl, rfl, rfl⟩ := trodAll_nil rr1
  obtain rfl : args = #[v0, v1] := by cases args; simp_all
  obtain ⟨rfl, rfl⟩ := trodVars_none hV
  obtain ⟨a0, b0, n0, s0, e0, r0, rfl⟩ := openLine (hval 0 31 v0 rfl rfl) h0
  obtain ⟨x1, y1, rfl, z1⟩ := openTwo8 (hval 1 33 v1 rfl rfl) h1
  clear hA0 hval0
  refine (walk W a0 b0 n0 s0 e0 r0 x1 y1 z1).mono fun e W' ⟨he, hg⟩ => ?_
  subst he
  exact ⟨_, rfl, post_true (tb := 4) laid readable (by kernel_rfl) Try.underlying4 rfl (fun l hl => by
    match l, hl with
    | [_, _], _ => exact ⟨rfl, rfl, rfl⟩) hW' hg⟩

theorem over : Rows.wideRectsRow.holds Try.pinned (OpenSpec.ofChange Rows.wideRectsSpec) :=
  OpenClaim.holds_of_wide 3 Try.f3 rfl rfl rfl rfl rfl rfl rfl ⟨rfl, rfl, rfl, rfl, rfl⟩ rfl rfl rfl rfl rfl (by kernel_rfl) Try.func3 (by kernel_rfl)
    (of_decide_eq_true (by kernel_rfl)) (by unfold Func.isWrapper; first | (rw [if_pos (by decide +kernel)]; kernel_rfl) | (rw [if_neg (by decide +kernel)]; exact ⟨rfl, rfl⟩))
    (fun os started H enc _ => lifted os started H enc)

theorem proved : Rows.WideRectsSaid :=
  over
#print axioms proved
end Go.Proofs.Ytpfhaocmcfnhnaa.wideRects
