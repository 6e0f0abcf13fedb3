/-
  TriMoves: a triangle that is moved by whole pixels has the same spans, moved; they are as long as the pixels that it has there.
-/
import Derived.Test.YtndaijcgjhmiaaaJh
import Derived.Deep.DeepCutAuto
namespace Go.Proofs.Ytndaijcgjhmiaaa.triMoves
open Go.ChangeShapes Go.WideShapes Go.ChangeAt Go.RowKit
set_option linter.unusedVariables false
set_option linter.unusedSimpArgs false

theorem own : ownKnob Try.prog.godebug = none := by kernel_rfl
/-- Beside lists that are held, one that a call in a region hands back at any time (operation j). -/
def HS1 (w0 : World) (bs : List (Nat × TypeId × List Value)) (es : List Ent) (j : Nat) (m : List (Nat → Int)) (st : Nat → Option Value) (w : World) : Prop :=
  Held w0 w bs nilRow es ∧ ∀ v, st j = some v → ∃ A c, v = .slice A m.length c ∧ Held w0 w bs nilRow (sE_ w0.heap.size A c m :: es)
section
variable {w0 w w' : World} {bs : List (Nat × TypeId × List Value)} {es : List Ent} {j : Nat} {m : List (Nat → Int)} {st : Nat → Option Value}
theorem HS1.start (O : Held w0 w bs nilRow es) : HS1 w0 bs es j m (fun _ => none) w := ⟨O, fun v hv => (by cases hv)⟩
theorem HS1.call (h : HS1 w0 bs es j m st w) (hb : Below w.heap.size w w') : HS1 w0 bs es j m st w' := ⟨h.1.call hb, fun v hv => by
  obtain ⟨A, c, e, hH⟩ := h.2 v hv
  exact ⟨A, c, e, hH.call hb⟩⟩
theorem HS1.gain (h : HS1 w0 bs es j m st w) {A : Option Addr} {c : Nat} (hL : Lies w' free (sE_ w.heap.size A c m)) (hb : Below w.heap.size w w') : HS1 w0 bs es j m (upd st j (.slice A m.length c)) w' := by
  refine ⟨h.1.call hb, fun v hv => ?_⟩
  rw [upd_same] at hv
  obtain rfl := Option.some.inj hv
  exact ⟨A, c, rfl, h.1.gain hb hL⟩
theorem HS1.get (h : HS1 w0 bs es j m st w) (ha : (st j).isSome = true) : ∃ A c, st j = some (.slice A m.length c) ∧ Held w0 w bs nilRow (sE_ w0.heap.size A c m :: es) := by
  obtain ⟨v, hv⟩ := Option.isSome_iff_exists.1 ha
  obtain ⟨A, c, rfl, hH⟩ := h.2 v hv
  exact ⟨A, c, hv, hH⟩
end
theorem builtN20 (x y : Int) : Try.prog.built 23 [(0, .int .i64 x), (1, .int .i64 y)] = some (M.mat 2 (DM.t2 x y)).toArray := by kernel_rfl
theorem builtT20 (a b c d e f : Int) : Try.prog.built 25 [(0, arr 2 (DM.t2 a b)), (1, arr 2 (DM.t2 c d)), (2, arr 2 (DM.t2 e f))] = some (M.mat 6 (six a b c d e f)).toArray := by kernel_rfl

set_option maxRecDepth 100000 in
set_option maxHeartbeats 16000000 in
theorem walk (w : World) (t : Nat → Int) (p q : Int) (hpq : (-128 ≤ p ∧ p ≤ 127) ∧ (-128 ≤ q ∧ q ≤ 127)) :
    Calls Try.prog 7 #[arr 6 t, .agg (two .i8 p q).toArray] w fun e w' => e = .returned (.bool true) ∧ Below w.heap.size w w' := by
  have O := Held.start w [] (by simp)
  obtain ⟨⟨p1, p2⟩, q1, q2⟩ := hpq
  have Hp : Hid (IntKind.i64.wrap p = p) := Lib.hid (IntWalk.i64_in _ (by omega))
  have Hq : Hid (IntKind.i64.wrap q = q) := Lib.hid (IntWalk.i64_in _ (by omega))
  obtain ⟨U, hU⟩ : ∃ z, 256 * p = z := ⟨_, rfl⟩
  obtain ⟨V, hV⟩ : ∃ z, 256 * q = z := ⟨_, rfl⟩
  have HU : wrap64 (256 * p) = U := (IntWalk.wrap64_in _ (by omega)).trans hU
  have HV : wrap64 (256 * q) = V := (IntWalk.wrap64_in _ (by omega)).trans hV
  obtain ⟨t0, et0⟩ : ∃ z, t 0 = z := ⟨_, rfl⟩
  have Ct0 := cell_is (n := 6) et0 (by decide)
  obtain ⟨t1, et1⟩ : ∃ z, t 1 = z := ⟨_, rfl⟩
  have Ct1 := cell_is (n := 6) et1 (by decide)
  obtain ⟨t2, et2⟩ : ∃ z, t 2 = z := ⟨_, rfl⟩
  have Ct2 := cell_is (n := 6) et2 (by decide)
  obtain ⟨t3, et3⟩ : ∃ z, t 3 = z := ⟨_, rfl⟩
  have Ct3 := cell_is (n := 6) et3 (by decide)
  obtain ⟨t4, et4⟩ : ∃ z, t 4 = z := ⟨_, rfl⟩
  have Ct4 := cell_is (n := 6) et4 (by decide)
  obtain ⟨t5, et5⟩ : ∃ z, t 5 = z := ⟨_, rfl⟩
  have Ct5 := cell_is (n := 6) et5 (by decide)
  obtain ⟨m0, hm0⟩ : ∃ z, wrap64 (t0 + U) = z := ⟨_, rfl⟩
  obtain ⟨m1, hm1⟩ : ∃ z, wrap64 (t1 + V) = z := ⟨_, rfl⟩
  obtain ⟨m2, hm2⟩ : ∃ z, wrap64 (t2 + U) = z := ⟨_, rfl⟩
  obtain ⟨m3, hm3⟩ : ∃ z, wrap64 (t3 + V) = z := ⟨_, rfl⟩
  obtain ⟨m4, hm4⟩ : ∃ z, wrap64 (t4 + U) = z := ⟨_, rfl⟩
  obtain ⟨m5, hm5⟩ : ∃ z, wrap64 (t5 + V) = z := ⟨_, rfl⟩
  have CF := fun w => lfits20 t w
  have CG := fun w => lfits20 (six m0 m1 m2 m3 m4 m5) w
  have HMV : TR.fitB t = true → TR.cA (six m0 m1 m2 m3 m4 m5) = TR.mv (TR.cA t) p q ∧ TR.cB (six m0 m1 m2 m3 m4 m5) = TR.mv (TR.cB t) p q ∧ TR.cC (six m0 m1 m2 m3 m4 m5) = TR.mv (TR.cC t) p q := fun h => by
    obtain ⟨⟨⟨a1, a2⟩, a3, a4⟩, ⟨⟨b1, b2⟩, b3, b4⟩, ⟨c1, c2⟩, c3, c4⟩ := TR.fitB_iff.1 h
    change -268435456 ≤ t 0 at a1
    change t 0 ≤ 268435456 at a2
    change -268435456 ≤ t 1 at a3
    change t 1 ≤ 268435456 at a4
    change -268435456 ≤ t 2 at b1
    change t 2 ≤ 268435456 at b2
    change -268435456 ≤ t 3 at b3
    change t 3 ≤ 268435456 at b4
    change -268435456 ≤ t 4 at c1
    change t 4 ≤ 268435456 at c2
    change -268435456 ≤ t 5 at c3
    change t 5 ≤ 268435456 at c4
    have e0 := (IntWalk.wrap64_in (t0 + U) (by omega)).symm.trans hm0
    have e1 := (IntWalk.wrap64_in (t1 + V) (by omega)).symm.trans hm1
    have e2 := (IntWalk.wrap64_in (t2 + U) (by omega)).symm.trans hm2
    have e3 := (IntWalk.wrap64_in (t3 + V) (by omega)).symm.trans hm3
    have e4 := (IntWalk.wrap64_in (t4 + U) (by omega)).symm.trans hm4
    have e5 := (IntWalk.wrap64_in (t5 + V) (by omega)).symm.trans hm5
    refine ⟨?_, ?_, ?_⟩
    · show TR.wn m0 m1 = TR.wn (t 0 + 256 * p) (t 1 + 256 * q)
      rw [et0, et1, hU, hV, e0, e1]
    · show TR.wn m2 m3 = TR.wn (t 2 + 256 * p) (t 3 + 256 * q)
      rw [et2, et3, hU, hV, e2, e3]
    · show TR.wn m4 m5 = TR.wn (t 4 + 256 * p) (t 5 + 256 * q)
      rw [et4, et5, hU, hV, e4, e5]
  replace HMV := Lib.hid HMV
  have HPQ := Lib.hid (show (-128 ≤ p ∧ p ≤ 127) ∧ (-128 ≤ q ∧ q ≤ 127) from ⟨⟨p1, p2⟩, q1, q2⟩)
  have T0 : True := trivial
  obtain ⟨z1, hz1⟩ : ∃ z, TR.fitB t = z := ⟨_, rfl⟩
  obtain ⟨z2, hz2⟩ : ∃ z, TR.fitB (six m0 m1 m2 m3 m4 m5) = z := ⟨_, rfl⟩
  rw [hz1] at CF
  rw [hz2] at CG
  have HZ1 := Lib.hid hz1
  have HZ2 := Lib.hid hz2
  clear hz1 hz2 p1 p2 q1 q2 hU hV et0 et1 et2 et3 et4 et5
  go_enter Try.func7, Try.ntmps7
  go_wp2_with (first | ((with_reducible refine at_box 2 ?_); refine wpList_box_h O (M.mat 6 (t)) rfl ?_; clear O; intro gt w1 O) | ((with_reducible refine at_box 3 ?_); refine wpList_box_h O (two .i8 p q) rfl ?_; clear O; intro g3 w2 O))
  refine region_T ((fun w2 => Held w w2 [(g3, 50, two .i8 p q), (gt, 25, M.mat 6 t)] nilRow [])) [0, 1, 2, 3, 4, 5, 6] 12 [some 13, some 14, some 15, some 16, some 17, some 18, some 5] [.pointer (some ⟨g3, 0, none⟩), .int .i8 p, .int .i64 (p), .pointer (some ⟨g3, 1, none⟩), .int .i8 q, .int .i64 (q), .int .i64 (p)] 1 (by kernel_rfl) (by rfl) (by kernel_rfl) (by rfl) (by rfl) (O.drew) (fun F hF => ?_)
  simp only [fillD, Act.put, List.setIfInBounds_toArray, List.set_cons_zero, List.set_cons_succ] at hF
  subst hF
  refine ⟨⟨does_want rfl (by rfl) (fun w' O K hK => ?_), does_want rfl (by rfl) (fun w' O K hK => ?_), does_want rfl (by rfl) (fun w' O K hK => ?_), does_want rfl (by rfl) (fun w' O K hK => ?_), does_want rfl (by rfl) (fun w' O K hK => ?_), does_want rfl (by rfl) (fun w' O K hK => ?_), does_want rfl (by rfl) (fun w' O K hK => ?_), trivial⟩, fun w' O => ?_⟩
  · exact wp_ino Try.underlying50 sizeOfi8 (by decide) (0) rfl rfl (by rfl) (by omega) (hK _ O)
  · exact wp_cell_h (v := .int .i8 p) O 0 (i := 0) rfl rfl rfl aggi8 rfl (hK _ O)
  · go_simp
    first | exact hK _ O | (simp only [Hp.out]; exact hK _ O)
  · exact wp_ino Try.underlying50 sizeOfi8 (by decide) (1) rfl rfl (by rfl) (by omega) (hK _ O)
  · exact wp_cell_h (v := .int .i8 q) O 0 (i := 1) rfl rfl rfl aggi8 rfl (hK _ O)
  · go_simp
    first | exact hK _ O | (simp only [Hq.out]; exact hK _ O)
  · go_simp
    exact hK _ O
  refine wpAny_one (i := 7) (by kernel_rfl) rfl (fun K hK => ?_)
  go_simp
  refine hK _ _ ?_
  clear hK K
  try simp only [Act.put, List.setIfInBounds_toArray, List.set_cons_zero, List.set_cons_succ]
  refine wpAny_done (by kernel_rfl) ?_ _
  clear Hp Hq
  cases z1
  · clear CG
    go_wp2_with (first | ((with_reducible refine at_load 21 ?_); refine wpList_cell_h (v := .int .i64 (t0)) rfl O 1 rfl Ct0.out rfl agg3 rfl ?_; (try simp only [Act.put, List.setIfInBounds_toArray, List.set_cons_zero, List.set_cons_succ])) | ((with_reducible refine at_load 27 ?_); refine wpList_cell_h (v := .int .i64 (t1)) rfl O 1 rfl Ct1.out rfl agg3 rfl ?_; (try simp only [Act.put, List.setIfInBounds_toArray, List.set_cons_zero, List.set_cons_succ])) | ((with_reducible refine at_load 34 ?_); refine wpList_cell_h (v := .int .i64 (t2)) rfl O 1 rfl Ct2.out rfl agg3 rfl ?_; (try simp only [Act.put, List.setIfInBounds_toArray, List.set_cons_zero, List.set_cons_succ])) | ((with_reducible refine at_load 40 ?_); refine wpList_cell_h (v := .int .i64 (t3)) rfl O 1 rfl Ct3.out rfl agg3 rfl ?_; (try simp only [Act.put, List.setIfInBounds_toArray, List.set_cons_zero, List.set_cons_succ])) | ((with_reducible refine at_load 47 ?_); refine wpList_cell_h (v := .int .i64 (t4)) rfl O 1 rfl Ct4.out rfl agg3 rfl ?_; (try simp only [Act.put, List.setIfInBounds_toArray, List.set_cons_zero, List.set_cons_succ])) | ((with_reducible refine at_load 53 ?_); refine wpList_cell_h (v := .int .i64 (t5)) rfl O 1 rfl Ct5.out rfl agg3 rfl ?_; (try simp only [Act.put, List.setIfInBounds_toArray, List.set_cons_zero, List.set_cons_succ])) | ((with_reducible refine at_build 31 ?_); refine wpList_build_g rfl ([(0, .int .i64 m0), (1, .int .i64 m1)]) ((M.mat 2 (DM.t2 m0 m1)).toArray) ?_ (builtN20 _ _) ?_; (focus (simp only [List.map_toArray, List.map_cons, List.map_nil, HU, HV, hm0, hm1, hm2, hm3, hm4, hm5]; rfl)); (try simp only [Act.put, List.setIfInBounds_toArray, List.set_cons_zero, List.set_cons_succ])) | ((with_reducible refine at_build 44 ?_); refine wpList_build_g rfl ([(0, .int .i64 m2), (1, .int .i64 m3)]) ((M.mat 2 (DM.t2 m2 m3)).toArray) ?_ (builtN20 _ _) ?_; (focus (simp only [List.map_toArray, List.map_cons, List.map_nil, HU, HV, hm0, hm1, hm2, hm3, hm4, hm5]; rfl)); (try simp only [Act.put, List.setIfInBounds_toArray, List.set_cons_zero, List.set_cons_succ])) | ((with_reducible refine at_build 57 ?_); refine wpList_build_g rfl ([(0, .int .i64 m4), (1, .int .i64 m5)]) ((M.mat 2 (DM.t2 m4 m5)).toArray) ?_ (builtN20 _ _) ?_; (focus (simp only [List.map_toArray, List.map_cons, List.map_nil, HU, HV, hm0, hm1, hm2, hm3, hm4, hm5]; rfl)); (try simp only [Act.put, List.setIfInBounds_toArray, List.set_cons_zero, List.set_cons_succ])) | ((with_reducible refine at_build 58 ?_); refine wpList_build_g rfl ([(0, arr 2 (DM.t2 m0 m1)), (1, arr 2 (DM.t2 m2 m3)), (2, arr 2 (DM.t2 m4 m5))]) ((M.mat 6 (six m0 m1 m2 m3 m4 m5)).toArray) ?_ (builtT20 _ _ _ _ _ _) ?_; (focus (simp only [List.map_toArray, List.map_cons, List.map_nil, HU, HV, hm0, hm1, hm2, hm3, hm4, hm5]; rfl)); (try simp only [Act.put, List.setIfInBounds_toArray, List.set_cons_zero, List.set_cons_succ])) | ((with_reducible refine at_alloc 7 ?_); refine wpList_alloc_h O (M.mat 6 M.zero) zeroT20 ?_; clear O; intro g7 w3 O) | ((with_reducible refine at_store 7 ?_); refine wpList_put_h O 0 (M.mat 6 ((six m0 m1 m2 m3 m4 m5))) rfl rfl rfl (sT20 _) (M.mat_len2 _ _ _) (M.mat_one _ _) ?_; clear O; intro w4 O) | ((with_reducible refine at_load 59 ?_); refine wpList_rowg_h rfl O 2 rfl rfl Try.underlying25 rfl (sT20 _) ?_) | (go_at_call 8; clear T0; have T1 : True := trivial; refine (CF _).mono ?_; rintro e w5 ⟨rfl, hb⟩; replace O := O.call hb; clear hb) | (go_at_call 10; refine (lawake20 _).mono ?_; rintro e w9 ⟨rfl, hb⟩; replace O := O.call hb; clear hb))
    go_ret
    exact ⟨rfl, O.below⟩
  cases z2
  · go_wp2_with (first | ((with_reducible refine at_load 21 ?_); refine wpList_cell_h (v := .int .i64 (t0)) rfl O 1 rfl Ct0.out rfl agg3 rfl ?_; (try simp only [Act.put, List.setIfInBounds_toArray, List.set_cons_zero, List.set_cons_succ])) | ((with_reducible refine at_load 27 ?_); refine wpList_cell_h (v := .int .i64 (t1)) rfl O 1 rfl Ct1.out rfl agg3 rfl ?_; (try simp only [Act.put, List.setIfInBounds_toArray, List.set_cons_zero, List.set_cons_succ])) | ((with_reducible refine at_load 34 ?_); refine wpList_cell_h (v := .int .i64 (t2)) rfl O 1 rfl Ct2.out rfl agg3 rfl ?_; (try simp only [Act.put, List.setIfInBounds_toArray, List.set_cons_zero, List.set_cons_succ])) | ((with_reducible refine at_load 40 ?_); refine wpList_cell_h (v := .int .i64 (t3)) rfl O 1 rfl Ct3.out rfl agg3 rfl ?_; (try simp only [Act.put, List.setIfInBounds_toArray, List.set_cons_zero, List.set_cons_succ])) | ((with_reducible refine at_load 47 ?_); refine wpList_cell_h (v := .int .i64 (t4)) rfl O 1 rfl Ct4.out rfl agg3 rfl ?_; (try simp only [Act.put, List.setIfInBounds_toArray, List.set_cons_zero, List.set_cons_succ])) | ((with_reducible refine at_load 53 ?_); refine wpList_cell_h (v := .int .i64 (t5)) rfl O 1 rfl Ct5.out rfl agg3 rfl ?_; (try simp only [Act.put, List.setIfInBounds_toArray, List.set_cons_zero, List.set_cons_succ])) | ((with_reducible refine at_build 31 ?_); refine wpList_build_g rfl ([(0, .int .i64 m0), (1, .int .i64 m1)]) ((M.mat 2 (DM.t2 m0 m1)).toArray) ?_ (builtN20 _ _) ?_; (focus (simp only [List.map_toArray, List.map_cons, List.map_nil, HU, HV, hm0, hm1, hm2, hm3, hm4, hm5]; rfl)); (try simp only [Act.put, List.setIfInBounds_toArray, List.set_cons_zero, List.set_cons_succ])) | ((with_reducible refine at_build 44 ?_); refine wpList_build_g rfl ([(0, .int .i64 m2), (1, .int .i64 m3)]) ((M.mat 2 (DM.t2 m2 m3)).toArray) ?_ (builtN20 _ _) ?_; (focus (simp only [List.map_toArray, List.map_cons, List.map_nil, HU, HV, hm0, hm1, hm2, hm3, hm4, hm5]; rfl)); (try simp only [Act.put, List.setIfInBounds_toArray, List.set_cons_zero, List.set_cons_succ])) | ((with_reducible refine at_build 57 ?_); refine wpList_build_g rfl ([(0, .int .i64 m4), (1, .int .i64 m5)]) ((M.mat 2 (DM.t2 m4 m5)).toArray) ?_ (builtN20 _ _) ?_; (focus (simp only [List.map_toArray, List.map_cons, List.map_nil, HU, HV, hm0, hm1, hm2, hm3, hm4, hm5]; rfl)); (try simp only [Act.put, List.setIfInBounds_toArray, List.set_cons_zero, List.set_cons_succ])) | ((with_reducible refine at_build 58 ?_); refine wpList_build_g rfl ([(0, arr 2 (DM.t2 m0 m1)), (1, arr 2 (DM.t2 m2 m3)), (2, arr 2 (DM.t2 m4 m5))]) ((M.mat 6 (six m0 m1 m2 m3 m4 m5)).toArray) ?_ (builtT20 _ _ _ _ _ _) ?_; (focus (simp only [List.map_toArray, List.map_cons, List.map_nil, HU, HV, hm0, hm1, hm2, hm3, hm4, hm5]; rfl)); (try simp only [Act.put, List.setIfInBounds_toArray, List.set_cons_zero, List.set_cons_succ])) | ((with_reducible refine at_alloc 7 ?_); refine wpList_alloc_h O (M.mat 6 M.zero) zeroT20 ?_; clear O; intro g7 w3 O) | ((with_reducible refine at_store 7 ?_); refine wpList_put_h O 0 (M.mat 6 ((six m0 m1 m2 m3 m4 m5))) rfl rfl rfl (sT20 _) (M.mat_len2 _ _ _) (M.mat_one _ _) ?_; clear O; intro w4 O) | ((with_reducible refine at_load 59 ?_); refine wpList_rowg_h rfl O 2 rfl rfl Try.underlying25 rfl (sT20 _) ?_) | (go_at_call 8; clear T0; have T1 : True := trivial; refine (CF _).mono ?_; rintro e w5 ⟨rfl, hb⟩; replace O := O.call hb; clear hb) | ((with_reducible refine at_load 63 ?_); refine wpList_rowg_h rfl O 0 rfl rfl Try.underlying25 rfl (sT20 _) ?_) | (go_at_call 8; clear T1; have T2 : True := trivial; refine (CG _).mono ?_; rintro e w6 ⟨rfl, hb⟩; replace O := O.call hb; clear hb) | (go_at_call 10; refine (lawake20 _).mono ?_; rintro e w9 ⟨rfl, hb⟩; replace O := O.call hb; clear hb))
    go_ret
    exact ⟨rfl, O.below⟩
  go_wp2_with (first | ((with_reducible refine at_load 21 ?_); refine wpList_cell_h (v := .int .i64 (t0)) rfl O 1 rfl Ct0.out rfl agg3 rfl ?_; (try simp only [Act.put, List.setIfInBounds_toArray, List.set_cons_zero, List.set_cons_succ])) | ((with_reducible refine at_load 27 ?_); refine wpList_cell_h (v := .int .i64 (t1)) rfl O 1 rfl Ct1.out rfl agg3 rfl ?_; (try simp only [Act.put, List.setIfInBounds_toArray, List.set_cons_zero, List.set_cons_succ])) | ((with_reducible refine at_load 34 ?_); refine wpList_cell_h (v := .int .i64 (t2)) rfl O 1 rfl Ct2.out rfl agg3 rfl ?_; (try simp only [Act.put, List.setIfInBounds_toArray, List.set_cons_zero, List.set_cons_succ])) | ((with_reducible refine at_load 40 ?_); refine wpList_cell_h (v := .int .i64 (t3)) rfl O 1 rfl Ct3.out rfl agg3 rfl ?_; (try simp only [Act.put, List.setIfInBounds_toArray, List.set_cons_zero, List.set_cons_succ])) | ((with_reducible refine at_load 47 ?_); refine wpList_cell_h (v := .int .i64 (t4)) rfl O 1 rfl Ct4.out rfl agg3 rfl ?_; (try simp only [Act.put, List.setIfInBounds_toArray, List.set_cons_zero, List.set_cons_succ])) | ((with_reducible refine at_load 53 ?_); refine wpList_cell_h (v := .int .i64 (t5)) rfl O 1 rfl Ct5.out rfl agg3 rfl ?_; (try simp only [Act.put, List.setIfInBounds_toArray, List.set_cons_zero, List.set_cons_succ])) | ((with_reducible refine at_build 31 ?_); refine wpList_build_g rfl ([(0, .int .i64 m0), (1, .int .i64 m1)]) ((M.mat 2 (DM.t2 m0 m1)).toArray) ?_ (builtN20 _ _) ?_; (focus (simp only [List.map_toArray, List.map_cons, List.map_nil, HU, HV, hm0, hm1, hm2, hm3, hm4, hm5]; rfl)); (try simp only [Act.put, List.setIfInBounds_toArray, List.set_cons_zero, List.set_cons_succ])) | ((with_reducible refine at_build 44 ?_); refine wpList_build_g rfl ([(0, .int .i64 m2), (1, .int .i64 m3)]) ((M.mat 2 (DM.t2 m2 m3)).toArray) ?_ (builtN20 _ _) ?_; (focus (simp only [List.map_toArray, List.map_cons, List.map_nil, HU, HV, hm0, hm1, hm2, hm3, hm4, hm5]; rfl)); (try simp only [Act.put, List.setIfInBounds_toArray, List.set_cons_zero, List.set_cons_succ])) | ((with_reducible refine at_build 57 ?_); refine wpList_build_g rfl ([(0, .int .i64 m4), (1, .int .i64 m5)]) ((M.mat 2 (DM.t2 m4 m5)).toArray) ?_ (builtN20 _ _) ?_; (focus (simp only [List.map_toArray, List.map_cons, List.map_nil, HU, HV, hm0, hm1, hm2, hm3, hm4, hm5]; rfl)); (try simp only [Act.put, List.setIfInBounds_toArray, List.set_cons_zero, List.set_cons_succ])) | ((with_reducible refine at_build 58 ?_); refine wpList_build_g rfl ([(0, arr 2 (DM.t2 m0 m1)), (1, arr 2 (DM.t2 m2 m3)), (2, arr 2 (DM.t2 m4 m5))]) ((M.mat 6 (six m0 m1 m2 m3 m4 m5)).toArray) ?_ (builtT20 _ _ _ _ _ _) ?_; (focus (simp only [List.map_toArray, List.map_cons, List.map_nil, HU, HV, hm0, hm1, hm2, hm3, hm4, hm5]; rfl)); (try simp only [Act.put, List.setIfInBounds_toArray, List.set_cons_zero, List.set_cons_succ])) | ((with_reducible refine at_alloc 7 ?_); refine wpList_alloc_h O (M.mat 6 M.zero) zeroT20 ?_; clear O; intro g7 w3 O) | ((with_reducible refine at_store 7 ?_); refine wpList_put_h O 0 (M.mat 6 ((six m0 m1 m2 m3 m4 m5))) rfl rfl rfl (sT20 _) (M.mat_len2 _ _ _) (M.mat_one _ _) ?_; clear O; intro w4 O) | ((with_reducible refine at_load 59 ?_); refine wpList_rowg_h rfl O 2 rfl rfl Try.underlying25 rfl (sT20 _) ?_) | (go_at_call 8; clear T0; have T1 : True := trivial; refine (CF _).mono ?_; rintro e w5 ⟨rfl, hb⟩; replace O := O.call hb; clear hb) | ((with_reducible refine at_load 63 ?_); refine wpList_rowg_h rfl O 0 rfl rfl Try.underlying25 rfl (sT20 _) ?_) | (go_at_call 8; clear T1; have T2 : True := trivial; refine (CG _).mono ?_; rintro e w6 ⟨rfl, hb⟩; replace O := O.call hb; clear hb))
  have OX := O.1
  clear O CF CG T2 HU HV hm0 hm1 hm2 hm3 hm4 hm5 Ct0 Ct1 Ct2 Ct3 Ct4 Ct5
  have O : Held w w6 [(g7, 25, M.mat 6 (six m0 m1 m2 m3 m4 m5)), (g3, 50, two .i8 p q), (gt, 25, M.mat 6 t)] nilRow [] := OX.held
  clear OX
  have hz1 := HZ1.out
  have hz2 := HZ2.out
  obtain ⟨ma, mb, mc⟩ := TR.fitB_iff.1 hz1
  obtain ⟨na, nb, nc⟩ := TR.fitB_iff.1 hz2
  obtain ⟨eA, eB, eC⟩ := HMV.out hz1
  have hpq := HPQ.out
  have Wca : ∀ w, Calls Try.prog 11 #[arr 2 (D.sub 0 t)] w fun e w' => e = .returned (arr 7 (TR.cA t)) ∧ Below w.heap.size w w' := fun w => lwin20 (D.sub 0 t) w
  have Wcb : ∀ w, Calls Try.prog 11 #[arr 2 (D.sub 2 t)] w fun e w' => e = .returned (arr 7 (TR.cB t)) ∧ Below w.heap.size w w' := fun w => lwin20 (D.sub 2 t) w
  have Wcc : ∀ w, Calls Try.prog 11 #[arr 2 (D.sub 4 t)] w fun e w' => e = .returned (arr 7 (TR.cC t)) ∧ Below w.heap.size w w' := fun w => lwin20 (D.sub 4 t) w
  have Uca : ∀ w, Calls Try.prog 11 #[arr 2 (D.sub 0 (six m0 m1 m2 m3 m4 m5))] w fun e w' => e = .returned (arr 7 (TR.cA (six m0 m1 m2 m3 m4 m5))) ∧ Below w.heap.size w w' := fun w => lwin20 (D.sub 0 (six m0 m1 m2 m3 m4 m5)) w
  have Ucb : ∀ w, Calls Try.prog 11 #[arr 2 (D.sub 2 (six m0 m1 m2 m3 m4 m5))] w fun e w' => e = .returned (arr 7 (TR.cB (six m0 m1 m2 m3 m4 m5))) ∧ Below w.heap.size w w' := fun w => lwin20 (D.sub 2 (six m0 m1 m2 m3 m4 m5)) w
  have Ucc : ∀ w, Calls Try.prog 11 #[arr 2 (D.sub 4 (six m0 m1 m2 m3 m4 m5))] w fun e w' => e = .returned (arr 7 (TR.cC (six m0 m1 m2 m3 m4 m5))) ∧ Below w.heap.size w w' := fun w => lwin20 (D.sub 4 (six m0 m1 m2 m3 m4 m5)) w
  have hr1 : RC.right (RC.mk (-9) (-9) 12 12) = true := by decide
  have hr2 : RC.right (TR.mvr (RC.mk (-9) (-9) 12 12) p q) = true := by
    rw [RC.right_iff]
    show ((-4194304 ≤ -9 + p ∧ -9 + p ≤ 4194304) ∧ (-4194304 ≤ -9 + q ∧ -9 + q ≤ 4194304) ∧ (-4194304 ≤ 12 + p ∧ 12 + p ≤ 4194304) ∧ (-4194304 ≤ 12 + q ∧ 12 + q ≤ 4194304)) ∧ (-9 + p < 12 + p) ∧ (-9 + q < 12 + q)
    omega
  have ha1 : RC.area (RC.mk (-9) (-9) 12 12) ≤ 100000 := by decide
  have ha2 : RC.area (TR.mvr (RC.mk (-9) (-9) 12 12) p q) ≤ 100000 := by
    rw [RC.area_in hr2]
    show (12 + p - (-9 + p)) * (12 + q - (-9 + q)) ≤ 100000
    rw [show 12 + p - (-9 + p) = 21 by omega, show 12 + q - (-9 + q) = 21 by omega]
    decide
  have CL := fun w => pspans20_any (TR.cA t) (TR.cB t) (TR.cC t) (RC.mk (-9) (-9) 12 12) ma mb mc ha1 w
  have CM := fun w => pspans20_any (TR.cA (six m0 m1 m2 m3 m4 m5)) (TR.cB (six m0 m1 m2 m3 m4 m5)) (TR.cC (six m0 m1 m2 m3 m4 m5)) (TR.mvr (RC.mk (-9) (-9) 12 12) p q) na nb nc ha2 w
  have CH := Lib.hid (fun x y (hx : -4194304 ≤ x ∧ x ≤ 4194304) (hy : -4194304 ≤ y ∧ y ≤ 4194304) w => phas20_any (TR.cA t) (TR.cB t) (TR.cC t) ma mb mc x y hx hy w)
  have hLM : TR.spans (TR.cA (six m0 m1 m2 m3 m4 m5)) (TR.cB (six m0 m1 m2 m3 m4 m5)) (TR.cC (six m0 m1 m2 m3 m4 m5)) (TR.mvr (RC.mk (-9) (-9) 12 12) p q) = (TR.spans (TR.cA t) (TR.cB t) (TR.cC t) (RC.mk (-9) (-9) 12 12)).map fun s => TR.mvs s p q := by
    rw [eA, eB, eC]
    exact TR.spans_moved hr1 hr2
  have hmem := fun s => @TR.spans_mem (TR.cA t) (TR.cB t) (TR.cC t) (RC.mk (-9) (-9) 12 12) s
  have hlen : (TR.spans (TR.cA t) (TR.cB t) (TR.cC t) (RC.mk (-9) (-9) 12 12)).length ≤ 100000 := TR.spans_len (n := 100000) ha1
  obtain ⟨LA, hLA⟩ : ∃ l, TR.spans (TR.cA t) (TR.cB t) (TR.cC t) (RC.mk (-9) (-9) 12 12) = l := ⟨_, rfl⟩
  rw [hLA] at CL hLM hlen
  simp only [hLA] at hmem
  have hmr : TR.mvr (RC.mk (-9) (-9) 12 12) p q = RC.mk (-9 + p) (-9 + q) (12 + p) (12 + q) := rfl
  rw [hmr] at CM hLM
  obtain ⟨x0, hx0⟩ : ∃ z, -9 + p = z := ⟨_, rfl⟩
  obtain ⟨x1, hx1⟩ : ∃ z, -9 + q = z := ⟨_, rfl⟩
  obtain ⟨x2, hx2⟩ : ∃ z, 12 + p = z := ⟨_, rfl⟩
  obtain ⟨x3, hx3⟩ : ∃ z, 12 + q = z := ⟨_, rfl⟩
  rw [hx0, hx1, hx2, hx3] at CM hLM
  have X0 : Hid (IntKind.i64.wrap (p - 9) = x0) := Lib.hid ((IntWalk.i64_in _ (by omega)).trans (by omega))
  have X1 : Hid (IntKind.i64.wrap (q - 9) = x1) := Lib.hid ((IntWalk.i64_in _ (by omega)).trans (by omega))
  have X2 : Hid (IntKind.i64.wrap (p + 12) = x2) := Lib.hid ((IntWalk.i64_in _ (by omega)).trans (by omega))
  have X3 : Hid (IntKind.i64.wrap (q + 12) = x3) := Lib.hid ((IntWalk.i64_in _ (by omega)).trans (by omega))
  obtain ⟨LB, hLB⟩ : ∃ l, TR.spans (TR.cA (six m0 m1 m2 m3 m4 m5)) (TR.cB (six m0 m1 m2 m3 m4 m5)) (TR.cC (six m0 m1 m2 m3 m4 m5)) (RC.mk x0 x1 x2 x3) = l := ⟨_, rfl⟩
  rw [hLB] at CM hLM
  generalize TR.cA (six m0 m1 m2 m3 m4 m5) = ua at *
  generalize TR.cB (six m0 m1 m2 m3 m4 m5) = ub at *
  generalize TR.cC (six m0 m1 m2 m3 m4 m5) = uc at *
  generalize TR.cA t = ca at *
  generalize TR.cB t = cb at *
  generalize TR.cC t = cc at *
  generalize TR.has ca cb cc = hs at *
  have HMEM := Lib.hid hmem
  have HLEN := Lib.hid hlen
  have HM := Lib.hid hLM
  clear hz1 hz2 ma mb mc na nb nc eA eB eC hpq hr1 hr2 ha1 ha2 hLA hLB hmem hlen hLM hmr hx0 hx1 hx2 hx3 HMV HZ1 HZ2
  go_wp2_with fail
  refine region_S (fun st w2 => HS1 w [(g7, 25, M.mat 6 (six m0 m1 m2 m3 m4 m5)), (g3, 50, two .i8 p q), (gt, 25, M.mat 6 t)] [] 10 LA st w2) [10] 12 11 [some 68, some 69, some 70, some 71, some 72, some 73, some 74, some 75, some 76, some 77, some 78] (fun g => [.pointer (some ⟨gt, 0, none⟩), arr 2 (D.sub 0 t), arr 7 ca, .pointer (some ⟨gt, 2, none⟩), arr 2 (D.sub 2 t), arr 7 cb, .pointer (some ⟨gt, 4, none⟩), arr 2 (D.sub 4 t), arr 7 cc, arr 4 (RC.mk (-9) (-9) 12 12), g 10]) 1 (by kernel_rfl) (by kernel_rfl) (by rfl) (by rfl) (fun _ => rfl) (by decide) ?_ (HS1.start O.drew) (fun F hF => ?_)
  · intro i hi
    simp only [List.mem_cons, List.not_mem_nil, or_false] at hi
    rcases hi with rfl
    · exact ⟨fun _ => rfl, [0, 1, 2, 3, 4, 5, 6, 7, 8, 9], by kernel_rfl, fun g v => ⟨rfl, rfl, rfl, rfl, rfl, rfl, rfl, rfl, rfl, rfl, trivial⟩⟩
  simp only [fillD, Act.put, List.setIfInBounds_toArray, List.set_cons_zero, List.set_cons_succ] at hF
  have hF2 := funext hF
  clear hF
  subst hF2
  refine ⟨⟨doesN_want (by decide) rfl (fun g => rfl) (fun st w' hS hp K hK => ?_), doesN_want (by decide) rfl (fun g => rfl) (fun st w' hS hp K hK => ?_), doesN_want (by decide) rfl (fun g => rfl) (fun st w' hS hp K hK => ?_), doesN_want (by decide) rfl (fun g => rfl) (fun st w' hS hp K hK => ?_), doesN_want (by decide) rfl (fun g => rfl) (fun st w' hS hp K hK => ?_), doesN_want (by decide) rfl (fun g => rfl) (fun st w' hS hp K hK => ?_), doesN_want (by decide) rfl (fun g => rfl) (fun st w' hS hp K hK => ?_), doesN_want (by decide) rfl (fun g => rfl) (fun st w' hS hp K hK => ?_), doesN_want (by decide) rfl (fun g => rfl) (fun st w' hS hp K hK => ?_), doesN_want (by decide) rfl (fun g => rfl) (fun st w' hS hp K hK => ?_), doesC_want (by decide) rfl (fun g => rfl) (fun st w' hS hn hp K hK => ?_), trivial⟩, fun st w' hS hall => ?_⟩
  · try dsimp only
    go_simp
    exact hK _ hS
  · try dsimp only
    exact wp_mid_h hS.1 2 rfl (M.mat 2 (D.sub 0 t)) (mat_sub t (by decide)) rfl Try.underlying23 rfl (sN20 _) (hK _ hS)
  · try dsimp only
    go_simp
    go_at_call 11
    refine (Wca _).mono ?_
    rintro e w2 ⟨rfl, hb⟩
    exact hK _ (hS.call hb)
  · try dsimp only
    go_simp
    exact hK _ hS
  · try dsimp only
    exact wp_mid_h hS.1 2 rfl (M.mat 2 (D.sub 2 t)) (mat_sub t (by decide)) rfl Try.underlying23 rfl (sN20 _) (hK _ hS)
  · try dsimp only
    go_simp
    go_at_call 11
    refine (Wcb _).mono ?_
    rintro e w2 ⟨rfl, hb⟩
    exact hK _ (hS.call hb)
  · try dsimp only
    go_simp
    exact hK _ hS
  · try dsimp only
    exact wp_mid_h hS.1 2 rfl (M.mat 2 (D.sub 4 t)) (mat_sub t (by decide)) rfl Try.underlying23 rfl (sN20 _) (hK _ hS)
  · try dsimp only
    go_simp
    go_at_call 11
    refine (Wcc _).mono ?_
    rintro e w2 ⟨rfl, hb⟩
    exact hK _ (hS.call hb)
  · try dsimp only
    refine wp_build_own ([(0, .int .i64 (-9)), (1, .int .i64 (-9)), (2, .int .i64 12), (3, .int .i64 12)]) ((M.mat 4 (RC.mk (-9) (-9) 12 12)).toArray) ?_ (builtR17 _ _ _ _) (hK _ hS)
    simp only [List.map_toArray, List.map_cons, List.map_nil]
    rfl
  · try dsimp only
    go_simp
    go_at_call 13
    refine (CL _).mono ?_
    rintro e w2 ⟨VA, vc, rfl, hL, hb⟩
    exact hK _ _ (hS.gain hL hb)
  try dsimp only
  clear O
  obtain ⟨XA, xc, e1, h1⟩ := hS.get (hall 10 (by decide))
  have O : Held w w' [(g7, 25, M.mat 6 (six m0 m1 m2 m3 m4 m5)), (g3, 50, two .i8 p q), (gt, 25, M.mat 6 t)] nilRow [(sE_ w.heap.size XA xc LA)] := h1
  clear h1 hS
  simp only [seen, e1, Option.getD_some]
  clear hall e1
  refine wpAny_one (i := 11) (by kernel_rfl) rfl (fun K hK => ?_)
  go_simp
  refine hK _ _ ?_
  clear hK K
  try simp only [Act.put, List.setIfInBounds_toArray, List.set_cons_zero, List.set_cons_succ]
  refine wpAny_done (by kernel_rfl) ?_ _
  go_wp2_with fail
  have OX : Held w _ [(g7, 25, M.mat 6 (six m0 m1 m2 m3 m4 m5)), (g3, 50, two .i8 p q), (gt, 25, M.mat 6 t)] nilRow [(sE_ w.heap.size XA xc LA)] := O
  clear O
  have O := OX
  clear OX
  refine region_S (fun st w2 => HS1 w [(g7, 25, M.mat 6 (six m0 m1 m2 m3 m4 m5)), (g3, 50, two .i8 p q), (gt, 25, M.mat 6 t)] [(sE_ w.heap.size XA xc LA)] 18 LB st w2) [18] 12 19 [some 79, some 80, some 81, some 82, some 83, some 84, some 85, some 86, some 87, some 88, some 89, some 90, some 91, some 92, some 93, some 94, some 95, some 96, some 97] (fun g => [.pointer (some ⟨g7, 0, none⟩), arr 2 (D.sub 0 (six m0 m1 m2 m3 m4 m5)), arr 7 ua, .pointer (some ⟨g7, 2, none⟩), arr 2 (D.sub 2 (six m0 m1 m2 m3 m4 m5)), arr 7 ub, .pointer (some ⟨g7, 4, none⟩), arr 2 (D.sub 4 (six m0 m1 m2 m3 m4 m5)), arr 7 uc, .int .i64 (p), .int .i64 (x0), .int .i64 (q), .int .i64 (x1), .int .i64 (p), .int .i64 (x2), .int .i64 (q), .int .i64 (x3), arr 4 (RC.mk x0 x1 x2 x3), g 18]) 1 (by kernel_rfl) (by kernel_rfl) (by rfl) (by rfl) (fun _ => rfl) (by decide) ?_ (HS1.start O.drew) (fun F hF => ?_)
  · intro i hi
    simp only [List.mem_cons, List.not_mem_nil, or_false] at hi
    rcases hi with rfl
    · exact ⟨fun _ => rfl, [0, 1, 2, 3, 4, 5, 6, 7, 8, 9, 10, 11, 12, 13, 14, 15, 16, 17], by kernel_rfl, fun g v => ⟨rfl, rfl, rfl, rfl, rfl, rfl, rfl, rfl, rfl, rfl, rfl, rfl, rfl, rfl, rfl, rfl, rfl, rfl, trivial⟩⟩
  simp only [fillD, Act.put, List.setIfInBounds_toArray, List.set_cons_zero, List.set_cons_succ] at hF
  have hF2 := funext hF
  clear hF
  subst hF2
  refine ⟨⟨doesN_want (by decide) rfl (fun g => rfl) (fun st w' hS hp K hK => ?_), doesN_want (by decide) rfl (fun g => rfl) (fun st w' hS hp K hK => ?_), doesN_want (by decide) rfl (fun g => rfl) (fun st w' hS hp K hK => ?_), doesN_want (by decide) rfl (fun g => rfl) (fun st w' hS hp K hK => ?_), doesN_want (by decide) rfl (fun g => rfl) (fun st w' hS hp K hK => ?_), doesN_want (by decide) rfl (fun g => rfl) (fun st w' hS hp K hK => ?_), doesN_want (by decide) rfl (fun g => rfl) (fun st w' hS hp K hK => ?_), doesN_want (by decide) rfl (fun g => rfl) (fun st w' hS hp K hK => ?_), doesN_want (by decide) rfl (fun g => rfl) (fun st w' hS hp K hK => ?_), doesN_want (by decide) rfl (fun g => rfl) (fun st w' hS hp K hK => ?_), doesN_want (by decide) rfl (fun g => rfl) (fun st w' hS hp K hK => ?_), doesN_want (by decide) rfl (fun g => rfl) (fun st w' hS hp K hK => ?_), doesN_want (by decide) rfl (fun g => rfl) (fun st w' hS hp K hK => ?_), doesN_want (by decide) rfl (fun g => rfl) (fun st w' hS hp K hK => ?_), doesN_want (by decide) rfl (fun g => rfl) (fun st w' hS hp K hK => ?_), doesN_want (by decide) rfl (fun g => rfl) (fun st w' hS hp K hK => ?_), doesN_want (by decide) rfl (fun g => rfl) (fun st w' hS hp K hK => ?_), doesN_want (by decide) rfl (fun g => rfl) (fun st w' hS hp K hK => ?_), doesC_want (by decide) rfl (fun g => rfl) (fun st w' hS hn hp K hK => ?_), trivial⟩, fun st w' hS hall => ?_⟩
  · try dsimp only
    go_simp
    exact hK _ hS
  · try dsimp only
    exact wp_mid_h hS.1 0 rfl (M.mat 2 (D.sub 0 (six m0 m1 m2 m3 m4 m5))) (mat_sub (six m0 m1 m2 m3 m4 m5) (by decide)) rfl Try.underlying23 rfl (sN20 _) (hK _ hS)
  · try dsimp only
    go_simp
    go_at_call 11
    refine (Uca _).mono ?_
    rintro e w2 ⟨rfl, hb⟩
    exact hK _ (hS.call hb)
  · try dsimp only
    go_simp
    exact hK _ hS
  · try dsimp only
    exact wp_mid_h hS.1 0 rfl (M.mat 2 (D.sub 2 (six m0 m1 m2 m3 m4 m5))) (mat_sub (six m0 m1 m2 m3 m4 m5) (by decide)) rfl Try.underlying23 rfl (sN20 _) (hK _ hS)
  · try dsimp only
    go_simp
    go_at_call 11
    refine (Ucb _).mono ?_
    rintro e w2 ⟨rfl, hb⟩
    exact hK _ (hS.call hb)
  · try dsimp only
    go_simp
    exact hK _ hS
  · try dsimp only
    exact wp_mid_h hS.1 0 rfl (M.mat 2 (D.sub 4 (six m0 m1 m2 m3 m4 m5))) (mat_sub (six m0 m1 m2 m3 m4 m5) (by decide)) rfl Try.underlying23 rfl (sN20 _) (hK _ hS)
  · try dsimp only
    go_simp
    go_at_call 11
    refine (Ucc _).mono ?_
    rintro e w2 ⟨rfl, hb⟩
    exact hK _ (hS.call hb)
  · try dsimp only
    go_simp
    exact hK _ hS
  · try dsimp only
    go_simp
    simp only [X0.out]
    exact hK _ hS
  · try dsimp only
    go_simp
    exact hK _ hS
  · try dsimp only
    go_simp
    simp only [X1.out]
    exact hK _ hS
  · try dsimp only
    go_simp
    exact hK _ hS
  · try dsimp only
    go_simp
    simp only [X2.out]
    exact hK _ hS
  · try dsimp only
    go_simp
    exact hK _ hS
  · try dsimp only
    go_simp
    simp only [X3.out]
    exact hK _ hS
  · try dsimp only
    refine wp_build_own ([(0, .int .i64 x0), (1, .int .i64 x1), (2, .int .i64 x2), (3, .int .i64 x3)]) ((M.mat 4 (RC.mk x0 x1 x2 x3)).toArray) ?_ (builtR17 _ _ _ _) (hK _ hS)
    simp only [List.map_toArray, List.map_cons, List.map_nil]
    rfl
  · try dsimp only
    go_simp
    go_at_call 13
    refine (CM _).mono ?_
    rintro e w2 ⟨VA, vc, rfl, hL, hb⟩
    exact hK _ _ (hS.gain hL hb)
  try dsimp only
  clear O
  obtain ⟨YA, yc, e1, h1⟩ := hS.get (hall 18 (by decide))
  have O : Held w w' [(g7, 25, M.mat 6 (six m0 m1 m2 m3 m4 m5)), (g3, 50, two .i8 p q), (gt, 25, M.mat 6 t)] nilRow [(sE_ w.heap.size YA yc LB), (sE_ w.heap.size XA xc LA)] := h1
  clear h1 hS
  simp only [seen, e1, Option.getD_some]
  clear hall e1
  refine wpAny_one (i := 19) (by kernel_rfl) rfl (fun K hK => ?_)
  go_simp
  refine hK _ _ ?_
  clear hK K
  try simp only [Act.put, List.setIfInBounds_toArray, List.set_cons_zero, List.set_cons_succ]
  refine wpAny_done (by kernel_rfl) ?_ _
  have OX : Held w _ [(g7, 25, M.mat 6 (six m0 m1 m2 m3 m4 m5)), (g3, 50, two .i8 p q), (gt, 25, M.mat 6 t)] nilRow [(sE_ w.heap.size YA yc LB), (sE_ w.heap.size XA xc LA)] := O
  clear O
  have O := OX
  clear OX X0 X1 X2 X3 CL CM Uca Ucb Ucc
  have hlab : LB.length = LA.length := by rw [HM.out, List.length_map]
  have K1 : ((LA.length : Int) != (LB.length : Int)) = false := by rw [hlab]; simp
  have HAB := Lib.hid hlab
  clear hlab
  go_wp2_with fail
  clear K1
  have OX : Held w _ [(g7, 25, M.mat 6 (six m0 m1 m2 m3 m4 m5)), (g3, 50, two .i8 p q), (gt, 25, M.mat 6 t)] nilRow [(sE_ w.heap.size YA yc LB), (sE_ w.heap.size XA xc LA)] := O
  clear O
  have O := OX
  clear OX
  go_loopw [10] (fun u wr => ∃ i : Nat, i ≤ LA.length ∧ u = .int .i64 (i : Int) ∧ Held w wr [(g7, 25, M.mat 6 (six m0 m1 m2 m3 m4 m5)), (g3, 50, two .i8 p q), (gt, 25, M.mat 6 t)] nilRow [(sE_ w.heap.size YA yc LB), (sE_ w.heap.size XA xc LA)]) (fun u _ => LA.length - (intOf u).toNat)
  case atStart => exact ⟨0, Nat.zero_le _, rfl, O⟩
  case round =>
    clear O
    obtain ⟨i, hi, rfl, O⟩ := hrel
    have q0 : (0 : Int) ≤ i := by omega
    by_cases hlt : i < LA.length
    · have q1 : (i : Int) < LA.length := by omega
      obtain ⟨f, hf⟩ : ∃ f, LA[i]? = some f := ⟨_, List.getElem?_eq_getElem hlt⟩
      obtain ⟨y, P, Q, rfl, ly, lx, hin⟩ := HMEM.out f (List.mem_of_getElem? hf)
      change -9 ≤ y ∧ y < 12 at ly
      change -9 ≤ P ∧ P < Q ∧ Q ≤ 12 at lx
      change ∀ x, -9 ≤ x → x < 12 → (hs x y = true ↔ P ≤ x ∧ x < Q) at hin
      have hg : LB[i]? = some (TR.sp (y + q) (P + p) (Q + p)) := by rw [HM.out, List.getElem?_map, hf]; rfl
      have hltB : i < LB.length := by rw [HAB.out]; exact hlt
      have Wi : wrap64 ((i : Int) + 1) = (i : Int) + 1 := IntWalk.wrap64_in _ (by have := HLEN.out; omega)
      have hpq := HPQ.out
      obtain ⟨y', hy'⟩ : ∃ z, y + q = z := ⟨_, rfl⟩
      obtain ⟨P', hP'⟩ : ∃ z, P + p = z := ⟨_, rfl⟩
      obtain ⟨Q', hQ'⟩ : ∃ z, Q + p = z := ⟨_, rfl⟩
      have V1 : Hid (IntKind.i64.wrap (y + q) = y') := Lib.hid ((IntWalk.i64_in _ (by omega)).trans hy')
      have V2 : Hid (IntKind.i64.wrap (P + p) = P') := Lib.hid ((IntWalk.i64_in _ (by omega)).trans hP')
      have V3 : Hid (IntKind.i64.wrap (Q + p) = Q') := Lib.hid ((IntWalk.i64_in _ (by omega)).trans hQ')
      rw [hy', hP', hQ'] at hg
      have HF := Lib.hid hf
      have HG := Lib.hid hg
      have HIN := Lib.hid hin
      have HL := Lib.hid (And.intro ly lx)
      have CHy := Lib.hid (fun x (hx : -4194304 ≤ x ∧ x ≤ 4194304) w => CH.out x y hx (by omega) w)
      obtain ⟨P0, hP0⟩ : ∃ z, P - 1 = z := ⟨_, rfl⟩
      have V4 : wrap64 (P - 1) = P0 := (IntWalk.wrap64_in _ (by omega)).trans hP0
      have HP0 := Lib.hid hP0
      have K1 : decide (P < -9) = false := decide_eq_false (by omega)
      have K2 : decide (P ≥ Q) = false := decide_eq_false (by omega)
      have K2b : decide (Q ≤ P) = false := decide_eq_false (by omega)
      have K3 : decide (Q > 12) = false := decide_eq_false (by omega)
      have K3b : decide (12 < Q) = false := decide_eq_false (by omega)
      clear hf hg hin ly lx hpq hy' hP' hQ' hP0
      go_wp2_with (first | ((with_reducible refine at_index_ 111 ?_); refine wpList_at_h rfl Try.underlying37 sizeOfS20 ((sE_ w.heap.size XA xc LA)) (O.mem (List.mem_cons_of_mem _ List.mem_cons_self)) rfl i rfl (by first | rfl | omega) (hlt) (by first | rfl | exact HAB.out.symm) ?_; (try simp only [Act.put, List.setIfInBounds_toArray, List.set_cons_zero, List.set_cons_succ])) | ((with_reducible refine at_load 112 ?_); refine wpList_elem_h rfl _ (O.mem (List.mem_cons_of_mem _ List.mem_cons_self)) (i * 3) (M.mat 3 (TR.sp y P Q)) (sC_at HF.out) (by rw [M.mat_len]; decide) rfl Try.underlying52 rfl (sS20 _) ?_; (try simp only [Act.put, List.setIfInBounds_toArray, List.set_cons_zero, List.set_cons_succ])) | ((with_reducible refine at_alloc 11 ?_); refine wpList_alloc_h O (M.mat 3 M.zero) zeroS20 ?_; clear O; intro g11 y1w O) | ((with_reducible refine at_store 11 ?_); refine wpList_put_h O 0 (M.mat 3 (TR.sp y P Q)) rfl rfl rfl (sS20 _) (M.mat_len2 _ _ _) (M.mat_one _ _) ?_; clear O; intro y2w O))
      have OO := O
      clear O
      have O := OO
      clear OO
      refine region_T ((fun w2 => Held w w2 ((g11, 52, M.mat 3 (TR.sp y P Q)) :: [(g7, 25, M.mat 6 (six m0 m1 m2 m3 m4 m5)), (g3, 50, two .i8 p q), (gt, 25, M.mat 6 t)]) nilRow [(sE_ w.heap.size YA yc LB), (sE_ w.heap.size XA xc LA)])) [0, 1, 2, 3, 4, 5, 6, 7, 8, 9, 10, 11, 12, 13, 14, 15, 16, 17, 18, 19, 20, 21, 22, 23, 24, 25, 26, 27, 28, 29, 30, 31, 32, 33, 34] 12 [some 113, some 114, some 115, some 116, some 117, some 118, some 119, some 120, some 121, some 122, some 123, some 124, some 125, some 126, some 127, some 128, some 129, some 130, some 131, some 132, some 133, some 134, some 135, some 136, some 137, some 138, some 139, some 140, some 141, some 142, some 143, some 144, some 145, some 146, some 147] [.pointer (some ⟨g11, 1, none⟩), .int .i64 (P), .bool false, .bool false, .pointer (some ⟨g11, 1, none⟩), .int .i64 (P), .pointer (some ⟨g11, 2, none⟩), .int .i64 (Q), .bool false, .bool false, .bool false, .pointer (some ⟨g11, 2, none⟩), .int .i64 (Q), .bool false, .bool false, .bool false, .slice YA LB.length yc, .int .i64 (i : Int), .pointer (some ((adr YA).add (i * 3))), arr 3 (TR.sp y' P' Q'), .pointer (some ⟨g11, 0, none⟩), .int .i64 (y), .int .i64 (q), .int .i64 (y'), .pointer (some ⟨g11, 1, none⟩), .int .i64 (P), .int .i64 (p), .int .i64 (P'), .pointer (some ⟨g11, 2, none⟩), .int .i64 (Q), .int .i64 (p), .int .i64 (Q'), arr 3 (TR.sp y' P' Q'), .bool false, .bool false] 0 (by kernel_rfl) (by rfl) (by kernel_rfl) (by rfl) (by rfl) (O.drew) (fun F hF => ?_)
      simp only [fillD, Act.put, List.setIfInBounds_toArray, List.set_cons_zero, List.set_cons_succ] at hF
      subst hF
      refine ⟨⟨does_want rfl (by rfl) (fun w' O K hK => ?_), does_want rfl (by rfl) (fun w' O K hK => ?_), does_want rfl (by rfl) (fun w' O K hK => ?_), does_want rfl (by rfl) (fun w' O K hK => ?_), does_want rfl (by rfl) (fun w' O K hK => ?_), does_want rfl (by rfl) (fun w' O K hK => ?_), does_want rfl (by rfl) (fun w' O K hK => ?_), does_want rfl (by rfl) (fun w' O K hK => ?_), does_want rfl (by rfl) (fun w' O K hK => ?_), does_want rfl (by rfl) (fun w' O K hK => ?_), does_want rfl (by rfl) (fun w' O K hK => ?_), does_want rfl (by rfl) (fun w' O K hK => ?_), does_want rfl (by rfl) (fun w' O K hK => ?_), does_want rfl (by rfl) (fun w' O K hK => ?_), does_want rfl (by rfl) (fun w' O K hK => ?_), does_want rfl (by rfl) (fun w' O K hK => ?_), does_want rfl (by rfl) (fun w' O K hK => ?_), does_want rfl (by rfl) (fun w' O K hK => ?_), does_want rfl (by rfl) (fun w' O K hK => ?_), does_want rfl (by rfl) (fun w' O K hK => ?_), does_want rfl (by rfl) (fun w' O K hK => ?_), does_want rfl (by rfl) (fun w' O K hK => ?_), does_want rfl (by rfl) (fun w' O K hK => ?_), does_want rfl (by rfl) (fun w' O K hK => ?_), does_want rfl (by rfl) (fun w' O K hK => ?_), does_want rfl (by rfl) (fun w' O K hK => ?_), does_want rfl (by rfl) (fun w' O K hK => ?_), does_want rfl (by rfl) (fun w' O K hK => ?_), does_want rfl (by rfl) (fun w' O K hK => ?_), does_want rfl (by rfl) (fun w' O K hK => ?_), does_want rfl (by rfl) (fun w' O K hK => ?_), does_want rfl (by rfl) (fun w' O K hK => ?_), does_want rfl (by rfl) (fun w' O K hK => ?_), does_want rfl (by rfl) (fun w' O K hK => ?_), does_want rfl (by rfl) (fun w' O K hK => ?_), trivial⟩, fun w' O => ?_⟩
      · go_simp
        exact hK _ O
      · exact wp_cell_h (v := .int .i64 P) O 0 (i := 1) rfl rfl rfl agg3 rfl (hK _ O)
      · go_simp
        first | exact hK _ O | (simp only [K1]; exact hK _ O)
      · go_simp
        exact hK _ O
      · go_simp
        exact hK _ O
      · exact wp_cell_h (v := .int .i64 P) O 0 (i := 1) rfl rfl rfl agg3 rfl (hK _ O)
      · go_simp
        exact hK _ O
      · exact wp_cell_h (v := .int .i64 Q) O 0 (i := 2) rfl rfl rfl agg3 rfl (hK _ O)
      · go_simp
        first | exact hK _ O | (simp only [K2, K2b]; exact hK _ O)
      · go_simp
        exact hK _ O
      · go_simp
        exact hK _ O
      · go_simp
        exact hK _ O
      · exact wp_cell_h (v := .int .i64 Q) O 0 (i := 2) rfl rfl rfl agg3 rfl (hK _ O)
      · go_simp
        first | exact hK _ O | (simp only [K3, K3b]; exact hK _ O)
      · go_simp
        exact hK _ O
      · go_simp
        exact hK _ O
      · go_simp
        exact hK _ O
      · go_simp
        exact hK _ O
      · exact wp_at_h Try.underlying37 sizeOfS20 (sE_ w.heap.size YA yc LB) (O.mem List.mem_cons_self) rfl i rfl rfl hltB rfl (hK _ O)
      · exact wp_elem_h (sE_ w.heap.size YA yc LB) (O.mem List.mem_cons_self) (i * 3) (M.mat 3 (TR.sp y' P' Q')) (sC_at HG.out) (by rw [M.mat_len]; decide) rfl Try.underlying52 rfl (sS20 _) (hK _ O)
      · go_simp
        exact hK _ O
      · exact wp_cell_h (v := .int .i64 y) O 0 (i := 0) rfl rfl rfl agg3 rfl (hK _ O)
      · go_simp
        exact hK _ O
      · go_simp
        simp only [V1.out]
        exact hK _ O
      · go_simp
        exact hK _ O
      · exact wp_cell_h (v := .int .i64 P) O 0 (i := 1) rfl rfl rfl agg3 rfl (hK _ O)
      · go_simp
        exact hK _ O
      · go_simp
        simp only [V2.out]
        exact hK _ O
      · go_simp
        exact hK _ O
      · exact wp_cell_h (v := .int .i64 Q) O 0 (i := 2) rfl rfl rfl agg3 rfl (hK _ O)
      · go_simp
        exact hK _ O
      · go_simp
        simp only [V3.out]
        exact hK _ O
      · refine wp_build_own ([(0, .int .i64 y'), (1, .int .i64 P'), (2, .int .i64 Q')]) ((M.mat 3 (TR.sp y' P' Q')).toArray) ?_ (builtS20 _ _ _) (hK _ O)
        simp only [List.map_toArray, List.map_cons, List.map_nil]
        rfl
      · refine wp_neqS20 (TR.sp y' P' Q') (TR.sp y' P' Q') rfl rfl ?_
        rw [M.eqB_refl]
        exact hK _ O
      · go_simp
        exact hK _ O
      refine wpAny_done (by kernel_rfl) ?_ _
      clear K1 K2 K2b K3 K3b V1 V2 V3
      go_wp2_with ((with_reducible refine at_load 149 ?_); refine wpList_cell_h (v := .int .i64 (P)) rfl O 0 rfl (Lib.hid (rfl : (M.mat 3 (TR.sp y P Q))[1]? = some (.int .i64 P))).out rfl agg3 rfl ?_; (try simp only [Act.put, List.setIfInBounds_toArray, List.set_cons_zero, List.set_cons_succ]))
      simp only [V4]
      clear V4
      have OX : Held w _ ((g11, 52, M.mat 3 (TR.sp y P Q)) :: [(g7, 25, M.mat 6 (six m0 m1 m2 m3 m4 m5)), (g3, 50, two .i8 p q), (gt, 25, M.mat 6 t)]) nilRow [(sE_ w.heap.size YA yc LB), (sE_ w.heap.size XA xc LA)] := O
      clear O
      have O := OX
      clear OX
      go_loopw [12] (fun u wr => ∃ k : Int, P0 ≤ k ∧ k ≤ Q + 1 ∧ u = .int .i64 k ∧ Held w wr ((g11, 52, M.mat 3 (TR.sp y P Q)) :: [(g7, 25, M.mat 6 (six m0 m1 m2 m3 m4 m5)), (g3, 50, two .i8 p q), (gt, 25, M.mat 6 t)]) nilRow [(sE_ w.heap.size YA yc LB), (sE_ w.heap.size XA xc LA)]) (fun u _ => (Q + 1 - intOf u).toNat)
      case atStart => exact ⟨P0, Int.le_refl _, by have := HP0.out; have := HL.out; omega, rfl, O⟩
      case round =>
        clear O
        obtain ⟨k, k0, k1, rfl, O⟩ := hrel
        by_cases hk : k ≤ Q
        · have hl := HL.out
          have hp0 := HP0.out
          have Wk : wrap64 (k + 1) = k + 1 := IntWalk.wrap64_in _ (by omega)
          rcases (by omega : k < -9 ∨ (-9 ≤ k ∧ 12 ≤ k) ∨ (-9 ≤ k ∧ k < 12 ∧ k < P) ∨ (-9 ≤ k ∧ k < 12 ∧ P ≤ k ∧ k < Q) ∨ (-9 ≤ k ∧ k < 12 ∧ P ≤ k ∧ Q ≤ k)) with h | h | h | h | h
          · have A1 : decide (k ≥ -9) = false := decide_eq_false (by omega)
            have A1b : decide (-9 ≤ k) = false := decide_eq_false (by omega)
            clear h hl hp0
            go_wp2_with ((with_reducible refine at_load 153 ?_); refine wpList_cell_h (v := .int .i64 (Q)) rfl O 0 rfl (Lib.hid (rfl : (M.mat 3 (TR.sp y P Q))[2]? = some (.int .i64 Q))).out rfl agg3 rfl ?_; (try simp only [Act.put, List.setIfInBounds_toArray, List.set_cons_zero, List.set_cons_succ]))
            have OO := O
            clear O
            have O := OO
            clear OO
            refine region_T ((fun w2 => Held w w2 ((g11, 52, M.mat 3 (TR.sp y P Q)) :: [(g7, 25, M.mat 6 (six m0 m1 m2 m3 m4 m5)), (g3, 50, two .i8 p q), (gt, 25, M.mat 6 t)]) nilRow [(sE_ w.heap.size YA yc LB), (sE_ w.heap.size XA xc LA)])) [0, 1, 2, 3, 4, 5, 6, 7, 8, 9, 10, 11, 12, 13, 14, 15, 16, 17, 18, 19, 20, 21, 22, 23, 24, 25, 26, 27, 28, 29, 30, 31] 12 [some 157, some 158, some 159, some 160, some 161, some 162, some 163, some 164, some 165, some 166, some 167, some 168, some 169, some 170, some 171, some 172, some 173, some 174, some 175, some 176, some 177, some 178, some 179, some 180, some 181, some 182, some 183, some 184, some 185, some 186, some 187, some 188] [.int .i64 (k), .bool false, .bool false, undef, undef, .bool false, .bool false, undef, undef, undef, undef, undef, undef, undef, undef, undef, undef, undef, undef, undef, undef, undef, undef, undef, undef, undef, undef, undef, undef, undef, undef, .bool false] 0 (by kernel_rfl) (by rfl) (by kernel_rfl) (by rfl) (by rfl) (O.drew) (fun F hF => ?_)
            simp only [fillD, Act.put, List.setIfInBounds_toArray, List.set_cons_zero, List.set_cons_succ] at hF
            subst hF
            refine ⟨⟨does_want rfl (by rfl) (fun w' O K hK => ?_), does_want rfl (by rfl) (fun w' O K hK => ?_), does_want rfl (by rfl) (fun w' O K hK => ?_), does_skip rfl (by rfl), does_skip rfl (by rfl), does_want rfl (by rfl) (fun w' O K hK => ?_), does_want rfl (by rfl) (fun w' O K hK => ?_), does_skip rfl (by rfl), does_skip rfl (by rfl), does_skip rfl (by rfl), does_skip rfl (by rfl), does_skip rfl (by rfl), does_skip rfl (by rfl), does_skip rfl (by rfl), does_skip rfl (by rfl), does_skip rfl (by rfl), does_skip rfl (by rfl), does_skip rfl (by rfl), does_skip rfl (by rfl), does_skip rfl (by rfl), does_skip rfl (by rfl), does_skip rfl (by rfl), does_skip rfl (by rfl), does_skip rfl (by rfl), does_skip rfl (by rfl), does_skip rfl (by rfl), does_skip rfl (by rfl), does_skip rfl (by rfl), does_skip rfl (by rfl), does_skip rfl (by rfl), does_skip rfl (by rfl), does_want rfl (by rfl) (fun w' O K hK => ?_), trivial⟩, fun w' O => ?_⟩
            · go_simp
              exact hK _ O
            · go_simp
              first | exact hK _ O | (simp only [A1, A1b]; exact hK _ O)
            · go_simp
              exact hK _ O
            · go_simp
              exact hK _ O
            · go_simp
              exact hK _ O
            · go_simp
              exact hK _ O
            refine wpAny_done (by kernel_rfl) ?_ _
            go_wp2_with fail
            go_roundw
            case rel => first | exact ⟨k + 1, by omega, by omega, by first | rfl | exact congrArg (Value.int IntKind.i64) Wk, O⟩ | ((repeat apply Exists.intro); exact ⟨⟨k + 1, by omega, by omega, by first | rfl | exact congrArg (Value.int IntKind.i64) Wk, O⟩, rfl⟩)
            case measure => first | (rw [Wk]; simp only [intOf]; omega) | (simp only [intOf]; omega)
          · have A1 : decide (k ≥ -9) = true := decide_eq_true (by omega)
            have A1b : decide (-9 ≤ k) = true := decide_eq_true (by omega)
            have A2 : decide (k < 12) = false := decide_eq_false (by omega)
            clear h hl hp0
            go_wp2_with ((with_reducible refine at_load 153 ?_); refine wpList_cell_h (v := .int .i64 (Q)) rfl O 0 rfl (Lib.hid (rfl : (M.mat 3 (TR.sp y P Q))[2]? = some (.int .i64 Q))).out rfl agg3 rfl ?_; (try simp only [Act.put, List.setIfInBounds_toArray, List.set_cons_zero, List.set_cons_succ]))
            have OO := O
            clear O
            have O := OO
            clear OO
            refine region_T ((fun w2 => Held w w2 ((g11, 52, M.mat 3 (TR.sp y P Q)) :: [(g7, 25, M.mat 6 (six m0 m1 m2 m3 m4 m5)), (g3, 50, two .i8 p q), (gt, 25, M.mat 6 t)]) nilRow [(sE_ w.heap.size YA yc LB), (sE_ w.heap.size XA xc LA)])) [0, 1, 2, 3, 4, 5, 6, 7, 8, 9, 10, 11, 12, 13, 14, 15, 16, 17, 18, 19, 20, 21, 22, 23, 24, 25, 26, 27, 28, 29, 30, 31] 12 [some 157, some 158, some 159, some 160, some 161, some 162, some 163, some 164, some 165, some 166, some 167, some 168, some 169, some 170, some 171, some 172, some 173, some 174, some 175, some 176, some 177, some 178, some 179, some 180, some 181, some 182, some 183, some 184, some 185, some 186, some 187, some 188] [.int .i64 (k), .bool true, .bool true, .int .i64 (k), .bool false, .bool false, .bool false, undef, undef, undef, undef, undef, undef, undef, undef, undef, undef, undef, undef, undef, undef, undef, undef, undef, undef, undef, undef, undef, undef, undef, undef, .bool false] 0 (by kernel_rfl) (by rfl) (by kernel_rfl) (by rfl) (by rfl) (O.drew) (fun F hF => ?_)
            simp only [fillD, Act.put, List.setIfInBounds_toArray, List.set_cons_zero, List.set_cons_succ] at hF
            subst hF
            refine ⟨⟨does_want rfl (by rfl) (fun w' O K hK => ?_), does_want rfl (by rfl) (fun w' O K hK => ?_), does_want rfl (by rfl) (fun w' O K hK => ?_), does_want rfl (by rfl) (fun w' O K hK => ?_), does_want rfl (by rfl) (fun w' O K hK => ?_), does_want rfl (by rfl) (fun w' O K hK => ?_), does_want rfl (by rfl) (fun w' O K hK => ?_), does_skip rfl (by rfl), does_skip rfl (by rfl), does_skip rfl (by rfl), does_skip rfl (by rfl), does_skip rfl (by rfl), does_skip rfl (by rfl), does_skip rfl (by rfl), does_skip rfl (by rfl), does_skip rfl (by rfl), does_skip rfl (by rfl), does_skip rfl (by rfl), does_skip rfl (by rfl), does_skip rfl (by rfl), does_skip rfl (by rfl), does_skip rfl (by rfl), does_skip rfl (by rfl), does_skip rfl (by rfl), does_skip rfl (by rfl), does_skip rfl (by rfl), does_skip rfl (by rfl), does_skip rfl (by rfl), does_skip rfl (by rfl), does_skip rfl (by rfl), does_skip rfl (by rfl), does_want rfl (by rfl) (fun w' O K hK => ?_), trivial⟩, fun w' O => ?_⟩
            · go_simp
              exact hK _ O
            · go_simp
              first | exact hK _ O | (simp only [A1, A1b]; exact hK _ O)
            · go_simp
              exact hK _ O
            · go_simp
              exact hK _ O
            · go_simp
              first | exact hK _ O | (simp only [A2]; exact hK _ O)
            · go_simp
              exact hK _ O
            · go_simp
              exact hK _ O
            · go_simp
              exact hK _ O
            refine wpAny_done (by kernel_rfl) ?_ _
            go_wp2_with fail
            go_roundw
            case rel => first | exact ⟨k + 1, by omega, by omega, by first | rfl | exact congrArg (Value.int IntKind.i64) Wk, O⟩ | ((repeat apply Exists.intro); exact ⟨⟨k + 1, by omega, by omega, by first | rfl | exact congrArg (Value.int IntKind.i64) Wk, O⟩, rfl⟩)
            case measure => first | (rw [Wk]; simp only [intOf]; omega) | (simp only [intOf]; omega)
          · have A1 : decide (k ≥ -9) = true := decide_eq_true (by omega)
            have A1b : decide (-9 ≤ k) = true := decide_eq_true (by omega)
            have A2 : decide (k < 12) = true := decide_eq_true (by omega)
            have A3 : decide (k ≥ P) = false := decide_eq_false (by omega)
            have A3b : decide (P ≤ k) = false := decide_eq_false (by omega)
            have hz : hs k y = false := by
              have hh := HIN.out k (by omega) (by omega)
              rw [← Bool.not_eq_true, hh]
              omega
            have CHk := CHy.out k (by omega)
            rw [hz] at CHk
            clear hz
            clear h hl hp0
            go_wp2_with ((with_reducible refine at_load 153 ?_); refine wpList_cell_h (v := .int .i64 (Q)) rfl O 0 rfl (Lib.hid (rfl : (M.mat 3 (TR.sp y P Q))[2]? = some (.int .i64 Q))).out rfl agg3 rfl ?_; (try simp only [Act.put, List.setIfInBounds_toArray, List.set_cons_zero, List.set_cons_succ]))
            have OO := O
            clear O
            have O := OO
            clear OO
            refine region_T ((fun w2 => Held w w2 ((g11, 52, M.mat 3 (TR.sp y P Q)) :: [(g7, 25, M.mat 6 (six m0 m1 m2 m3 m4 m5)), (g3, 50, two .i8 p q), (gt, 25, M.mat 6 t)]) nilRow [(sE_ w.heap.size YA yc LB), (sE_ w.heap.size XA xc LA)])) [0, 1, 2, 3, 4, 5, 6, 7, 8, 9, 10, 11, 12, 13, 14, 15, 16, 17, 18, 19, 20, 21, 22, 23, 24, 25, 26, 27, 28, 29, 30, 31] 12 [some 157, some 158, some 159, some 160, some 161, some 162, some 163, some 164, some 165, some 166, some 167, some 168, some 169, some 170, some 171, some 172, some 173, some 174, some 175, some 176, some 177, some 178, some 179, some 180, some 181, some 182, some 183, some 184, some 185, some 186, some 187, some 188] [.int .i64 (k), .bool true, .bool true, .int .i64 (k), .bool true, .bool true, .bool true, .pointer (some ⟨gt, 0, none⟩), arr 2 (D.sub 0 t), arr 7 ca, .pointer (some ⟨gt, 2, none⟩), arr 2 (D.sub 2 t), arr 7 cb, .pointer (some ⟨gt, 4, none⟩), arr 2 (D.sub 4 t), arr 7 cc, .int .i64 (k), .pointer (some ⟨g11, 0, none⟩), .int .i64 (y), .bool false, .int .i64 (k), .pointer (some ⟨g11, 1, none⟩), .int .i64 (P), .bool false, .bool false, undef, undef, undef, undef, .bool false, .bool false, .bool false] 0 (by kernel_rfl) (by rfl) (by kernel_rfl) (by rfl) (by rfl) (O.drew) (fun F hF => ?_)
            simp only [fillD, Act.put, List.setIfInBounds_toArray, List.set_cons_zero, List.set_cons_succ] at hF
            subst hF
            refine ⟨⟨does_want rfl (by rfl) (fun w' O K hK => ?_), does_want rfl (by rfl) (fun w' O K hK => ?_), does_want rfl (by rfl) (fun w' O K hK => ?_), does_want rfl (by rfl) (fun w' O K hK => ?_), does_want rfl (by rfl) (fun w' O K hK => ?_), does_want rfl (by rfl) (fun w' O K hK => ?_), does_want rfl (by rfl) (fun w' O K hK => ?_), does_want rfl (by rfl) (fun w' O K hK => ?_), does_want rfl (by rfl) (fun w' O K hK => ?_), does_want rfl (by rfl) (fun w' O K hK => ?_), does_want rfl (by rfl) (fun w' O K hK => ?_), does_want rfl (by rfl) (fun w' O K hK => ?_), does_want rfl (by rfl) (fun w' O K hK => ?_), does_want rfl (by rfl) (fun w' O K hK => ?_), does_want rfl (by rfl) (fun w' O K hK => ?_), does_want rfl (by rfl) (fun w' O K hK => ?_), does_want rfl (by rfl) (fun w' O K hK => ?_), does_want rfl (by rfl) (fun w' O K hK => ?_), does_want rfl (by rfl) (fun w' O K hK => ?_), does_want rfl (by rfl) (fun w' O K hK => ?_), does_want rfl (by rfl) (fun w' O K hK => ?_), does_want rfl (by rfl) (fun w' O K hK => ?_), does_want rfl (by rfl) (fun w' O K hK => ?_), does_want rfl (by rfl) (fun w' O K hK => ?_), does_want rfl (by rfl) (fun w' O K hK => ?_), does_skip rfl (by rfl), does_skip rfl (by rfl), does_skip rfl (by rfl), does_skip rfl (by rfl), does_want rfl (by rfl) (fun w' O K hK => ?_), does_want rfl (by rfl) (fun w' O K hK => ?_), does_want rfl (by rfl) (fun w' O K hK => ?_), trivial⟩, fun w' O => ?_⟩
            · go_simp
              exact hK _ O
            · go_simp
              first | exact hK _ O | (simp only [A1, A1b]; exact hK _ O)
            · go_simp
              exact hK _ O
            · go_simp
              exact hK _ O
            · go_simp
              first | exact hK _ O | (simp only [A2]; exact hK _ O)
            · go_simp
              exact hK _ O
            · go_simp
              exact hK _ O
            · go_simp
              exact hK _ O
            · exact wp_mid_h O 3 rfl (M.mat 2 (D.sub 0 t)) (mat_sub t (by decide)) rfl Try.underlying23 rfl (sN20 _) (hK _ O)
            · go_simp
              go_at_call 11
              refine (Wca _).mono ?_
              rintro e w2 ⟨rfl, hb⟩
              exact hK _ (O.call hb)
            · go_simp
              exact hK _ O
            · exact wp_mid_h O 3 rfl (M.mat 2 (D.sub 2 t)) (mat_sub t (by decide)) rfl Try.underlying23 rfl (sN20 _) (hK _ O)
            · go_simp
              go_at_call 11
              refine (Wcb _).mono ?_
              rintro e w2 ⟨rfl, hb⟩
              exact hK _ (O.call hb)
            · go_simp
              exact hK _ O
            · exact wp_mid_h O 3 rfl (M.mat 2 (D.sub 4 t)) (mat_sub t (by decide)) rfl Try.underlying23 rfl (sN20 _) (hK _ O)
            · go_simp
              go_at_call 11
              refine (Wcc _).mono ?_
              rintro e w2 ⟨rfl, hb⟩
              exact hK _ (O.call hb)
            · go_simp
              exact hK _ O
            · go_simp
              exact hK _ O
            · exact wp_cell_h (v := .int .i64 y) O 0 (i := 0) rfl rfl rfl agg3 rfl (hK _ O)
            · go_simp
              go_at_call 19
              refine (CHk _).mono ?_
              rintro e w2 ⟨rfl, hb⟩
              exact hK _ (O.call hb)
            · go_simp
              exact hK _ O
            · go_simp
              exact hK _ O
            · exact wp_cell_h (v := .int .i64 P) O 0 (i := 1) rfl rfl rfl agg3 rfl (hK _ O)
            · go_simp
              first | exact hK _ O | (simp only [A3, A3b]; exact hK _ O)
            · go_simp
              exact hK _ O
            · go_simp
              exact hK _ O
            · go_simp
              first | exact hK _ O | (simp; exact hK _ O)
            · go_simp
              exact hK _ O
            refine wpAny_done (by kernel_rfl) ?_ _
            go_wp2_with fail
            go_roundw
            case rel => first | exact ⟨k + 1, by omega, by omega, by first | rfl | exact congrArg (Value.int IntKind.i64) Wk, O⟩ | ((repeat apply Exists.intro); exact ⟨⟨k + 1, by omega, by omega, by first | rfl | exact congrArg (Value.int IntKind.i64) Wk, O⟩, rfl⟩)
            case measure => first | (rw [Wk]; simp only [intOf]; omega) | (simp only [intOf]; omega)
          · have A1 : decide (k ≥ -9) = true := decide_eq_true (by omega)
            have A1b : decide (-9 ≤ k) = true := decide_eq_true (by omega)
            have A2 : decide (k < 12) = true := decide_eq_true (by omega)
            have A3 : decide (k ≥ P) = true := decide_eq_true (by omega)
            have A3b : decide (P ≤ k) = true := decide_eq_true (by omega)
            have A4 : decide (k < Q) = true := decide_eq_true (by omega)
            have hz : hs k y = true := (HIN.out k (by omega) (by omega)).2 (by omega)
            have CHk := CHy.out k (by omega)
            rw [hz] at CHk
            clear hz
            clear h hl hp0
            go_wp2_with ((with_reducible refine at_load 153 ?_); refine wpList_cell_h (v := .int .i64 (Q)) rfl O 0 rfl (Lib.hid (rfl : (M.mat 3 (TR.sp y P Q))[2]? = some (.int .i64 Q))).out rfl agg3 rfl ?_; (try simp only [Act.put, List.setIfInBounds_toArray, List.set_cons_zero, List.set_cons_succ]))
            have OO := O
            clear O
            have O := OO
            clear OO
            refine region_T ((fun w2 => Held w w2 ((g11, 52, M.mat 3 (TR.sp y P Q)) :: [(g7, 25, M.mat 6 (six m0 m1 m2 m3 m4 m5)), (g3, 50, two .i8 p q), (gt, 25, M.mat 6 t)]) nilRow [(sE_ w.heap.size YA yc LB), (sE_ w.heap.size XA xc LA)])) [0, 1, 2, 3, 4, 5, 6, 7, 8, 9, 10, 11, 12, 13, 14, 15, 16, 17, 18, 19, 20, 21, 22, 23, 24, 25, 26, 27, 28, 29, 30, 31] 12 [some 157, some 158, some 159, some 160, some 161, some 162, some 163, some 164, some 165, some 166, some 167, some 168, some 169, some 170, some 171, some 172, some 173, some 174, some 175, some 176, some 177, some 178, some 179, some 180, some 181, some 182, some 183, some 184, some 185, some 186, some 187, some 188] [.int .i64 (k), .bool true, .bool true, .int .i64 (k), .bool true, .bool true, .bool true, .pointer (some ⟨gt, 0, none⟩), arr 2 (D.sub 0 t), arr 7 ca, .pointer (some ⟨gt, 2, none⟩), arr 2 (D.sub 2 t), arr 7 cb, .pointer (some ⟨gt, 4, none⟩), arr 2 (D.sub 4 t), arr 7 cc, .int .i64 (k), .pointer (some ⟨g11, 0, none⟩), .int .i64 (y), .bool true, .int .i64 (k), .pointer (some ⟨g11, 1, none⟩), .int .i64 (P), .bool true, .bool true, .int .i64 (k), .pointer (some ⟨g11, 2, none⟩), .int .i64 (Q), .bool true, .bool true, .bool false, .bool false] 0 (by kernel_rfl) (by rfl) (by kernel_rfl) (by rfl) (by rfl) (O.drew) (fun F hF => ?_)
            simp only [fillD, Act.put, List.setIfInBounds_toArray, List.set_cons_zero, List.set_cons_succ] at hF
            subst hF
            refine ⟨⟨does_want rfl (by rfl) (fun w' O K hK => ?_), does_want rfl (by rfl) (fun w' O K hK => ?_), does_want rfl (by rfl) (fun w' O K hK => ?_), does_want rfl (by rfl) (fun w' O K hK => ?_), does_want rfl (by rfl) (fun w' O K hK => ?_), does_want rfl (by rfl) (fun w' O K hK => ?_), does_want rfl (by rfl) (fun w' O K hK => ?_), does_want rfl (by rfl) (fun w' O K hK => ?_), does_want rfl (by rfl) (fun w' O K hK => ?_), does_want rfl (by rfl) (fun w' O K hK => ?_), does_want rfl (by rfl) (fun w' O K hK => ?_), does_want rfl (by rfl) (fun w' O K hK => ?_), does_want rfl (by rfl) (fun w' O K hK => ?_), does_want rfl (by rfl) (fun w' O K hK => ?_), does_want rfl (by rfl) (fun w' O K hK => ?_), does_want rfl (by rfl) (fun w' O K hK => ?_), does_want rfl (by rfl) (fun w' O K hK => ?_), does_want rfl (by rfl) (fun w' O K hK => ?_), does_want rfl (by rfl) (fun w' O K hK => ?_), does_want rfl (by rfl) (fun w' O K hK => ?_), does_want rfl (by rfl) (fun w' O K hK => ?_), does_want rfl (by rfl) (fun w' O K hK => ?_), does_want rfl (by rfl) (fun w' O K hK => ?_), does_want rfl (by rfl) (fun w' O K hK => ?_), does_want rfl (by rfl) (fun w' O K hK => ?_), does_want rfl (by rfl) (fun w' O K hK => ?_), does_want rfl (by rfl) (fun w' O K hK => ?_), does_want rfl (by rfl) (fun w' O K hK => ?_), does_want rfl (by rfl) (fun w' O K hK => ?_), does_want rfl (by rfl) (fun w' O K hK => ?_), does_want rfl (by rfl) (fun w' O K hK => ?_), does_want rfl (by rfl) (fun w' O K hK => ?_), trivial⟩, fun w' O => ?_⟩
            · go_simp
              exact hK _ O
            · go_simp
              first | exact hK _ O | (simp only [A1, A1b]; exact hK _ O)
            · go_simp
              exact hK _ O
            · go_simp
              exact hK _ O
            · go_simp
              first | exact hK _ O | (simp only [A2]; exact hK _ O)
            · go_simp
              exact hK _ O
            · go_simp
              exact hK _ O
            · go_simp
              exact hK _ O
            · exact wp_mid_h O 3 rfl (M.mat 2 (D.sub 0 t)) (mat_sub t (by decide)) rfl Try.underlying23 rfl (sN20 _) (hK _ O)
            · go_simp
              go_at_call 11
              refine (Wca _).mono ?_
              rintro e w2 ⟨rfl, hb⟩
              exact hK _ (O.call hb)
            · go_simp
              exact hK _ O
            · exact wp_mid_h O 3 rfl (M.mat 2 (D.sub 2 t)) (mat_sub t (by decide)) rfl Try.underlying23 rfl (sN20 _) (hK _ O)
            · go_simp
              go_at_call 11
              refine (Wcb _).mono ?_
              rintro e w2 ⟨rfl, hb⟩
              exact hK _ (O.call hb)
            · go_simp
              exact hK _ O
            · exact wp_mid_h O 3 rfl (M.mat 2 (D.sub 4 t)) (mat_sub t (by decide)) rfl Try.underlying23 rfl (sN20 _) (hK _ O)
            · go_simp
              go_at_call 11
              refine (Wcc _).mono ?_
              rintro e w2 ⟨rfl, hb⟩
              exact hK _ (O.call hb)
            · go_simp
              exact hK _ O
            · go_simp
              exact hK _ O
            · exact wp_cell_h (v := .int .i64 y) O 0 (i := 0) rfl rfl rfl agg3 rfl (hK _ O)
            · go_simp
              go_at_call 19
              refine (CHk _).mono ?_
              rintro e w2 ⟨rfl, hb⟩
              exact hK _ (O.call hb)
            · go_simp
              exact hK _ O
            · go_simp
              exact hK _ O
            · exact wp_cell_h (v := .int .i64 P) O 0 (i := 1) rfl rfl rfl agg3 rfl (hK _ O)
            · go_simp
              first | exact hK _ O | (simp only [A3, A3b]; exact hK _ O)
            · go_simp
              exact hK _ O
            · go_simp
              exact hK _ O
            · go_simp
              exact hK _ O
            · exact wp_cell_h (v := .int .i64 Q) O 0 (i := 2) rfl rfl rfl agg3 rfl (hK _ O)
            · go_simp
              first | exact hK _ O | (simp only [A4]; exact hK _ O)
            · go_simp
              exact hK _ O
            · go_simp
              first | exact hK _ O | (simp; exact hK _ O)
            · go_simp
              exact hK _ O
            refine wpAny_done (by kernel_rfl) ?_ _
            go_wp2_with fail
            go_roundw
            case rel => first | exact ⟨k + 1, by omega, by omega, by first | rfl | exact congrArg (Value.int IntKind.i64) Wk, O⟩ | ((repeat apply Exists.intro); exact ⟨⟨k + 1, by omega, by omega, by first | rfl | exact congrArg (Value.int IntKind.i64) Wk, O⟩, rfl⟩)
            case measure => first | (rw [Wk]; simp only [intOf]; omega) | (simp only [intOf]; omega)
          · have A1 : decide (k ≥ -9) = true := decide_eq_true (by omega)
            have A1b : decide (-9 ≤ k) = true := decide_eq_true (by omega)
            have A2 : decide (k < 12) = true := decide_eq_true (by omega)
            have A3 : decide (k ≥ P) = true := decide_eq_true (by omega)
            have A3b : decide (P ≤ k) = true := decide_eq_true (by omega)
            have A4 : decide (k < Q) = false := decide_eq_false (by omega)
            have hz : hs k y = false := by
              have hh := HIN.out k (by omega) (by omega)
              rw [← Bool.not_eq_true, hh]
              omega
            have CHk := CHy.out k (by omega)
            rw [hz] at CHk
            clear hz
            clear h hl hp0
            go_wp2_with ((with_reducible refine at_load 153 ?_); refine wpList_cell_h (v := .int .i64 (Q)) rfl O 0 rfl (Lib.hid (rfl : (M.mat 3 (TR.sp y P Q))[2]? = some (.int .i64 Q))).out rfl agg3 rfl ?_; (try simp only [Act.put, List.setIfInBounds_toArray, List.set_cons_zero, List.set_cons_succ]))
            have OO := O
            clear O
            have O := OO
            clear OO
            refine region_T ((fun w2 => Held w w2 ((g11, 52, M.mat 3 (TR.sp y P Q)) :: [(g7, 25, M.mat 6 (six m0 m1 m2 m3 m4 m5)), (g3, 50, two .i8 p q), (gt, 25, M.mat 6 t)]) nilRow [(sE_ w.heap.size YA yc LB), (sE_ w.heap.size XA xc LA)])) [0, 1, 2, 3, 4, 5, 6, 7, 8, 9, 10, 11, 12, 13, 14, 15, 16, 17, 18, 19, 20, 21, 22, 23, 24, 25, 26, 27, 28, 29, 30, 31] 12 [some 157, some 158, some 159, some 160, some 161, some 162, some 163, some 164, some 165, some 166, some 167, some 168, some 169, some 170, some 171, some 172, some 173, some 174, some 175, some 176, some 177, some 178, some 179, some 180, some 181, some 182, some 183, some 184, some 185, some 186, some 187, some 188] [.int .i64 (k), .bool true, .bool true, .int .i64 (k), .bool true, .bool true, .bool true, .pointer (some ⟨gt, 0, none⟩), arr 2 (D.sub 0 t), arr 7 ca, .pointer (some ⟨gt, 2, none⟩), arr 2 (D.sub 2 t), arr 7 cb, .pointer (some ⟨gt, 4, none⟩), arr 2 (D.sub 4 t), arr 7 cc, .int .i64 (k), .pointer (some ⟨g11, 0, none⟩), .int .i64 (y), .bool false, .int .i64 (k), .pointer (some ⟨g11, 1, none⟩), .int .i64 (P), .bool true, .bool true, .int .i64 (k), .pointer (some ⟨g11, 2, none⟩), .int .i64 (Q), .bool false, .bool false, .bool false, .bool false] 0 (by kernel_rfl) (by rfl) (by kernel_rfl) (by rfl) (by rfl) (O.drew) (fun F hF => ?_)
            simp only [fillD, Act.put, List.setIfInBounds_toArray, List.set_cons_zero, List.set_cons_succ] at hF
            subst hF
            refine ⟨⟨does_want rfl (by rfl) (fun w' O K hK => ?_), does_want rfl (by rfl) (fun w' O K hK => ?_), does_want rfl (by rfl) (fun w' O K hK => ?_), does_want rfl (by rfl) (fun w' O K hK => ?_), does_want rfl (by rfl) (fun w' O K hK => ?_), does_want rfl (by rfl) (fun w' O K hK => ?_), does_want rfl (by rfl) (fun w' O K hK => ?_), does_want rfl (by rfl) (fun w' O K hK => ?_), does_want rfl (by rfl) (fun w' O K hK => ?_), does_want rfl (by rfl) (fun w' O K hK => ?_), does_want rfl (by rfl) (fun w' O K hK => ?_), does_want rfl (by rfl) (fun w' O K hK => ?_), does_want rfl (by rfl) (fun w' O K hK => ?_), does_want rfl (by rfl) (fun w' O K hK => ?_), does_want rfl (by rfl) (fun w' O K hK => ?_), does_want rfl (by rfl) (fun w' O K hK => ?_), does_want rfl (by rfl) (fun w' O K hK => ?_), does_want rfl (by rfl) (fun w' O K hK => ?_), does_want rfl (by rfl) (fun w' O K hK => ?_), does_want rfl (by rfl) (fun w' O K hK => ?_), does_want rfl (by rfl) (fun w' O K hK => ?_), does_want rfl (by rfl) (fun w' O K hK => ?_), does_want rfl (by rfl) (fun w' O K hK => ?_), does_want rfl (by rfl) (fun w' O K hK => ?_), does_want rfl (by rfl) (fun w' O K hK => ?_), does_want rfl (by rfl) (fun w' O K hK => ?_), does_want rfl (by rfl) (fun w' O K hK => ?_), does_want rfl (by rfl) (fun w' O K hK => ?_), does_want rfl (by rfl) (fun w' O K hK => ?_), does_want rfl (by rfl) (fun w' O K hK => ?_), does_want rfl (by rfl) (fun w' O K hK => ?_), does_want rfl (by rfl) (fun w' O K hK => ?_), trivial⟩, fun w' O => ?_⟩
            · go_simp
              exact hK _ O
            · go_simp
              first | exact hK _ O | (simp only [A1, A1b]; exact hK _ O)
            · go_simp
              exact hK _ O
            · go_simp
              exact hK _ O
            · go_simp
              first | exact hK _ O | (simp only [A2]; exact hK _ O)
            · go_simp
              exact hK _ O
            · go_simp
              exact hK _ O
            · go_simp
              exact hK _ O
            · exact wp_mid_h O 3 rfl (M.mat 2 (D.sub 0 t)) (mat_sub t (by decide)) rfl Try.underlying23 rfl (sN20 _) (hK _ O)
            · go_simp
              go_at_call 11
              refine (Wca _).mono ?_
              rintro e w2 ⟨rfl, hb⟩
              exact hK _ (O.call hb)
            · go_simp
              exact hK _ O
            · exact wp_mid_h O 3 rfl (M.mat 2 (D.sub 2 t)) (mat_sub t (by decide)) rfl Try.underlying23 rfl (sN20 _) (hK _ O)
            · go_simp
              go_at_call 11
              refine (Wcb _).mono ?_
              rintro e w2 ⟨rfl, hb⟩
              exact hK _ (O.call hb)
            · go_simp
              exact hK _ O
            · exact wp_mid_h O 3 rfl (M.mat 2 (D.sub 4 t)) (mat_sub t (by decide)) rfl Try.underlying23 rfl (sN20 _) (hK _ O)
            · go_simp
              go_at_call 11
              refine (Wcc _).mono ?_
              rintro e w2 ⟨rfl, hb⟩
              exact hK _ (O.call hb)
            · go_simp
              exact hK _ O
            · go_simp
              exact hK _ O
            · exact wp_cell_h (v := .int .i64 y) O 0 (i := 0) rfl rfl rfl agg3 rfl (hK _ O)
            · go_simp
              go_at_call 19
              refine (CHk _).mono ?_
              rintro e w2 ⟨rfl, hb⟩
              exact hK _ (O.call hb)
            · go_simp
              exact hK _ O
            · go_simp
              exact hK _ O
            · exact wp_cell_h (v := .int .i64 P) O 0 (i := 1) rfl rfl rfl agg3 rfl (hK _ O)
            · go_simp
              first | exact hK _ O | (simp only [A3, A3b]; exact hK _ O)
            · go_simp
              exact hK _ O
            · go_simp
              exact hK _ O
            · go_simp
              exact hK _ O
            · exact wp_cell_h (v := .int .i64 Q) O 0 (i := 2) rfl rfl rfl agg3 rfl (hK _ O)
            · go_simp
              first | exact hK _ O | (simp only [A4]; exact hK _ O)
            · go_simp
              exact hK _ O
            · go_simp
              first | exact hK _ O | (simp; exact hK _ O)
            · go_simp
              exact hK _ O
            refine wpAny_done (by kernel_rfl) ?_ _
            go_wp2_with fail
            go_roundw
            case rel => first | exact ⟨k + 1, by omega, by omega, by first | rfl | exact congrArg (Value.int IntKind.i64) Wk, O⟩ | ((repeat apply Exists.intro); exact ⟨⟨k + 1, by omega, by omega, by first | rfl | exact congrArg (Value.int IntKind.i64) Wk, O⟩, rfl⟩)
            case measure => first | (rw [Wk]; simp only [intOf]; omega) | (simp only [intOf]; omega)
        · go_wp2_with ((with_reducible refine at_load 153 ?_); refine wpList_cell_h (v := .int .i64 (Q)) rfl O 0 rfl (Lib.hid (rfl : (M.mat 3 (TR.sp y P Q))[2]? = some (.int .i64 Q))).out rfl agg3 rfl ?_; (try simp only [Act.put, List.setIfInBounds_toArray, List.set_cons_zero, List.set_cons_succ]))
          go_roundw
          case rel => first | exact ⟨i + 1, by omega, by first | rfl | exact congrArg (Value.int IntKind.i64) Wi, O.tail⟩ | ((repeat apply Exists.intro); exact ⟨⟨i + 1, by omega, by first | rfl | exact congrArg (Value.int IntKind.i64) Wi, O.tail⟩, rfl⟩)
          case measure => first | (rw [Wi]; simp only [intOf]; omega) | (simp only [intOf]; omega)
    · have q1 : ¬ (i : Int) < LA.length := by omega
      go_wp2_with (go_at_call 10; refine (lawake20 _).mono ?_; rintro e x20w ⟨rfl, hb⟩; replace O := O.call hb; clear hb)
      go_ret
      exact ⟨rfl, O.below⟩

theorem readable : ∀ t ∈ Try.f7.params.toList, Try.prog.readableRec t = true ∧ t < Try.prog.types.size := by
  intro t ht
  rw [Try.params7] at ht
  simp only [List.mem_cons, List.not_mem_nil, or_false] at ht
  repeat (first | (rcases ht with rfl | ht; exact ⟨by kernel_rfl, of_decide_eq_true (by kernel_rfl)⟩) | (subst ht; exact ⟨by kernel_rfl, of_decide_eq_true (by kernel_rfl)⟩))
set_option maxRecDepth 100000 in
theorem lifted (os : Os) (started : os.Started) (H : Type) (enc : TypeId × Value → H) :
    ReturnsInHanded {} Try.checked os 7 .any (Rows.triMovesSpec.pre6 enc Try.prog Try.f7 Rows.triMovesRow.domain false) (Rows.triMovesSpec.post enc Try.prog Try.f7 false true false false) := by
  refine returnsInHanded_of_change (C := Try.checked) own started (by kernel_rfl) Try.func7
    (ChangeSpec.witness6 (enc := enc) (C := Try.checked) false ⟨#[], #[.agg #[.int .i64 0, .int .i64 0, .int .i64 0, .int .i64 0, .int .i64 0, .int .i64 0], .agg #[.int .i8 0, .int .i8 0]], []⟩ 8 (by kernel_rfl) (by kernel_rfl) (by kernel_rfl) (by kernel_rfl)) ?_
  intro W base args ds gs before hval0 hW hcnd _
  have hval : ∀ (j : Nat) t v, Try.f7.params[j]? = some t → args[j]? = some v → Value.okWide Try.prog W .any base t v := hval0
  have hW' := hW
  obtain ⟨p, q, hA0, hV, rfl, hfz, hnd⟩ := hW
  have hA : DataW.TrodAll enc Try.prog W 0 (fun _ => true) true Try.f7.params.toList args.toList ds p := hA0
  rw [Try.params7] at hA hval
  have hlt : ∀ x ∈ p ++ q, x.block < W.heap.size := fun x hx => hW'.lt x hx
  obtain ⟨v0, vs0, d0, ds0, p0, q0, hargs, rfl, rfl, h0, rr0⟩ := trodAll_cons hA
  obtain ⟨v1, vs1, d1, ds1, p1, q1, rfl, rfl, rfl, h1, rr1⟩ := trodAll_cons rr0
  obtain ⟨rfl, rfl, rfl⟩ := trodAll_nil rr1
  obtain rfl : args = #[v0, v1] := by cases args; simp_all
  obtain ⟨rfl, rfl⟩ := trodVars_none hV
  obtain ⟨a0, rfl⟩ := openTri (hval 0 25 v0 rfl rfl) h0
  obtain ⟨x1, y1, rfl, z1⟩ := openTwo8 (hval 1 50 v1 rfl rfl) h1
  clear hA0 hval0
  refine (walk W a0 x1 y1 z1).mono fun e W' ⟨he, hg⟩ => ?_
  subst he
  exact ⟨_, rfl, post_true (tb := 4) laid readable (by kernel_rfl) Try.underlying4 rfl (fun l hl => by
    match l, hl with
    | [_, _], _ => exact ⟨rfl, rfl, rfl⟩) hW' hg⟩

theorem over : Rows.triMovesRow.holds Try.pinned (OpenSpec.ofChange Rows.triMovesSpec) :=
  OpenClaim.holds_of_wide 7 Try.f7 rfl rfl rfl rfl rfl rfl rfl ⟨rfl, rfl, rfl, rfl, rfl⟩ rfl rfl rfl rfl rfl (by kernel_rfl) Try.func7 (by kernel_rfl)
    (of_decide_eq_true (by kernel_rfl)) (by unfold Func.isWrapper; first | (rw [if_pos (by decide +kernel)]; kernel_rfl) | (rw [if_neg (by decide +kernel)]; exact ⟨rfl, rfl⟩))
    (fun os started H enc _ => lifted os started H enc)

theorem proved : Rows.TriMovesSaid :=
  over
#print axioms proved
end Go.Proofs.Ytndaijcgjhmiaaa.triMoves
