/-
 WideTells: whether any line may be, its fragments in any rectangle of at most 300 pixels, in their order, and the dash behind it are those of the document's own answer, which asks each pixel of the rectangle alone and puts what it finds in order.
-/
import Derived.Test.YtpfhaocmcfnhnaaGreatZm
import Derived.Deep.DeepCutAuto
namespace Go.Proofs.YtpfhaocmcfnhnaaGreat.wideTells
open Go.ChangeShapes Go.WideShapes Go.ChangeAt Go.RowKit
set_option linter.unusedVariables false
set_option linter.unusedSimpArgs false

theorem own : ownKnob Tryz.prog.godebug = none := by kernel_rfl
theorem rline_any (a b : Nat → Int) (n : Int) (ds : Bool) (d r : Nat → Int) (hs : RC.right r = true → r 2 - r 0 ≤ 300 ∧ r 3 - r 1 ≤ 300) (w : World) : Calls Tryz.prog 7 #[arr 7 a, arr 7 b, .int .i64 n, .bool ds, arr 3 d, arr 4 r] w (RetL w (WD.lin a b n ds d r) (WD.nxt a b n ds d)) := by
 cases h : WD.right a b n d
 ·
  unfold WD.lin WD.nxt
  rw [h, if_neg (by decide), Bool.false_and, if_neg (by decide)]
  exact rline_bad a b n ds d r h w
 ·
  obtain ⟨e, h1, h2⟩ := WD.width_of h
  unfold WD.lin WD.nxt
  rw [h, if_pos rfl, Bool.true_and]
  generalize hN : n.toNat = N at *
  subst e
  cases ds
  ·
   rw [if_neg (by decide)]
   exact rline_false a b N d r h hs w
  ·
   rw [if_pos rfl]
   exact rline_true a b N d r h hs w
theorem sides_of {r : Nat → Int} (h : RC.right r = true) (ha : RC.area r ≤ 300) : r 2 - r 0 ≤ 300 ∧ r 3 - r 1 ≤ 300 := by
 have hr := RC.right_iff.1 h
 unfold RC.area at ha
 rw [if_pos h] at ha
 obtain ⟨p, hp⟩ : ∃ p, r 2 - r 0 = p := ⟨_, rfl⟩
 obtain ⟨q, hq⟩ : ∃ q, r 3 - r 1 = q := ⟨_, rfl⟩
 rw [hp, hq] at ha ⊢
 have p1 : 1 ≤ p := by omega
 have q1 : 1 ≤ q := by omega
 have h1 : p * 1 ≤ p * q := Int.mul_le_mul_of_nonneg_left q1 (by omega)
 have h2 : 1 * q ≤ p * q := Int.mul_le_mul_of_nonneg_right p1 (by omega)
 omega
theorem rsmall_any (r : Nat → Int) (w : World) : Calls Tryz.prog 4 #[arr 4 r] w fun e w' => e = .returned (.bool (!RC.right r || decide (RC.area r ≤ 300))) ∧ Below w.heap.size w w' := by
 have O := Own.start w
 have CR := fun w => rright_any r w
 have CA := fun w => rarea_any r w
 obtain ⟨z, hz⟩ : ∃ z, RC.right r = z := ⟨_, rfl⟩
 obtain ⟨A, hA⟩ : ∃ A, RC.area r = A := ⟨_, rfl⟩
 rw [hz] at CR ⊢
 rw [hA] at CA ⊢
 clear hz hA
 cases z
 ·
  go_enter Tryz.func4, Tryz.ntmps4
  go_wp2_with (first | ((with_reducible refine at_box 1 ?_); refine wpList_box_own O (M.mat 4 (r)) rfl ?_; clear O; intro g1 w1 O) | ((with_reducible refine at_load 3 ?_); refine wpList_whole rfl O 0 rfl rfl Tryz.underlying29 rfl (sR _) ?_) | (go_at_call 11; refine (CR _).mono ?_; rintro e w2 ⟨rfl, hb⟩; replace O := O.call hb; clear hb))
  go_ret
  exact ⟨rfl, O.below⟩
 ·
  go_enter Tryz.func4, Tryz.ntmps4
  go_wp2_with (first | ((with_reducible refine at_box 1 ?_); refine wpList_box_own O (M.mat 4 (r)) rfl ?_; clear O; intro g1 w1 O) | ((with_reducible first | refine at_load 3 ?_ | refine at_load 7 ?_); refine wpList_whole rfl O 0 rfl rfl Tryz.underlying29 rfl (sR _) ?_) | (go_at_call 11; refine (CR _).mono ?_; rintro e w2 ⟨rfl, hb⟩; replace O := O.call hb; clear hb) | (go_at_call 12; refine (CA _).mono ?_; rintro e w3 ⟨rfl, hb⟩; replace O := O.call hb; clear hb))
  go_ret
  exact ⟨by first | rfl | simp, O.below⟩

set_option maxRecDepth 100000 in
set_option maxHeartbeats 16000000 in
theorem walk (w : World) (a b : Nat → Int) (n : Int) (s : Bool) (d r : Nat → Int) :
  Calls Tryz.prog 3 #[.agg (lw a b n s d r).toArray] w fun e w' => e = .returned (.bool true) ∧ Below w.heap.size w w' := by
 have O := Held.start w [] (by simp)
 have CS := fun w => rsmall_any r w
 cases hs : (!RC.right r || decide (RC.area r ≤ 300))
 ·
  rw [hs] at CS
  clear hs
  go_enter Tryz.func3, Tryz.ntmps3
  go_wp2_with (first | ((with_reducible refine at_box 1 ?_); refine wpList_box_h O (lw a b n s d r) rfl ?_; clear O; intro g1 w1 O) | ((with_reducible refine at_load 8 ?_); refine wpList_mid_h rfl O 0 rfl (M.mat 4 r) (lw_r a b n s d r) rfl Tryz.underlying29 rfl (sR _) ?_) | (go_at_call 4; refine (CS _).mono ?_; rintro e w2 ⟨rfl, hb⟩; replace O := O.call hb; clear hb) | (go_at_call 5; refine (awake_any _).mono ?_; rintro e w9 ⟨rfl, hb⟩; replace O := O.call hb; clear hb))
  go_ret
  exact ⟨rfl, O.below⟩
 rw [hs] at CS
 have hsd : RC.right r = true → r 2 - r 0 ≤ 300 ∧ r 3 - r 1 ≤ 300 := fun h => by
  rw [h] at hs
  refine sides_of h ?_
  simpa using hs
 have CL := fun w => wline_any a b n s d r w
 have CM := fun w => rline_any a b n s d r hsd w
 have CP := fun w => wright_any a b n d w
 have CQ := fun w => rlright_any a b n d w
 have HLEN := Lib.hid (WD.lin_len a b n s d r)
 obtain ⟨LX, hLX⟩ : ∃ l, WD.lin a b n s d r = l := ⟨_, rfl⟩
 obtain ⟨dx, hdx⟩ : ∃ e, WD.nxt a b n s d = e := ⟨_, rfl⟩
 obtain ⟨rr, hrr⟩ : ∃ e, WD.right a b n d = e := ⟨_, rfl⟩
 rw [hLX] at CL CM HLEN
 rw [hdx] at CL CM
 rw [hrr] at CP CQ
 clear hs hsd hLX hdx hrr
 go_enter Tryz.func3, Tryz.ntmps3
 go_wp2_with (first | ((with_reducible refine at_box 1 ?_); refine wpList_box_h O (lw a b n s d r) rfl ?_; clear O; intro g1 w1 O) | ((with_reducible first | refine at_load 8 ?_ | refine at_load 24 ?_); refine wpList_mid_h rfl O 0 rfl (M.mat 4 r) (lw_r a b n s d r) rfl Tryz.underlying29 rfl (sR _) ?_) | (go_at_call 4; refine (CS _).mono ?_; rintro e w2 ⟨rfl, hb⟩; replace O := O.call hb; clear hb) | ((with_reducible refine at_load 14 ?_); refine wpList_mid_h rfl O 0 rfl (M.mat 7 a) (lw_a a b n s d r) rfl Tryz.underlying25 rfl (sW _) ?_) | ((with_reducible refine at_load 16 ?_); refine wpList_mid_h rfl O 0 rfl (M.mat 7 b) (lw_b a b n s d r) rfl Tryz.underlying25 rfl (sW _) ?_) | ((with_reducible refine at_load 18 ?_); refine wpList_cell_h (v := .int .i64 n) rfl O 0 rfl (lw_n a b n s d r) rfl agg3 rfl ?_) | ((with_reducible refine at_load 20 ?_); refine wpList_cell_h (v := .bool s) rfl O 0 rfl (lw_s a b n s d r) rfl agg4' rfl ?_) | ((with_reducible refine at_load 22 ?_); refine wpList_mid_h rfl O 0 rfl (M.mat 3 d) (lw_d a b n s d r) rfl Tryz.underlying27 rfl (sH _) ?_) | (go_at_call 6; refine (CL _).mono ?_; rintro e w3 ⟨XA, xc, rfl, hV, hb⟩; have O2 := O.gain hb hV; clear O hb hV; have O := O2; clear O2) | ((with_reducible refine at_alloc 4 ?_); refine wpList_alloc_h O (M.mat 3 M.zero) zeroH ?_; clear O; intro g4 w4 O) | ((with_reducible refine at_store 4 ?_); refine wpList_put_h O 0 (M.mat 3 (dx)) rfl rfl rfl (sH _) (M.mat_len2 _ _ _) (M.mat_one _ _) ?_; clear O; intro w5 O) | ((with_reducible refine at_load 30 ?_); refine wpList_mid_h rfl O 1 rfl (M.mat 7 a) (lw_a a b n s d r) rfl Tryz.underlying25 rfl (sW _) ?_) | ((with_reducible refine at_load 32 ?_); refine wpList_mid_h rfl O 1 rfl (M.mat 7 b) (lw_b a b n s d r) rfl Tryz.underlying25 rfl (sW _) ?_) | ((with_reducible refine at_load 34 ?_); refine wpList_cell_h (v := .int .i64 n) rfl O 1 rfl (lw_n a b n s d r) rfl agg3 rfl ?_) | ((with_reducible refine at_load 36 ?_); refine wpList_cell_h (v := .bool s) rfl O 1 rfl (lw_s a b n s d r) rfl agg4' rfl ?_) | ((with_reducible refine at_load 38 ?_); refine wpList_mid_h rfl O 1 rfl (M.mat 3 d) (lw_d a b n s d r) rfl Tryz.underlying27 rfl (sH _) ?_) | ((with_reducible refine at_load 40 ?_); refine wpList_mid_h rfl O 1 rfl (M.mat 4 r) (lw_r a b n s d r) rfl Tryz.underlying29 rfl (sR _) ?_) | (go_at_call 7; refine (CM _).mono ?_; rintro e w6 ⟨YA, yc, rfl, hV, hb⟩; have O2 := O.gain hb hV; clear O hb hV; have O := O2; clear O2) | ((with_reducible refine at_alloc 6 ?_); refine wpList_alloc_h O (M.mat 3 M.zero) zeroH ?_; clear O; intro g6 w7 O) | ((with_reducible refine at_store 6 ?_); refine wpList_put_h O 0 (M.mat 3 (dx)) rfl rfl rfl (sH _) (M.mat_len2 _ _ _) (M.mat_one _ _) ?_; clear O; intro w8 O))
 have OX : Held w w8 [(g6, 27, M.mat 3 dx), (g4, 27, M.mat 3 dx), (g1, 31, lw a b n s d r)] nilRow [gE w.heap.size YA yc LX, gE w.heap.size XA xc LX] := O
 clear O CS CL CM
 have O := OX
 clear OX
 go_wp2_with fail
 have OO := O
 clear O
 have O := OO
 clear OO
 refine region_T ((fun w2 => Held w w2 [(g6, 27, M.mat 3 dx), (g4, 27, M.mat 3 dx), (g1, 31, lw a b n s d r)] nilRow [gE w.heap.size YA yc LX, gE w.heap.size XA xc LX])) [0, 1, 2, 3, 4, 5, 6, 7, 8, 9, 10, 11, 12, 13, 14, 15, 16, 17, 18, 19, 20, 21, 22, 23, 24, 25, 26, 27, 28, 29, 30, 31] 12 [some 44, some 45, some 46, some 47, some 48, some 49, some 50, some 51, some 52, some 53, some 54, some 55, some 56, some 57, some 58, some 59, some 60, some 61, some 62, some 63, some 64, some 65, some 66, some 67, some 68, some 69, some 70, some 71, some 72, some 73, some 74, some 75] [.bool true, .bool true, .slice XA LX.length xc, .slice YA LX.length yc, .bool true, .bool true, .bool true, arr 3 dx, arr 3 dx, .bool true, .bool true, .bool true, .pointer (some ⟨g1, 0, none⟩), arr 7 a, .pointer (some ⟨g1, 7, none⟩), arr 7 b, .pointer (some ⟨g1, 14, none⟩), .int .i64 (n), .pointer (some ⟨g1, 16, none⟩), arr 3 d, .bool rr, .pointer (some ⟨g1, 0, none⟩), arr 7 a, .pointer (some ⟨g1, 7, none⟩), arr 7 b, .pointer (some ⟨g1, 14, none⟩), .int .i64 (n), .pointer (some ⟨g1, 16, none⟩), arr 3 d, .bool rr, .bool true, .bool true] 1 (by kernel_rfl) (by rfl) (by kernel_rfl) (by rfl) (by rfl) (O.drew) (fun F hF => ?_)
 simp only [fillD, Act.put, List.setIfInBounds_toArray, List.set_cons_zero, List.set_cons_succ] at hF
 subst hF
 refine ⟨⟨does_want rfl (by rfl) (fun w' O K hK => ?_), does_want rfl (by rfl) (fun w' O K hK => ?_), does_want rfl (by rfl) (fun w' O K hK => ?_), does_want rfl (by rfl) (fun w' O K hK => ?_), does_want rfl (by rfl) (fun w' O K hK => ?_), does_want rfl (by rfl) (fun w' O K hK => ?_), does_want rfl (by rfl) (fun w' O K hK => ?_), does_want rfl (by rfl) (fun w' O K hK => ?_), does_want rfl (by rfl) (fun w' O K hK => ?_), does_want rfl (by rfl) (fun w' O K hK => ?_), does_want rfl (by rfl) (fun w' O K hK => ?_), does_want rfl (by rfl) (fun w' O K hK => ?_), does_want rfl (by rfl) (fun w' O K hK => ?_), does_want rfl (by rfl) (fun w' O K hK => ?_), does_want rfl (by rfl) (fun w' O K hK => ?_), does_want rfl (by rfl) (fun w' O K hK => ?_), does_want rfl (by rfl) (fun w' O K hK => ?_), does_want rfl (by rfl) (fun w' O K hK => ?_), does_want rfl (by rfl) (fun w' O K hK => ?_), does_want rfl (by rfl) (fun w' O K hK => ?_), does_want rfl (by rfl) (fun w' O K hK => ?_), does_want rfl (by rfl) (fun w' O K hK => ?_), does_want rfl (by rfl) (fun w' O K hK => ?_), does_want rfl (by rfl) (fun w' O K hK => ?_), does_want rfl (by rfl) (fun w' O K hK => ?_), does_want rfl (by rfl) (fun w' O K hK => ?_), does_want rfl (by rfl) (fun w' O K hK => ?_), does_want rfl (by rfl) (fun w' O K hK => ?_), does_want rfl (by rfl) (fun w' O K hK => ?_), does_want rfl (by rfl) (fun w' O K hK => ?_), does_want rfl (by rfl) (fun w' O K hK => ?_), does_want rfl (by rfl) (fun w' O K hK => ?_), trivial⟩, fun w' O => ?_⟩
 ·
  go_simp
  go_at_call 5
  refine (awake_any _).mono ?_
  rintro e w2 ⟨rfl, hb⟩
  exact hK _ (O.call hb)
 ·
  go_simp
  exact hK _ O
 ·
  go_simp
  exact hK _ O
 ·
  go_simp
  exact hK _ O
 ·
  go_simp
  go_at_call 8
  refine (rsame_any LX (by have := HLEN.out; omega) _ (O.arg (List.mem_cons_of_mem _ List.mem_cons_self)) (O.arg List.mem_cons_self)).mono ?_
  rintro e w2 ⟨rfl, hb⟩
  exact hK _ (O.call hb)
 ·
  go_simp
  exact hK _ O
 ·
  go_simp
  exact hK _ O
 · exact wp_row_h O 1 rfl rfl Tryz.underlying27 rfl (sH _) (hK _ O)
 · exact wp_row_h O 0 rfl rfl Tryz.underlying27 rfl (sH _) (hK _ O)
 ·
  refine wp_eqH dx dx rfl rfl ?_
  rw [M.eqB_refl]
  exact hK _ O
 ·
  go_simp
  exact hK _ O
 ·
  go_simp
  exact hK _ O
 ·
  go_simp
  exact hK _ O
 · exact wp_mid_h O 2 rfl (M.mat 7 a) (lw_a a b n s d r) rfl Tryz.underlying25 rfl (sW _) (hK _ O)
 ·
  go_simp
  exact hK _ O
 · exact wp_mid_h O 2 rfl (M.mat 7 b) (lw_b a b n s d r) rfl Tryz.underlying25 rfl (sW _) (hK _ O)
 ·
  go_simp
  exact hK _ O
 · exact wp_cell_h (v := .int .i64 n) O 2 rfl (lw_n a b n s d r) rfl agg3 rfl (hK _ O)
 ·
  go_simp
  exact hK _ O
 · exact wp_mid_h O 2 rfl (M.mat 3 d) (lw_d a b n s d r) rfl Tryz.underlying27 rfl (sH _) (hK _ O)
 ·
  go_simp
  go_at_call 9
  refine (CP _).mono ?_
  rintro e w2 ⟨rfl, hb⟩
  exact hK _ (O.call hb)
 ·
  go_simp
  exact hK _ O
 · exact wp_mid_h O 2 rfl (M.mat 7 a) (lw_a a b n s d r) rfl Tryz.underlying25 rfl (sW _) (hK _ O)
 ·
  go_simp
  exact hK _ O
 · exact wp_mid_h O 2 rfl (M.mat 7 b) (lw_b a b n s d r) rfl Tryz.underlying25 rfl (sW _) (hK _ O)
 ·
  go_simp
  exact hK _ O
 · exact wp_cell_h (v := .int .i64 n) O 2 rfl (lw_n a b n s d r) rfl agg3 rfl (hK _ O)
 ·
  go_simp
  exact hK _ O
 · exact wp_mid_h O 2 rfl (M.mat 3 d) (lw_d a b n s d r) rfl Tryz.underlying27 rfl (sH _) (hK _ O)
 ·
  go_simp
  go_at_call 10
  refine (CQ _).mono ?_
  rintro e w2 ⟨rfl, hb⟩
  exact hK _ (O.call hb)
 ·
  go_simp
  first | exact hK _ O | (simp; exact hK _ O) | (simp only [beq_self_eq_true]; exact hK _ O)
 ·
  go_simp
  exact hK _ O
 refine wpAny_one (i := 32) (by kernel_rfl) rfl (fun K hK => ?_)
 go_simp
 refine hK _ _ ?_
 clear hK K
 try simp only [Act.put, List.setIfInBounds_toArray, List.set_cons_zero, List.set_cons_succ]
 refine wpAny_done (by kernel_rfl) ?_ _
 go_wp2_with fail
 go_ret
 exact ⟨rfl, O.below⟩

theorem readable : ∀ t ∈ Tryz.f3.params.toList, Tryz.prog.readableRec t = true ∧ t < Tryz.prog.types.size := by
 intro t ht
 rw [Tryz.params3] at ht
 simp only [List.mem_cons, List.not_mem_nil, or_false] at ht
 repeat (first | (rcases ht with rfl | ht; exact ⟨by kernel_rfl, of_decide_eq_true (by kernel_rfl)⟩) | (subst ht; exact ⟨by kernel_rfl, of_decide_eq_true (by kernel_rfl)⟩))
set_option maxRecDepth 100000 in
theorem lifted (os : Os) (started : os.Started) (H : Type) (enc : TypeId × Value → H) :
  ReturnsInHanded {} Tryz.checked os 3 .any (Rows.wideTellsSpec.pre6 enc Tryz.prog Tryz.f3 Rows.wideTellsRow.domain false) (Rows.wideTellsSpec.post enc Tryz.prog Tryz.f3 false true false false) := by
 refine returnsInHanded_of_change (C := Tryz.checked) own started (by kernel_rfl) Tryz.func3
  (ChangeSpec.witness6 (enc := enc) (C := Tryz.checked) false ⟨#[], #[.agg #[.int .i64 0, .int .i64 0, .int .i64 0, .int .i64 0, .int .i64 0, .int .i64 0, .int .i64 0, .int .i64 0, .int .i64 0, .int .i64 0, .int .i64 0, .int .i64 0, .int .i64 0, .int .i64 0, .int .i64 0, .bool false, .int .i64 0, .int .i64 0, .int .i64 0, .int .i64 0, .int .i64 0, .int .i64 0, .int .i64 0]], []⟩ 8 (by kernel_rfl) (by kernel_rfl) (by kernel_rfl) (by kernel_rfl)) ?_
 intro W base args ds gs before hval0 hW hcnd _
 have hval : ∀ (j : Nat) t v, Tryz.f3.params[j]? = some t → args[j]? = some v → Value.okWide Tryz.prog W .any base t v := hval0
 have hW' := hW
 obtain ⟨p, q, hA0, hV, rfl, hfz, hnd⟩ := hW
 have hA : DataW.TrodAll enc Tryz.prog W 0 (fun _ => true) true Tryz.f3.params.toList args.toList ds p := hA0
 rw [Tryz.params3] at hA hval
 have hlt : ∀ x ∈ p ++ q, x.block < W.heap.size := fun x hx => hW'.lt x hx
 obtain ⟨v0, vs0, d0, ds0, p0, q0, hargs, rfl, rfl, h0, rr0⟩ := trodAll_cons hA
 obtain ⟨rfl, rfl, rfl⟩ := trodAll_nil rr0
 obtain rfl : args = #[v0] := by cases args; simp_all
 obtain ⟨rfl, rfl⟩ := trodVars_none hV
 obtain ⟨a0, b0, n0, s0, e0, r0, rfl⟩ := openLine (hval 0 31 v0 rfl rfl) h0
 clear hA0 hval0
 refine (walk W a0 b0 n0 s0 e0 r0).mono fun e W' ⟨he, hg⟩ => ?_
 subst he
 exact ⟨_, rfl, post_true (tb := 4) laid readable (by kernel_rfl) Tryz.underlying4 rfl (fun l hl => by
  match l, hl with
  | [_], _ => exact ⟨rfl, rfl, rfl⟩) hW' hg⟩

theorem over : Rows.wideTellsRow.holds Tryz.pinned (OpenSpec.ofChange Rows.wideTellsSpec) :=
 OpenClaim.holds_of_wide 3 Tryz.f3 rfl rfl rfl rfl rfl rfl rfl ⟨rfl, rfl, rfl, rfl, rfl⟩ rfl rfl rfl rfl rfl (by kernel_rfl) Tryz.func3 (by kernel_rfl)
  (of_decide_eq_true (by kernel_rfl)) (by unfold Func.isWrapper; first | (rw [if_pos (by decide +kernel)]; kernel_rfl) | (rw [if_neg (by decide +kernel)]; exact ⟨rfl, rfl⟩))
  (fun os started H enc _ => lifted os started H enc)

theorem proved : Rows.WideTellsSaid :=
 over
#print axioms proved
end Go.Proofs.YtpfhaocmcfnhnaaGreat.wideTells
