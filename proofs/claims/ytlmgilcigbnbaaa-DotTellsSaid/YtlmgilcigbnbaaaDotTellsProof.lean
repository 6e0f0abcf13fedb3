/-
  DotTells: whether any point may be, its box, and its fragments in any rectangle (of 400 pixels at most), are those of the document's own answer, which looks at each pixel alone.
-/
import Derived.Test.YtlmgilcigbnbaaaDr
import Derived.Deep.DeepCutAuto
namespace Go.Proofs.Ytlmgilcigbnbaaa.dotTells
open Go.ChangeShapes Go.WideShapes Go.ChangeAt Go.RowKit
set_option linter.unusedVariables false
set_option linter.unusedSimpArgs false

theorem own : ownKnob Try.prog.godebug = none := by kernel_rfl

set_option maxRecDepth 100000 in
set_option maxHeartbeats 16000000 in
theorem walk (w : World) (v : Nat → Int) (s k : Int) (r : Nat → Int) :
    Calls Try.prog 3 #[.agg (dl v s k r).toArray] w fun e w' => e = .returned (.bool true) ∧ Below w.heap.size w w' := by
  have O := Held.start w [] (by simp)
  have CS := fun w => lsmall_any r w
  cases hs : (!RC.right r || decide (RC.area r ≤ 400))
  · rw [hs] at CS
    clear hs
    go_enter Try.func3, Try.ntmps3
    go_wp2_with (first | ((with_reducible refine at_box 1 ?_); refine wpList_box_h O (dl v s k r) rfl ?_; clear O; intro g1 w1 O) | ((with_reducible refine at_load 4 ?_); refine wpList_mid_h rfl O 0 rfl (M.mat 4 r) (dl_r v s k r) rfl Try.underlying27 rfl (sR _) ?_) | (go_at_call 7; refine (CS _).mono ?_; rintro e w2 ⟨rfl, hb⟩; replace O := O.call hb; clear hb) | (go_at_call 8; refine (awake_any _).mono ?_; rintro e w9 ⟨rfl, hb⟩; replace O := O.call hb; clear hb))
    go_ret
    exact ⟨rfl, O.below⟩
  rw [hs] at CS
  have ha : RC.area r ≤ 100000 := by
    cases hr : RC.right r
    · rw [RC.area_bad hr]; decide
    · rw [hr] at hs
      have : RC.area r ≤ 400 := by simpa using hs
      omega
  have CL := fun w => ppoint19_any v s k r ha w
  have CM := fun w => rpoint19_any v s k r ha w
  have CP := fun w => pright19_any v s k w
  have CQ := fun w => rright19_any v s k w
  have CB := fun w => pbox19_any v s w
  have CD := fun w => rbox19 v s w
  have HLEN := Lib.hid (show (DT.pt v s k r).length ≤ 1000000000 from Nat.le_trans (DT.pt_len (n := 100000) ha) (by decide))
  generalize DT.pt v s k r = LX at CL CM HLEN
  generalize DT.right v s k = rr at CP CQ
  generalize DT.box v s = bx at CB CD
  clear hs ha
  go_enter Try.func3, Try.ntmps3
  go_wp2_with (first | ((with_reducible refine at_box 1 ?_); refine wpList_box_h O (dl v s k r) rfl ?_; clear O; intro g1 w1 O) | ((with_reducible refine at_load 4 ?_); refine wpList_mid_h rfl O 0 rfl (M.mat 4 r) (dl_r v s k r) rfl Try.underlying27 rfl (sR _) ?_) | (go_at_call 7; refine (CS _).mono ?_; rintro e w2 ⟨rfl, hb⟩; replace O := O.call hb; clear hb))
  have OX := O.1
  clear O CS
  have O : Own w w2 [(g1, 29, dl v s k r)] := OX
  clear OX
  refine region_S (fun st w2 => HS2 w [(g1, 29, dl v s k r)] 40 49 LX LX st w2) [40, 49] 12 52 [some 8, some 9, some 10, some 11, some 12, some 13, some 14, some 15, some 16, some 17, some 18, some 19, some 20, some 21, some 22, some 23, some 24, some 25, some 26, some 27, some 28, some 29, some 30, some 31, some 32, some 33, some 34, some 35, some 36, some 37, some 38, some 39, some 40, some 41, some 42, some 43, some 44, some 45, some 46, some 47, some 48, some 49, some 50, some 51, some 52, some 53, some 54, some 55, some 56, some 57, some 58, some 59] (fun g => [.bool true, .bool true, .pointer (some ⟨g1, 0, none⟩), arr 7 v, .pointer (some ⟨g1, 7, none⟩), .int .i64 (s), .pointer (some ⟨g1, 8, none⟩), .int .i64 (k), .bool rr, .pointer (some ⟨g1, 0, none⟩), arr 7 v, .pointer (some ⟨g1, 7, none⟩), .int .i64 (s), .pointer (some ⟨g1, 8, none⟩), .int .i64 (k), .bool rr, .bool true, .bool true, .bool true, .pointer (some ⟨g1, 0, none⟩), arr 7 v, .pointer (some ⟨g1, 7, none⟩), .int .i64 (s), arr 4 bx, .pointer (some ⟨g1, 0, none⟩), arr 7 v, .pointer (some ⟨g1, 7, none⟩), .int .i64 (s), arr 4 bx, .bool true, .bool true, .bool true, .pointer (some ⟨g1, 0, none⟩), arr 7 v, .pointer (some ⟨g1, 7, none⟩), .int .i64 (s), .pointer (some ⟨g1, 8, none⟩), .int .i64 (k), .pointer (some ⟨g1, 9, none⟩), arr 4 r, g 40, .pointer (some ⟨g1, 0, none⟩), arr 7 v, .pointer (some ⟨g1, 7, none⟩), .int .i64 (s), .pointer (some ⟨g1, 8, none⟩), .int .i64 (k), .pointer (some ⟨g1, 9, none⟩), arr 4 r, g 49, .bool true, .bool true]) 1 (by kernel_rfl) (by kernel_rfl) (by rfl) (by rfl) (fun _ => rfl) (by decide) ?_ (HS2.start O.drew) (fun F hF => ?_)
  · intro i hi
    simp only [List.mem_cons, List.not_mem_nil, or_false] at hi
    rcases hi with rfl | rfl
    · exact ⟨fun _ => rfl, [0, 1, 2, 3, 4, 5, 6, 7, 8, 9, 10, 11, 12, 13, 14, 15, 16, 17, 18, 19, 20, 21, 22, 23, 24, 25, 26, 27, 28, 29, 30, 31, 32, 33, 34, 35, 36, 37, 38, 39, 41, 42, 43, 44, 45, 46, 47, 48, 49, 50, 51], by kernel_rfl, fun g v => ⟨rfl, rfl, rfl, rfl, rfl, rfl, rfl, rfl, rfl, rfl, rfl, rfl, rfl, rfl, rfl, rfl, rfl, rfl, rfl, rfl, rfl, rfl, rfl, rfl, rfl, rfl, rfl, rfl, rfl, rfl, rfl, rfl, rfl, rfl, rfl, rfl, rfl, rfl, rfl, rfl, rfl, rfl, rfl, rfl, rfl, rfl, rfl, rfl, rfl, rfl, rfl, trivial⟩⟩
    · exact ⟨fun _ => rfl, [0, 1, 2, 3, 4, 5, 6, 7, 8, 9, 10, 11, 12, 13, 14, 15, 16, 17, 18, 19, 20, 21, 22, 23, 24, 25, 26, 27, 28, 29, 30, 31, 32, 33, 34, 35, 36, 37, 38, 39, 40, 41, 42, 43, 44, 45, 46, 47, 48, 50, 51], by kernel_rfl, fun g v => ⟨rfl, rfl, rfl, rfl, rfl, rfl, rfl, rfl, rfl, rfl, rfl, rfl, rfl, rfl, rfl, rfl, rfl, rfl, rfl, rfl, rfl, rfl, rfl, rfl, rfl, rfl, rfl, rfl, rfl, rfl, rfl, rfl, rfl, rfl, rfl, rfl, rfl, rfl, rfl, rfl, rfl, rfl, rfl, rfl, rfl, rfl, rfl, rfl, rfl, rfl, rfl, trivial⟩⟩
  simp only [fillD, Act.put, List.setIfInBounds_toArray, List.set_cons_zero, List.set_cons_succ] at hF
  have hF2 := funext hF
  clear hF
  subst hF2
  refine ⟨⟨doesN_want (by decide) rfl (fun g => rfl) (fun st w' hS hp K hK => ?_), doesN_want (by decide) rfl (fun g => rfl) (fun st w' hS hp K hK => ?_), doesN_want (by decide) rfl (fun g => rfl) (fun st w' hS hp K hK => ?_), doesN_want (by decide) rfl (fun g => rfl) (fun st w' hS hp K hK => ?_), doesN_want (by decide) rfl (fun g => rfl) (fun st w' hS hp K hK => ?_), doesN_want (by decide) rfl (fun g => rfl) (fun st w' hS hp K hK => ?_), doesN_want (by decide) rfl (fun g => rfl) (fun st w' hS hp K hK => ?_), doesN_want (by decide) rfl (fun g => rfl) (fun st w' hS hp K hK => ?_), doesN_want (by decide) rfl (fun g => rfl) (fun st w' hS hp K hK => ?_), doesN_want (by decide) rfl (fun g => rfl) (fun st w' hS hp K hK => ?_), doesN_want (by decide) rfl (fun g => rfl) (fun st w' hS hp K hK => ?_), doesN_want (by decide) rfl (fun g => rfl) (fun st w' hS hp K hK => ?_), doesN_want (by decide) rfl (fun g => rfl) (fun st w' hS hp K hK => ?_), doesN_want (by decide) rfl (fun g => rfl) (fun st w' hS hp K hK => ?_), doesN_want (by decide) rfl (fun g => rfl) (fun st w' hS hp K hK => ?_), doesN_want (by decide) rfl (fun g => rfl) (fun st w' hS hp K hK => ?_), doesN_want (by decide) rfl (fun g => rfl) (fun st w' hS hp K hK => ?_), doesN_want (by decide) rfl (fun g => rfl) (fun st w' hS hp K hK => ?_), doesN_want (by decide) rfl (fun g => rfl) (fun st w' hS hp K hK => ?_), doesN_want (by decide) rfl (fun g => rfl) (fun st w' hS hp K hK => ?_), doesN_want (by decide) rfl (fun g => rfl) (fun st w' hS hp K hK => ?_), doesN_want (by decide) rfl (fun g => rfl) (fun st w' hS hp K hK => ?_), doesN_want (by decide) rfl (fun g => rfl) (fun st w' hS hp K hK => ?_), doesN_want (by decide) rfl (fun g => rfl) (fun st w' hS hp K hK => ?_), doesN_want (by decide) rfl (fun g => rfl) (fun st w' hS hp K hK => ?_), doesN_want (by decide) rfl (fun g => rfl) (fun st w' hS hp K hK => ?_), doesN_want (by decide) rfl (fun g => rfl) (fun st w' hS hp K hK => ?_), doesN_want (by decide) rfl (fun g => rfl) (fun st w' hS hp K hK => ?_), doesN_want (by decide) rfl (fun g => rfl) (fun st w' hS hp K hK => ?_), doesN_want (by decide) rfl (fun g => rfl) (fun st w' hS hp K hK => ?_), doesN_want (by decide) rfl (fun g => rfl) (fun st w' hS hp K hK => ?_), doesN_want (by decide) rfl (fun g => rfl) (fun st w' hS hp K hK => ?_), doesN_want (by decide) rfl (fun g => rfl) (fun st w' hS hp K hK => ?_), doesN_want (by decide) rfl (fun g => rfl) (fun st w' hS hp K hK => ?_), doesN_want (by decide) rfl (fun g => rfl) (fun st w' hS hp K hK => ?_), doesN_want (by decide) rfl (fun g => rfl) (fun st w' hS hp K hK => ?_), doesN_want (by decide) rfl (fun g => rfl) (fun st w' hS hp K hK => ?_), doesN_want (by decide) rfl (fun g => rfl) (fun st w' hS hp K hK => ?_), doesN_want (by decide) rfl (fun g => rfl) (fun st w' hS hp K hK => ?_), doesN_want (by decide) rfl (fun g => rfl) (fun st w' hS hp K hK => ?_), doesC_want (by decide) rfl (fun g => rfl) (fun st w' hS hn hp K hK => ?_), doesN_want (by decide) rfl (fun g => rfl) (fun st w' hS hp K hK => ?_), doesN_want (by decide) rfl (fun g => rfl) (fun st w' hS hp K hK => ?_), doesN_want (by decide) rfl (fun g => rfl) (fun st w' hS hp K hK => ?_), doesN_want (by decide) rfl (fun g => rfl) (fun st w' hS hp K hK => ?_), doesN_want (by decide) rfl (fun g => rfl) (fun st w' hS hp K hK => ?_), doesN_want (by decide) rfl (fun g => rfl) (fun st w' hS hp K hK => ?_), doesN_want (by decide) rfl (fun g => rfl) (fun st w' hS hp K hK => ?_), doesN_want (by decide) rfl (fun g => rfl) (fun st w' hS hp K hK => ?_), doesC_want (by decide) rfl (fun g => rfl) (fun st w' hS hn hp K hK => ?_), doesN_want (by decide) rfl (fun g => rfl) (fun st w' hS hp K hK => ?_), doesN_want (by decide) rfl (fun g => rfl) (fun st w' hS hp K hK => ?_), trivial⟩, fun st w' hS hall => ?_⟩
  · try dsimp only
    go_simp
    go_at_call 8
    refine (awake_any _).mono ?_
    rintro e w2 ⟨rfl, hb⟩
    exact hK _ (hS.call hb)
  · try dsimp only
    go_simp
    exact hK _ hS
  · try dsimp only
    go_simp
    exact hK _ hS
  · try dsimp only
    exact wp_mid_h hS.1.held 0 rfl (M.mat 7 v) (dl_v v s k r) rfl Try.underlying25 rfl (sW _) (hK _ hS)
  · try dsimp only
    go_simp
    exact hK _ hS
  · try dsimp only
    exact wp_cell_h (v := .int .i64 s) hS.1.held 0 rfl (dl_s v s k r) rfl agg3 rfl (hK _ hS)
  · try dsimp only
    go_simp
    exact hK _ hS
  · try dsimp only
    exact wp_cell_h (v := .int .i64 k) hS.1.held 0 rfl (dl_k v s k r) rfl agg3 rfl (hK _ hS)
  · try dsimp only
    go_simp
    go_at_call 9
    refine (CP _).mono ?_
    rintro e w2 ⟨rfl, hb⟩
    exact hK _ (hS.call hb)
  · try dsimp only
    go_simp
    exact hK _ hS
  · try dsimp only
    exact wp_mid_h hS.1.held 0 rfl (M.mat 7 v) (dl_v v s k r) rfl Try.underlying25 rfl (sW _) (hK _ hS)
  · try dsimp only
    go_simp
    exact hK _ hS
  · try dsimp only
    exact wp_cell_h (v := .int .i64 s) hS.1.held 0 rfl (dl_s v s k r) rfl agg3 rfl (hK _ hS)
  · try dsimp only
    go_simp
    exact hK _ hS
  · try dsimp only
    exact wp_cell_h (v := .int .i64 k) hS.1.held 0 rfl (dl_k v s k r) rfl agg3 rfl (hK _ hS)
  · try dsimp only
    go_simp
    go_at_call 10
    refine (CQ _).mono ?_
    rintro e w2 ⟨rfl, hb⟩
    exact hK _ (hS.call hb)
  · try dsimp only
    go_simp
    first | exact hK _ hS | (simp only [beq_self_eq_true]; exact hK _ hS) | (simp; exact hK _ hS)
  · try dsimp only
    go_simp
    exact hK _ hS
  · try dsimp only
    go_simp
    exact hK _ hS
  · try dsimp only
    go_simp
    exact hK _ hS
  · try dsimp only
    exact wp_mid_h hS.1.held 0 rfl (M.mat 7 v) (dl_v v s k r) rfl Try.underlying25 rfl (sW _) (hK _ hS)
  · try dsimp only
    go_simp
    exact hK _ hS
  · try dsimp only
    exact wp_cell_h (v := .int .i64 s) hS.1.held 0 rfl (dl_s v s k r) rfl agg3 rfl (hK _ hS)
  · try dsimp only
    go_simp
    go_at_call 11
    refine (CB _).mono ?_
    rintro e w2 ⟨rfl, hb⟩
    exact hK _ (hS.call hb)
  · try dsimp only
    go_simp
    exact hK _ hS
  · try dsimp only
    exact wp_mid_h hS.1.held 0 rfl (M.mat 7 v) (dl_v v s k r) rfl Try.underlying25 rfl (sW _) (hK _ hS)
  · try dsimp only
    go_simp
    exact hK _ hS
  · try dsimp only
    exact wp_cell_h (v := .int .i64 s) hS.1.held 0 rfl (dl_s v s k r) rfl agg3 rfl (hK _ hS)
  · try dsimp only
    go_simp
    go_at_call 12
    refine (CD _).mono ?_
    rintro e w2 ⟨rfl, hb⟩
    exact hK _ (hS.call hb)
  · try dsimp only
    refine wp_eqR bx bx rfl rfl ?_
    rw [M.eqB_refl]
    exact hK _ hS
  · try dsimp only
    go_simp
    exact hK _ hS
  · try dsimp only
    go_simp
    exact hK _ hS
  · try dsimp only
    go_simp
    exact hK _ hS
  · try dsimp only
    exact wp_mid_h hS.1.held 0 rfl (M.mat 7 v) (dl_v v s k r) rfl Try.underlying25 rfl (sW _) (hK _ hS)
  · try dsimp only
    go_simp
    exact hK _ hS
  · try dsimp only
    exact wp_cell_h (v := .int .i64 s) hS.1.held 0 rfl (dl_s v s k r) rfl agg3 rfl (hK _ hS)
  · try dsimp only
    go_simp
    exact hK _ hS
  · try dsimp only
    exact wp_cell_h (v := .int .i64 k) hS.1.held 0 rfl (dl_k v s k r) rfl agg3 rfl (hK _ hS)
  · try dsimp only
    go_simp
    exact hK _ hS
  · try dsimp only
    exact wp_mid_h hS.1.held 0 rfl (M.mat 4 r) (dl_r v s k r) rfl Try.underlying27 rfl (sR _) (hK _ hS)
  · try dsimp only
    go_simp
    go_at_call 14
    refine (CL _).mono ?_
    rintro e w2 ⟨VA, vc, rfl, hL, hb⟩
    exact hK _ _ (hS.gain1 (by decide) hL hb)
  · try dsimp only
    go_simp
    exact hK _ hS
  · try dsimp only
    exact wp_mid_h hS.1.held 0 rfl (M.mat 7 v) (dl_v v s k r) rfl Try.underlying25 rfl (sW _) (hK _ hS)
  · try dsimp only
    go_simp
    exact hK _ hS
  · try dsimp only
    exact wp_cell_h (v := .int .i64 s) hS.1.held 0 rfl (dl_s v s k r) rfl agg3 rfl (hK _ hS)
  · try dsimp only
    go_simp
    exact hK _ hS
  · try dsimp only
    exact wp_cell_h (v := .int .i64 k) hS.1.held 0 rfl (dl_k v s k r) rfl agg3 rfl (hK _ hS)
  · try dsimp only
    go_simp
    exact hK _ hS
  · try dsimp only
    exact wp_mid_h hS.1.held 0 rfl (M.mat 4 r) (dl_r v s k r) rfl Try.underlying27 rfl (sR _) (hK _ hS)
  · try dsimp only
    go_simp
    go_at_call 15
    refine (CM _).mono ?_
    rintro e w2 ⟨VA, vc, rfl, hL, hb⟩
    exact hK _ _ (hS.gain2 (by decide) hL hb)
  · try dsimp only
    obtain ⟨A1, k1, e1, h1⟩ := hS.get1 (hp 40 (by decide) (by kernel_rfl))
    obtain ⟨A2, k2, e2, h2⟩ := hS.get2 (hp 49 (by decide) (by kernel_rfl))
    simp only [seen, e1, e2, Option.getD_some] at hK ⊢
    go_simp
    go_at_call 13
    refine (rsame_any LX HLEN.out _ (h1.arg List.mem_cons_self) (h2.arg List.mem_cons_self)).mono ?_
    rintro e w2 ⟨rfl, hb⟩
    exact hK _ (hS.call hb)
  · try dsimp only
    go_simp
    exact hK _ hS
  try dsimp only
  clear O
  obtain ⟨A1, k1, e1, h1⟩ := hS.get1 (hall 40 (by decide))
  obtain ⟨A2, k2, e2, h2⟩ := hS.get2 (hall 49 (by decide))
  have O := hS.1
  clear h1 h2 hS
  simp only [seen, e1, e2, Option.getD_some]
  clear hall e1 e2
  refine wpAny_one (i := 52) (by kernel_rfl) rfl (fun K hK => ?_)
  go_simp
  refine hK _ _ ?_
  clear hK K
  try simp only [Act.put, List.setIfInBounds_toArray, List.set_cons_zero, List.set_cons_succ]
  refine wpAny_done (by kernel_rfl) ?_ _
  go_wp2_with fail
  go_ret
  exact ⟨rfl, O.below⟩

theorem readable : ∀ t ∈ Try.f3.params.toList, Try.prog.readableRec t = true ∧ t < Try.prog.types.size := by
  intro t ht
  rw [Try.params3] at ht
  simp only [List.mem_cons, List.not_mem_nil, or_false] at ht
  repeat (first | (rcases ht with rfl | ht; exact ⟨by kernel_rfl, of_decide_eq_true (by kernel_rfl)⟩) | (subst ht; exact ⟨by kernel_rfl, of_decide_eq_true (by kernel_rfl)⟩))
set_option maxRecDepth 100000 in
theorem lifted (os : Os) (started : os.Started) (H : Type) (enc : TypeId × Value → H) :
    ReturnsInHanded {} Try.checked os 3 .any (Rows.dotTellsSpec.pre6 enc Try.prog Try.f3 Rows.dotTellsRow.domain false) (Rows.dotTellsSpec.post enc Try.prog Try.f3 false true false false) := by
  refine returnsInHanded_of_change (C := Try.checked) own started (by kernel_rfl) Try.func3
    (ChangeSpec.witness6 (enc := enc) (C := Try.checked) false ⟨#[], #[.agg #[.int .i64 0, .int .i64 0, .int .i64 0, .int .i64 0, .int .i64 0, .int .i64 0, .int .i64 0, .int .i64 0, .int .i64 0, .int .i64 0, .int .i64 0, .int .i64 0, .int .i64 0]], []⟩ 8 (by kernel_rfl) (by kernel_rfl) (by kernel_rfl) (by kernel_rfl)) ?_
  intro W base args ds gs before hval0 hW hcnd _
  have hval : ∀ (j : Nat) t v, Try.f3.params[j]? = some t → args[j]? = some v → Value.okWide Try.prog W .any base t v := hval0
  have hW' := hW
  obtain ⟨p, q, hA0, hV, rfl, hfz, hnd⟩ := hW
  have hA : DataW.TrodAll enc Try.prog W 0 (fun _ => true) true Try.f3.params.toList args.toList ds p := hA0
  rw [Try.params3] at hA hval
  have hlt : ∀ x ∈ p ++ q, x.block < W.heap.size := fun x hx => hW'.lt x hx
  obtain ⟨v0, vs0, d0, ds0, p0, q0, hargs, rfl, rfl, h0, rr0⟩ := trodAll_cons hA
  obtain ⟨rfl, rfl, rfl⟩ := trodAll_nil rr0
  obtain rfl : args = #[v0] := by cases args; simp_all
  obtain ⟨rfl, rfl⟩ := trodVars_none hV
  obtain ⟨a0, s0, k0, r0, rfl⟩ := openSDot (hval 0 29 v0 rfl rfl) h0
  clear hA0 hval0
  refine (walk W a0 s0 k0 r0).mono fun e W' ⟨he, hg⟩ => ?_
  subst he
  exact ⟨_, rfl, post_true (tb := 4) laid readable (by kernel_rfl) Try.underlying4 rfl (fun l hl => by
    match l, hl with
    | [_], _ => exact ⟨rfl, rfl, rfl⟩) hW' hg⟩

theorem over : Rows.dotTellsRow.holds Try.pinned (OpenSpec.ofChange Rows.dotTellsSpec) :=
  OpenClaim.holds_of_wide 3 Try.f3 rfl rfl rfl rfl rfl rfl rfl ⟨rfl, rfl, rfl, rfl, rfl⟩ rfl rfl rfl rfl rfl (by kernel_rfl) Try.func3 (by kernel_rfl)
    (of_decide_eq_true (by kernel_rfl)) (by unfold Func.isWrapper; first | (rw [if_pos (by decide +kernel)]; kernel_rfl) | (rw [if_neg (by decide +kernel)]; exact ⟨rfl, rfl⟩))
    (fun os started H enc _ => lifted os started H enc)

theorem proved : Rows.DotTellsSaid :=
  over
#print axioms proved
end Go.Proofs.Ytlmgilcigbnbaaa.dotTells
