/-
  For every two vertices and list of sides the law TrimOrder returns true: in whatever order sides come, and however often one, the same is left. No condition.
-/
import Derived.Test.YtimfdimpifpclaaE4
import Derived.Test.YtimfdimpifpclaaAp
import Derived.Deep.DeepCutAuto
namespace Go.Proofs.Ytimfdimpifpclaa.trimOrder
open Go.ChangeShapes Go.WideShapes Go.ChangeAt Go.RowKit
set_option linter.unusedVariables false
set_option linter.unusedSimpArgs false

theorem own : ownKnob Try.prog.godebug = none := by kernel_rfl
theorem drop_pred {l : List (Nat → Int)} {i : Nat} {x : Nat → Int} (h : l[i]? = some x) : l.drop i = x :: l.drop (i + 1) := by
  obtain ⟨h1, h2⟩ := List.getElem?_eq_some_iff.1 h
  rw [List.drop_eq_getElem_cons h1, h2]

set_option maxRecDepth 100000 in
set_option maxHeartbeats 16000000 in
theorem walk (w : World) (a b : Nat → Int) (l : List (Nat → Int)) {A : Option Addr} {c : Nat} (hl : Lies w free (sE 0 A c l)) :
    Calls Try.prog 6 #[arr 8 a, arr 8 b, .slice A l.length c] w fun e w' => e = .returned (.bool true) ∧ Below w.heap.size w w' := by
  have O := Held.start w [sE 0 A c l] (by simpa using hl)
  clear hl
  have cm := fun (w : World) (h : Lies w free (sE 0 A c l)) => may_any a b l w h
  by_cases h4 : 4 < l.length
  · have q : (4 : Int) < l.length := by omega
    go_enter Try.func6, Try.ntmps6
    go_wp2_with (first | ((with_reducible refine at_box 3 ?_); refine wpList_box_h O (M.mat 8 (a)) rfl ?_; clear O; intro g3 w1 O) | ((with_reducible refine at_box 4 ?_); refine wpList_box_h O (M.mat 8 (b)) rfl ?_; clear O; intro g4 w2 O) | ((with_reducible refine at_load 19 ?_); refine wpList_rowg_h rfl O 1 rfl rfl Try.underlying27 rfl (s27 _) ?_) | ((with_reducible refine at_load 20 ?_); refine wpList_rowg_h rfl O 0 rfl rfl Try.underlying27 rfl (s27 _) ?_) | (go_at_call 8; refine (cm _ (O.arg List.mem_cons_self)).mono ?_; rintro e w3 ⟨rfl, hb⟩; replace O := O.call hb; clear hb) | (go_at_call 9; refine (awake_any _).mono ?_; rintro e w5 ⟨rfl, hb⟩; replace O := O.call hb; clear hb))
    go_ret
    exact ⟨rfl, O.below⟩
  have q : ¬ (4 : Int) < l.length := by omega
  cases hm : D.may a b l
  all_goals rw [hm] at cm
  · clear hm
    go_enter Try.func6, Try.ntmps6
    go_wp2_with (first | ((with_reducible refine at_box 3 ?_); refine wpList_box_h O (M.mat 8 (a)) rfl ?_; clear O; intro g3 w1 O) | ((with_reducible refine at_box 4 ?_); refine wpList_box_h O (M.mat 8 (b)) rfl ?_; clear O; intro g4 w2 O) | ((with_reducible refine at_load 19 ?_); refine wpList_rowg_h rfl O 1 rfl rfl Try.underlying27 rfl (s27 _) ?_) | ((with_reducible refine at_load 20 ?_); refine wpList_rowg_h rfl O 0 rfl rfl Try.underlying27 rfl (s27 _) ?_) | (go_at_call 8; refine (cm _ (O.arg List.mem_cons_self)).mono ?_; rintro e w3 ⟨rfl, hb⟩; replace O := O.call hb; clear hb) | (go_at_call 9; refine (awake_any _).mono ?_; rintro e w5 ⟨rfl, hb⟩; replace O := O.call hb; clear hb))
    go_ret
    exact ⟨rfl, O.below⟩
  · obtain ⟨h9, ha, hb, hr⟩ := D.may_iff.1 hm
    clear hm
    have c1 := Lib.hid (fun (w : World) (h : Lies w free (sE 0 A c l)) => ptrim_any a b l ha hb hr (by omega) w h)
    have c2 := Lib.hid (fun (w : World) (L : List (Nat → Int)) (lo : Nat) (A : Option Addr) (c : Nat) (hL : ∀ s ∈ L, D.right s = true) (h9 : L.length ≤ 100) (h : Lies w free (sE lo A c L)) => ptrim_any a b L ha hb hL h9 w h)
    have HR := Lib.hid hr
    clear ha hb hr h9
    go_enter Try.func6, Try.ntmps6
    go_wp2_with (first | ((with_reducible refine at_box 3 ?_); refine wpList_box_h O (M.mat 8 (a)) rfl ?_; clear O; intro g3 w1 O) | ((with_reducible refine at_box 4 ?_); refine wpList_box_h O (M.mat 8 (b)) rfl ?_; clear O; intro g4 w2 O) | ((with_reducible refine at_load 19 ?_); refine wpList_rowg_h rfl O 1 rfl rfl Try.underlying27 rfl (s27 _) ?_) | ((with_reducible refine at_load 20 ?_); refine wpList_rowg_h rfl O 0 rfl rfl Try.underlying27 rfl (s27 _) ?_) | (go_at_call 8; refine (cm _ (O.arg List.mem_cons_self)).mono ?_; rintro e w3 ⟨rfl, hb⟩; replace O := O.call hb; clear hb))
    clear cm
    go_loopw [7, 8] (fun u t wr => ∃ (j : Nat) (z : Int) (L : List (Nat → Int)) (MA : Option Addr) (Mc : Nat), j ≤ l.length ∧ z = (j : Int) - 1 ∧ t = .int .i64 z ∧ u = .slice MA L.length Mc ∧ (∀ s, s ∈ L ↔ s ∈ l.drop j) ∧ L.length + 2 * j = 2 * l.length ∧ Held w wr [(g4, 27, M.mat 8 b), (g3, 27, M.mat 8 a)] (sR MA Mc L) [sE 0 A c l]) (fun _ t _ => (intOf t + 1).toNat)
    case atStart => exact ⟨l.length, _, [], none, 0, Nat.le_refl _, rfl, rfl, rfl, by simp, by simp, O.fresh 24 5⟩
    case round =>
      clear O
      obtain ⟨j, z, L, MA, Mc, hj, hz, rfl, rfl, hm, hn, O⟩ := hrel
      have HM := Lib.hid hm
      clear hm
      rcases j with _ | i
      · obtain rfl : z = -1 := by omega
        obtain ⟨NA, Nc, hv, O2⟩ := O.done
        dsimp only [sR] at hv O2
        injection hv with e1 e2 e3
        subst e1 e3
        clear e2 O
        have O : Held w wr [(g4, 27, M.mat 8 b), (g3, 27, M.mat 8 a)] nilRow [sE w.heap.size MA Mc L, sE 0 A c l] := O2
        clear O2
        have hmm : ∀ s, s ∈ l ↔ s ∈ L := fun s => ((HM.out s).trans (by rw [List.drop_zero])).symm
        have cc2 := fun (w' : World) (h : Lies w' free (sE w.heap.size MA Mc L)) => c2.out w' L w.heap.size MA Mc (fun s hs => HR.out s ((hmm s).2 hs)) (by omega) h
        have cc1 := c1.out
        rw [D.trim_same (a := a) (b := b) hmm] at cc1
        obtain ⟨⟨f1, f2, z⟩, hp⟩ : ∃ r, D.trim a b L = r := ⟨_, rfl⟩
        unfold RetTrim at cc1 cc2
        rw [hp] at cc1 cc2
        dsimp only at cc1 cc2
        clear hp hmm HM HR c1 c2 hz hn hj
        have tok : True := trivial
        cases z
        all_goals
          go_wp2_with (first | ((with_reducible refine at_load 45 ?_); refine wpList_rowg_h rfl O 1 rfl rfl Try.underlying27 rfl (s27 _) ?_) | ((with_reducible refine at_load 46 ?_); refine wpList_rowg_h rfl O 0 rfl rfl Try.underlying27 rfl (s27 _) ?_) | (go_at_call 12; clear tok; have tok2 : True := trivial; refine (cc1 _ (O.arg (List.mem_cons_of_mem _ List.mem_cons_self))).mono ?_; rintro e w4 ⟨rfl, hb⟩; replace O := O.call hb; clear hb cc1) | (go_at_call 12; clear tok2; refine (cc2 _ (O.arg List.mem_cons_self)).mono ?_; rintro e w9 ⟨rfl, hb⟩; replace O := O.call hb; clear hb cc2) | ((with_reducible refine at_alloc 9 ?_); refine wpList_alloc_h O (M.mat 8 M.zero) zero27 ?_; clear O; intro g9 w5 O) | ((with_reducible refine at_alloc 10 ?_); refine wpList_alloc_h O (M.mat 8 M.zero) zero27 ?_; clear O; intro g10 w6 O) | ((with_reducible refine at_store 9 ?_); refine wpList_put_h O 1 (M.mat 8 (f1)) rfl rfl rfl (s27 _) (M.mat_len2 _ _ _) (M.mat_one _ _) ?_; clear O; intro w7 O) | ((with_reducible refine at_store 10 ?_); refine wpList_put_h O 0 (M.mat 8 (f2)) rfl rfl rfl (s27 _) (M.mat_len2 _ _ _) (M.mat_one _ _) ?_; clear O; intro w8 O) | ((with_reducible refine at_load 53 ?_); refine wpList_rowg_h rfl O 3 rfl rfl Try.underlying27 rfl (s27 _) ?_) | ((with_reducible refine at_load 54 ?_); refine wpList_rowg_h rfl O 2 rfl rfl Try.underlying27 rfl (s27 _) ?_) | ((with_reducible refine at_alloc 12 ?_); refine wpList_alloc_h O (M.mat 8 M.zero) zero27 ?_; clear O; intro g12 x1 O) | ((with_reducible refine at_alloc 13 ?_); refine wpList_alloc_h O (M.mat 8 M.zero) zero27 ?_; clear O; intro g13 x2 O) | ((with_reducible refine at_store 12 ?_); refine wpList_put_h O 1 (M.mat 8 (f1)) rfl rfl rfl (s27 _) (M.mat_len2 _ _ _) (M.mat_one _ _) ?_; clear O; intro x3 O) | ((with_reducible refine at_store 13 ?_); refine wpList_put_h O 0 (M.mat 8 (f2)) rfl rfl rfl (s27 _) (M.mat_len2 _ _ _) (M.mat_one _ _) ?_; clear O; intro x4 O) | (go_at_call 9; refine (awake_any _).mono ?_; rintro e x5 ⟨rfl, hb⟩; replace O := O.call hb; clear hb) | ((with_reducible refine at_load 62 ?_); refine wpList_rowg_h rfl O 3 rfl rfl Try.underlying27 rfl (s27 _) ?_) | ((with_reducible refine at_load 63 ?_); refine wpList_rowg_h rfl O 1 rfl rfl Try.underlying27 rfl (s27 _) ?_) | ((with_reducible refine at_binOp 64 ?_); refine wpList_eq27 rfl (f1) (f1) rfl rfl ?_; rw [M.eqB_refl]) | ((with_reducible refine at_load 67 ?_); refine wpList_rowg_h rfl O 2 rfl rfl Try.underlying27 rfl (s27 _) ?_) | ((with_reducible refine at_load 68 ?_); refine wpList_rowg_h rfl O 0 rfl rfl Try.underlying27 rfl (s27 _) ?_) | ((with_reducible refine at_binOp 69 ?_); refine wpList_eq27 rfl (f2) (f2) rfl rfl ?_; rw [M.eqB_refl]))
          go_ret
          exact ⟨rfl, O.below⟩
      · obtain rfl : z = (i : Int) := by omega
        have q0 : (0 : Int) ≤ i := by omega
        obtain ⟨x, hx⟩ : ∃ x, l[i]? = some x := ⟨_, List.getElem?_eq_getElem (by omega)⟩
        have HX := Lib.hid hx
        have hil : i < l.length := by omega
        have hll : L.length ≤ 100 := by omega
        have HN := Lib.hid hn
        clear hx hn hj hz
        go_wp2_with fail
        refine region_S (fun st w2 => ApS w [(g4, 27, M.mat 8 b), (g3, 27, M.mat 8 a)] MA Mc L x [sE 0 A c l] (st 9) (st 10) w2) [9, 10] 12 11 [some 33, some 34, some 35, some 36, some 37, some 38, some 39, some 40, some 41, some 42, some 43] (fun g => [.slice MA L.length Mc, .slice A l.length c, .int .i64 i, .pointer (some ((adr A).add (i * 5))), arr 5 x, .slice A l.length c, .int .i64 i, .pointer (some ((adr A).add (i * 5))), arr 5 x, g 9, g 10]) 1 (by kernel_rfl) (by kernel_rfl) (by rfl) (by rfl) (fun _ => rfl) (by decide) ?_ (.inl ⟨rfl, rfl, O.drew⟩) (fun F hF => ?_)
        · intro i hi
          simp only [List.mem_cons, List.not_mem_nil, or_false] at hi
          rcases hi with rfl | rfl
          · exact ⟨fun _ => rfl, [0, 1, 2, 3, 4, 5, 6, 7, 8, 10], by kernel_rfl, fun g v => ⟨rfl, rfl, rfl, rfl, rfl, rfl, rfl, rfl, rfl, rfl, trivial⟩⟩
          · exact ⟨fun _ => rfl, [0, 1, 2, 3, 4, 5, 6, 7, 8, 9], by kernel_rfl, fun g v => ⟨rfl, rfl, rfl, rfl, rfl, rfl, rfl, rfl, rfl, rfl, trivial⟩⟩
        simp only [fillD, Act.put, List.setIfInBounds_toArray, List.set_cons_zero, List.set_cons_succ] at hF
        have hF2 := funext hF
        clear hF
        subst hF2
        refine ⟨⟨doesN_want (by decide) rfl (fun g => rfl) (fun st w' hS hp K hK => ?_), doesN_want (by decide) rfl (fun g => rfl) (fun st w' hS hp K hK => ?_), doesN_want (by decide) rfl (fun g => rfl) (fun st w' hS hp K hK => ?_), doesN_want (by decide) rfl (fun g => rfl) (fun st w' hS hp K hK => ?_), doesN_want (by decide) rfl (fun g => rfl) (fun st w' hS hp K hK => ?_), doesN_want (by decide) rfl (fun g => rfl) (fun st w' hS hp K hK => ?_), doesN_want (by decide) rfl (fun g => rfl) (fun st w' hS hp K hK => ?_), doesN_want (by decide) rfl (fun g => rfl) (fun st w' hS hp K hK => ?_), doesN_want (by decide) rfl (fun g => rfl) (fun st w' hS hp K hK => ?_), doesC_want (by decide) rfl (fun g => rfl) (fun st w' hS hn hp K hK => ?_), doesC_want (by decide) rfl (fun g => rfl) (fun st w' hS hn hp K hK => ?_), trivial⟩, fun st w' hS hall => ?_⟩
        · try dsimp only
          go_simp
          exact hK _ hS
        · try dsimp only
          go_simp
          exact hK _ hS
        · try dsimp only
          go_simp
          exact hK _ hS
        · try dsimp only
          obtain ⟨R, O1⟩ := hS.held
          exact wp_at_h Try.underlying29 sizeOf24 _ (O1.mem List.mem_cons_self) rfl (i) rfl rfl (by omega) rfl (hK _ hS)
        · try dsimp only
          obtain ⟨R, O1⟩ := hS.held
          exact wp_elem_h _ (O1.mem List.mem_cons_self) (i * 5) (M.mat 5 x) (ss_at HX.out) (by rw [M.mat_len]; decide) rfl Try.underlying24 rfl (s24 _) (hK _ hS)
        · try dsimp only
          go_simp
          exact hK _ hS
        · try dsimp only
          go_simp
          exact hK _ hS
        · try dsimp only
          obtain ⟨R, O1⟩ := hS.held
          exact wp_at_h Try.underlying29 sizeOf24 _ (O1.mem List.mem_cons_self) rfl (i) rfl rfl (by omega) rfl (hK _ hS)
        · try dsimp only
          obtain ⟨R, O1⟩ := hS.held
          exact wp_elem_h _ (O1.mem List.mem_cons_self) (i * 5) (M.mat 5 x) (ss_at HX.out) (by rw [M.mat_len]; decide) rfl Try.underlying24 rfl (s24 _) (hK _ hS)
        · try dsimp only
          rw [hn] at hS
          exact hS.lit rfl rfl hK
        · try dsimp only
          rw [hn] at hS
          exact hS.app (hp 9 (by decide) (by kernel_rfl)) rfl rfl (by omega) hK
        try dsimp only
        obtain ⟨v9, NA, Nc, e9, e10, O3⟩ := hS.done (hall 9 (by decide)) (hall 10 (by decide))
        clear hS O
        have O := O3
        clear O3
        simp only [seen, e9, e10, Option.getD_some]
        clear hall e9 e10
        refine wpAny_one (i := 11) (by kernel_rfl) rfl (fun K hK => ?_)
        go_simp
        refine hK _ _ ?_
        clear hK K
        try simp only [Act.put, List.setIfInBounds_toArray, List.set_cons_zero, List.set_cons_succ]
        refine wpAny_done (by kernel_rfl) ?_ _
        go_wp2_with fail
        go_roundw
        case rel => exact ⟨i, (i : Int) - 1, L ++ [x, x], NA, Nc, by omega, rfl, by go_num, by simp, fun s => by
          rw [drop_pred HX.out, List.mem_append, List.mem_cons, HM.out s]
          simp only [List.mem_cons, List.not_mem_nil, or_false, or_self]
          exact or_comm, by rw [List.length_append]; simp only [List.length_cons, List.length_nil]; have := HN.out; omega, O⟩
        case measure => first | (simp [intOf]; done) | (simp [intOf]; omega)
theorem readable : ∀ t ∈ Try.f6.params.toList, Try.prog.readableRec t = true ∧ t < Try.prog.types.size := by
  intro t ht
  rw [Try.params6] at ht
  simp only [List.mem_cons, List.not_mem_nil, or_false] at ht
  repeat (first | (rcases ht with rfl | ht; exact ⟨by kernel_rfl, of_decide_eq_true (by kernel_rfl)⟩) | (subst ht; exact ⟨by kernel_rfl, of_decide_eq_true (by kernel_rfl)⟩))
set_option maxRecDepth 100000 in
theorem lifted (os : Os) (started : os.Started) (H : Type) (enc : TypeId × Value → H) :
    ReturnsInHanded {} Try.checked os 6 .any (Rows.trimOrderSpec.pre6 enc Try.prog Try.f6 Rows.trimOrderRow.domain false) (Rows.trimOrderSpec.post enc Try.prog Try.f6 false true false false) := by
  refine returnsInHanded_of_change (C := Try.checked) own started (by kernel_rfl) Try.func6
    (ChangeSpec.witness6 (enc := enc) (C := Try.checked) false ⟨#[], #[.agg #[.int .i64 0, .int .i64 0, .int .i64 0, .int .i64 0, .int .i64 0, .int .i64 0, .int .i64 0, .int .i64 0], .agg #[.int .i64 0, .int .i64 0, .int .i64 0, .int .i64 0, .int .i64 0, .int .i64 0, .int .i64 0, .int .i64 0], .slice none 0 0], []⟩ 8 (by kernel_rfl) (by kernel_rfl) (by kernel_rfl) (by kernel_rfl)) ?_
  intro W base args ds gs before hval0 hW hcnd _
  have hval : ∀ (j : Nat) t v, Try.f6.params[j]? = some t → args[j]? = some v → Value.okWide Try.prog W .any base t v := hval0
  have hW' := hW
  obtain ⟨p, q, hA0, hV, rfl, hfz, hnd⟩ := hW
  have hA : DataW.TrodAll enc Try.prog W 0 (fun _ => true) true Try.f6.params.toList args.toList ds p := hA0
  rw [Try.params6] at hA hval
  have hlt : ∀ x ∈ p ++ q, x.block < W.heap.size := fun x hx => hW'.lt x hx
  obtain ⟨v0, vs0, d0, ds0, p0, q0, hargs, rfl, rfl, h0, rr0⟩ := trodAll_cons hA
  obtain ⟨v1, vs1, d1, ds1, p1, q1, rfl, rfl, rfl, h1, rr1⟩ := trodAll_cons rr0
  obtain ⟨v2, vs2, d2, ds2, p2, q2, rfl, rfl, rfl, h2, rr2⟩ := trodAll_cons rr1
  obtain ⟨rfl, rfl, rfl⟩ := trodAll_nil rr2
  obtain rfl : args = #[v0, v1, v2] := by cases args; simp_all
  obtain ⟨rfl, rfl⟩ := trodVars_none hV
  obtain ⟨a0, rfl⟩ := openVert (hval 0 27 v0 rfl rfl) h0
  obtain ⟨a1, rfl⟩ := openVert (hval 1 27 v1 rfl rfl) h1
  obtain ⟨A2, n2, c2, rfl⟩ := okWide_slice Try.underlying29 (hval 2 29 v2 rfl rfl)
  obtain ⟨B2, k2, l2, e2, hF⟩ := openSides h2 (fun x hx => hlt x (by simp [hx]))
  obtain ⟨rfl, rfl, rfl⟩ := Value.slice.inj e2
  clear hA0 hval0
  refine (walk W a0 a1 _ hF).mono fun e W' ⟨he, hg⟩ => ?_
  subst he
  exact ⟨_, rfl, post_true (tb := 4) laid readable (by kernel_rfl) Try.underlying4 rfl (fun l hl => by
    match l, hl with
    | [_, _, _], _ => exact ⟨rfl, rfl, rfl⟩) hW' hg⟩

theorem over : Rows.trimOrderRow.holds Try.pinned (OpenSpec.ofChange Rows.trimOrderSpec) :=
  OpenClaim.holds_of_wide 6 Try.f6 rfl rfl rfl rfl rfl rfl rfl ⟨rfl, rfl, rfl, rfl, rfl⟩ rfl rfl rfl rfl rfl (by kernel_rfl) Try.func6 (by kernel_rfl)
    (of_decide_eq_true (by kernel_rfl)) (by unfold Func.isWrapper; first | (rw [if_pos (by decide +kernel)]; kernel_rfl) | (rw [if_neg (by decide +kernel)]; exact ⟨rfl, rfl⟩))
    (fun os started H enc _ => lifted os started H enc)

theorem proved : Rows.TrimOrderSaid :=
  over
#print axioms proved
end Go.Proofs.Ytimfdimpifpclaa.trimOrder
