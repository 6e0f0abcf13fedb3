/- Contract: the document's Push. -/
import Derived.Test.YthcieapfpgejdaaW16
namespace Go.Proofs.Ythcieapfpgejdaa
open Go.ChangeShapes Go.WideShapes Go.ChangeAt Go.RowKit
set_option linter.unusedVariables false
set_option linter.unusedSimpArgs false

/-- An append onto a row in a block of the call's own. -/
theorem OwnL.append {w0 w w' : World} {bs : List (Nat × TypeId × List Value)} {ls : List Ent} (O : OwnL w0 w bs ls) (k : Nat) {g : Nat} {t : TypeId} {cs : List Value} (hk : bs[k]? = some (g, t, cs)) (hg : w.grownBy w' (some g)) {v : Value} {l : List (Nat → Int)}
    (hv : w'.ownsRow w0.heap.size 27 16 v l.length (M.cells l)) (hb : v.ownBlock = some g ∨ v.ownBlock = some w.heap.size) :
    ∃ A c, v = .slice A l.length c ∧ OwnL w0 w' (bs.eraseIdx k) (⟨w0.heap.size, A, c, l⟩ :: ls) := by
  have hkl : k < bs.length := (List.getElem?_eq_some_iff.1 hk).1
  have hmem : ∀ x ∈ bs.eraseIdx k, x ∈ bs ∧ x.1 ≠ g := by
    intro x hx
    obtain ⟨j, hjk, hj⟩ := List.mem_eraseIdx_iff_getElem?.1 hx
    refine ⟨List.mem_of_getElem? hj, fun e => ?_⟩
    have h1 : (bs.map (·.1))[k]? = some g := by simp [hk]
    have h2 : (bs.map (·.1))[j]? = some g := by simp [hj, e]
    obtain ⟨l1, e1⟩ := List.getElem?_eq_some_iff.1 h1
    obtain ⟨l2, e2⟩ := List.getElem?_eq_some_iff.1 h2
    exact hjk ((List.getElem_inj O.1.2.1).1 (e2.trans e1.symm))
  have hlt : ∀ x ∈ bs, x.1 < w.heap.size := fun x hx => O.1.lt hx
  have hbelow : Below w0.heap.size w0 w' := O.below.grown hg O.below.size (fun k2 e => by
    have : g = k2 := by simpa using e
    rw [← this]
    exact O.ge k hk)
  have hkeep : ∀ b, b < w.heap.size → b ≠ g → w'.heap[b]? = w.heap[b]? := fun b hb1 hb2 => hg.block b hb1 (fun e => hb2 (by simpa using e))
  have hsub : List.Sublist ((bs.eraseIdx k).map (·.1)) (bs.map (·.1)) := (List.eraseIdx_sublist bs k).map _
  have hown : Own w0 w' (bs.eraseIdx k) := ⟨hbelow, hsub.nodup O.1.2.1, fun x hx => ⟨(O.1.2.2 x (hmem x hx).1).1, (hkeep _ (hlt x (hmem x hx).1) (hmem x hx).2).trans (O.1.2.2 x (hmem x hx).1).2⟩⟩
  obtain ⟨A, c, rfl, hl⟩ := own_lies hv
  refine ⟨A, c, rfl, hown, fun x hx => ?_⟩
  rcases List.mem_cons.1 hx with rfl | hx
  · refine ⟨hl.1, fun hne => ?_⟩
    obtain ⟨ad, h1, h2, h3, _, h5⟩ := hl.2 hne
    refine ⟨ad, h1, h2, h3, fun hm => ?_, h5⟩
    obtain ⟨y, hy, hye⟩ := List.mem_map.1 hm
    have h1' : A = some ad := h1
    subst h1'
    have h6 := hmem y hy
    have h7 := hlt y h6.1
    rcases hb with hb | hb
    · have : ad.block = g := by simpa [Value.ownBlock] using hb
      exact h6.2 (hye.trans this)
    · have : ad.block = w.heap.size := by simpa [Value.ownBlock] using hb
      omega
  · refine (O.2 x hx).turn hg.size (fun b hb1 hb2 => hkeep b hb1 (fun e => hb2 (by rw [e]; exact Own.fst hk))) (fun b hb1 hb2 hm => hb2 ?_)
    exact hsub.subset hm
theorem blk_owns {w0 w : World} {bs : List (Nat × TypeId × List Value)} {ls : List Ent} (O : OwnL w0 w bs ls) (k : Nat) {g : Nat} {cs : List Value} (hk : bs[k]? = some (g, 27, cs)) {c : Nat} {l : List (Nat → Int)} (hc : RowC cs c l) : w.ownsRow w0.heap.size 27 16 (.slice (some ⟨g, 0, none⟩) l.length c) l.length (M.cells l) :=
  ⟨M.cells_len l, .inr ⟨g, c, cs.toArray, rfl, O.ge k hk, O.blk k hk, hc.le, hc.max, by simpa using hc.len, by simpa using hc.take⟩⟩
theorem rows_erase {G : Nat → Nat} {C : Nat → List Value} {bs : List (Nat × TypeId × List Value)} {i : Nat} (h : i < 2) : ((G 0, 27, C 0) :: (G 1, 27, C 1) :: bs).eraseIdx i = (G (1 - i), 27, C (1 - i)) :: bs := by
  rcases i with _ | _ | i
  · rfl
  · rfl
  · omega
/-- How far a region has come that makes a slice of one matrix and appends it to a row. -/
def AppSt (w : World) (G : Nat → Nat) (C : Nat → List Value) (bs : List (Nat × TypeId × List Value)) (ls : List Ent) (i : Nat) (a b : Option Value) (l : List (Nat → Int)) (x : Nat → Int) (w2 : World) : Prop :=
  (a = none ∧ b = none ∧ OwnL w w2 ((G 0, 27, C 0) :: (G 1, 27, C 1) :: bs) ls) ∨
  (∃ g, a = some (.slice (some ⟨g, 0, none⟩) 1 1) ∧ b = none ∧ OwnL w w2 ((G 0, 27, C 0) :: (G 1, 27, C 1) :: bs) (⟨w.heap.size, some ⟨g, 0, none⟩, 1, [x]⟩ :: ls)) ∨
  (∃ v A c, a = some v ∧ b = some (.slice A (l ++ [x]).length c) ∧ OwnL w w2 ((G (1 - i), 27, C (1 - i)) :: bs) (⟨w.heap.size, A, c, l ++ [x]⟩ :: ls))
theorem AppSt.own {w w2 : World} {G : Nat → Nat} {C : Nat → List Value} {bs : List (Nat × TypeId × List Value)} {ls : List Ent} {i : Nat} {a b : Option Value} {l : List (Nat → Int)} {x : Nat → Int} (h : AppSt w G C bs ls i a b l x w2) : OwnL w w2 bs ls := by
  rcases h with ⟨_, _, h⟩ | ⟨g, _, _, h⟩ | ⟨v, A, c, _, _, h⟩
  · exact h.tail.tail
  · exact h.tail.tail.pick (fun x hx => List.mem_cons_of_mem _ hx)
  · exact h.tail.pick (fun x hx => List.mem_cons_of_mem _ hx)
set_option maxRecDepth 100000 in
set_option maxHeartbeats 4000000 in
theorem rpush_any (m : Int) (L : Nat → Ent) (w : World) (hL : ∀ i, i < 2 → Lies w [] (L i)) : Calls Try.prog 19 #[.agg (sv m L).toArray] w (RetSE w (Stk.push (stk m L))) := by
  have O := OwnL.start w [L 0, L 1] (two_all hL)
  have hu2 := Try.underlying25
  have hu3 := Try.underlying27
  clear hL
  cases hr : Stk.right (stk m L)
  · have HE : Hid (Stk.push (stk m L) = (Stk.none_, 1)) := by show _ = _; simp [Stk.push, hr]
    have HR := Lib.hid hr
    clear hr
    go_enter Try.func19, Try.ntmps19
    go_wp2_with (first | ((with_reducible refine at_box 1 ?_); refine wpList_box_ls O (sv m L) rfl ?_; clear O; intro g2 w1 O) | ((with_reducible refine at_alloc 2 ?_); refine wpList_alloc_ls O (sv 0 (noL 0)) zero25 ?_; clear O; intro g4 w2 O) | ((with_reducible refine at_load 6 ?_); refine wpList_rowg_ls rfl O 1 rfl rfl Try.underlying25 rfl (s25 _ _) ?_) | (go_at_call 23; refine (rright6_any m L _ O.twoL).mono ?_; rw [HR.out]; rintro e w3 ⟨rfl, hb⟩; replace O := O.call hb; clear hb) | ((with_reducible refine at_build 9 ?_); refine wpList_build_own [] (sv 0 (noL 0)).toArray ?_ built25z ?_; (focus simp)) | ((with_reducible refine at_store 2 ?_); refine wpList_put_ls O 0 (sv (0) (noL 0)) rfl rfl rfl (s25 _ _) (sv_len _ _ _ _) (sv_one _ _) ?_; clear O; intro w4 O))
    refine bodyPost_ret (v := .tuple #[.agg (sv 0 (noL 0)).toArray, .int .i64 1]) (res_ls3 rfl O 0 rfl rfl Try.underlying25 rfl (s25 _ _) rfl) rfl ?_
    rw [HE.out]
    exact ⟨_, rfl, newS_none _ _, O.below⟩
  obtain ⟨i, hi, rfl⟩ := Stk.isMode_nat (Stk.isMode_iff.2 (Stk.right_iff.1 hr).1)
  have hlen := right_len hr
  have hli := hlen i hi
  have hne : (L i).l ≠ [] := len_ne hli.1
  have hmt : (stk i L).meant = (L i).l := by show (L (i : Int).toNat).l = _; rw [show (i : Int).toNat = i by omega]
  obtain ⟨n, hn⟩ : ∃ n : Nat, (L i).l.length = n + 1 := ⟨(L i).l.length - 1, by omega⟩
  have EV : (L i).val = .slice (L i).A (n + 1) (L i).c := by rw [← hn]; rfl
  have e1 : wrap64 (n : Int) = n := by unfold wrap64; omega
  have e2 : IntKind.i64.wrap (n : Int) = n := IntWalk.i64_in _ (by omega)
  have HNN := Lib.hid hn
  have HT : Hid (Stk.top (stk i L) i = (Stk.last (L i).l, 0)) := by show _ = _; simp only [Stk.top, hr, Stk.isMode_iff.2 (Stk.right_iff.1 hr).1, show Stk.isMode (i : Int) = true from Stk.isMode_iff.2 (Stk.right_iff.1 hr).1, Bool.and_true, if_true]; rw [show (i : Int).toNat = i by omega]; rfl
  by_cases h8 : n = 7
  · subst h8
    have HE : Hid (Stk.push (stk i L) = (Stk.none_, 7)) := by show _ = _; simp [Stk.push, hr, hmt, hn]
    have HR := Lib.hid hr
    clear hr hlen hli hne hmt hn e1 e2
    go_enter Try.func19, Try.ntmps19
    go_wp2_with (first | ((with_reducible refine at_box 1 ?_); refine wpList_box_ls O (sv i L) rfl ?_; clear O; intro g2 w1 O) | ((with_reducible refine at_alloc 2 ?_); refine wpList_alloc_ls O (sv 0 (noL 0)) zero25 ?_; clear O; intro g4 w2 O) | ((with_reducible refine at_load 6 ?_); refine wpList_rowg_ls rfl O 1 rfl rfl Try.underlying25 rfl (s25 _ _) ?_) | (go_at_call 23; refine (rright6_any i L _ O.twoL).mono ?_; rw [HR.out]; rintro e w3 ⟨rfl, hb⟩; replace O := O.call hb; clear hb) | ((with_reducible refine at_load 11 ?_); refine wpList_cell_ls rfl O 1 rfl (rfl) rfl agg3 rfl ?_) | ((with_reducible refine at_index 13 ?_); refine wpList_in_ls rfl Try.underlying23 sizeOf22 (by decide) (i) rfl rfl (rfl) (hi) ?_) | ((with_reducible refine at_load 14 ?_); refine wpList_cell_ls rfl O 1 rfl ((sv_at _ _ hi).trans (congrArg some EV)) rfl agg22 rfl ?_) | ((with_reducible refine at_build 17 ?_); refine wpList_build_own [] (sv 0 (noL 0)).toArray ?_ built25z ?_; (focus simp)) | ((with_reducible refine at_store 2 ?_); refine wpList_put_ls O 0 (sv (0) (noL 0)) rfl rfl rfl (s25 _ _) (sv_len _ _ _ _) (sv_one _ _) ?_; clear O; intro w4 O))
    refine bodyPost_ret (v := .tuple #[.agg (sv 0 (noL 0)).toArray, .int .i64 7]) (res_ls3 rfl O 0 rfl rfl Try.underlying25 rfl (s25 _ _) rfl) rfl ?_
    rw [HE.out]
    exact ⟨_, rfl, newS_none _ _, O.below⟩
  have HE : Hid (Stk.push (stk i L) = ((stk i L).put ((L i).l ++ [Stk.last (L i).l]), 0)) := by show _ = _; simp [Stk.push, hr, hmt, hn, h8]
  have q8 : ((n : Int) + 1 == 8) = false := by simp; omega
  clear h8
  obtain ⟨x, hx⟩ : ∃ x, Stk.last (L i).l = x := ⟨_, rfl⟩
  rw [hx] at HE HT
  obtain ⟨ie, hie, hz, hsz, hby⟩ := mat_parts
  have hmax : n + 1 + 1 ≤ maxLen := by have : maxLen = 9223372036854775807 := rfl; omega
  have HMAX := Lib.hid hmax
  clear hx hmax
  have HR := Lib.hid hr
  have HN := Lib.hid hlen
  have HI := Lib.hid hli
  have HNE := Lib.hid hne
  clear hr hlen hli hne hmt hn
  go_enter Try.func19, Try.ntmps19
  go_wp2_with (first | ((with_reducible refine at_box 1 ?_); refine wpList_box_ls O (sv i L) rfl ?_; clear O; intro g2 w1 O) | ((with_reducible refine at_alloc 2 ?_); refine wpList_alloc_ls O (sv 0 (noL 0)) zero25 ?_; clear O; intro g4 w2 O) | ((with_reducible refine at_load 6 ?_); refine wpList_rowg_ls rfl O 1 rfl rfl Try.underlying25 rfl (s25 _ _) ?_) | (go_at_call 23; refine (rright6_any i L _ O.twoL).mono ?_; rw [HR.out]; rintro e w3 ⟨rfl, hb⟩; replace O := O.call hb; clear hb) | ((with_reducible refine at_load 11 ?_); refine wpList_cell_ls rfl O 1 rfl (rfl) rfl agg3 rfl ?_) | ((with_reducible refine at_index 13 ?_); refine wpList_in_ls rfl Try.underlying23 sizeOf22 (by decide) (i) rfl rfl (rfl) (hi) ?_) | ((with_reducible refine at_load 14 ?_); refine wpList_cell_ls rfl O 1 rfl ((sv_at _ _ hi).trans (congrArg some EV)) rfl agg22 rfl ?_) | ((with_reducible refine at_load 19 ?_); refine wpList_rowg_ls rfl O 1 rfl rfl Try.underlying25 rfl (s25 _ _) ?_) | ((with_reducible refine at_load 21 ?_); refine wpList_cell_ls rfl O 1 rfl (rfl) rfl agg3 rfl ?_) | (go_at_call 10; refine (rtop_any _ L _ _ O.twoL).mono ?_; rw [HT.out]; rintro e w4 ⟨rfl, hb⟩; replace O := O.call hb; clear hb) | ((with_reducible refine at_alloc 4 ?_); refine wpList_alloc_ls O (M.mat 16 M.zero) zero23 ?_; clear O; intro gt w5 O) | ((with_reducible refine at_store 4 ?_); refine wpList_put_ls O 0 (M.mat 16 (x)) rfl rfl rfl (s23 _) (M.mat_len2 _ _ _) (M.mat_one _ _) ?_; clear O; intro w6 O) | ((with_reducible refine at_load 25 ?_); refine wpList_rowg_ls rfl O 2 rfl rfl Try.underlying25 rfl (s25 _ _) ?_) | (go_at_call 33; refine (rows_any _ L _ O.twoL (fun k hk => by have := HN.out k hk; omega)).mono ?_; rintro e w7 ⟨G, C, c, rfl, hO, hC⟩; have O2 := O.join hO; clear O hO; have O := O2; clear O2; simp only [rowsB, List.cons_append, List.nil_append] at O; have HC := Lib.hid hC; clear hC) | ((with_reducible refine at_store 1 ?_); refine wpList_put_ls O 4 (sv (i) (rowE w G c L)) rfl rfl rfl (s25 _ _) (sv_len _ _ _ _) (sv_one _ _) ?_; clear O; intro w8 O))
  have HRW : Hid ((rowE w G c L i).val = .slice (some ⟨G i, 0, none⟩) (n + 1) (c i)) := by show _ = _; rw [← HNN.out]; rfl
  refine region_S (fun st w2 => AppSt w G C [(gt, 27, M.mat 16 x), (g4, 25, sv 0 (noL 0)), (g2, 25, sv i (rowE w G c L))] [L 0, L 1] i (st 8) (st 9) (L i).l x w2) [8, 9] 12 12 [some 27, some 28, some 29, some 30, some 31, some 32, some 33, some 34, some 35, some 36, some 37, some 38] (fun g => [.pointer (some ⟨g2, 0, none⟩), .int .i64 i, .pointer (some ⟨g2, 0, none⟩), .int .i64 i, .pointer (some ⟨g2, 1, none⟩), .pointer (some ⟨g2, 1 + i, none⟩), .slice (some ⟨G i, 0, none⟩) (n + 1) (c i), arr 16 x, g 8, g 9, .pointer (some ⟨g2, 1, none⟩), .pointer (some ⟨g2, 1 + i, none⟩)]) 1 (by kernel_rfl) (by kernel_rfl) (by rfl) (by rfl) (fun _ => rfl) (by decide) ?_ (.inl ⟨rfl, rfl, O.drew⟩) (fun F hF => ?_)
  · intro i hi
    simp only [List.mem_cons, List.not_mem_nil, or_false] at hi
    rcases hi with rfl | rfl
    · exact ⟨fun _ => rfl, [0, 1, 2, 3, 4, 5, 6, 7, 9, 10, 11], by kernel_rfl, fun g v => ⟨rfl, rfl, rfl, rfl, rfl, rfl, rfl, rfl, rfl, rfl, rfl, trivial⟩⟩
    · exact ⟨fun _ => rfl, [0, 1, 2, 3, 4, 5, 6, 7, 8, 10, 11], by kernel_rfl, fun g v => ⟨rfl, rfl, rfl, rfl, rfl, rfl, rfl, rfl, rfl, rfl, rfl, trivial⟩⟩
  simp only [fillD, Act.put, List.setIfInBounds_toArray, List.set_cons_zero, List.set_cons_succ] at hF
  have hF2 := funext hF
  clear hF
  subst hF2
  refine ⟨⟨doesN_want (by decide) rfl (fun g => rfl) (fun st w' hS hp K hK => ?_), doesN_want (by decide) rfl (fun g => rfl) (fun st w' hS hp K hK => ?_), doesN_want (by decide) rfl (fun g => rfl) (fun st w' hS hp K hK => ?_), doesN_want (by decide) rfl (fun g => rfl) (fun st w' hS hp K hK => ?_), doesN_want (by decide) rfl (fun g => rfl) (fun st w' hS hp K hK => ?_), doesN_want (by decide) rfl (fun g => rfl) (fun st w' hS hp K hK => ?_), doesN_want (by decide) rfl (fun g => rfl) (fun st w' hS hp K hK => ?_), doesN_want (by decide) rfl (fun g => rfl) (fun st w' hS hp K hK => ?_), doesC_want (by decide) rfl (fun g => rfl) (fun st w' hS hn hp K hK => ?_), doesC_want (by decide) rfl (fun g => rfl) (fun st w' hS hn hp K hK => ?_), doesN_want (by decide) rfl (fun g => rfl) (fun st w' hS hp K hK => ?_), doesN_want (by decide) rfl (fun g => rfl) (fun st w' hS hp K hK => ?_), trivial⟩, fun st w' hS hall => ?_⟩
  · try dsimp only
    go_simp
    exact hK _ hS
  · try dsimp only
    exact wp_cell_ls hS.own 2 rfl (i := 0) rfl rfl agg3 rfl (hK _ hS)
  · try dsimp only
    go_simp
    exact hK _ hS
  · try dsimp only
    exact wp_cell_ls hS.own 2 rfl (i := 0) rfl rfl agg3 rfl (hK _ hS)
  · try dsimp only
    go_simp
    exact hK _ hS
  · try dsimp only
    exact wp_in_ls Try.underlying23 sizeOf22 (by decide) i rfl rfl rfl hi (hK _ hS)
  · try dsimp only
    exact wp_cell_ls hS.own 2 rfl ((sv_at _ _ hi).trans (congrArg some HRW.out)) rfl agg22 rfl (hK _ hS)
  · try dsimp only
    exact wp_row_ls hS.own 0 rfl rfl Try.underlying27 rfl (s23 _) (hK _ hS)
  · try dsimp only
    have hcs := hn
    rcases hS with ⟨h1, h2, O⟩ | ⟨g, h1, h2, O⟩ | ⟨v, A, c2, h1, h2, O⟩
    · refine wp_lit_ls O x rfl fun g w3 O3 => hK _ w3 (.inr (.inl ⟨g, upd_same _ _ _, (upd_other _ _ (by decide)).trans h2, O3⟩))
    · rw [h1] at hcs; cases hcs
    · rw [h1] at hcs; cases hcs
  · try dsimp only
    have hcs := hn
    have hp1 := hp 8 (by decide) (by kernel_rfl)
    rcases hS with ⟨h1, h2, O⟩ | ⟨g, h1, h2, O⟩ | ⟨v, A, c2, h1, h2, O⟩
    · rw [h1] at hp1; cases hp1
    · have es : seen st 8 = .slice (some ⟨g, 0, none⟩) 1 1 := by simp [seen, h1]
      have ho := blk_owns O i (rows_at hi) (HC.out i hi)
      refine append_steps (s := .tmp 33) (x := .tmp 35) rfl Try.underlying22 hie hz hsz hby arr_cells (by decide) (by show Value.slice _ _ _ = Value.slice _ _ _; rw [HNN.out]) ho (A := some ⟨g, 0, none⟩) (m := 1) (c := 1) es (O.ret 0 rfl).reads (M.cells_one _) (by have := HMAX.out; have := HNN.out; omega) (by have := HI.out; omega) O.below.size ?_
      intro v' w3 o3 g3' hbl
      obtain ⟨A, c2, rfl, O3⟩ := O.append i (rows_at hi) (l := (L i).l ++ [x]) g3' (by rw [List.length_append, M.cells_app]; exact o3) hbl
      rw [rows_erase hi] at O3
      refine hK _ w3 (.inr (.inr ⟨_, A, c2, (upd_other _ _ (by decide)).trans h1, upd_same _ _ _, O3.pick (fun y hy => ?_)⟩))
      rcases List.mem_cons.1 hy with rfl | hy
      · exact List.mem_cons_self
      · exact List.mem_cons_of_mem _ (List.mem_cons_of_mem _ hy)
    · rw [h2] at hcs; cases hcs
  · try dsimp only
    go_simp
    exact hK _ hS
  · try dsimp only
    exact wp_in_ls Try.underlying23 sizeOf22 (by decide) i rfl rfl rfl hi (hK _ hS)
  try dsimp only
  have hp1 := hall 8 (by decide)
  have hp2 := hall 9 (by decide)
  rcases hS with ⟨h1, h2, O⟩ | ⟨g, h1, h2, O⟩ | ⟨v, A, c2, h1, h2, O⟩
  · rw [h1] at hp1; cases hp1
  · rw [h2] at hp2; cases hp2
  have es : seen st 8 = v := by simp [seen, h1]
  have es2 : seen st 9 = .slice A ((L i).l ++ [x]).length c2 := by simp [seen, h2]
  rw [es, es2]
  clear hp1 hp2 h1 h2 es es2 hall
  refine wpAny_want (i := 12) (by kernel_rfl) rfl (by rfl) (fun K hK => ?_)
  refine wp_set_ls O 3 (Ent.val ⟨w.heap.size, A, c2, (L i).l ++ [x]⟩) rfl (by simp only [sv, List.length_cons, List.length_nil]; omega) rfl rfl size22 rfl rfl fun w9 O9 => hK _ _ ?_
  clear O
  have O := O9
  clear O9
  simp only [List.set_cons_zero, List.set_cons_succ, sv_set _ _ hi] at O
  clear hK K
  try simp only [Act.put, List.setIfInBounds_toArray, List.set_cons_zero, List.set_cons_succ]
  refine wpAny_done (by kernel_rfl) ?_ _
  go_wp2_with (first | ((with_reducible refine at_load 39 ?_); refine wpList_rowg_ls rfl O 3 rfl rfl Try.underlying25 rfl (s25 _ _) ?_) | ((with_reducible refine at_store 2 ?_); refine wpList_put_ls O 2 (sv (i) (putL (rowE w G c L) i ⟨w.heap.size, A, c2, (L i).l ++ [x]⟩)) rfl rfl rfl (s25 _ _) (sv_len _ _ _ _) (sv_one _ _) ?_; clear O; intro w8 O))
  refine bodyPost_ret (v := .tuple #[.agg (sv i (putL (rowE w G c L) i ⟨w.heap.size, A, c2, (L i).l ++ [x]⟩)).toArray, .int .i64 0]) (res_ls3 rfl O 2 rfl rfl Try.underlying25 rfl (s25 _ _) rfl) rfl ?_
  rw [HE.out]
  refine ⟨_, rfl, ⟨putL (rowE w G c L) i ⟨w.heap.size, A, c2, (L i).l ++ [x]⟩, rfl, fun k hk => ?_⟩, O.below⟩
  by_cases e : k = i
  · subst e
    rw [putL_at]
    refine ⟨rfl, ?_, O.ret 0 rfl⟩
    show (L k).l ++ [x] = if k = (k : Int).toNat then (L k).l ++ [x] else (L k).l
    rw [if_pos (by omega)]
  · rw [show putL (rowE w G c L) i _ k = rowE w G c L k by simp [putL, e]]
    refine ⟨rfl, ?_, ?_⟩
    · show (L k).l = if k = (i : Int).toNat then _ else (L k).l
      rw [if_neg (by omega)]
    · have e2 : 1 - i = k := by omega
      rw [e2] at O
      exact blk_lies O 0 rfl (HC.out k hk) (O.ge 0 rfl)
end Go.Proofs.Ythcieapfpgejdaa
