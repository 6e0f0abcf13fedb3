/- Contracts: own, with. -/
import Derived.Test.YthcieapfpgejdaaW3
import Derived.Test.YthcieapfpgejdaaWords
import Derived.Test.YthcieapfpgejdaaAnyS
namespace Go.Proofs.Ythcieapfpgejdaa
open Go.ChangeShapes Go.WideShapes Go.ChangeAt Go.RowKit
set_option linter.unusedVariables false
set_option linter.unusedSimpArgs false

theorem Lies.reads {w : World} {no : List Nat} {x : Ent} (h : Lies w no x) : Reads w w.heap.size 16 x.A x.l.length (M.cells x.l) where
  len := M.cells_len _
  lies := fun h0 => by
    have hne : x.l ≠ [] := fun e => by rw [e] at h0; exact absurd h0 (by decide)
    obtain ⟨ad, h1, _, h3, _, h5⟩ := h.2 hne
    exact ⟨ad, h1, h3, h5⟩
/-- A row of a call's own as a list. -/
theorem own_lies {w : World} {base : Nat} {v : Value} {l : List (Nat → Int)} (h : w.ownsRow base 27 16 v l.length (M.cells l)) : ∃ A c, v = .slice A l.length c ∧ Lies w [] ⟨base, A, c, l⟩ := by
  rcases h.2 with ⟨rfl, h0⟩ | ⟨g, cap, cur, rfl, hb, hg, hle, _⟩
  · have : l = [] := List.eq_nil_of_length_eq_zero h0
    subst this
    exact ⟨none, 0, rfl, Lies.nil⟩
  · refine ⟨_, cap, rfl, hle, fun hne => ⟨_, rfl, hb, (Array.getElem?_eq_some_iff.1 hg).1, List.not_mem_nil, ?_⟩⟩
    exact h.cells (g := g) rfl
theorem mat_parts : ∃ ie, Try.prog.info? 27 = some ie ∧ ie.zero = some (arr 16 M.zero) ∧ ie.size = 16 ∧ ie.bytes = 128 := by
  have := mat_info
  cases h : Try.prog.info? 27 with
  | none => simp [h] at this
  | some i => exact ⟨i, rfl, by simpa [h] using congrArg (fun o => o.map (·.1)) this, by simpa [h] using congrArg (fun o => o.map (·.2.1)) this, by simpa [h] using congrArg (fun o => o.map (·.2.2)) this⟩
def RetOwn (w : World) (l : List (Nat → Int)) (e : Ending) (w' : World) : Prop := ∃ v, e = .returned v ∧ w'.ownsRow w.heap.size 27 16 v l.length (M.cells l) ∧ Below w.heap.size w w'
theorem arr_cells : (arr 16 M.zero).cells.size = 16 := by kernel_rfl
theorem own_any (x : Ent) (w : World) (hx : Lies w [] x) (hs : x.l.length ≤ 100) : Calls Try.prog 43 #[x.val] w (RetOwn w x.l) := by
  obtain ⟨ie, hie, hz, hsz, hby⟩ := mat_parts
  have R := hx.reads
  have hn : x.l.length ≤ maxLen := by have : maxLen = 9223372036854775807 := rfl; omega
  show Calls Try.prog 43 #[Value.slice x.A x.l.length x.c] w (RetOwn w x.l)
  go_enter Try.func43, Try.ntmps43
  go_wp2_with ((refine wpList_append_any _ rfl (.const (.slice none 0 0)) (.tmp 3) 22 rfl w.heap.size 27 ie (arr 16 M.zero) 16 128 Try.underlying22 hie hz hsz hby arr_cells (by decide) _ 0 [] rfl (World.ownsRow_nil _ _ _ _) _ x.A x.l.length x.c (M.cells x.l) rfl R (M.cells_one _) (by omega) (by omega) (Nat.le_refl _) ?_); intro v w2 o1 g1 b1)
  go_ret
  rw [Nat.zero_add, List.nil_append] at o1
  exact ⟨v, rfl, o1, (Below.refl _ w).grown g1 (Nat.le_refl _) (fun k hk => absurd (show (none : Option Nat) = some k from hk) (by simp))⟩
/-- How far a row has come that a call makes and appends to. -/
def RowSt (w : World) (bs : List (Nat × TypeId × List Value)) (ls : List Ent) (a b : Option Value) (l l' : List (Nat → Int)) (w2 : World) : Prop :=
  (a = none ∧ b = none ∧ OwnL w w2 bs ls) ∨ (∃ v wc, a = some v ∧ b = none ∧ OwnL w wc bs ls ∧ Below wc.heap.size wc w2 ∧ w2.ownsRow wc.heap.size 27 16 v l.length (M.cells l)) ∨
  (∃ v v' wc, a = some v ∧ b = some v' ∧ OwnL w wc bs ls ∧ Below wc.heap.size wc w2 ∧ w2.ownsRow wc.heap.size 27 16 v' (l ++ l').length (M.cells (l ++ l')))
theorem RowSt.own {w w2 : World} {bs : List (Nat × TypeId × List Value)} {ls : List Ent} {a b : Option Value} {l l' : List (Nat → Int)} (h : RowSt w bs ls a b l l' w2) : OwnL w w2 bs ls := by
  rcases h with ⟨_, _, h⟩ | ⟨v, wc, _, _, h, hb, _⟩ | ⟨v, v', wc, _, _, h, hb, _⟩
  · exact h
  · exact h.call hb
  · exact h.call hb
theorem Below.rowGrown {wc w2 w3 : World} {v : Value} {n : Nat} {xs : List Value} (hb : Below wc.heap.size wc w2) (ho : w2.ownsRow wc.heap.size 27 16 v n xs) (hg : w2.grownBy w3 v.ownBlock) : Below wc.heap.size wc w3 :=
  hb.grown hg hb.size (fun k hk => (ho.lt k hk).1)
theorem putL_at (L : Nat → Ent) (i : Nat) (x : Ent) : putL L i x i = x := by simp [putL]
set_option maxRecDepth 100000 in
set_option maxHeartbeats 4000000 in
theorem with_any (i : Nat) (hi : i < 2) (L : Nat → Ent) (r t : Ent) (w : World) (hL : ∀ i, i < 2 → Lies w [] (L i)) (hr : Lies w [] r) (ht : Lies w [] t) (hs : ∀ i, i < 2 → (L i).l.length ≤ 100) (hrs : r.l.length ≤ 100) (hts : t.l.length ≤ 100) :
    Calls Try.prog 32 #[.agg (sv i L).toArray, r.val, t.val] w (RetS w ((stk i L).put (r.l ++ t.l))) := by
  have O := OwnL.start w [L 0, L 1, r, t] (by
    intro x hx
    simp only [List.mem_cons, List.not_mem_nil, or_false] at hx
    rcases hx with rfl | rfl | rfl | rfl
    · exact hL 0 (by decide)
    · exact hL 1 (by decide)
    · exact hr
    · exact ht)
  obtain ⟨ie, hie, hz, hsz, hby⟩ := mat_parts
  clear hL hr ht
  have HS := Lib.hid hs
  clear hs
  have h63 : r.l.length + t.l.length ≤ maxLen := by have : maxLen = 9223372036854775807 := rfl; omega
  have q0 : (0 : Int) ≤ i := by omega
  have q1 : (i : Int) < 2 := by omega
  go_enter Try.func32, Try.ntmps32
  go_wp2_with (first | ((with_reducible refine at_box 3 ?_); refine wpList_box_ls O (sv i L) rfl ?_; clear O; intro g3 w1 O) | ((with_reducible refine at_alloc 6 ?_); refine wpList_alloc_ls O (sv 0 (noL 0)) zero25 ?_; clear O; intro g6 w2 O))
  refine region_S (fun st w2 => RowSt w [(g6, 25, sv 0 (noL 0)), (g3, 25, sv i L)] [L 0, L 1, r, t] (st 3) (st 5) r.l t.l w2) [3, 5] 12 8 [some 8, some 9, some 10, some 11, some 12, some 13, some 14, some 15] (fun g => [.pointer (some ⟨g3, 0, none⟩), .int .i64 i, r.val, g 3, t.val, g 5, .pointer (some ⟨g3, 1, none⟩), .pointer (some ⟨g3, 1 + i, none⟩)]) 1 (by kernel_rfl) (by kernel_rfl) (by rfl) (by rfl) (fun _ => rfl) (by decide) ?_ (.inl ⟨rfl, rfl, O.drew⟩) (fun F hF => ?_)
  · intro i hi
    simp only [List.mem_cons, List.not_mem_nil, or_false] at hi
    rcases hi with rfl | rfl
    · exact ⟨fun _ => rfl, [0, 1, 2, 4, 5, 6, 7], by kernel_rfl, fun g v => ⟨rfl, rfl, rfl, rfl, rfl, rfl, rfl, trivial⟩⟩
    · exact ⟨fun _ => rfl, [0, 1, 2, 3, 4, 6, 7], by kernel_rfl, fun g v => ⟨rfl, rfl, rfl, rfl, rfl, rfl, rfl, trivial⟩⟩
  simp only [fillD, Act.put, List.setIfInBounds_toArray, List.set_cons_zero, List.set_cons_succ] at hF
  have hF2 := funext hF
  clear hF
  subst hF2
  refine ⟨⟨doesN_want (by decide) rfl (fun g => rfl) (fun st w' hS hp K hK => ?_), doesN_want (by decide) rfl (fun g => rfl) (fun st w' hS hp K hK => ?_), doesN_want (by decide) rfl (fun g => rfl) (fun st w' hS hp K hK => ?_), doesC_want (by decide) rfl (fun g => rfl) (fun st w' hS hn hp K hK => ?_), doesN_want (by decide) rfl (fun g => rfl) (fun st w' hS hp K hK => ?_), doesC_want (by decide) rfl (fun g => rfl) (fun st w' hS hn hp K hK => ?_), doesN_want (by decide) rfl (fun g => rfl) (fun st w' hS hp K hK => ?_), doesN_want (by decide) rfl (fun g => rfl) (fun st w' hS hp K hK => ?_), trivial⟩, fun st w' hS hall => ?_⟩
  · try dsimp only
    go_simp
    exact hK _ hS
  · try dsimp only
    exact wp_cell_ls hS.own 1 rfl (i := 0) rfl rfl agg3 rfl (hK _ hS)
  · try dsimp only
    go_simp
    exact hK _ hS
  · try dsimp only
    have hcs := hn
    rcases hS with ⟨h3, h5, O⟩ | ⟨v, wc, h3, _⟩ | ⟨v, v2, wc, h3, _⟩
    · go_simp
      go_at_call 43
      refine (own_any r _ (O.ret 2 rfl) hrs).mono ?_
      rintro e w3 ⟨v, rfl, ho, hb⟩
      exact hK v w3 (.inr (.inl ⟨v, w', upd_same _ _ _, (upd_other _ _ (by decide)).trans h5, O, hb, ho⟩))
    · rw [h3] at hcs; cases hcs
    · rw [h3] at hcs; cases hcs
  · try dsimp only
    go_simp
    exact hK _ hS
  · try dsimp only
    have hcs := hn
    have hp3 := hp 3 (by decide) (by kernel_rfl)
    rcases hS with ⟨h3, h5, O⟩ | ⟨v, wc, h3, h5, O, hb, ho⟩ | ⟨v, v2, wc, h3, h5, _⟩
    · rw [h3] at hp3; cases hp3
    · have es : seen st 3 = v := by simp [seen, h3]
      have O2 := O.call hb
      refine append_steps (s := .tmp 11) (x := .tmp 12) rfl Try.underlying22 hie hz hsz hby arr_cells (by decide) es ho (A := t.A) (m := t.l.length) (c := t.c) rfl (O2.ret 3 rfl).reads (M.cells_one _) h63 (by omega) hb.size ?_
      intro v' w3 o3 g3' _
      refine hK v' w3 (.inr (.inr ⟨v, v', wc, (upd_other _ _ (by decide)).trans h3, upd_same _ _ _, O, Below.rowGrown hb ho g3', ?_⟩))
      rw [List.length_append, M.cells_app]
      exact o3
    · rw [h5] at hcs; cases hcs
  · try dsimp only
    go_simp
    exact hK _ hS
  · try dsimp only
    exact wp_in_ls Try.underlying23 sizeOf22 (by decide) i rfl rfl rfl hi (hK _ hS)
  try dsimp only
  have hp3 := hall 3 (by decide)
  have hp5 := hall 5 (by decide)
  rcases hS with ⟨h3, h5, O⟩ | ⟨v, wc, h3, h5, O, hb, ho⟩ | ⟨v, v', wc, h3, h5, O, hb, ho⟩
  · rw [h3] at hp3; cases hp3
  · rw [h5] at hp5; cases hp5
  have es3 : seen st 3 = v := by simp [seen, h3]
  have es5 : seen st 5 = v' := by simp [seen, h5]
  rw [es3, es5]
  clear hp3 hp5 h3 h5 es3 es5
  obtain ⟨A, c, rfl, hlies⟩ := own_lies ho
  have O2 := O.gain hb hlies
  clear O hb ho hlies
  have O := O2
  clear O2

  refine wpAny_want (i := 8) (by kernel_rfl) rfl (by rfl) (fun K hK => ?_)
  refine wp_set_ls O 1 (Ent.val ⟨w.heap.size, A, c, r.l ++ t.l⟩) rfl (by simp only [sv, List.length_cons, List.length_nil]; omega) rfl rfl size22 rfl rfl fun w9 O9 => hK _ _ ?_
  clear O
  have O := O9
  clear O9
  simp only [List.set_cons_zero, List.set_cons_succ, sv_set _ _ hi] at O
  clear hK K
  try simp only [Act.put, List.setIfInBounds_toArray, List.set_cons_zero, List.set_cons_succ]
  refine wpAny_done (by kernel_rfl) ?_ _
  obtain ⟨x, hx⟩ : ∃ x : Ent, x = ⟨w.heap.size, A, c, r.l ++ t.l⟩ := ⟨_, rfl⟩
  rw [← hx] at O
  obtain ⟨j, hj⟩ : ∃ j : Nat, j = 1 - i := ⟨_, rfl⟩
  have hj2 : j < 2 := by omega
  have hji : j ≠ i := by omega
  have e1 : (1 : Int) - (i : Int) = j := by omega
  have e2 : wrap64 (j : Int) = j := by unfold wrap64; omega
  have hjv : (sv i (putL L i x))[1 + j]? = some (L j).val := by
    rw [sv_at _ _ hj2]
    simp [putL, hji]
  have hjl : [x, L 0, L 1, r, t][1 + j]? = some (L j) := by
    rcases j with _ | _ | j
    · rfl
    · rfl
    · omega
  have hjs := HS.out j hj2
  have HX := Lib.hid hx
  have HJ := Lib.hid hj
  have HJI := Lib.hid hji
  clear hx hj hji hall
  go_wp2_with (first | ((with_reducible refine at_load 17 ?_); refine wpList_cell_ls rfl O 1 rfl (rfl) rfl agg3 rfl ?_) | ((with_reducible refine at_index 22 ?_); refine wpList_in_ls rfl Try.underlying23 sizeOf22 (by decide) (j) rfl rfl (rfl) (hj2) ?_) | ((with_reducible refine at_load 23 ?_); refine wpList_cell_ls rfl O 1 rfl (hjv) rfl agg22 rfl ?_) | (go_at_call 43; refine (own_any (L j) _ (O.ret (1 + j) hjl) hjs).mono ?_; rintro e w3 ⟨v2, rfl, ho, hb⟩; obtain ⟨A2, c2, rfl, hlies⟩ := own_lies ho; have O2 := O.gain hb hlies; clear O hb ho hlies; have O := O2; clear O2) | ((with_reducible refine at_index 26 ?_); refine wpList_in_ls rfl Try.underlying23 sizeOf22 (by decide) (j) rfl rfl (rfl) (hj2) ?_) | ((with_reducible refine at_store 26 ?_); refine wpList_set_ls O 1 (Ent.val ⟨w.heap.size, A2, c2, (L j).l⟩) rfl (by simp only [sv, List.length_cons, List.length_nil]; omega) rfl rfl size22 rfl rfl ?_; clear O; intro w9 O; simp only [List.set_cons_zero, List.set_cons_succ, sv_set _ _ hj2] at O) | ((with_reducible refine at_load 27 ?_); refine wpList_rowg_ls rfl O 1 rfl rfl Try.underlying25 rfl (s25 _ _) ?_) | ((with_reducible refine at_store 6 ?_); refine wpList_put_ls O 0 (sv (i) (putL (putL L i x) j ⟨w.heap.size, A2, c2, (L j).l⟩)) rfl rfl rfl (s25 _ _) (sv_len _ _ _ _) (sv_one _ _) ?_; clear O; intro w8 O))
  refine bodyPost_ret (v := .agg (sv i (putL (putL L i x) j ⟨w.heap.size, A2, c2, (L j).l⟩)).toArray) (res_ls rfl O 0 rfl rfl Try.underlying25 rfl (s25 _ _)) rfl ⟨_, rfl, ?_, O.below⟩
  refine newS_of (s := (stk i L).put (r.l ++ t.l)) O (putL (putL L i x) j ⟨w.heap.size, A2, c2, (L j).l⟩) (fun k hk => ?_) (fun k hk => ?_)
  · by_cases h : k = j
    · subst h
      rw [putL_at]
      exact List.mem_cons_self
    · have : k = i := by have := HJ.out; omega
      subst this
      rw [show putL (putL L k x) j _ k = x by simp [putL, h]]
      exact List.mem_cons_of_mem _ List.mem_cons_self
  · by_cases h : k = j
    · subst h
      rw [putL_at]
      refine ⟨rfl, ?_⟩
      show (L k).l = if k = (i : Int).toNat then _ else (L k).l
      rw [if_neg (by have := HJI.out; omega)]
    · have : k = i := by have := HJ.out; omega
      subst this
      rw [show putL (putL L k x) j _ k = x by simp [putL, h], HX.out]
      refine ⟨rfl, ?_⟩
      show r.l ++ t.l = if k = (k : Int).toNat then r.l ++ t.l else (L k).l
      rw [if_pos (by omega)]
end Go.Proofs.Ythcieapfpgejdaa
