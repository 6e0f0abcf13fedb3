/- Contracts: a call of the program. -/
import Derived.Test.YthcieapfpgejdaaW21
namespace Go.Proofs.Ythcieapfpgejdaa
open Go.ChangeShapes Go.WideShapes Go.ChangeAt Go.RowKit
set_option linter.unusedVariables false
set_option linter.unusedSimpArgs false

/-- A call: which one, a number, a matrix. -/
structure Deed where
  k : Int
  n : Int
  x : Nat → Int
def Deed.cells (a : Deed) : List Value := .int .i64 a.k :: .int .i64 a.n :: M.mat 16 a.x
namespace Stk
def deed (s : Stk) (a : Deed) : Stk × Int := if a.k = 0 then choose s a.n else if a.k = 1 then load s a.x else if a.k = 2 then mult s a.x else if a.k = 3 then push s else pop s
/-- Lists that are short. -/
def short (s : Stk) : Prop := ∀ i, i < 2 → (s.l i).length ≤ 100
theorem short_none : short none_ := fun _ _ => Nat.zero_le _
theorem short_right {s : Stk} (h : right s = true) : ∀ i, i < 2 → (s.l i).length ≤ 8 := fun i hi => (okL_iff.1 ((right_iff.1 h).2 i hi)).2.1
theorem short_put {s : Stk} (h : right s = true) {l : List (Nat → Int)} (hl : l.length ≤ 100) : short (s.put l) := fun i hi => by
  show (if i = s.m.toNat then l else s.l i).length ≤ 100
  split
  · exact hl
  · have := short_right h i hi
    omega
theorem meant_len {s : Stk} (h : right s = true) : s.meant.length ≤ 8 := by
  obtain ⟨h1, h2⟩ := right_iff.1 h
  rcases h1 with h1 | h1
  · rw [meant, h1]; exact short_right h 0 (by decide)
  · rw [meant, h1]; exact short_right h 1 (by decide)
theorem short_choose (s : Stk) (d : Int) : short (choose s d).1 := by
  unfold choose
  split
  · rename_i h
    have := short_right (by simpa using (Bool.and_eq_true _ _ ▸ h).1)
    exact fun i hi => by have := this i hi; show (s.l i).length ≤ 100; omega
  · exact short_none
theorem short_load (s : Stk) (x : Nat → Int) : short (load s x).1 := by
  unfold load
  split
  · rename_i h
    have h := (Bool.and_eq_true _ _ ▸ h).1
    exact short_put h (by have := meant_len h; simp; omega)
  · exact short_none
theorem short_mult (s : Stk) (x : Nat → Int) : short (mult s x).1 := by
  unfold mult
  split
  · rename_i h
    split
    · exact short_put h (by have := meant_len h; simp; omega)
    · exact short_none
  · exact short_none
theorem short_push (s : Stk) : short (push s).1 := by
  unfold push
  split
  · rename_i h
    split
    · exact short_none
    · exact short_put h (by have := meant_len h; simp; omega)
  · exact short_none
theorem short_pop (s : Stk) : short (pop s).1 := by
  unfold pop
  split
  · rename_i h
    split
    · exact short_none
    · exact short_put h (by have := meant_len h; simp; omega)
  · exact short_none
theorem short_deed (s : Stk) (a : Deed) : short (deed s a).1 := by
  unfold deed
  split
  · exact short_choose _ _
  split
  · exact short_load _ _
  split
  · exact short_mult _ _
  split
  · exact short_push _
  · exact short_pop _
end Stk
theorem size43 : (Try.prog.info? 43).map (·.size) = some 18 := by kernel_rfl
theorem deed_len (a : Deed) : a.cells.length = 18 := by simp [Deed.cells, M.mat_len]
theorem deed_mat (a : Deed) {j : Nat} {u : Value} (h : (M.mat 16 a.x)[j]? = some u) : a.cells[2 + j]? = some u := by
  rw [Nat.add_comm]
  exact h
/-- A list that was there. -/
theorem OwnL.old {w w2 : World} {bs : List (Nat × TypeId × List Value)} {ls : List Ent} {x : Ent} (O : OwnL w w2 bs ls) (h : Lies w [] x) : Lies w2 [] x := h.turn O.below.size (fun b hb _ => O.below.block b hb) (fun _ _ h => h)
set_option maxRecDepth 100000 in
set_option maxHeartbeats 4000000 in
theorem do_any (m : Int) (L : Nat → Ent) (a : Deed) (w : World) (hL : ∀ i, i < 2 → Lies w [] (L i)) : Calls Try.prog 26 #[.agg (sv m L).toArray, .agg a.cells.toArray] w (RetSE w (Stk.deed (stk m L) a)) := by
  have O := OwnL.start w [] (by simp)
  have hu2 := Try.underlying25
  have hu3 := Try.underlying43
  have HL := Lib.hid hL
  clear hL
  obtain ⟨k, n, x⟩ := a
  obtain ⟨p, hp⟩ : ∃ p, Stk.deed (stk m L) ⟨k, n, x⟩ = p := ⟨_, rfl⟩
  rw [hp]
  by_cases k0 : k = 0
  · subst k0
    have HP : Hid (Stk.choose (stk m L) n = p) := by show _ = _; rw [← hp]; simp [Stk.deed]
    clear hp 
    go_enter Try.func26, Try.ntmps26
    go_wp2_with (first | ((with_reducible refine at_box 2 ?_); refine wpList_box_ls O (sv m L) rfl ?_; clear O; intro g2 w1 O) | ((with_reducible refine at_box 3 ?_); refine wpList_box_ls O (Deed.cells ⟨0, n, x⟩) rfl ?_; clear O; intro g3 w1 O) | ((with_reducible refine at_alloc 4 ?_); refine wpList_alloc_ls O (sv 0 (noL 0)) zero25 ?_; clear O; intro g4 w2 O) | ((with_reducible refine at_load 7 ?_); refine wpList_cell_ls rfl O 1 rfl (rfl) rfl agg3 rfl ?_) | ((with_reducible refine at_load 10 ?_); refine wpList_rowg_ls rfl O 2 rfl rfl Try.underlying25 rfl (s25 _ _) ?_) | ((with_reducible refine at_load 12 ?_); refine wpList_cell_ls rfl O 1 rfl (rfl) rfl agg3 rfl ?_) | (go_at_call 11; refine (choose_any m L n _ (fun i hi => O.old (HL.out i hi))).mono ?_; rw [HP.out]; rintro e w6 ⟨v, rfl, hv, hb⟩; obtain ⟨L', rfl, hL', O2⟩ := O.gainS hv hb; clear O hv hb; have O := O2; clear O2) | ((with_reducible refine at_store 4 ?_); refine wpList_put_ls O 0 (sv (p.1.m) (L')) rfl rfl rfl (s25 _ _) (sv_len _ _ _ _) (sv_one _ _) ?_; clear O; intro w8 O))
    refine bodyPost_ret (v := .tuple #[.agg (sv p.1.m L').toArray, .int .i64 p.2]) (res_ls3 rfl O 0 rfl rfl Try.underlying25 rfl (s25 _ _) rfl) rfl ⟨_, rfl, newS_of (s := p.1) O L' (fun i hi => ?_) (fun i hi => hL' i hi), O.below⟩
    rcases i with _ | _ | i
    · simp
    · simp
    · omega
  have b0 : (k == 0) = false := by simpa using k0
  by_cases k1 : k = 1
  · subst k1
    have HP : Hid (Stk.load (stk m L) x = p) := by show _ = _; rw [← hp]; simp [Stk.deed]
    clear hp 
    go_enter Try.func26, Try.ntmps26
    go_wp2_with (first | ((with_reducible refine at_box 2 ?_); refine wpList_box_ls O (sv m L) rfl ?_; clear O; intro g2 w1 O) | ((with_reducible refine at_box 3 ?_); refine wpList_box_ls O (Deed.cells ⟨1, n, x⟩) rfl ?_; clear O; intro g3 w1 O) | ((with_reducible refine at_alloc 4 ?_); refine wpList_alloc_ls O (sv 0 (noL 0)) zero25 ?_; clear O; intro g4 w2 O) | ((with_reducible refine at_load 7 ?_); refine wpList_cell_ls rfl O 1 rfl (rfl) rfl agg3 rfl ?_) | ((with_reducible refine at_load 18 ?_); refine wpList_rowg_ls rfl O 2 rfl rfl Try.underlying25 rfl (s25 _ _) ?_) | ((with_reducible refine at_load 20 ?_); refine wpList_mid_ls rfl O 1 rfl (M.mat 16 x) (fun j u hu => deed_mat ⟨1, n, x⟩ hu) rfl Try.underlying27 rfl (s23 _) ?_) | (go_at_call 14; refine (load_any m L x _ (fun i hi => O.old (HL.out i hi))).mono ?_; rw [HP.out]; rintro e w6 ⟨v, rfl, hv, hb⟩; obtain ⟨L', rfl, hL', O2⟩ := O.gainS hv hb; clear O hv hb; have O := O2; clear O2) | ((with_reducible refine at_store 4 ?_); refine wpList_put_ls O 0 (sv (p.1.m) (L')) rfl rfl rfl (s25 _ _) (sv_len _ _ _ _) (sv_one _ _) ?_; clear O; intro w8 O))
    refine bodyPost_ret (v := .tuple #[.agg (sv p.1.m L').toArray, .int .i64 p.2]) (res_ls3 rfl O 0 rfl rfl Try.underlying25 rfl (s25 _ _) rfl) rfl ⟨_, rfl, newS_of (s := p.1) O L' (fun i hi => ?_) (fun i hi => hL' i hi), O.below⟩
    rcases i with _ | _ | i
    · simp
    · simp
    · omega
  have b1 : (k == 1) = false := by simpa using k1
  by_cases k2 : k = 2
  · subst k2
    have HP : Hid (Stk.mult (stk m L) x = p) := by show _ = _; rw [← hp]; simp [Stk.deed]
    clear hp 
    go_enter Try.func26, Try.ntmps26
    go_wp2_with (first | ((with_reducible refine at_box 2 ?_); refine wpList_box_ls O (sv m L) rfl ?_; clear O; intro g2 w1 O) | ((with_reducible refine at_box 3 ?_); refine wpList_box_ls O (Deed.cells ⟨2, n, x⟩) rfl ?_; clear O; intro g3 w1 O) | ((with_reducible refine at_alloc 4 ?_); refine wpList_alloc_ls O (sv 0 (noL 0)) zero25 ?_; clear O; intro g4 w2 O) | ((with_reducible refine at_load 7 ?_); refine wpList_cell_ls rfl O 1 rfl (rfl) rfl agg3 rfl ?_) | ((with_reducible refine at_load 26 ?_); refine wpList_rowg_ls rfl O 2 rfl rfl Try.underlying25 rfl (s25 _ _) ?_) | ((with_reducible refine at_load 28 ?_); refine wpList_mid_ls rfl O 1 rfl (M.mat 16 x) (fun j u hu => deed_mat ⟨2, n, x⟩ hu) rfl Try.underlying27 rfl (s23 _) ?_) | (go_at_call 16; refine (mult_any m L x _ (fun i hi => O.old (HL.out i hi))).mono ?_; rw [HP.out]; rintro e w6 ⟨v, rfl, hv, hb⟩; obtain ⟨L', rfl, hL', O2⟩ := O.gainS hv hb; clear O hv hb; have O := O2; clear O2) | ((with_reducible refine at_store 4 ?_); refine wpList_put_ls O 0 (sv (p.1.m) (L')) rfl rfl rfl (s25 _ _) (sv_len _ _ _ _) (sv_one _ _) ?_; clear O; intro w8 O))
    refine bodyPost_ret (v := .tuple #[.agg (sv p.1.m L').toArray, .int .i64 p.2]) (res_ls3 rfl O 0 rfl rfl Try.underlying25 rfl (s25 _ _) rfl) rfl ⟨_, rfl, newS_of (s := p.1) O L' (fun i hi => ?_) (fun i hi => hL' i hi), O.below⟩
    rcases i with _ | _ | i
    · simp
    · simp
    · omega
  have b2 : (k == 2) = false := by simpa using k2
  by_cases k3 : k = 3
  · subst k3
    have HP : Hid (Stk.push (stk m L) = p) := by show _ = _; rw [← hp]; simp [Stk.deed]
    clear hp 
    go_enter Try.func26, Try.ntmps26
    go_wp2_with (first | ((with_reducible refine at_box 2 ?_); refine wpList_box_ls O (sv m L) rfl ?_; clear O; intro g2 w1 O) | ((with_reducible refine at_box 3 ?_); refine wpList_box_ls O (Deed.cells ⟨3, n, x⟩) rfl ?_; clear O; intro g3 w1 O) | ((with_reducible refine at_alloc 4 ?_); refine wpList_alloc_ls O (sv 0 (noL 0)) zero25 ?_; clear O; intro g4 w2 O) | ((with_reducible refine at_load 7 ?_); refine wpList_cell_ls rfl O 1 rfl (rfl) rfl agg3 rfl ?_) | ((with_reducible refine at_load 34 ?_); refine wpList_rowg_ls rfl O 2 rfl rfl Try.underlying25 rfl (s25 _ _) ?_) | (go_at_call 18; refine (push_any m L _ (fun i hi => O.old (HL.out i hi))).mono ?_; rw [HP.out]; rintro e w6 ⟨v, rfl, hv, hb⟩; obtain ⟨L', rfl, hL', O2⟩ := O.gainS hv hb; clear O hv hb; have O := O2; clear O2) | ((with_reducible refine at_store 4 ?_); refine wpList_put_ls O 0 (sv (p.1.m) (L')) rfl rfl rfl (s25 _ _) (sv_len _ _ _ _) (sv_one _ _) ?_; clear O; intro w8 O))
    refine bodyPost_ret (v := .tuple #[.agg (sv p.1.m L').toArray, .int .i64 p.2]) (res_ls3 rfl O 0 rfl rfl Try.underlying25 rfl (s25 _ _) rfl) rfl ⟨_, rfl, newS_of (s := p.1) O L' (fun i hi => ?_) (fun i hi => hL' i hi), O.below⟩
    rcases i with _ | _ | i
    · simp
    · simp
    · omega
  have b3 : (k == 3) = false := by simpa using k3
  have HP : Hid (Stk.pop (stk m L) = p) := by show _ = _; rw [← hp]; simp [Stk.deed, k0, k1, k2, k3]
  clear hp k0 k1 k2 k3
  go_enter Try.func26, Try.ntmps26
  go_wp2_with (first | ((with_reducible refine at_box 2 ?_); refine wpList_box_ls O (sv m L) rfl ?_; clear O; intro g2 w1 O) | ((with_reducible refine at_box 3 ?_); refine wpList_box_ls O (Deed.cells ⟨k, n, x⟩) rfl ?_; clear O; intro g3 w1 O) | ((with_reducible refine at_alloc 4 ?_); refine wpList_alloc_ls O (sv 0 (noL 0)) zero25 ?_; clear O; intro g4 w2 O) | ((with_reducible refine at_load 7 ?_); refine wpList_cell_ls rfl O 1 rfl (rfl) rfl agg3 rfl ?_) | ((with_reducible refine at_load 38 ?_); refine wpList_rowg_ls rfl O 2 rfl rfl Try.underlying25 rfl (s25 _ _) ?_) | (go_at_call 20; refine (pop_any m L _ (fun i hi => O.old (HL.out i hi))).mono ?_; rw [HP.out]; rintro e w6 ⟨v, rfl, hv, hb⟩; obtain ⟨L', rfl, hL', O2⟩ := O.gainS hv hb; clear O hv hb; have O := O2; clear O2) | ((with_reducible refine at_store 4 ?_); refine wpList_put_ls O 0 (sv (p.1.m) (L')) rfl rfl rfl (s25 _ _) (sv_len _ _ _ _) (sv_one _ _) ?_; clear O; intro w8 O))
  refine bodyPost_ret (v := .tuple #[.agg (sv p.1.m L').toArray, .int .i64 p.2]) (res_ls3 rfl O 0 rfl rfl Try.underlying25 rfl (s25 _ _) rfl) rfl ⟨_, rfl, newS_of (s := p.1) O L' (fun i hi => ?_) (fun i hi => hL' i hi), O.below⟩
  rcases i with _ | _ | i
  · simp
  · simp
  · omega
end Go.Proofs.Ythcieapfpgejdaa
