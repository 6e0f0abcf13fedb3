/- Contracts of the program: what makes a pixel's fragment. -/
import Derived.Test.YtlmgilcigbnbaaaGc
import Derived.Test.YtlmgilcigbnbaaaDc
import Derived.Shelf.Abstract
namespace Go.Proofs.Ytlmgilcigbnbaaa
open Go.ChangeShapes Go.WideShapes Go.ChangeAt Go.RowKit
set_option linter.unusedVariables false
set_option linter.unusedSimpArgs false

theorem VM.old1 {w w' : World} {bs : List (Nat × TypeId × List Value)} (O : Own w w' bs) {g : Nat} {t : TypeId} {cs : List Value} (h : w.heap[g]? = some (.cells cs.toArray t (0, 0))) : Own { w' with heap := #[] } w' [(g, t, cs)] := by
  refine ⟨⟨rfl, rfl, rfl, Nat.zero_le _, fun k hk => absurd hk (Nat.not_lt_zero k)⟩, by simp, fun x hx => ?_⟩
  obtain rfl := List.mem_singleton.1 hx
  exact ⟨Nat.zero_le _, (O.1.block g (Array.getElem?_eq_some_iff.1 h).1).trans h⟩
theorem VM.kept {w w' : World} (hb : Below w.heap.size w w') {g : Nat} {t : TypeId} {cs : List Value} (h : w.heap[g]? = some (.cells cs.toArray t (0, 0))) : w'.heap[g]? = some (.cells cs.toArray t (0, 0)) := (hb.block g (Array.getElem?_eq_some_iff.1 h).1).trans h
section
variable {P : Program} {ops : Array Oper} {Q : Exit → Act → World → Prop} {a : Act} {w w0 : World} {rest : List Oper} {bs : List (Nat × TypeId × List Value)} {dst : Option Tmp} {ty : TypeId} {pos : String} {after : Array Edge} {K : Act → World → Prop}
/-- A number in a box. -/
theorem wp_box1_own {t : TypeId} {x : Operand} (O : Own w0 w bs) (i : Int) (hx : a.eval x = .int .i64 i)
    (h : ∀ g w1, Own w0 w1 ((g, t, [.int .i64 i]) :: bs) → K (a.put dst (.pointer (some ⟨g, 0, none⟩))) w1) : Oper.wp P ⟨dst, .box t x, ty, pos, after, none⟩ a w K Q := by
  have hr : (Instr.box t (.int .i64 i)).run P w = .ok (.pointer (some ⟨w.heap.size, 0, none⟩)) (w.alloc (.cells [.int .i64 i].toArray t)) := rfl
  unfold Oper.wp execOp
  simp only [hx, Sem.run_bind, hr, Result.andThen_ok]
  exact h _ _ (O.alloc t [.int .i64 i])
theorem wpList_box1_own {t : TypeId} {x : Operand} (O : Own w0 w bs) (i : Int) (hx : a.eval x = .int .i64 i)
    (h : ∀ g w1, Own w0 w1 ((g, t, [.int .i64 i]) :: bs) → wpList P ops Q rest (a.put dst (.pointer (some ⟨g, 0, none⟩))) w1) : wpList P ops Q (⟨dst, .box t x, ty, pos, after, none⟩ :: rest) a w :=
  wpList_plain rfl fun K hK => wp_box1_own O i hx fun g w1 O' => hK _ _ (h g w1 O')
end
theorem Own.tl {w0 w : World} {x : Nat × TypeId × List Value} {bs : List (Nat × TypeId × List Value)} (O : Own w0 w (x :: bs)) : Own w0 w bs :=
  ⟨O.1, (List.nodup_cons.1 O.2.1).2, fun y hy => O.2.2 y (List.mem_cons_of_mem _ hy)⟩
namespace DT
/-- A brush's cells: a rectangle, and what paints. -/
def br (q : Nat → Int) (f : Value) : List Value := M.mat 4 q ++ [f]
theorem br_len (q : Nat → Int) (f : Value) : (br q f).length = 5 := by unfold br; rw [List.length_append, M.mat_len]; rfl
theorem br_len2 (q p : Nat → Int) (f g : Value) : (br q f).length = (br p g).length := by rw [br_len, br_len]
theorem br_rect (q : Nat → Int) (f : Value) (j : Nat) (u : Value) (h : (M.mat 4 q)[j]? = some u) : (br q f)[0 + j]? = some u := by
  unfold br
  rw [Nat.zero_add, List.getElem?_append_left (by
    rcases Nat.lt_or_ge j (M.mat 4 q).length with g | g
    · exact g
    · rw [List.getElem?_eq_none g] at h
      cases h)]
  exact h
theorem br_fn (q : Nat → Int) (f : Value) : (br q f)[4]? = some f := rfl
theorem br_one (q : Nat → Int) (f : Value) (h : f.oneCell' = true) (u : Value) (hu : u ∈ br q f) : u.oneCell' = true := by
  rcases List.mem_append.1 hu with h1 | h1
  · exact M.mat_one 4 q u h1
  · rw [List.mem_singleton.1 h1]
    exact h
def fn1 (g3 : Nat) : Value := .func (.func 34) #[] #[.pointer (some ⟨g3, 0, none⟩)]
def fn2 (g7 g3 g4 : Nat) : Value := .func (.func 36) #[] #[.pointer (some ⟨g7, 0, none⟩), .pointer (some ⟨g3, 0, none⟩), .pointer (some ⟨g4, 0, none⟩)]
def fn3 (g7 g3 g4 : Nat) : Value := .func (.func 38) #[] #[.pointer (some ⟨g7, 0, none⟩), .pointer (some ⟨g3, 0, none⟩), .pointer (some ⟨g4, 0, none⟩)]
end DT
theorem sB (q : Nat → Int) (f : Value) : (Try.prog.info? 54).map (·.size) = some (DT.br q f).length := by rw [DT.br_len]; kernel_rfl
theorem zeroB : (Try.prog.info? 54).map (·.zero) = some (some (.agg (DT.br M.zero .nilFunc).toArray)) := by kernel_rfl
theorem agg52 (w : World) : (isAgg 52).run Try.prog w = .ok false w := by kernel_rfl
theorem builtB1 (q : Nat → Int) (g : Nat) : Try.prog.built 54 [(0, arr 4 q), (1, DT.fn1 g)] = some (DT.br q (DT.fn1 g)).toArray := by kernel_rfl
theorem builtB2 (q : Nat → Int) (g7 g3 g4 : Nat) : Try.prog.built 54 [(0, arr 4 q), (1, DT.fn2 g7 g3 g4)] = some (DT.br q (DT.fn2 g7 g3 g4)).toArray := by kernel_rfl
theorem builtB3 (q : Nat → Int) (g7 g3 g4 : Nat) : Try.prog.built 54 [(0, arr 4 q), (1, DT.fn3 g7 g3 g4)] = some (DT.br q (DT.fn3 g7 g3 g4)).toArray := by kernel_rfl
def HasV (v : Nat → Int) (g : Nat) (w : World) : Prop := w.heap[g]? = some (.cells (M.mat 7 v).toArray 25 (0, 0))
def HasS (s : Int) (g : Nat) (w : World) : Prop := w.heap[g]? = some (.cells [Value.int .i64 s].toArray 3 (0, 0))
def HasB (q : Nat → Int) (f : Value) (g : Nat) (w : World) : Prop := w.heap[g]? = some (.cells (DT.br q f).toArray 54 (0, 0))
set_option maxHeartbeats 4000000 in
theorem ppaint1 (v : Nat → Int) (x y : Int) (g3 : Nat) (w : World) (fv : HasV v g3 w) : Calls Try.prog 34 #[.int .i64 x, .int .i64 y, .pointer (some ⟨g3, 0, none⟩)] w fun e w' => e = .returned (arr 8 (SM.fr x y (v 2) (D.sub 3 v) 64)) ∧ Below w.heap.size w w' := by
  have O := Own.start w
  obtain ⟨v2, ev2⟩ : ∃ z, v 2 = z := ⟨_, rfl⟩
  have Cv2 := cell_is (n := 7) ev2 (by decide)
  rw [ev2]
  have HSC : Hid (∀ j u, (M.mat 4 (D.sub 3 v))[j]? = some u → (M.mat 7 v)[3 + j]? = some u) := Lib.hid (mat_sub v (by decide))
  generalize D.sub 3 v = sv at *
  try simp only [ev2] at CP
  clear ev2
  go_enter Try.func34, Try.ntmps34
  go_wp2_with (first | ((with_reducible refine at_alloc 5 ?_); refine wpList_alloc_own O (M.mat 8 M.zero) zeroG ?_; clear O; intro g5 w1 O) | ((with_reducible refine at_load 9 ?_); refine wpList_cell_h (v := .int .i64 v2) rfl (VM.old1 O fv).held 0 rfl Cv2.out rfl agg3 rfl ?_) | ((with_reducible refine at_load 11 ?_); refine wpList_mid_h rfl (VM.old1 O fv).held 0 rfl (M.mat 4 sv) HSC.out rfl Try.underlying23 rfl (sC _) ?_) | ((with_reducible refine at_build 12 ?_); refine wpList_build_g rfl ([(0, .int .i64 x), (1, .int .i64 y), (2, .int .i64 v2), (3, arr 4 sv), (4, .int .i64 64)]) ((M.mat 8 (SM.fr x y v2 sv 64)).toArray) ?_ (builtF _ _ _ _ _) ?_; (focus (simp only [List.map_toArray, List.map_cons, List.map_nil]; rfl))) | ((with_reducible refine at_store 5 ?_); refine wpList_put_own O 0 (M.mat 8 (SM.fr x y v2 sv 64)) rfl rfl rfl (sG _) (M.mat_len2 _ _ _) (M.mat_one _ _) ?_; clear O; intro w2 O))
  exact bodyPost_ret (v := arr 8 (SM.fr x y v2 sv 64)) (res_h rfl O.held 0 rfl rfl Try.underlying40 rfl (sG _)) rfl ⟨rfl, O.below⟩
set_option maxHeartbeats 8000000 in
theorem ppaint2 (v : Nat → Int) (s x y : Int) (q : Nat → Int) (hs : 1 ≤ s ∧ s ≤ 64) (l0 : -268435456 ≤ v 0 ∧ v 0 ≤ 268435456) (l1 : -268435456 ≤ v 1 ∧ v 1 ≤ 268435456) (hx : -4194304 ≤ x ∧ x ≤ 4194304) (hy : -4194304 ≤ y ∧ y ≤ 4194304) (g7 g3 g4 : Nat) (w : World) (fb : HasB q (DT.fn1 g3) g7 w) (fv : HasV v g3 w) (fs : HasS s g4 w) : Calls Try.prog 36 #[.int .i64 x, .int .i64 y, .pointer (some ⟨g7, 0, none⟩), .pointer (some ⟨g3, 0, none⟩), .pointer (some ⟨g4, 0, none⟩)] w fun e w' => e = .returned (arr 8 (SM.fr x y (v 2) (D.sub 3 v) (DT.cov v s x y : Nat))) ∧ Below w.heap.size w w' := by
  have O := Own.start w
  have CC := fun w => pcover19 v s x y hs l0 l1 hx hy w
  have CP := Lib.hid (fun w fv => ppaint1 v x y g3 w fv)
  generalize ((DT.cov v s x y : Nat) : Int) = n at *
  obtain ⟨v2, ev2⟩ : ∃ z, v 2 = z := ⟨_, rfl⟩
  have Cv2 := cell_is (n := 7) ev2 (by decide)
  rw [ev2]
  have HSC : Hid (∀ j u, (M.mat 4 (D.sub 3 v))[j]? = some u → (M.mat 7 v)[3 + j]? = some u) := Lib.hid (mat_sub v (by decide))
  generalize D.sub 3 v = sv at *
  try simp only [ev2] at CP
  clear ev2
  clear hs l0 l1 hx hy
  have hcf : ∀ args w, (callFunc 34 args).run Try.prog w = .ok (.enter 34 args) w := enters_of Try.func34 (by kernel_rfl) rfl
  go_enter Try.func36, Try.ntmps36
  go_wp2_with (first | ((with_reducible refine at_alloc 7 ?_); refine wpList_alloc_own O (M.mat 8 M.zero) zeroG ?_; clear O; intro gr w1 O) | ((with_reducible refine at_load 10 ?_); refine wpList_cell_h (v := .func (.func 34) #[] #[.pointer (some ⟨g3, 0, none⟩)]) rfl (VM.old1 O fb).held 0 rfl (DT.br_fn _ _) rfl agg52 rfl ?_) | (go_at_call 34; refine (CP.out _ (VM.kept O.below fv)).mono ?_; rintro e w2 ⟨rfl, hb⟩; replace O := O.call hb; clear hb) | ((with_reducible refine at_alloc 8 ?_); refine wpList_alloc_own O (M.mat 8 M.zero) zeroG ?_; clear O; intro g8 w3 O) | ((with_reducible refine at_store 8 ?_); refine wpList_put_own O 0 (M.mat 8 (SM.fr x y v2 sv 64)) rfl rfl rfl (sG _) (M.mat_len2 _ _ _) (M.mat_one _ _) ?_; clear O; intro w4 O) | ((with_reducible refine at_load 14 ?_); refine wpList_whole rfl (VM.old1 O fv) 0 rfl rfl Try.underlying25 rfl (sW _) ?_) | ((with_reducible refine at_load 15 ?_); refine wpList_cell_h (v := .int .i64 s) rfl (VM.old1 O fs).held 0 rfl rfl rfl agg3 rfl ?_) | (go_at_call 37; refine (CC _).mono ?_; rintro e w5 ⟨rfl, hb⟩; replace O := O.call hb; clear hb) | ((with_reducible refine at_store 19 ?_); refine wpList_set_own O 0 (i := 7) (.int .i64 n) rfl (by rw [M.mat_len]; omega) rfl rfl size3 rfl rfl ?_; clear O; intro w6 O; have O9 : Own w w6 [(g8, 40, M.mat 8 (SM.fr x y v2 sv n)), (gr, 40, M.mat 8 M.zero)] := (by rw [← SM.fr_set7 _ _ _ _ 64]; exact O); clear O; have O := O9; clear O9) | ((with_reducible refine at_load 20 ?_); refine wpList_whole rfl O 0 rfl rfl Try.underlying40 rfl (sG _) ?_) | ((with_reducible refine at_store 7 ?_); refine wpList_put_own O 1 (M.mat 8 (SM.fr x y v2 sv n)) rfl rfl rfl (sG _) (M.mat_len2 _ _ _) (M.mat_one _ _) ?_; clear O; intro w7 O))
  exact bodyPost_ret (v := arr 8 (SM.fr x y v2 sv n)) (res_h rfl O.held 1 rfl rfl Try.underlying40 rfl (sG _)) rfl ⟨rfl, O.below⟩
set_option maxRecDepth 100000 in
set_option maxHeartbeats 16000000 in
theorem ppaint3 (v : Nat → Int) (s x y : Int) (q : Nat → Int) (hs : 1 ≤ s ∧ s ≤ 64) (l0 : -268435456 ≤ v 0 ∧ v 0 ≤ 268435456) (l1 : -268435456 ≤ v 1 ∧ v 1 ≤ 268435456) (hx : -4194304 ≤ x ∧ x ≤ 4194304) (hy : -4194304 ≤ y ∧ y ≤ 4194304) (g7 g3 g4 : Nat) (w : World) (fb : HasB q (DT.fn1 g3) g7 w) (fv : HasV v g3 w) (fs : HasS s g4 w) : Calls Try.prog 38 #[.int .i64 x, .int .i64 y, .pointer (some ⟨g7, 0, none⟩), .pointer (some ⟨g3, 0, none⟩), .pointer (some ⟨g4, 0, none⟩)] w fun e w' => e = .returned (arr 8 (SM.fr x y (v 2) (SM.c2 (D.sub 3 v) (DT.part (256 * x + 128) (v 0) s) (DT.part (256 * y + 128) (v 1) s) true true) 64)) ∧ Below w.heap.size w w' := by
  have O := Own.start w
  have P0 := fun w => pshade19 (v 0) s x hx l0 hs w
  have P1 := fun w => pshade19 (v 1) s y hy l1 hs w
  have CP := Lib.hid (fun w fv => ppaint1 v x y g3 w fv)
  generalize DT.part (256 * x + 128) (v 0) s = p at *
  generalize DT.part (256 * y + 128) (v 1) s = q_ at *
  obtain ⟨v2, ev2⟩ : ∃ z, v 2 = z := ⟨_, rfl⟩
  have Cv2 := cell_is (n := 7) ev2 (by decide)
  rw [ev2]
  have HSC : Hid (∀ j u, (M.mat 4 (D.sub 3 v))[j]? = some u → (M.mat 7 v)[3 + j]? = some u) := Lib.hid (mat_sub v (by decide))
  generalize D.sub 3 v = sv at *
  try simp only [ev2] at CP
  clear ev2
  obtain ⟨v0, ev0⟩ : ∃ z, v 0 = z := ⟨_, rfl⟩
  have Cv0 := cell_is (n := 7) ev0 (by decide)
  obtain ⟨v1, ev1⟩ : ∃ z, v 1 = z := ⟨_, rfl⟩
  have Cv1 := cell_is (n := 7) ev1 (by decide)
  rw [ev0] at P0
  rw [ev1] at P1
  clear hs l0 l1 hx hy ev0 ev1
  have hcf : ∀ args w, (callFunc 34 args).run Try.prog w = .ok (.enter 34 args) w := enters_of Try.func34 (by kernel_rfl) rfl
  go_enter Try.func38, Try.ntmps38
  go_wp2_with (first | ((with_reducible refine at_alloc 7 ?_); refine wpList_alloc_own O (M.mat 8 M.zero) zeroG ?_; clear O; intro gr w1 O) | ((with_reducible refine at_load 10 ?_); refine wpList_cell_h (v := .func (.func 34) #[] #[.pointer (some ⟨g3, 0, none⟩)]) rfl (VM.old1 O fb).held 0 rfl (DT.br_fn _ _) rfl agg52 rfl ?_) | (go_at_call 34; refine (CP.out _ (VM.kept O.below fv)).mono ?_; rintro e w2 ⟨rfl, hb⟩; replace O := O.call hb; clear hb) | ((with_reducible refine at_alloc 8 ?_); refine wpList_alloc_own O (M.mat 8 M.zero) zeroG ?_; clear O; intro g8 w3 O) | ((with_reducible refine at_store 8 ?_); refine wpList_put_own O 0 (M.mat 8 (SM.fr x y v2 sv 64)) rfl rfl rfl (sG _) (M.mat_len2 _ _ _) (M.mat_one _ _) ?_; clear O; intro w4 O))
  have O9 : Own w w4 [(g8, 40, M.mat 8 (SM.fr x y v2 (SM.c2 sv p q_ false false) 64)), (gr, 40, M.mat 8 M.zero)] := by rw [SM.c2_00]; exact O
  clear O
  have O := O9
  clear O9
  refine region_S (fun st w2 => Own w w2 [(g8, 40, M.mat 8 (SM.fr x y v2 (SM.c2 sv p q_ (st 12).isSome false) 64)), (gr, 40, M.mat 8 M.zero)]) [12] 12 15 [some 14, some 15, some 16, some 17, some 18, some 19, some 20, some 21, some 22, some 23, some 24, some 25, none, some 26, some 27] (fun g => [.pointer (some ⟨g3, 0, none⟩), .int .i64 (v0), .int .i64 (s), .int .i64 (x), .int .i64 (p), .pointer (some ⟨g3, 1, none⟩), .int .i64 (v1), .int .i64 (s), .int .i64 (y), .int .i64 (q_), .pointer (some ⟨g8, 3, none⟩), .pointer (some ⟨g8, 3, none⟩), g 12, .pointer (some ⟨g8, 3, none⟩), .pointer (some ⟨g8, 4, none⟩)]) 1 (by kernel_rfl) (by kernel_rfl) (by rfl) (by rfl) (fun _ => rfl) (by decide) ?_ (O.drew) (fun F hF => ?_)
  · intro i hi
    simp only [List.mem_cons, List.not_mem_nil, or_false] at hi
    rcases hi with rfl
    · exact ⟨fun _ => rfl, [0, 1, 2, 3, 4, 5, 6, 7, 8, 9, 10, 11, 13, 14], by kernel_rfl, fun g v => ⟨rfl, rfl, rfl, rfl, rfl, rfl, rfl, rfl, rfl, rfl, rfl, rfl, rfl, rfl, trivial⟩⟩
  simp only [fillD, Act.put, List.setIfInBounds_toArray, List.set_cons_zero, List.set_cons_succ] at hF
  have hF2 := funext hF
  clear hF
  subst hF2
  refine ⟨⟨doesN_want (by decide) rfl (fun g => rfl) (fun st w' hS hp K hK => ?_), doesN_want (by decide) rfl (fun g => rfl) (fun st w' hS hp K hK => ?_), doesN_want (by decide) rfl (fun g => rfl) (fun st w' hS hp K hK => ?_), doesN_want (by decide) rfl (fun g => rfl) (fun st w' hS hp K hK => ?_), doesN_want (by decide) rfl (fun g => rfl) (fun st w' hS hp K hK => ?_), doesN_want (by decide) rfl (fun g => rfl) (fun st w' hS hp K hK => ?_), doesN_want (by decide) rfl (fun g => rfl) (fun st w' hS hp K hK => ?_), doesN_want (by decide) rfl (fun g => rfl) (fun st w' hS hp K hK => ?_), doesN_want (by decide) rfl (fun g => rfl) (fun st w' hS hp K hK => ?_), doesN_want (by decide) rfl (fun g => rfl) (fun st w' hS hp K hK => ?_), doesN_want (by decide) rfl (fun g => rfl) (fun st w' hS hp K hK => ?_), doesN_want (by decide) rfl (fun g => rfl) (fun st w' hS hp K hK => ?_), doesC_want (by decide) rfl (fun g => rfl) (fun st w' hS hn hp K hK => ?_), doesN_want (by decide) rfl (fun g => rfl) (fun st w' hS hp K hK => ?_), doesN_want (by decide) rfl (fun g => rfl) (fun st w' hS hp K hK => ?_), trivial⟩, fun st w' hS hall => ?_⟩
  · try dsimp only
    go_simp
    exact hK _ hS
  · try dsimp only
    exact wp_cell_h (v := .int .i64 (v0)) (VM.old1 hS fv).held 0 rfl Cv0.out rfl agg3 rfl (hK _ hS)
  · try dsimp only
    exact wp_cell_h (v := .int .i64 s) (VM.old1 hS fs).held 0 rfl rfl rfl agg3 rfl (hK _ hS)
  · try dsimp only
    go_simp
    exact hK _ hS
  · try dsimp only
    go_simp
    go_at_call 39
    refine (P0 _).mono ?_
    rintro e w2 ⟨rfl, rfl⟩
    exact hK _ hS
  · try dsimp only
    go_simp
    exact hK _ hS
  · try dsimp only
    exact wp_cell_h (v := .int .i64 (v1)) (VM.old1 hS fv).held 0 rfl Cv1.out rfl agg3 rfl (hK _ hS)
  · try dsimp only
    exact wp_cell_h (v := .int .i64 s) (VM.old1 hS fs).held 0 rfl rfl rfl agg3 rfl (hK _ hS)
  · try dsimp only
    go_simp
    exact hK _ hS
  · try dsimp only
    go_simp
    go_at_call 39
    refine (P1 _).mono ?_
    rintro e w2 ⟨rfl, rfl⟩
    exact hK _ hS
  · try dsimp only
    go_simp
    exact hK _ hS
  · try dsimp only
    exact wp_ino Try.underlying23 sizeOf3 (by decide) 0 rfl rfl rfl (by decide) (hK _ hS)
  · try dsimp only
    rw [hn] at hS
    refine wp_set_own hS 0 (i := 3) (.int .i64 p) rfl (by rw [M.mat_len]; omega) rfl rfl size3 rfl rfl fun w1 O1 => hK _ _ ?_
    rw [upd_same]
    have O2 : Own w w1 [(g8, 40, M.mat 8 (SM.fr x y v2 (SM.c2 sv p q_ true false) 64)), (gr, 40, M.mat 8 M.zero)] := by rw [← SM.fr_set3]; exact O1
    exact O2
  · try dsimp only
    go_simp
    exact hK _ hS
  · try dsimp only
    exact wp_ino Try.underlying23 sizeOf3 (by decide) 1 rfl rfl rfl (by decide) (hK _ hS)
  try dsimp only
  have O3 : Own w w' [(g8, 40, M.mat 8 (SM.fr x y v2 (SM.c2 sv p q_ true false) 64)), (gr, 40, M.mat 8 M.zero)] := by
    have h3 := hS
    rw [show (st 12).isSome = true from hall 12 (by decide)] at h3
    exact h3
  clear hS O
  have O := O3
  clear O3
  try generalize (st 12).getD undef = x12'
  clear hall
  refine wpAny_want (i := 15) (by kernel_rfl) rfl (by rfl) (fun K hK => ?_)
  refine wp_set_own O 0 (i := 4) (.int .i64 q_) rfl (by rw [M.mat_len]; omega) rfl rfl size3 rfl rfl fun w9 O1 => hK _ _ ?_
  clear O
  have O : Own w w9 [(g8, 40, M.mat 8 (SM.fr x y v2 (SM.c2 sv p q_ true true) 64)), (gr, 40, M.mat 8 M.zero)] := by rw [← SM.fr_set4]; exact O1
  clear O1
  clear hK K
  try simp only [Act.put, List.setIfInBounds_toArray, List.set_cons_zero, List.set_cons_succ]
  refine wpAny_done (by kernel_rfl) ?_ _
  go_wp2_with (first | ((with_reducible refine at_load 28 ?_); refine wpList_whole rfl O 0 rfl rfl Try.underlying40 rfl (sG _) ?_) | ((with_reducible refine at_store 7 ?_); refine wpList_put_own O 1 (M.mat 8 (SM.fr x y v2 (SM.c2 sv p q_ true true) 64)) rfl rfl rfl (sG _) (M.mat_len2 _ _ _) (M.mat_one _ _) ?_; clear O; intro w7 O))
  exact bodyPost_ret (v := arr 8 (SM.fr x y v2 (SM.c2 sv p q_ true true) 64)) (res_h rfl O.held 1 rfl rfl Try.underlying40 rfl (sG _)) rfl ⟨rfl, O.below⟩
end Go.Proofs.Ytlmgilcigbnbaaa
