/- Contract: awake. -/
import Derived.Test.YtadpejblhkcjgaaD6
namespace Go.Proofs.Ytadpejblhkcjgaa
open Go.ChangeShapes Go.WideShapes Go.ChangeAt Go.RowKit
set_option linter.unusedVariables false
set_option linter.unusedSimpArgs false

theorem mem5 {a b c d e f : Ent} {y : Ent} {l : List Ent} (h : y ∈ l) : y ∈ a :: b :: c :: d :: e :: f :: l := mem_one (mem_one (mem_one (mem_one (mem_one (mem_one h)))))
theorem lits_arg {w w' : World} {bs : List (Nat × TypeId × List Value)} {R : RowD} {es : List Ent} {x : Ent} {g12 g13 g15 g16 : Nat}
    (O : Held w w' bs R (x :: ⟨w.heap.size, some ⟨g16, 0, none⟩, 3, 3, 1, bools [true, true, true]⟩ :: ⟨w.heap.size, some ⟨g15, 0, none⟩, 3, 3, 1, ints [2, 1, 3]⟩ :: ⟨w.heap.size, some ⟨g13, 0, none⟩, 3, 3, 1, bools [true, true, true]⟩ :: ⟨w.heap.size, some ⟨g12, 0, none⟩, 3, 3, 1, ints [0, 1, 2]⟩ :: es)) :
    ∀ y ∈ ents w.heap.size [((⟨[0, 1, 2], [true, true, true], 2⟩, ⟨some ⟨g12, 0, none⟩, 3, some ⟨g13, 0, none⟩, 3⟩) : PA), (⟨[2, 1, 3], [true, true, true], 3⟩, ⟨some ⟨g15, 0, none⟩, 3, some ⟨g16, 0, none⟩, 3⟩)], Lies w' free y := by
  intro y hy
  simp only [ents, List.flatMap_cons, List.flatMap_nil, List.append_nil, List.cons_append, List.nil_append, List.mem_cons, List.not_mem_nil, or_false] at hy
  rcases hy with rfl | rfl | rfl | rfl
  · exact O.arg (mem_one (mem_one (mem_one (mem_one List.mem_cons_self))))
  · exact O.arg (mem_one (mem_one (mem_one List.mem_cons_self)))
  · exact O.arg (mem_one (mem_one List.mem_cons_self))
  · exact O.arg (mem_one List.mem_cons_self)
theorem P.sides_len (s : Shp) (v : List Nat) (fl : List Bool) : (P.sides s v fl).length ≤ v.length := by
  unfold P.sides
  split <;> simp
theorem P.list_le {m : Nat} (hm : m ≤ 9) {fl : List Bool} (hn : fl.length ≤ 256) (first : Bool) : ∀ q ∈ P.list (P.shp m) fl first, q.V.length ≤ 256 ∧ q.E.length ≤ 256 := by
  intro q hq
  obtain ⟨i, _, rfl⟩ := List.mem_map.1 hq
  have h1 := P.verts_len hm (i := i) hn
  exact ⟨h1, Nat.le_trans (P.sides_len _ _ _) h1⟩
theorem P.prims_le (m : Int) (fl : List Bool) (first : Bool) : ∀ q ∈ (P.prims m fl first).1, q.V.length ≤ 256 ∧ q.E.length ≤ 256 := by
  unfold P.prims
  by_cases hm : m < 0 ∨ 9 < m
  · rw [if_pos hm]; intro q hq; cases hq
  · rw [if_neg hm]
    by_cases hn : 256 < fl.length
    · rw [if_pos hn]; intro q hq; cases hq
    · rw [if_neg hn]
      exact P.list_le (by omega) (by omega) first
theorem P.prims_few (m : Int) (fl : List Bool) (first : Bool) : (P.prims m fl first).1.length ≤ 256 := by
  rw [P.prims_len]
  unfold P.count
  split
  · omega
  · simp only [Int.toNat_natCast]
    exact P.cnt_le (by omega) (by omega)
theorem short_of {l : List PA} {ps : List Pm} (h : l.map (·.1) = ps) (hp : ∀ q ∈ ps, q.V.length ≤ 256 ∧ q.E.length ≤ 256) : ∀ x ∈ l, x.1.V.length ≤ 1000 ∧ x.1.E.length ≤ 1000 := by
  intro x hx
  have := hp x.1 (by rw [← h]; exact List.mem_map.2 ⟨x, hx, rfl⟩)
  omega
theorem few_of {l : List PA} {ps : List Pm} (h : l.map (·.1) = ps) {n : Nat} (hp : ps.length ≤ n) : l.length ≤ n := by
  rw [← h, List.length_map] at hp
  exact hp
theorem prims_ex : P.prims 5 (List.replicate 4 false) false = ([⟨[0, 1, 2], [true, true, true], 2⟩, ⟨[2, 1, 3], [true, true, true], 3⟩], 0) := by kernel_rfl
theorem count_ex : P.count 5 4 = 2 := by kernel_rfl
set_option maxRecDepth 100000 in
set_option maxHeartbeats 8000000 in
theorem awake_any (w : World) : Calls Try.prog 8 #[] w fun e w' => e = .returned (.bool true) ∧ Below w.heap.size w w' := by
  have O := Held.start w [] (by simp)
  go_enter Try.func8, Try.ntmps8
  go_wp2_with (first | ((with_reducible refine at_make_ 4 ?_); refine wpList_make_h rfl O (.bool false) 1 info4b rfl Try.underlying22 (4) rfl rfl (by omega) (by decide) ?_; clear O; intro A0 w2 O; rw [bE_rep] at O) | (go_at_call 9; have hpr := prims_any 5 (List.replicate 4 false) false _ (O.arg List.mem_cons_self); rw [prims_ex] at hpr; refine hpr.mono ?_; clear hpr; rintro e w3 hr; obtain ⟨A, c, l, hl, rfl, O2⟩ := O.gainP hr; clear O hr; have O := O2; clear O2; have HL := Lib.hid hl; clear hl) | ((with_reducible refine at_lit 12 ?_); refine wpList_lit_h rfl O 1 (.int .i64 0) info3 Try.underlying33 ([(0, .int .i64 0), (1, .int .i64 1), (2, .int .i64 2)]) (ints [0, 1, 2]) rfl rfl (by decide) (by decide) (by kernel_rfl) ?_; clear O; intro g12 w12 O) | ((with_reducible refine at_lit 13 ?_); refine wpList_lit_h rfl O 1 (.bool false) info4 Try.underlying22 ([(0, .bool true), (1, .bool true), (2, .bool true)]) (bools [true, true, true]) rfl rfl (by decide) (by decide) (by kernel_rfl) ?_; clear O; intro g13 w13 O) | ((with_reducible refine at_lit 15 ?_); refine wpList_lit_h rfl O 1 (.int .i64 0) info3 Try.underlying33 ([(0, .int .i64 2), (1, .int .i64 1), (2, .int .i64 3)]) (ints [2, 1, 3]) rfl rfl (by decide) (by decide) (by kernel_rfl) ?_; clear O; intro g15 w15 O) | ((with_reducible refine at_lit 16 ?_); refine wpList_lit_h rfl O 1 (.bool false) info4 Try.underlying22 ([(0, .bool true), (1, .bool true), (2, .bool true)]) (bools [true, true, true]) rfl rfl (by decide) (by decide) (by kernel_rfl) ?_; clear O; intro g16 w16 O) | ((with_reducible refine at_lit 18 ?_); refine wpList_lit_h rfl O 3 (.agg (pm ⟨nilE 1, nilE 1, 0⟩).toArray) info35 Try.underlying24 ([(0, .agg (pmc (⟨[0, 1, 2], [true, true, true], 2⟩, ⟨some ⟨g12, 0, none⟩, 3, some ⟨g13, 0, none⟩, 3⟩)).toArray), (1, .agg (pmc (⟨[2, 1, 3], [true, true, true], 3⟩, ⟨some ⟨g15, 0, none⟩, 3, some ⟨g16, 0, none⟩, 3⟩)).toArray)]) (pmcs [((⟨[0, 1, 2], [true, true, true], 2⟩, ⟨some ⟨g12, 0, none⟩, 3, some ⟨g13, 0, none⟩, 3⟩) : PA), (⟨[2, 1, 3], [true, true, true], 3⟩, ⟨some ⟨g15, 0, none⟩, 3, some ⟨g16, 0, none⟩, 3⟩)]) rfl rfl (by decide) (by decide) (by kernel_rfl) ?_; clear O; intro g18 w18 O) | (go_at_call 11; refine (same_any l [((⟨[0, 1, 2], [true, true, true], 2⟩, ⟨some ⟨g12, 0, none⟩, 3, some ⟨g13, 0, none⟩, 3⟩) : PA), (⟨[2, 1, 3], [true, true, true], 3⟩, ⟨some ⟨g15, 0, none⟩, 3, some ⟨g16, 0, none⟩, 3⟩)] (lo := w.heap.size) (lo' := w.heap.size) _ HL.out (O.arg (x := pE w.heap.size A c l) (mem_one (mem_one (mem_one (mem_one (mem_one List.mem_cons_self)))))) (O.arg (x := pE w.heap.size (some ⟨g18, 0, none⟩) 2 [((⟨[0, 1, 2], [true, true, true], 2⟩, ⟨some ⟨g12, 0, none⟩, 3, some ⟨g13, 0, none⟩, 3⟩) : PA), (⟨[2, 1, 3], [true, true, true], 3⟩, ⟨some ⟨g15, 0, none⟩, 3, some ⟨g16, 0, none⟩, 3⟩)]) List.mem_cons_self) (fun y hy => O.arg (mem5 (List.mem_append_left _ hy))) (lits_arg O) (Nat.le_trans (few_of HL.out (Nat.le_refl _)) (by decide)) (short_of HL.out (by decide))).mono ?_; rintro e w6 ⟨rfl, hb⟩; replace O := O.call hb; clear hb) | (go_at_call 12; refine (count_any 5 4 _).mono ?_; rw [count_ex]; rintro e w7 ⟨rfl, hb⟩; replace O := O.call hb; clear hb))
  go_ret
  exact ⟨rfl, O.below⟩
end Go.Proofs.Ytadpejblhkcjgaa
