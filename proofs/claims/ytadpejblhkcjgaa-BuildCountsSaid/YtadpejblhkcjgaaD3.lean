/- Contract: the primitives by the document, but for the loop. -/
import Derived.Test.YtadpejblhkcjgaaD2
namespace Go.Proofs.Ytadpejblhkcjgaa
open Go.ChangeShapes Go.WideShapes Go.ChangeAt Go.RowKit
set_option linter.unusedVariables false
set_option linter.unusedSimpArgs false

section
variable {P : Program} {ops : Array Oper} {Q : Exit → Act → World → Prop} {a : Act} {w w0 : World} {rest : List Oper} {bs : List (Nat × TypeId × List Value)} {R : RowD} {es : List Ent} {dst : Option Tmp} {ty : TypeId} {pos : String} {after : Array Edge} {K : Act → World → Prop}
/-- A slice literal of nothing, as the row. -/
theorem wp_none_h {t e : TypeId} {gd : Option (Nat × Bool)} (O : Held w0 w bs nilRow es) (s : Nat) (hi : (P.info? e).map (·.size) = some s) (hu : P.underlying t = some (.slice e))
    (h : ∀ v w1, Held w0 w1 bs ⟨v, e, s, 0, []⟩ es → K (a.put dst v) w1) : Oper.wp P ⟨dst, .buildSlice t 0 #[], ty, pos, after, gd⟩ a w K Q := by
  cases hie : P.info? e with
  | none => simp [hie] at hi
  | some ie =>
    have hs : ie.size = s := by simpa [hie] using hi
    have hr : (Instr.buildSlice t 0 #[]).run P w = .ok (.slice (some ⟨w.heap.size, 0, none⟩) 0 0) (w.alloc (.cells #[] e)) := by
      simp [Instr.buildSlice, run_underlying hu, sizeOf, typeInfo, hie, Instr.fill, newRow]
      kernel_rfl
    unfold Oper.wp execOp
    simp only [List.map_toArray, List.map_nil, Sem.run_bind, hr, Result.andThen_ok]
    have hb : Below w.heap.size w (w.alloc (.cells #[] e)) := (Below.refl _ w).alloc (Nat.le_refl _) _
    refine h _ _ ((O.fresh e s).grow ⟨by simp, .inr ⟨w.heap.size, 0, #[], rfl, O.1.1.size, heap_alloc_new w _, Nat.le_refl _, by unfold maxLen; omega, by simp, by simp⟩⟩ (below_grown hb) (.inr rfl))
theorem wpList_none_h {t e : TypeId} {gd : Option (Nat × Bool)} (hw : Region.wanted ⟨dst, .buildSlice t 0 #[], ty, pos, after, gd⟩ (yielded ops a.tmps) = true) (O : Held w0 w bs nilRow es) (s : Nat) (hi : (P.info? e).map (·.size) = some s) (hu : P.underlying t = some (.slice e))
    (h : ∀ v w1, Held w0 w1 bs ⟨v, e, s, 0, []⟩ es → wpList P ops Q rest (a.put dst v) w1) : wpList P ops Q (⟨dst, .buildSlice t 0 #[], ty, pos, after, gd⟩ :: rest) a w :=
  wpList_step fun K hK => by rw [if_pos hw]; exact wp_none_h O s hi hu fun v w1 O' => hK _ _ (h v w1 O')
end
theorem Held.row_val {w0 w : World} {bs : List (Nat × TypeId × List Value)} {R : RowD} {es : List Ent} (h : Held w0 w bs R es) : ∃ A c, R.v = .slice A R.n c := by
  obtain ⟨A, c, hv, -⟩ := row_lies h.2.1
  exact ⟨A, c, hv⟩
/-- The row is done, and its value is known. -/
theorem Held.doneV {w0 w : World} {bs : List (Nat × TypeId × List Value)} {e : TypeId} {s n n' c : Nat} {A : Option Addr} {xs : List Value} {es : List Ent} (h : Held w0 w bs ⟨.slice A n' c, e, s, n, xs⟩ es) : n' = n ∧ Held w0 w bs nilRow (⟨w0.heap.size, A, n, c, s, xs⟩ :: es) := by
  obtain ⟨A2, c2, hv, O⟩ := h.done
  dsimp only at hv O
  injection hv with h1 h2 h3
  subst h1 h2 h3
  exact ⟨rfl, O⟩
set_option maxRecDepth 100000 in
set_option maxHeartbeats 4000000 in
theorem rprims_bad (m : Int) (A' : Option Addr) (n c' : Nat) (first : Bool) (hm : m < 0 ∨ 9 < m) (w : World) : Calls Try.prog 10 #[.int .i64 m, .slice A' n c', .bool first] w (RetP w [] 1) := by
  have O := Held.start w [] (by simp)
  rcases hm with hm | hm
  · have q1 : decide ((m : Int) < 0) = true := by simpa using hm
    clear hm
    go_enter Try.func10, Try.ntmps10
    go_wp2_with fail
    go_ret2
    exact retP_nil O.below
  · have q1 : decide ((m : Int) < 0) = false := by simp; omega
    have q2 : decide ((9 : Int) < m) = true := by simp; omega
    clear hm
    go_enter Try.func10, Try.ntmps10
    go_wp2_with fail
    go_ret2
    exact retP_nil O.below
set_option maxRecDepth 100000 in
set_option maxHeartbeats 4000000 in
theorem rprims_full (m : Nat) (A' : Option Addr) (n c' : Nat) (first : Bool) (hm : m ≤ 9) (hn : 256 < n) (w : World) : Calls Try.prog 10 #[.int .i64 m, .slice A' n c', .bool first] w (RetP w [] 8) := by
  have O := Held.start w [] (by simp)
  have q1 : decide ((m : Int) < 0) = false := by simp
  have q2 : decide ((9 : Int) < m) = false := by simp; omega
  have q3 : (256 : Int) < n := by omega
  go_enter Try.func10, Try.ntmps10
  go_wp2_with fail
  go_ret2
  exact retP_nil O.below
set_option maxRecDepth 100000 in
set_option maxHeartbeats 8000000 in
theorem rprims_nine (fl : List Bool) {lo : Nat} {A' : Option Addr} {c' : Nat} (first : Bool) (hn : fl.length ≤ 256) (w : World) (hf : Lies w free (bE lo A' c' fl)) : Calls Try.prog 10 #[.int .i64 9, .slice A' fl.length c', .bool first] w (RetP w (P.list (P.shp 9) fl first) 0) := by
  have O := Held.start w [bE lo A' c' fl] (by simpa using hf)
  have q1 : ¬ (256 : Int) < fl.length := by omega
  have HP := Lib.hid (P.list_nine fl first hn)
  clear hf
  by_cases h3 : fl.length < 3
  · have q2 : (fl.length : Int) < 3 := by omega
    have HP2 : Hid (P.list (P.shp 9) fl first = []) := by show _ = _; rw [HP.out, if_pos h3]
    go_enter Try.func10, Try.ntmps10
    go_wp2_with fail
    go_ret2
    rw [HP2.out]
    exact retP_nil O.below
  have q2 : ¬ (fl.length : Int) < 3 := by omega
  have HP2 : Hid (P.list (P.shp 9) fl first = [⟨List.range fl.length, fl, 0⟩]) := by show _ = _; rw [HP.out, if_neg h3]
  clear HP h3
  go_enter Try.func10, Try.ntmps10
  go_wp2_with (first | ((with_reducible refine at_lit 32 ?_); refine wpList_none_h rfl O 1 size4 Try.underlying22 ?_; clear O; intro v32 w2 O) | ((with_reducible refine at_app 34 ?_); refine wpList_app_h rfl O (.bool false) 1 info4b rfl (Nat.succ_pos _) Try.underlying22 rfl (bE lo A' c' fl) (O.mem (List.mem_cons_self)) rfl rfl (bools_one _) (by dsimp only [bE]; omega) (by decide) ?_; clear O; intro v34 w3 O; obtain ⟨EA, Ec, hv⟩ := O.row_val; dsimp only [bE] at hv O; rw [Nat.zero_add] at hv O; subst hv; obtain ⟨-, O2⟩ := O.doneV; clear O; have O := O2; clear O2) | ((with_reducible refine at_alloc 9 ?_); refine wpList_alloc_h O (pm ⟨nilE 1, nilE 1, 0⟩) zero35 ?_; clear O; intro g9 w4 O) | ((with_reducible refine at_store 9 ?_); refine wpList_put_h O 0 ([.slice none 0 0, .slice EA fl.length Ec, .int .i64 0]) rfl rfl rfl size35 (rfl) (by simp [Value.oneCell']) ?_; clear O; intro w5 O))
  replace O := O.fresh 3 1
  go_loopw [10] (fun t wr => ∃ (k : Nat) (VA : Option Addr) (Vc : Nat), k ≤ fl.length ∧ t = .int .i64 k ∧ Held w wr [(g9, 35, [.slice VA k Vc, .slice EA fl.length Ec, .int .i64 0])] ⟨.slice VA k Vc, 3, 1, k, ints (List.range k)⟩ [⟨w.heap.size, EA, fl.length, Ec, 1, bools fl⟩, bE lo A' c' fl]) (fun t _ => fl.length - (intOf t).toNat)
  case atStart => exact ⟨0, none, 0, Nat.zero_le _, rfl, O⟩
  case round =>
    clear O
    obtain ⟨k, VA, Vc, hk, rfl, O⟩ := hrel
    have q0 : (0 : Int) ≤ k := by omega
    by_cases hlt : k < fl.length
    · have q3 : (k : Int) < fl.length := by omega
      go_wp2_with (first | ((with_reducible refine at_load 43 ?_); refine wpList_cell_h (v := .slice VA k Vc) rfl O 0 rfl (rfl) rfl agg33 rfl ?_) | ((with_reducible refine at_lit 45 ?_); refine wpList_lit_h rfl O 1 (.int .i64 0) info3 Try.underlying33 ([(0, .int .i64 k)]) ([.int .i64 k]) rfl rfl (by decide) (by decide) (by kernel_rfl) ?_; clear O; intro g w2 O) | ((with_reducible refine at_app 46 ?_); refine wpList_app_h rfl O (.int .i64 0) 8 info3b rfl (Nat.succ_pos _) Try.underlying33 rfl (_) (O.mem (List.mem_cons_self)) rfl rfl (by simp [Value.oneCell']) (by dsimp only; omega) (by decide) ?_; clear O; intro v46 w3 O; obtain ⟨VA2, Vc2, hv⟩ := O.row_val; dsimp only at hv O; subst hv) | ((with_reducible refine at_store 47 ?_); refine wpList_set_h O 0 (.slice VA2 (k + 1) Vc2) rfl (by simp) rfl rfl size33 rfl rfl ?_; clear O; intro w5 O; simp only [List.set_cons_zero, List.set_cons_succ] at O))
      have O2 := O.pick (es' := [⟨w.heap.size, EA, fl.length, Ec, 1, bools fl⟩, bE lo A' c' fl]) (fun y hy => List.mem_cons_of_mem _ hy)
      clear O
      rw [range_snoc] at O2
      go_roundw
      case rel => exact ⟨k + 1, VA2, Vc2, by omega, by go_num, O2⟩
      case measure => simp [intOf]; omega
    · have q3 : ¬ (k : Int) < fl.length := by omega
      obtain rfl : k = fl.length := by omega
      obtain ⟨-, O2⟩ := O.doneV
      clear O
      have O : Held w wr [(g9, 35, pmc (⟨List.range fl.length, fl, 0⟩, ⟨VA, Vc, EA, Ec⟩))] nilRow [⟨w.heap.size, VA, fl.length, Vc, 1, ints (List.range fl.length)⟩, ⟨w.heap.size, EA, fl.length, Ec, 1, bools fl⟩, bE lo A' c' fl] := by
        simpa [pmc] using O2
      clear O2
      replace O := O.fresh 35 3
      go_wp2_with (first | ((with_reducible refine at_load 49 ?_); refine wpList_rowg_h rfl O 0 rfl rfl Try.underlying35 rfl size35 ?_) | ((with_reducible refine at_lit 50 ?_); refine wpList_lit_h rfl O 3 (.agg (pm ⟨nilE 1, nilE 1, 0⟩).toArray) info35 Try.underlying24 ([(0, .agg (pmc (⟨List.range fl.length, fl, 0⟩, ⟨VA, Vc, EA, Ec⟩)).toArray)]) (pmc (⟨List.range fl.length, fl, 0⟩, ⟨VA, Vc, EA, Ec⟩)) rfl rfl (by decide) (by decide) (by kernel_rfl) ?_; clear O; intro g w2 O) | ((with_reducible refine at_app 51 ?_); refine wpList_app_h rfl O (.agg (pm ⟨nilE 1, nilE 1, 0⟩).toArray) 56 info35b rfl (Nat.succ_pos _) Try.underlying24 rfl (⟨w.heap.size, some ⟨g, 0, none⟩, 1, 1, 3, pmc (⟨List.range fl.length, fl, 0⟩, ⟨VA, Vc, EA, Ec⟩)⟩) (O.mem (List.mem_cons_self)) rfl rfl (pmc_one _) (by dsimp only; omega) (by decide) ?_; clear O; intro v51 w3 O))
      go_ret2
      rw [HP2.out]
      refine retP_done (l := [(⟨List.range fl.length, fl, 0⟩, ⟨VA, Vc, EA, Ec⟩)]) (es := []) (O.pick (fun y hy => ?_))
      simp only [ents, List.flatMap_cons, List.flatMap_nil, List.append_nil, List.mem_cons, List.not_mem_nil, or_false, vOf, eOf, iE, bE, List.length_range] at hy
      rcases hy with rfl | rfl
      · simp
      · simp
end Go.Proofs.Ytadpejblhkcjgaa
