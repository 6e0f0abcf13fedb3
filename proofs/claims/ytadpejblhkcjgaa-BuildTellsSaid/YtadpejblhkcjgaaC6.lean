/- Contract: what a mode makes. -/
import Derived.Test.YtadpejblhkcjgaaC5
namespace Go.Proofs.Ytadpejblhkcjgaa
open Go.ChangeShapes Go.WideShapes Go.ChangeAt Go.RowKit
set_option linter.unusedVariables false
set_option linter.unusedSimpArgs false

theorem tabs_at {w w' : World} {bs : List (Nat × TypeId × List Value)} {R : RowD} {es : List Ent} {w0 : World} (O : Held w0 w bs R es) {m : Nat} {e : Ending} (h : RetTab m w e w') :
    ∃ A c xs A' c', e = .returned (.slice A 10 c) ∧ (∀ j v, (sc (P.shp m) (cE w0.heap.size A' c' (P.shp m).cs))[j]? = some v → xs[m * 11 + j]? = some v) ∧ Held w0 w' bs R (⟨w0.heap.size, A, 10, c, 11, xs⟩ :: cE w0.heap.size A' c' (P.shp m).cs :: es) := by
  obtain ⟨A, c, xs, A', c', he, h1, h2, h3, hb⟩ := h
  refine ⟨A, c, xs, A', c', he, h2, ?_⟩
  exact O.gains hb (ns := [⟨w.heap.size, A, 10, c, 11, xs⟩, cE w.heap.size A' c' (P.shp m).cs]) (by
    intro x hx
    simp only [List.mem_cons, List.not_mem_nil, or_false] at hx
    rcases hx with rfl | rfl
    · exact ⟨rfl, h1⟩
    · exact ⟨rfl, h3⟩)
def RetShp (m : Nat) (w : World) (e : Ending) (w' : World) : Prop :=
  ∃ A c, e = .returned (.tuple #[.agg (sc (P.shp m) (cE w.heap.size A c (P.shp m).cs)).toArray, .bool true]) ∧ Lies w' free (cE w.heap.size A c (P.shp m).cs) ∧ Below w.heap.size w w'
theorem sc_len (s : Shp) (en : Ent) : (sc s en).length = 11 := rfl
set_option maxRecDepth 100000 in
set_option maxHeartbeats 4000000 in
theorem shapeOf_in (m : Nat) (hm : m ≤ 9) (w : World) : Calls Try.prog 14 #[.int .i64 m] w (RetShp m w) := by
  have O := Held.start w [] (by simp)
  have q1 : decide ((m : Int) < 0) = false := by simp
  have q2 : decide ((10 : Int) ≤ m) = false := by simp; omega
  go_enter Try.func14, Try.ntmps14
  go_wp2_with (first | ((with_reducible refine at_alloc 2 ?_); refine wpList_alloc_h O (sc P.zshp (nilE 2)) zero43 ?_; clear O; intro g2 w1 O) | (go_at_call 24; refine (shapes_any m hm _).mono ?_; rintro e w2 hr; obtain ⟨A, c, xs, A2, c2, rfl, hat, O2⟩ := tabs_at O hr; clear O hr; have O := O2; clear O2; have HA := Lib.hid hat; clear hat) | ((with_reducible refine at_index_ 17 ?_); refine wpList_at_h rfl Try.underlying55 sizeOf43 _ (O.mem (x := ⟨w.heap.size, A, 10, c, 11, xs⟩) (by simp)) rfl (m) rfl (rfl) (by omega) (rfl) ?_) | ((with_reducible refine at_load 18 ?_); refine wpList_elem_h rfl _ (O.mem (x := ⟨w.heap.size, A, 10, c, 11, xs⟩) (by simp)) (m * 11) (sc (P.shp m) (cE w.heap.size A2 c2 (P.shp m).cs)) (HA.out) (Nat.succ_pos _) rfl Try.underlying43 rfl size43 ?_) | ((with_reducible refine at_store 2 ?_); refine wpList_put_h O 0 (sc (P.shp m) (cE w.heap.size A2 c2 (P.shp m).cs)) rfl rfl rfl size43 (rfl) (sc_one _ _) ?_; clear O; intro w4 O))
  refine bodyPost_ret (v := .tuple #[.agg (sc (P.shp m) (cE w.heap.size A2 c2 (P.shp m).cs)).toArray, .bool true]) (res_h2 rfl O 0 rfl rfl Try.underlying43 rfl size43 rfl) rfl ?_
  exact ⟨A2, c2, rfl, O.arg (x := cE w.heap.size A2 c2 (P.shp m).cs) (by simp), O.below⟩
set_option maxRecDepth 100000 in
set_option maxHeartbeats 4000000 in
theorem shapeOf_out (m : Int) (hm : m < 0 ∨ 9 < m) (w : World) : Calls Try.prog 14 #[.int .i64 m] w fun e w' => e = .returned (.tuple #[.agg (sc P.zshp (nilE 2)).toArray, .bool false]) ∧ Below w.heap.size w w' := by
  have O := Held.start w [] (by simp)
  rcases hm with hm | hm
  · have q1 : decide ((m : Int) < 0) = true := by simpa using hm
    clear hm
    go_enter Try.func14, Try.ntmps14
    go_wp2_with (first | ((with_reducible refine at_alloc 2 ?_); refine wpList_alloc_h O (sc P.zshp (nilE 2)) zero43 ?_; clear O; intro g2 w1 O) | (go_at_call 24; refine (shapes_any 0 (by decide) _).mono ?_; rintro e w2 hr; obtain ⟨A, c, xs, A2, c2, rfl, hat, O2⟩ := tabs_at O hr; clear O hr; have O := O2; clear O2; have HA := Lib.hid hat; clear hat) | ((with_reducible refine at_store 2 ?_); refine wpList_put_h O 0 (sc P.zshp (nilE 2)) rfl rfl rfl size43 (rfl) (sc_one _ _) ?_; clear O; intro w4 O))
    refine bodyPost_ret (v := .tuple #[.agg (sc P.zshp (nilE 2)).toArray, .bool false]) (res_h2 rfl O 0 rfl rfl Try.underlying43 rfl size43 rfl) rfl ?_
    exact ⟨rfl, O.below⟩
  · have q1 : decide ((m : Int) < 0) = false := by simp; omega
    have q2 : decide ((10 : Int) ≤ m) = true := by simp; omega
    clear hm
    go_enter Try.func14, Try.ntmps14
    go_wp2_with (first | ((with_reducible refine at_alloc 2 ?_); refine wpList_alloc_h O (sc P.zshp (nilE 2)) zero43 ?_; clear O; intro g2 w1 O) | (go_at_call 24; refine (shapes_any 0 (by decide) _).mono ?_; rintro e w2 hr; obtain ⟨A, c, xs, A2, c2, rfl, hat, O2⟩ := tabs_at O hr; clear O hr; have O := O2; clear O2; have HA := Lib.hid hat; clear hat) | ((with_reducible refine at_store 2 ?_); refine wpList_put_h O 0 (sc P.zshp (nilE 2)) rfl rfl rfl size43 (rfl) (sc_one _ _) ?_; clear O; intro w4 O))
    refine bodyPost_ret (v := .tuple #[.agg (sc P.zshp (nilE 2)).toArray, .bool false]) (res_h2 rfl O 0 rfl rfl Try.underlying43 rfl size43 rfl) rfl ?_
    exact ⟨rfl, O.below⟩
end Go.Proofs.Ytadpejblhkcjgaa
