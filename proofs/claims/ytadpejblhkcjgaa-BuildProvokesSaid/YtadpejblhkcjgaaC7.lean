/- Contract: Count. -/
import Derived.Test.YtadpejblhkcjgaaPr
namespace Go.Proofs.Ytadpejblhkcjgaa
open Go.ChangeShapes Go.WideShapes Go.ChangeAt Go.RowKit
set_option linter.unusedVariables false
set_option linter.unusedSimpArgs false

theorem shp_at {w w' w0 : World} {bs : List (Nat × TypeId × List Value)} {R : RowD} {es : List Ent} (O : Held w0 w bs R es) {m : Nat} {e : Ending} (h : RetShp m w e w') :
    ∃ A c, e = .returned (.tuple #[.agg (sc (P.shp m) (cE w0.heap.size A c (P.shp m).cs)).toArray, .bool true]) ∧ Held w0 w' bs R (cE w0.heap.size A c (P.shp m).cs :: es) := by
  obtain ⟨A, c, he, h1, hb⟩ := h
  exact ⟨A, c, he, O.gain hb h1⟩
set_option maxRecDepth 100000 in
set_option maxHeartbeats 4000000 in
theorem count_any (m n : Int) (w : World) : Calls Try.prog 12 #[.int .i64 m, .int .i64 n] w fun e w' => e = .returned (.int .i64 (P.count m n : Nat)) ∧ Below w.heap.size w w' := by
  have O := Held.start w [] (by simp)
  by_cases hm : m < 0 ∨ 9 < m
  · have hc : P.count m n = 0 := by unfold P.count; rw [if_pos (by omega)]
    rw [hc]
    go_enter Try.func12, Try.ntmps12
    go_wp2_with (first | (go_at_call 14; refine (shapeOf_out m hm _).mono ?_; rintro e w3 ⟨rfl, hb⟩; replace O := O.call hb; clear hb) | ((with_reducible refine at_alloc 5 ?_); refine wpList_alloc_h O (sc P.zshp (nilE 2)) zero43 ?_; clear O; intro g5 w1 O) | ((with_reducible refine at_store 5 ?_); refine wpList_put_h O 0 (sc P.zshp (nilE 2)) rfl rfl rfl size43 (rfl) (sc_one _ _) ?_; clear O; intro w4 O))
    go_ret
    exact ⟨rfl, O.below⟩
  obtain ⟨k, rfl⟩ : ∃ k : Nat, m = k := ⟨m.toNat, by omega⟩
  have hk : k ≤ 9 := by omega
  clear hm
  have hm := hk
  clear hk
  by_cases hn : 256 < n
  · have hc : P.count k n = 0 := by unfold P.count; rw [if_pos (by omega)]
    rw [hc]
    have q1 : decide ((256 : Int) < n) = true := by simpa using hn
    clear hn
    go_enter Try.func12, Try.ntmps12
    go_wp2_with (first | (go_at_call 14; refine (shapeOf_in k hm _).mono ?_; rintro e w3 hr; obtain ⟨A, c, rfl, O2⟩ := shp_at O hr; clear O hr; have O := O2; clear O2) | ((with_reducible refine at_alloc 5 ?_); refine wpList_alloc_h O (sc P.zshp (nilE 2)) zero43 ?_; clear O; intro g5 w1 O) | ((with_reducible refine at_store 5 ?_); refine wpList_put_h O 0 (sc (P.shp k) (cE w.heap.size A c (P.shp k).cs)) rfl rfl rfl size43 (rfl) (sc_one _ _) ?_; clear O; intro w4 O) | ((with_reducible refine at_load 18 ?_); refine wpList_rowg_h rfl O 0 rfl rfl Try.underlying43 rfl size43 ?_))
    go_ret
    exact ⟨rfl, O.below⟩
  have q1 : decide ((256 : Int) < n) = false := by simp; omega
  by_cases hlo : n < (P.shp k).need
  · have HC := Lib.hid (P.count_low hm hlo)
    clear hn
    go_enter Try.func12, Try.ntmps12
    go_wp2_with (first | (go_at_call 14; refine (shapeOf_in k hm _).mono ?_; rintro e w3 hr; obtain ⟨A, c, rfl, O2⟩ := shp_at O hr; clear O hr; have O := O2; clear O2) | ((with_reducible refine at_alloc 5 ?_); refine wpList_alloc_h O (sc P.zshp (nilE 2)) zero43 ?_; clear O; intro g5 w1 O) | ((with_reducible refine at_store 5 ?_); refine wpList_put_h O 0 (sc (P.shp k) (cE w.heap.size A c (P.shp k).cs)) rfl rfl rfl size43 (rfl) (sc_one _ _) ?_; clear O; intro w4 O) | ((with_reducible refine at_load 18 ?_); refine wpList_rowg_h rfl O 0 rfl rfl Try.underlying43 rfl size43 ?_) | (go_at_call 15; refine (count_lo (P.shp k) (cE w.heap.size A c (P.shp k).cs) n hlo _).mono ?_; rintro e w5 ⟨rfl, hb⟩; replace O := O.call hb; clear hb))
    go_ret
    rw [HC.out]
    exact ⟨rfl, O.below⟩
  obtain ⟨j, rfl⟩ : ∃ j : Nat, n = j := ⟨n.toNat, by have := (P.need_pos hm).1; omega⟩
  have hj : j ≤ 256 := by omega
  have HC := Lib.hid (P.count_in hm hj)
  clear hn hlo
  go_enter Try.func12, Try.ntmps12
  go_wp2_with (first | (go_at_call 14; refine (shapeOf_in k hm _).mono ?_; rintro e w3 hr; obtain ⟨A, c, rfl, O2⟩ := shp_at O hr; clear O hr; have O := O2; clear O2) | ((with_reducible refine at_alloc 5 ?_); refine wpList_alloc_h O (sc P.zshp (nilE 2)) zero43 ?_; clear O; intro g5 w1 O) | ((with_reducible refine at_store 5 ?_); refine wpList_put_h O 0 (sc (P.shp k) (cE w.heap.size A c (P.shp k).cs)) rfl rfl rfl size43 (rfl) (sc_one _ _) ?_; clear O; intro w4 O) | ((with_reducible refine at_load 18 ?_); refine wpList_rowg_h rfl O 0 rfl rfl Try.underlying43 rfl size43 ?_) | (go_at_call 15; refine (cnt_any k hm (cE w.heap.size A c (P.shp k).cs) j hj _).mono ?_; rintro e w5 ⟨rfl, hb⟩; replace O := O.call hb; clear hb))
  go_ret
  rw [HC.out]
  exact ⟨rfl, O.below⟩
end Go.Proofs.Ytadpejblhkcjgaa
