/- Contract: the i-th primitive by the document. -/
import Derived.Test.YtadpejblhkcjgaaC8
namespace Go.Proofs.Ytadpejblhkcjgaa
open Go.ChangeShapes Go.WideShapes Go.ChangeAt Go.RowKit
set_option linter.unusedVariables false
set_option linter.unusedSimpArgs false

theorem results_tmp4 {fn : Func} {t u v x : Tmp} (h : fn.results = #[.tmp t, .tmp u, .tmp v, .tmp x]) (tmps : Array Value) (P : Program) (w : World) :
    (results fn tmps).run P w = .ok (.tuple #[tmps.getD t undef, tmps.getD u undef, tmps.getD v undef, tmps.getD x undef]) w := by
  simp [results, h]
def RetOne (V : List Nat) (p q : Nat) (cb : Bool) (w : World) (e : Ending) (w' : World) : Prop :=
  ∃ A c, e = .returned (.tuple #[.slice A V.length c, .int .i64 p, .int .i64 q, .bool cb]) ∧ Lies w' free (iE w.heap.size A c V) ∧ Below w.heap.size w w'
theorem wr (a : Nat) {b : Nat} {x : Int} (h : x = b) (hb : b ≤ 2000) : IntKind.i64.wrap x = (b : Int) := by rw [h]; exact IntWalk.i64_in _ (by omega)
set_option maxRecDepth 100000 in
set_option maxHeartbeats 4000000 in
theorem one0 (i : Nat) (hi : i ≤ 256) (w : World) : Calls Try.prog 20 #[.int .i64 0, .int .i64 i] w (RetOne [i] i i false w) := by
  have O := Held.start w [] (by simp)
  clear hi
  go_enter Try.func20, Try.ntmps20
  go_wp2_with ((with_reducible refine at_lit 12 ?_); refine wpList_lit_h rfl O 1 (.int .i64 0) info3 Try.underlying33 ([(0, .int .i64 i)]) ([.int .i64 i]) rfl rfl (by decide) (by decide) (by kernel_rfl) ?_; clear O; intro g w1 O)
  refine bodyPost_ret (results_tmp4 rfl _ _ _) rfl ?_
  exact ⟨some ⟨g, 0, none⟩, 1, rfl, O.arg List.mem_cons_self, O.below⟩
set_option maxRecDepth 100000 in
set_option maxHeartbeats 4000000 in
theorem one1 (i : Nat) (hi : i ≤ 256) (w : World) : Calls Try.prog 20 #[.int .i64 1, .int .i64 i] w (RetOne [(2 * i), (2 * i + 1)] (2 * i) (2 * i + 1) false w) := by
  have O := Held.start w [] (by simp)
  have e0 : IntKind.i64.wrap (2 * (i : Int)) = ((2 * i : Nat) : Int) := wr 0 (by omega) (by omega)
  have hx : 2 * i ≤ 512 := by omega
  generalize 2 * i = x at *
  have e1 : IntKind.i64.wrap ((x : Int) + 1) = ((x + 1 : Nat) : Int) := wr 0 (by omega) (by omega)
  generalize x + 1 = y1 at *
  clear hi
  go_enter Try.func20, Try.ntmps20
  go_wp2_with ((with_reducible refine at_lit 22 ?_); refine wpList_lit_h rfl O 1 (.int .i64 0) info3 Try.underlying33 ([(0, .int .i64 x), (1, .int .i64 y1)]) ([.int .i64 x, .int .i64 y1]) rfl rfl (by decide) (by decide) (by kernel_rfl) ?_; clear O; intro g w1 O)
  refine bodyPost_ret (results_tmp4 rfl _ _ _) rfl ?_
  exact ⟨some ⟨g, 0, none⟩, 2, rfl, O.arg List.mem_cons_self, O.below⟩
set_option maxRecDepth 100000 in
set_option maxHeartbeats 4000000 in
theorem one2 (i : Nat) (hi : i ≤ 256) (w : World) : Calls Try.prog 20 #[.int .i64 2, .int .i64 i] w (RetOne [i, (i + 1)] i (i + 1) false w) := by
  have O := Held.start w [] (by simp)
  have e1 : IntKind.i64.wrap ((i : Int) + 1) = ((i + 1 : Nat) : Int) := wr 0 (by omega) (by omega)
  generalize i + 1 = y1 at *
  clear hi
  go_enter Try.func20, Try.ntmps20
  go_wp2_with ((with_reducible refine at_lit 34 ?_); refine wpList_lit_h rfl O 1 (.int .i64 0) info3 Try.underlying33 ([(0, .int .i64 i), (1, .int .i64 y1)]) ([.int .i64 i, .int .i64 y1]) rfl rfl (by decide) (by decide) (by kernel_rfl) ?_; clear O; intro g w1 O)
  refine bodyPost_ret (results_tmp4 rfl _ _ _) rfl ?_
  exact ⟨some ⟨g, 0, none⟩, 2, rfl, O.arg List.mem_cons_self, O.below⟩
set_option maxRecDepth 100000 in
set_option maxHeartbeats 4000000 in
theorem one3 (i : Nat) (hi : i ≤ 256) (w : World) : Calls Try.prog 20 #[.int .i64 3, .int .i64 i] w (RetOne [i, (i + 1)] i (i + 1) false w) := by
  have O := Held.start w [] (by simp)
  have e1 : IntKind.i64.wrap ((i : Int) + 1) = ((i + 1 : Nat) : Int) := wr 0 (by omega) (by omega)
  generalize i + 1 = y1 at *
  clear hi
  go_enter Try.func20, Try.ntmps20
  go_wp2_with ((with_reducible refine at_lit 34 ?_); refine wpList_lit_h rfl O 1 (.int .i64 0) info3 Try.underlying33 ([(0, .int .i64 i), (1, .int .i64 y1)]) ([.int .i64 i, .int .i64 y1]) rfl rfl (by decide) (by decide) (by kernel_rfl) ?_; clear O; intro g w1 O)
  refine bodyPost_ret (results_tmp4 rfl _ _ _) rfl ?_
  exact ⟨some ⟨g, 0, none⟩, 2, rfl, O.arg List.mem_cons_self, O.below⟩
set_option maxRecDepth 100000 in
set_option maxHeartbeats 4000000 in
theorem one4 (i : Nat) (hi : i ≤ 256) (w : World) : Calls Try.prog 20 #[.int .i64 4, .int .i64 i] w (RetOne [(3 * i), (3 * i + 1), (3 * i + 2)] (3 * i) (3 * i + 2) true w) := by
  have O := Held.start w [] (by simp)
  have e0 : IntKind.i64.wrap (3 * (i : Int)) = ((3 * i : Nat) : Int) := wr 0 (by omega) (by omega)
  have hx : 3 * i ≤ 768 := by omega
  generalize 3 * i = x at *
  have e1 : IntKind.i64.wrap ((x : Int) + 1) = ((x + 1 : Nat) : Int) := wr 0 (by omega) (by omega)
  have e2 : IntKind.i64.wrap ((x : Int) + 2) = ((x + 2 : Nat) : Int) := wr 0 (by omega) (by omega)
  generalize x + 1 = y1 at *
  generalize x + 2 = y2 at *
  clear hi
  go_enter Try.func20, Try.ntmps20
  go_wp2_with ((with_reducible refine at_lit 48 ?_); refine wpList_lit_h rfl O 1 (.int .i64 0) info3 Try.underlying33 ([(0, .int .i64 x), (1, .int .i64 y1), (2, .int .i64 y2)]) ([.int .i64 x, .int .i64 y1, .int .i64 y2]) rfl rfl (by decide) (by decide) (by kernel_rfl) ?_; clear O; intro g w1 O)
  refine bodyPost_ret (results_tmp4 rfl _ _ _) rfl ?_
  exact ⟨some ⟨g, 0, none⟩, 3, rfl, O.arg List.mem_cons_self, O.below⟩
set_option maxRecDepth 100000 in
set_option maxHeartbeats 4000000 in
theorem one5b (i : Nat) (hi : i ≤ 256) (hp : i % 2 = 1) (w : World) : Calls Try.prog 20 #[.int .i64 5, .int .i64 i] w (RetOne [(i + 1), i, (i + 2)] i (i + 2) false w) := by
  have O := Held.start w [] (by simp)
  have e1 : IntKind.i64.wrap ((i : Int) + 1) = ((i + 1 : Nat) : Int) := wr 0 (by omega) (by omega)
  have e2 : IntKind.i64.wrap ((i : Int) + 2) = ((i + 2 : Nat) : Int) := wr 0 (by omega) (by omega)
  generalize i + 1 = y1 at *
  generalize i + 2 = y2 at *
  have e9 : Int.tmod (i : Int) 2 = ((i % 2 : Nat) : Int) := pm2 i
  have e8 : ((i % 2 : Nat) : Int) = 1 := by omega
  rw [e8] at e9
  clear hp
  clear hi
  go_enter Try.func20, Try.ntmps20
  go_wp2_with ((with_reducible refine at_lit 64 ?_); refine wpList_lit_h rfl O 1 (.int .i64 0) info3 Try.underlying33 ([(0, .int .i64 y1), (1, .int .i64 i), (2, .int .i64 y2)]) ([.int .i64 y1, .int .i64 i, .int .i64 y2]) rfl rfl (by decide) (by decide) (by kernel_rfl) ?_; clear O; intro g w1 O)
  refine bodyPost_ret (results_tmp4 rfl _ _ _) rfl ?_
  exact ⟨some ⟨g, 0, none⟩, 3, rfl, O.arg List.mem_cons_self, O.below⟩
set_option maxRecDepth 100000 in
set_option maxHeartbeats 4000000 in
theorem one5a (i : Nat) (hi : i ≤ 256) (hp : ¬ i % 2 = 1) (w : World) : Calls Try.prog 20 #[.int .i64 5, .int .i64 i] w (RetOne [i, (i + 1), (i + 2)] i (i + 2) false w) := by
  have O := Held.start w [] (by simp)
  have e1 : IntKind.i64.wrap ((i : Int) + 1) = ((i + 1 : Nat) : Int) := wr 0 (by omega) (by omega)
  have e2 : IntKind.i64.wrap ((i : Int) + 2) = ((i + 2 : Nat) : Int) := wr 0 (by omega) (by omega)
  generalize i + 1 = y1 at *
  generalize i + 2 = y2 at *
  have e9 : Int.tmod (i : Int) 2 = ((i % 2 : Nat) : Int) := pm2 i
  have e8 : ¬ ((i % 2 : Nat) : Int) = 1 := by omega
  generalize i % 2 = z at *
  clear hp
  clear hi
  go_enter Try.func20, Try.ntmps20
  go_wp2_with ((with_reducible refine at_lit 73 ?_); refine wpList_lit_h rfl O 1 (.int .i64 0) info3 Try.underlying33 ([(0, .int .i64 i), (1, .int .i64 y1), (2, .int .i64 y2)]) ([.int .i64 i, .int .i64 y1, .int .i64 y2]) rfl rfl (by decide) (by decide) (by kernel_rfl) ?_; clear O; intro g w1 O)
  refine bodyPost_ret (results_tmp4 rfl _ _ _) rfl ?_
  exact ⟨some ⟨g, 0, none⟩, 3, rfl, O.arg List.mem_cons_self, O.below⟩
set_option maxRecDepth 100000 in
set_option maxHeartbeats 4000000 in
theorem one6 (i : Nat) (hi : i ≤ 256) (w : World) : Calls Try.prog 20 #[.int .i64 6, .int .i64 i] w (RetOne [0, (i + 1), (i + 2)] (i + 1) (i + 2) false w) := by
  have O := Held.start w [] (by simp)
  have e1 : IntKind.i64.wrap ((i : Int) + 1) = ((i + 1 : Nat) : Int) := wr 0 (by omega) (by omega)
  have e2 : IntKind.i64.wrap ((i : Int) + 2) = ((i + 2 : Nat) : Int) := wr 0 (by omega) (by omega)
  generalize i + 1 = y1 at *
  generalize i + 2 = y2 at *
  clear hi
  go_enter Try.func20, Try.ntmps20
  go_wp2_with ((with_reducible refine at_lit 83 ?_); refine wpList_lit_h rfl O 1 (.int .i64 0) info3 Try.underlying33 ([(0, .int .i64 0), (1, .int .i64 y1), (2, .int .i64 y2)]) ([.int .i64 0, .int .i64 y1, .int .i64 y2]) rfl rfl (by decide) (by decide) (by kernel_rfl) ?_; clear O; intro g w1 O)
  refine bodyPost_ret (results_tmp4 rfl _ _ _) rfl ?_
  exact ⟨some ⟨g, 0, none⟩, 3, rfl, O.arg List.mem_cons_self, O.below⟩
set_option maxRecDepth 100000 in
set_option maxHeartbeats 4000000 in
theorem one7 (i : Nat) (hi : i ≤ 256) (w : World) : Calls Try.prog 20 #[.int .i64 7, .int .i64 i] w (RetOne [(4 * i), (4 * i + 1), (4 * i + 2), (4 * i + 3)] (4 * i) (4 * i + 3) true w) := by
  have O := Held.start w [] (by simp)
  have e0 : IntKind.i64.wrap (4 * (i : Int)) = ((4 * i : Nat) : Int) := wr 0 (by omega) (by omega)
  have hx : 4 * i ≤ 1024 := by omega
  generalize 4 * i = x at *
  have e1 : IntKind.i64.wrap ((x : Int) + 1) = ((x + 1 : Nat) : Int) := wr 0 (by omega) (by omega)
  have e2 : IntKind.i64.wrap ((x : Int) + 2) = ((x + 2 : Nat) : Int) := wr 0 (by omega) (by omega)
  have e3 : IntKind.i64.wrap ((x : Int) + 3) = ((x + 3 : Nat) : Int) := wr 0 (by omega) (by omega)
  generalize x + 1 = y1 at *
  generalize x + 2 = y2 at *
  generalize x + 3 = y3 at *
  clear hi
  go_enter Try.func20, Try.ntmps20
  go_wp2_with ((with_reducible refine at_lit 101 ?_); refine wpList_lit_h rfl O 1 (.int .i64 0) info3 Try.underlying33 ([(0, .int .i64 x), (1, .int .i64 y1), (2, .int .i64 y2), (3, .int .i64 y3)]) ([.int .i64 x, .int .i64 y1, .int .i64 y2, .int .i64 y3]) rfl rfl (by decide) (by decide) (by kernel_rfl) ?_; clear O; intro g w1 O)
  refine bodyPost_ret (results_tmp4 rfl _ _ _) rfl ?_
  exact ⟨some ⟨g, 0, none⟩, 4, rfl, O.arg List.mem_cons_self, O.below⟩
set_option maxRecDepth 100000 in
set_option maxHeartbeats 4000000 in
theorem one8 (i : Nat) (hi : i ≤ 256) (w : World) : Calls Try.prog 20 #[.int .i64 8, .int .i64 i] w (RetOne [(2 * i), (2 * i + 1), (2 * i + 3), (2 * i + 2)] (2 * i) (2 * i + 3) false w) := by
  have O := Held.start w [] (by simp)
  have e0 : IntKind.i64.wrap (2 * (i : Int)) = ((2 * i : Nat) : Int) := wr 0 (by omega) (by omega)
  have hx : 2 * i ≤ 512 := by omega
  generalize 2 * i = x at *
  have e1 : IntKind.i64.wrap ((x : Int) + 1) = ((x + 1 : Nat) : Int) := wr 0 (by omega) (by omega)
  have e2 : IntKind.i64.wrap ((x : Int) + 2) = ((x + 2 : Nat) : Int) := wr 0 (by omega) (by omega)
  have e3 : IntKind.i64.wrap ((x : Int) + 3) = ((x + 3 : Nat) : Int) := wr 0 (by omega) (by omega)
  generalize x + 1 = y1 at *
  generalize x + 2 = y2 at *
  generalize x + 3 = y3 at *
  clear hi
  go_enter Try.func20, Try.ntmps20
  go_wp2_with ((with_reducible refine at_lit 118 ?_); refine wpList_lit_h rfl O 1 (.int .i64 0) info3 Try.underlying33 ([(0, .int .i64 x), (1, .int .i64 y1), (2, .int .i64 y3), (3, .int .i64 y2)]) ([.int .i64 x, .int .i64 y1, .int .i64 y3, .int .i64 y2]) rfl rfl (by decide) (by decide) (by kernel_rfl) ?_; clear O; intro g w1 O)
  refine bodyPost_ret (results_tmp4 rfl _ _ _) rfl ?_
  exact ⟨some ⟨g, 0, none⟩, 4, rfl, O.arg List.mem_cons_self, O.below⟩
theorem one_any (m i : Nat) (hm : m ≤ 8) (hi : i ≤ 256) (w : World) : Calls Try.prog 20 #[.int .i64 m, .int .i64 i] w (RetOne (P.dV m i) (P.dP m i) (P.dQ m i) (P.dC m) w) := by
  have h9 : m = 0 ∨ m = 1 ∨ m = 2 ∨ m = 3 ∨ m = 4 ∨ m = 5 ∨ m = 6 ∨ m = 7 ∨ m = 8 := by omega
  rcases h9 with rfl | rfl | rfl | rfl | rfl | rfl | rfl | rfl | rfl
  · exact one0 i hi w
  · exact one1 i hi w
  · exact one2 i hi w
  · exact one3 i hi w
  · exact one4 i hi w
  · by_cases hp : i % 2 = 1
    · have h : P.dV 5 i = [i + 1, i, i + 2] := by simp [P.dV, hp]
      rw [h]
      exact one5b i hi hp w
    · have h : P.dV 5 i = [i, i + 1, i + 2] := by simp [P.dV, hp]
      rw [h]
      exact one5a i hi hp w
  · exact one6 i hi w
  · exact one7 i hi w
  · exact one8 i hi w
end Go.Proofs.Ytadpejblhkcjgaa
