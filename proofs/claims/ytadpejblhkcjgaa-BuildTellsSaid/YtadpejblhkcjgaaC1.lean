/- Contracts: number, provoker, count. -/
import Derived.Test.YtadpejblhkcjgaaT
namespace Go.Proofs.Ytadpejblhkcjgaa
open Go.ChangeShapes Go.WideShapes Go.ChangeAt Go.RowKit
set_option linter.unusedVariables false
set_option linter.unusedSimpArgs false

theorem tmod_nat (x n : Nat) : Int.tmod (x : Int) (n : Int) = ((x % n : Nat) : Int) := rfl
theorem tdiv_nat (x n : Nat) : Int.tdiv (x : Int) (n : Int) = ((x / n : Nat) : Int) := rfl
set_option maxRecDepth 100000 in
set_option maxHeartbeats 4000000 in
theorem number_any (a s i n : Nat) (ha : a ≤ 4) (hs : s ≤ 4) (hi : i ≤ 256) (hn : 0 < n) (hn2 : n ≤ 256) (w : World) :
    Calls Try.prog 19 #[.agg (pc (a, s)).toArray, .int .i64 i, .int .i64 n] w fun e w' => e = .returned (.int .i64 (P.num (a, s) i n : Nat)) ∧ Below w.heap.size w w' := by
  have O := Held.start w [] (by simp)
  have hsi : s * i ≤ 1024 := Nat.mul_le_mul hs hi
  have e1 : IntKind.i64.wrap ((s : Int) * i) = ((s * i : Nat) : Int) := by rw [← Int.natCast_mul]; exact IntWalk.i64_in _ (by omega)
  have e2 : IntKind.i64.wrap ((a : Int) + ((s * i : Nat) : Int)) = ((a + s * i : Nat) : Int) := by rw [← Int.natCast_add]; exact IntWalk.i64_in _ (by omega)
  have e3 : IntKind.i64.wrap (((P.num (a, s) i n : Nat)) : Int) = (P.num (a, s) i n : Nat) := IntWalk.i64_in _ (by have := Nat.mod_lt (a + s * i) hn; unfold P.num; dsimp only; omega)
  have e4 : Int.tmod ((a + s * i : Nat) : Int) (n : Int) = (P.num (a, s) i n : Nat) := tmod_nat _ _
  have nz : ¬ (n : Int) = 0 := by omega
  generalize s * i = p at e1 e2 e4
  generalize a + p = q at e2 e4
  generalize P.num (a, s) i n = r at *
  clear ha hs hi hn hn2 hsi
  go_enter Try.func19, Try.ntmps19
  go_wp2_with (first | ((with_reducible refine at_box 3 ?_); refine wpList_box_h O (pc (a, s)) rfl ?_; clear O; intro g3 w1 O) | ((with_reducible refine at_load 8 ?_); refine wpList_cell_h rfl O 0 rfl (rfl) rfl agg3 rfl ?_) | ((with_reducible refine at_load 10 ?_); refine wpList_cell_h rfl O 0 rfl (rfl) rfl agg3 rfl ?_))
  go_ret
  exact ⟨rfl, O.below⟩
set_option maxRecDepth 100000 in
set_option maxHeartbeats 4000000 in
theorem provoker_any (s : Shp) (en : Ent) (f : Bool) (w : World) :
    Calls Try.prog 18 #[.agg (sc s en).toArray, .bool f] w fun e w' => e = .returned (.agg (pc (P.prov s f)).toArray) ∧ Below w.heap.size w w' := by
  have O := Held.start w [] (by simp)
  cases f
  · go_enter Try.func18, Try.ntmps18
    go_wp2_with (first | ((with_reducible refine at_box 2 ?_); refine wpList_box_h O (sc s en) rfl ?_; clear O; intro g2 w1 O) | ((with_reducible refine at_alloc 4 ?_); refine wpList_alloc_h O (pc (0, 0)) zero41 ?_; clear O; intro g4 w2 O) | ((with_reducible refine at_load 9 ?_); refine wpList_mid_h rfl O 1 rfl (pc s.la) (fun j v h => by rcases j with _ | _ | j; exact h; exact h; simp [pc] at h) rfl Try.underlying41 rfl size41 ?_) | ((with_reducible refine at_store 4 ?_); refine wpList_put_h O 0 (pc s.la) rfl rfl rfl size41 (rfl) (pc_one _) ?_; clear O; intro w3 O))
    refine bodyPost_ret (v := .agg (pc (P.prov s false)).toArray) (res_h rfl O 0 rfl rfl Try.underlying41 rfl size41) rfl ?_
    exact ⟨rfl, O.below⟩
  · go_enter Try.func18, Try.ntmps18
    go_wp2_with (first | ((with_reducible refine at_box 2 ?_); refine wpList_box_h O (sc s en) rfl ?_; clear O; intro g2 w1 O) | ((with_reducible refine at_alloc 4 ?_); refine wpList_alloc_h O (pc (0, 0)) zero41 ?_; clear O; intro g4 w2 O) | ((with_reducible refine at_load 7 ?_); refine wpList_mid_h rfl O 1 rfl (pc s.fi) (fun j v h => by rcases j with _ | _ | j; exact h; exact h; simp [pc] at h) rfl Try.underlying41 rfl size41 ?_) | ((with_reducible refine at_store 4 ?_); refine wpList_put_h O 0 (pc s.fi) rfl rfl rfl size41 (rfl) (pc_one _) ?_; clear O; intro w3 O))
    refine bodyPost_ret (v := .agg (pc (P.prov s true)).toArray) (res_h rfl O 0 rfl rfl Try.underlying41 rfl size41) rfl ?_
    exact ⟨rfl, O.below⟩
set_option maxRecDepth 100000 in
set_option maxHeartbeats 4000000 in
theorem count_lo (s : Shp) (en : Ent) (n : Int) (hn : n < s.need) (w : World) :
    Calls Try.prog 15 #[.agg (sc s en).toArray, .int .i64 n] w fun e w' => e = .returned (.int .i64 0) ∧ Below w.heap.size w w' := by
  have O := Held.start w [] (by simp)
  go_enter Try.func15, Try.ntmps15
  go_wp2_with (first | ((with_reducible refine at_box 2 ?_); refine wpList_box_h O (sc s en) rfl ?_; clear O; intro g2 w1 O) | ((with_reducible refine at_load 8 ?_); refine wpList_cell_h rfl O 0 rfl (rfl) rfl agg3 rfl ?_) | ((with_reducible refine at_load 12 ?_); refine wpList_cell_h rfl O 0 rfl (rfl) rfl agg3 rfl ?_) | ((with_reducible refine at_load 15 ?_); refine wpList_cell_h rfl O 0 rfl (rfl) rfl agg3 rfl ?_) | ((with_reducible refine at_load 19 ?_); refine wpList_cell_h rfl O 0 rfl (rfl) rfl agg4 rfl ?_))
  go_ret
  exact ⟨rfl, O.below⟩
set_option maxRecDepth 100000 in
set_option maxHeartbeats 4000000 in
theorem count_hi (s : Shp) (en : Ent) (n : Nat) (h1 : s.need ≤ n) (h2 : n ≤ 256) (hm : 0 < s.more) (w : World) :
    Calls Try.prog 15 #[.agg (sc s en).toArray, .int .i64 n] w fun e w' => e = .returned (.int .i64 (P.cnt s n : Nat)) ∧ Below w.heap.size w w' := by
  have O := Held.start w [] (by simp)
  have hd : (n - s.need) / s.more ≤ 256 := Nat.le_trans (Nat.div_le_self _ _) (by omega)
  have q0 : ¬ (n : Int) < s.need := by omega
  have e1 : IntKind.i64.wrap ((n : Int) - s.need) = ((n - s.need : Nat) : Int) := by rw [← Int.natCast_sub h1]; exact IntWalk.i64_in _ (by omega)
  have e2 : Int.tdiv ((n - s.need : Nat) : Int) (s.more : Int) = (((n - s.need) / s.more : Nat) : Int) := tdiv_nat _ _
  have nz : ¬ (s.more : Int) = 0 := by omega
  have hc : P.cnt s n = 1 + (n - s.need) / s.more + (if s.cl then 1 else 0) := by unfold P.cnt; rw [if_neg (by omega)]
  rw [hc]
  generalize (n - s.need) / s.more = q at *
  generalize n - s.need = p at *
  have e3 : IntKind.i64.wrap (1 + (q : Int)) = ((1 + q : Nat) : Int) := by rw [show (1 : Int) + q = ((1 + q : Nat) : Int) by omega]; exact IntWalk.i64_in _ (by omega)
  have e4 : IntKind.i64.wrap (q : Int) = (q : Int) := IntWalk.i64_in _ (by omega)
  have e5 : IntKind.i64.wrap (((1 + q : Nat) : Int) + 1) = ((1 + q + 1 : Nat) : Int) := by rw [show (((1 + q : Nat) : Int)) + 1 = ((1 + q + 1 : Nat) : Int) by omega]; exact IntWalk.i64_in _ (by omega)
  generalize 1 + q = q1 at *
  clear hc h1 h2 hm hd
  obtain ⟨need, more, cs, tu, cl, wh, ed, fi, la⟩ := s
  dsimp only at *
  cases cl
  · go_enter Try.func15, Try.ntmps15
    go_wp2_with (first | ((with_reducible refine at_box 2 ?_); refine wpList_box_h O (sc ⟨need, more, cs, tu, _, wh, ed, fi, la⟩ en) rfl ?_; clear O; intro g2 w1 O) | ((with_reducible refine at_load 8 ?_); refine wpList_cell_h rfl O 0 rfl (rfl) rfl agg3 rfl ?_) | ((with_reducible refine at_load 12 ?_); refine wpList_cell_h rfl O 0 rfl (rfl) rfl agg3 rfl ?_) | ((with_reducible refine at_load 15 ?_); refine wpList_cell_h rfl O 0 rfl (rfl) rfl agg3 rfl ?_) | ((with_reducible refine at_load 19 ?_); refine wpList_cell_h rfl O 0 rfl (rfl) rfl agg4 rfl ?_))
    go_ret
    exact ⟨rfl, O.below⟩
  · go_enter Try.func15, Try.ntmps15
    go_wp2_with (first | ((with_reducible refine at_box 2 ?_); refine wpList_box_h O (sc ⟨need, more, cs, tu, _, wh, ed, fi, la⟩ en) rfl ?_; clear O; intro g2 w1 O) | ((with_reducible refine at_load 8 ?_); refine wpList_cell_h rfl O 0 rfl (rfl) rfl agg3 rfl ?_) | ((with_reducible refine at_load 12 ?_); refine wpList_cell_h rfl O 0 rfl (rfl) rfl agg3 rfl ?_) | ((with_reducible refine at_load 15 ?_); refine wpList_cell_h rfl O 0 rfl (rfl) rfl agg3 rfl ?_) | ((with_reducible refine at_load 19 ?_); refine wpList_cell_h rfl O 0 rfl (rfl) rfl agg4 rfl ?_))
    go_ret
    exact ⟨rfl, O.below⟩
end Go.Proofs.Ytadpejblhkcjgaa
