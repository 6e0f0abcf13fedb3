/- Contract: the program's grown. -/
import Derived.Test.YtpomdghalkphcaaHd
import Derived.Test.YtpomdghalkphcaaHw
namespace Go.Proofs.Ytpomdghalkphcaa
open Go.ChangeShapes Go.WideShapes Go.ChangeAt Go.RowKit
set_option linter.unusedVariables false
set_option linter.unusedSimpArgs false

/-- A row of runs that has grown. -/
def RetG (w0 : World) (g2 : Nat) (d : Nat → Int) (l : List (Nat × Nat)) (e : Ending) (w' : World) : Prop := ∃ A c, e = .returned (.slice A l.length c) ∧ Held w0 w' [(g2, 23, M.mat 3 d)] (tR A c l) []
set_option maxRecDepth 100000 in
set_option maxHeartbeats 8000000 in
theorem grown_nil {w0 w : World} {g2 : Nat} {d : Nat → Int} {A : Option Addr} {c : Nat} (k : Nat) (hk : k ≤ 65536) (O : Held w0 w [(g2, 23, M.mat 3 d)] (tR A c []) []) : Calls Try.prog 21 #[.slice A 0 c, .int .i64 (k : Int)] w (RetG w0 g2 d [(k, k + 1)]) := by
  have W1 : wrap64 ((k : Int) + 1) = (k : Int) + 1 := IntWalk.wrap64_in _ (by omega)
  go_enter Try.func21, Try.ntmps21
  go_wp2_with (first | ((with_reducible refine at_build 24 ?_); refine wpList_build_g rfl ([(0, .int .i64 k), (1, .int .i64 (k + 1))]) ((M.mat 2 (HM.t2 k (k + 1))).toArray) ?_ (builtD _ _) ?_; (focus (simp only [List.map_toArray, List.map_cons, List.map_nil]; rfl))) | ((with_reducible refine at_lit 25 ?_); refine wpList_lit_h rfl O 2 (.agg (M.mat 2 M.zero).toArray) infoD Try.underlying31 [(0, arr 2 (HM.t2 k (k + 1)))] (tC [(k, k + 1)]) rfl (tC_len _) (by decide) (by decide) (by kernel_rfl) ?_; clear O; intro gl u5 O) | ((with_reducible refine at_app 26 ?_); refine wpList_app_big rfl O (.agg (M.mat 2 M.zero).toArray) 16 infoDb rfl (Nat.succ_pos _) Try.underlying31 rfl (tE w0.heap.size (some ⟨gl, 0, none⟩) 1 [(k, k + 1)]) (O.mem List.mem_cons_self) rfl rfl (tC_one _) (by dsimp only [tE, tR]; simp) (by decide) ?_; clear O; intro va u6 O; obtain ⟨TA, Tc, e1, O2⟩ := tR_of (l := []) (m := [(k, k + 1)]) rfl (O.pick (es' := []) (fun y hy => by cases hy)); subst e1; clear O; have O := O2; clear O2))
  go_ret
  exact ⟨TA, Tc, rfl, O⟩
set_option maxRecDepth 100000 in
set_option maxHeartbeats 8000000 in
theorem grown_new {w0 w : World} {g2 : Nat} {d : Nat → Int} {A : Option Addr} {c : Nat} (l : List (Nat × Nat)) (z1 z2 k : Nat) (hk : k ≤ 65536) (hz : z2 < k) (hlen : l.length ≤ 65536) (O : Held w0 w [(g2, 23, M.mat 3 d)] (tR A c (l ++ [(z1, z2)])) []) : Calls Try.prog 21 #[.slice A (l ++ [(z1, z2)]).length c, .int .i64 (k : Int)] w (RetG w0 g2 d (l ++ [(z1, z2)] ++ [(k, k + 1)])) := by
  have hl2 : (l ++ [(z1, z2)]).length = l.length + 1 := by simp
  have HE := Lib.hid (tC_end l (z1, z2))
  have HS := Lib.hid (fun k => tC_on l (z1, z2) k)
  dsimp only at HE HS
  have O9 : Held w0 w [(g2, 23, M.mat 3 d)] ⟨.slice A (l.length + 1) c, 33, 2, l.length + 1, tC (l ++ [(z1, z2)])⟩ [] := by
    rw [← hl2]
    exact O
  clear O
  have O := O9
  clear O9
  rw [hl2]
  have HX := Lib.hid hl2
  clear hl2
  obtain ⟨N, hN⟩ : ∃ N, l.length = N := ⟨_, rfl⟩
  rw [hN] at O HE HS hlen ⊢
  have HN := Lib.hid hN
  clear hN
  have W2 : wrap64 (((N + 1 : Nat) : Int) - 1) = (N : Int) := by rw [show ((N + 1 : Nat) : Int) - 1 = (N : Int) by omega]; exact IntWalk.wrap64_in _ (by omega)
  have W3 : wrap64 ((N : Int) + 1 - 1) = (N : Int) := by rw [show (N : Int) + 1 - 1 = (N : Int) by omega]; exact IntWalk.wrap64_in _ (by omega)
  have W4 : wrap64 (N : Int) = (N : Int) := IntWalk.wrap64_in _ (by omega)
  have p1 : ¬ (N : Int) < 0 := by omega
  have HLEN := Lib.hid hlen
  clear hlen
  have W1 : wrap64 ((k : Int) + 1) = (k : Int) + 1 := IntWalk.wrap64_in _ (by omega)
  have c1 : (z2 : Int) < (k : Int) := by omega
  obtain ⟨LL, hLL⟩ : ∃ LL, l ++ [(z1, z2)] ++ [(k, k + 1)] = LL := ⟨_, rfl⟩
  rw [hLL]
  have HLL := Lib.hid hLL
  clear hLL
  go_enter Try.func21, Try.ntmps21
  go_wp2_with (first | ((with_reducible refine at_index_ 14 ?_); refine wpList_at_h rfl Try.underlying31 sizeOfD _ O.rowLies rfl N rfl (by first | rfl | exact W2 | exact W3 | omega) (by omega) rfl ?_) | ((with_reducible refine at_index_ 15 ?_); refine wpList_ina rfl Try.underlying33 sizeOf3 (by decide) 1 rfl rfl rfl (by decide) ?_) | ((with_reducible refine at_load 16 ?_); refine wpList_ecell_h rfl _ O.rowLies (N * 2 + 1) HE.out (by rw [← adr_two]; rfl) agg3 rfl ?_) | ((with_reducible refine at_build 24 ?_); refine wpList_build_g rfl ([(0, .int .i64 k), (1, .int .i64 (k + 1))]) ((M.mat 2 (HM.t2 k (k + 1))).toArray) ?_ (builtD _ _) ?_; (focus (simp only [List.map_toArray, List.map_cons, List.map_nil]; rfl))) | ((with_reducible refine at_lit 25 ?_); refine wpList_lit_h rfl O 2 (.agg (M.mat 2 M.zero).toArray) infoD Try.underlying31 [(0, arr 2 (HM.t2 k (k + 1)))] (tC [(k, k + 1)]) rfl (tC_len _) (by decide) (by decide) (by kernel_rfl) ?_; clear O; intro gl u5 O) | ((with_reducible refine at_app 26 ?_); refine wpList_app_big rfl O (.agg (M.mat 2 M.zero).toArray) 16 infoDb rfl (Nat.succ_pos _) Try.underlying31 rfl (tE w0.heap.size (some ⟨gl, 0, none⟩) 1 [(k, k + 1)]) (O.mem List.mem_cons_self) rfl rfl (tC_one _) (by have h8 := HLEN.out; show N + 1 + 1 ≤ 1000000; omega) (by decide) ?_; clear O; intro va u6 O; obtain ⟨TA, Tc, e1, O2⟩ := tR_of (l := l ++ [(z1, z2)]) (m := [(k, k + 1)]) (by show N + 1 + 1 = (l ++ [(z1, z2)]).length + 1; rw [List.length_append, HN.out]; rfl) (O.pick (es' := []) (fun y hy => by cases hy)); subst e1; clear O; have O := O2; clear O2))
  go_ret
  exact ⟨TA, Tc, by rw [← HLL.out]; simp, by rw [← HLL.out]; exact O⟩
set_option maxRecDepth 100000 in
set_option maxHeartbeats 8000000 in
theorem grown_on {w0 w : World} {g2 : Nat} {d : Nat → Int} {A : Option Addr} {c : Nat} (l : List (Nat × Nat)) (z1 z2 k : Nat) (hk : k ≤ 65536) (hz : z2 = k) (hlen : l.length ≤ 65536) (O : Held w0 w [(g2, 23, M.mat 3 d)] (tR A c (l ++ [(z1, z2)])) []) : Calls Try.prog 21 #[.slice A (l ++ [(z1, z2)]).length c, .int .i64 (k : Int)] w (RetG w0 g2 d (l ++ [(z1, z2 + 1)])) := by
  subst hz
  have hl2 : (l ++ [(z1, z2)]).length = l.length + 1 := by simp
  have HE := Lib.hid (tC_end l (z1, z2))
  have HS := Lib.hid (fun k => tC_on l (z1, z2) k)
  dsimp only at HE HS
  have O9 : Held w0 w [(g2, 23, M.mat 3 d)] ⟨.slice A (l.length + 1) c, 33, 2, l.length + 1, tC (l ++ [(z1, z2)])⟩ [] := by
    rw [← hl2]
    exact O
  clear O
  have O := O9
  clear O9
  rw [hl2]
  have HX := Lib.hid hl2
  clear hl2
  obtain ⟨N, hN⟩ : ∃ N, l.length = N := ⟨_, rfl⟩
  rw [hN] at O HE HS hlen ⊢
  have HN := Lib.hid hN
  clear hN
  have W2 : wrap64 (((N + 1 : Nat) : Int) - 1) = (N : Int) := by rw [show ((N + 1 : Nat) : Int) - 1 = (N : Int) by omega]; exact IntWalk.wrap64_in _ (by omega)
  have W3 : wrap64 ((N : Int) + 1 - 1) = (N : Int) := by rw [show (N : Int) + 1 - 1 = (N : Int) by omega]; exact IntWalk.wrap64_in _ (by omega)
  have W4 : wrap64 (N : Int) = (N : Int) := IntWalk.wrap64_in _ (by omega)
  have p1 : ¬ (N : Int) < 0 := by omega
  have HLEN := Lib.hid hlen
  clear hlen
  have c1 : ¬ (z2 : Int) < (z2 : Int) := by omega
  have IW1 : Hid (IntKind.i64.wrap ((z2 : Int) + 1) = (z2 : Int) + 1) := Lib.hid (IntWalk.i64_in _ (by omega))
  go_enter Try.func21, Try.ntmps21
  go_wp2_with (first | ((with_reducible refine at_index_ 14 ?_); refine wpList_at_h rfl Try.underlying31 sizeOfD _ O.rowLies rfl N rfl (by first | rfl | exact W2 | exact W3 | omega) (by omega) rfl ?_) | ((with_reducible refine at_index_ 15 ?_); refine wpList_ina rfl Try.underlying33 sizeOf3 (by decide) 1 rfl rfl rfl (by decide) ?_) | ((with_reducible refine at_load 16 ?_); refine wpList_ecell_h rfl _ O.rowLies (N * 2 + 1) HE.out (by rw [← adr_two]; rfl) agg3 rfl ?_))
  try simp only [W2, W3, W4]
  have OO := O
  clear O
  have O := OO
  clear OO
  refine region_T ((fun w2 => Held w0 w2 [(g2, 23, M.mat 3 d)] ⟨.slice A (N + 1) c, 33, 2, N + 1, tC (l ++ [(z1, z2)])⟩ [])) [0, 1, 2, 3, 4, 5, 6, 7] 12 [some 27, some 28, some 29, some 30, some 31, some 32, some 33, some 34] [.slice A (N + 1) c, .int .i64 (N : Int), .pointer (some ((adr A).add (N * 2))), .pointer (some ((adr A).add (N * 2 + 1))), .int .i64 (z2 : Int), .int .i64 ((z2 : Int) + 1), .pointer (some ((adr A).add (N * 2))), .pointer (some ((adr A).add (N * 2 + 1)))] 1 (by kernel_rfl) (by rfl) (by kernel_rfl) (by rfl) (by rfl) (O.drew) (fun F hF => ?_)
  simp only [fillD, Act.put, List.setIfInBounds_toArray, List.set_cons_zero, List.set_cons_succ] at hF
  subst hF
  refine ⟨⟨does_want rfl (by rfl) (fun w' O K hK => ?_), does_want rfl (by rfl) (fun w' O K hK => ?_), does_want rfl (by rfl) (fun w' O K hK => ?_), does_want rfl (by rfl) (fun w' O K hK => ?_), does_want rfl (by rfl) (fun w' O K hK => ?_), does_want rfl (by rfl) (fun w' O K hK => ?_), does_want rfl (by rfl) (fun w' O K hK => ?_), does_want rfl (by rfl) (fun w' O K hK => ?_), trivial⟩, fun w' O => ?_⟩
  · go_simp
    exact hK _ O
  · go_simp
    exact hK _ O
  · exact wp_at_h Try.underlying31 sizeOfD _ O.rowLies rfl N rfl rfl (by omega) rfl (hK _ O)
  · exact wp_ina Try.underlying33 sizeOf3 (by decide) 1 rfl rfl rfl (by decide) (by rw [adr_two]; exact hK _ O)
  · exact wp_ecell_h _ O.rowLies (N * 2 + 1) HE.out rfl agg3 rfl (hK _ O)
  · go_simp
    first | exact hK _ O | (rw [IW1.out]; exact hK _ O) | (simp only [IW1.out]; exact hK _ O)
  · exact wp_at_h Try.underlying31 sizeOfD _ O.rowLies rfl N rfl rfl (by omega) rfl (hK _ O)
  · exact wp_ina Try.underlying33 sizeOf3 (by decide) 1 rfl rfl rfl (by decide) (by rw [adr_two]; exact hK _ O)
  refine wpAny_want (i := 8) (by kernel_rfl) rfl (by rfl) (fun K hK => ?_)
  refine wp_rowset_h O (N * 2 + 1) (.int .i64 ((z2 : Int) + 1)) (List.getElem?_eq_some_iff.1 HE.out).1 rfl rfl size3 rfl rfl fun w9 O9 => hK _ _ ?_
  clear O
  have O := O9
  clear O9
  clear hK K
  try simp only [Act.put, List.setIfInBounds_toArray, List.set_cons_zero, List.set_cons_succ]
  refine wpAny_done (by kernel_rfl) ?_ _
  have O2 : Held w0 w9 [(g2, 23, M.mat 3 d)] (tR A c (l ++ [(z1, z2 + 1)])) [] := by
    have h5 := O
    rw [show (.int .i64 ((z2 : Int) + 1) : Value) = .int .i64 ((z2 + 1 : Nat) : Int) from rfl, HS.out (z2 + 1)] at h5
    unfold tR
    rw [List.length_append, HN.out]
    exact h5
  clear O
  have O := O2
  clear O2
  go_wp2_with fail
  go_ret
  exact ⟨A, c, by rw [List.length_append, HN.out]; rfl, O⟩
end Go.Proofs.Ytpomdghalkphcaa
