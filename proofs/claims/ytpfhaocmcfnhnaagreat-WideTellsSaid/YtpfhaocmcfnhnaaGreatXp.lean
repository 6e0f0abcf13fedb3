/- The contracts of the program: Count, At. -/
import Derived.Test.YtpfhaocmcfnhnaaGreatYh
namespace Go.Proofs.YtpfhaocmcfnhnaaGreat
open Go.ChangeShapes Go.WideShapes Go.ChangeAt Go.RowKit
set_option linter.unusedVariables false
set_option linter.unusedSimpArgs false

theorem field_n (a0 a1 b0 b1 t f s n : Int) (w : World) : (Instr.field 78 (.agg #[.int .i64 a0, .int .i64 a1, .int .i64 b0, .int .i64 b1, .int .i64 t, .int .i64 f, .int .i64 s, .int .i64 n]) 5).run Tryz.prog w = .ok (.int .i64 n) w := by kernel_rfl
attribute [local go_sem] field_n
set_option maxRecDepth 100000 in
set_option maxHeartbeats 8000000 in
theorem pcount_any (a b : Nat → Int) (ha : DM.Rg a) (hb : DM.Rg b) (w_ : World) : Calls Tryz.prog 20 #[arr 2 a, arr 2 b] w_ fun e w' => e = .returned (.int .i64 (DM.cnt14 (a 0) (a 1) (b 0) (b 1))) ∧ Below w_.heap.size w_ w' := by
 have O := Own.start w_
 have CM := fun w => measure_any a b ha hb w
 unfold RetM at CM
 obtain ⟨t, ht⟩ : ∃ t, DM.tall (b 0 - a 0) (b 1 - a 1) = t := ⟨_, rfl⟩
 rw [ht] at CM
 simp only [wl] at CM
 clear ht ha hb
 obtain ⟨c, hc⟩ : ∃ z, DM.cnt14 (a 0) (a 1) (b 0) (b 1) = z := ⟨_, rfl⟩
 have HC := Lib.hid hc
 rw [hc]
 clear hc
 go_enter Tryz.func20, Tryz.ntmps20
 go_wp2_with (first | ((with_reducible refine at_box 2 ?_); refine wpList_box_own O (M.mat 2 (a)) rfl ?_; clear O; intro g3 w1 O) | ((with_reducible refine at_box 3 ?_); refine wpList_box_own O (M.mat 2 (b)) rfl ?_; clear O; intro g4 w2 O) | ((with_reducible refine at_load 5 ?_); refine wpList_whole rfl O 1 rfl rfl Tryz.underlying44 rfl (sP _) ?_) | ((with_reducible refine at_load 6 ?_); refine wpList_whole rfl O 0 rfl rfl Tryz.underlying44 rfl (sP _) ?_) | (go_at_call 38; refine (CM _).mono ?_; rintro e w4 ⟨f, s, n, rfl, hL, hb⟩; replace O := O.call hb; clear hb; have HL := Lib.hid hL; clear hL))
 go_ret
 rw [← HC.out, ← HL.out.1]
 exact ⟨rfl, O.below⟩
end Go.Proofs.YtpfhaocmcfnhnaaGreat
