/- Contract of the law's own examples. -/
import Derived.Test.YtaegekmfndcflaaGet
namespace Go.Proofs.Ytaegekmfndcflaa
open Go.ChangeShapes Go.WideShapes Go.ChangeAt Go.RowKit
set_option linter.unusedVariables false
set_option linter.unusedSimpArgs false

/-- A list that has just been laid. -/
theorem new_ints (w : World) (l : List Int) : Reads (w.alloc (.cells (ints l).toArray 3)) (w.alloc (.cells (ints l).toArray 3)).heap.size 1 (some ⟨w.heap.size, 0, none⟩) l.length (ints l) where
  len := ints_len l
  lies := fun _ => ⟨_, rfl, by simp, fun j z hz => by
    rw [add_zero_block]
    exact (new_cell (W := w) rfl _ 3 j).trans (by simpa using hz)⟩
set_option maxHeartbeats 2000000 in
theorem awake_any (w : World) : Calls Try.prog 14 #[] w fun e w' => e = .returned (.bool true) ∧ Below w.heap.size w w' := by
  have T1 := get_code (some ⟨w.heap.size, 0, none⟩) [15, 1, 18] 3 (w.alloc (.cells (ints [15, 1, 18]).toArray 3)) (new_ints w _) (by simp)
  rw [P.get_ex1] at T1
  have T2 := fun w' => get_code (some ⟨w'.heap.size, 0, none⟩) [18, 15] 2 (w'.alloc (.cells (ints [18, 15]).toArray 3)) (new_ints w' _) (by simp)
  rw [P.get_ex2] at T2
  have T3 := fun w' => right_code 19 [65] (some ⟨w'.heap.size, 0, none⟩) 1 (w'.alloc (.cells (ints [65]).toArray 3)) (new_ints w' _)
  rw [P.right_ex] at T3
  have K0 : Below w.heap.size w (w.alloc (.cells (ints [15, 1, 18]).toArray 3)) := (Below.refl _ w).alloc (Nat.le_refl _) _
  go_enter Try.func14, Try.ntmps14
  go_wp2_with fail
  refine T1.mono ?_
  rintro e w1 ⟨A, c, rfl, hr, hb⟩
  have K1 := K0.trans (hb.mono K0.size)
  clear T1 hb K0
  go_wp2_with fail
  refine (T2 _).mono ?_
  rintro e w2 ⟨A2, c2, rfl, hr2, hb2⟩
  have B2 : Below w1.heap.size w1 (w1.alloc (.cells (ints [18, 15]).toArray 3)) := (Below.refl _ w1).alloc (Nat.le_refl _) _
  have hr' := hr.below (B2.trans (hb2.mono B2.size))
  have K2 := K1.trans ((B2.trans (hb2.mono B2.size)).mono K1.size)
  clear T2 hb2 hr hr2 B2 K1
  obtain ⟨ad, A', c', rfl, lt1, e1, _, _⟩ := hr'.at_ (i := 0) (by simp)
  obtain ⟨ad2, A'', c'', h2, lt2, e2, _, _⟩ := hr'.at_ (i := 1) (by simp)
  cases h2
  have e1 : w2.cell? ad = some (.int .i64 15) := by simpa [Addr.add] using e1
  have e2 : w2.cell? ⟨ad.block, ad.off + 2, none⟩ = some (.int .i64 18) := by simpa [Addr.add] using e2
  have B3 : Below w2.heap.size w2 (w2.alloc (.cells (ints [65]).toArray 3)) := (Below.refl _ w2).alloc (Nat.le_refl _) _
  have K3 := K2.trans (B3.mono K2.size)
  clear hr' lt1 lt2
  go_wp2_with fail
  refine (T3 _).mono ?_
  rintro e w3 ⟨rfl, hb3⟩
  have K4 := K3.trans (hb3.mono K3.size)
  clear T3 hb3
  go_wp2_with fail
  go_ret
  exact ⟨rfl, K4⟩
end Go.Proofs.Ytaegekmfndcflaa
