/- Contract of the document's Small. -/
import Derived.Test.YtbjbafhlmcnceaaBase
namespace Go.Proofs.Ytbjbafhlmcnceaa
open Go.ChangeShapes Go.WideShapes Go.ChangeAt Go.RowKit
set_option linter.unusedVariables false
theorem rsmall_any (h l : Int) (b : M.B h l) (w : World) :
    Calls Try.prog 31 #[.agg #[.int .i64 h, .int .u64 l]] w fun e w' => e = .returned (.tuple #[.int .i64 (M.smv (M.val h l)), .bool (M.fits (M.val h l))]) ∧ Below w.heap.size w w' := by
  obtain ⟨n, hn⟩ : ∃ n, wrap64 l = n := ⟨_, rfl⟩
  have hl : -9223372036854775808 ≤ n ∧ n < 9223372036854775808 := by rw [← hn]; unfold wrap64; omega
  have H := Lib.hid (M.small_of b (by rw [← hn]; unfold wrap64; rfl : (l + 9223372036854775808) % 18446744073709551616 - 9223372036854775808 = n))
  have c := rof_any n hl.1 hl.2
  have hn2 : IntKind.i64.wrap l = n := by rw [IntWalk.i64_left]; exact hn
  clear hl b
  generalize M.oh n = p at *
  generalize M.ol n = q at *
  by_cases hpq : h = p ∧ l = q
  · obtain ⟨h1, h2⟩ := hpq
    have k1 : (p == h) = true := by simp [h1]
    have k2 : (q == l) = true := by simp [h2]
    have HH := Lib.hid (H.out.1 h1 h2)
    clear h1 h2 H
    go_enter Try.func31, Try.ntmps31
    go_wp2_with fail
    go_region_held3 (fun w' => w'.cell? ⟨w.heap.size, 0, none⟩ = some (.int .i64 h) ∧ w'.cell? ⟨w.heap.size, 1, none⟩ = some (.int .u64 l)) (go_keep)
      ((go_at_call 29; refine (c _).mono ?_; rintro e w' ⟨rfl, hb⟩; obtain ⟨hc, hf⟩ := bcell hb))
    all_goals go_wp2
    all_goals go_ret2
    all_goals exact ⟨ret1b (by rw [M.smv_yes HH.out.1]; exact HH.out.2) HH.out.1.symm, bb1 hb (by simp)⟩
  · have HH := Lib.hid (H.out.2 hpq)
    have k0 : (p == h) = false ∨ ((p == h) = true ∧ (q == l) = false) := by
      by_cases g : p = h
      · right; refine ⟨by simp [g], ?_⟩; simp; intro e; exact hpq ⟨g.symm, e.symm⟩
      · left; simpa using g
    clear hpq H
    rcases k0 with k1 | ⟨k1, k2⟩
    all_goals
      go_enter Try.func31, Try.ntmps31
      go_wp2_with fail
      go_region_held3 (fun w' => w'.cell? ⟨w.heap.size, 0, none⟩ = some (.int .i64 h) ∧ w'.cell? ⟨w.heap.size, 1, none⟩ = some (.int .u64 l)) (go_keep)
        ((go_at_call 29; refine (c _).mono ?_; rintro e w' ⟨rfl, hb⟩; obtain ⟨hc, hf⟩ := bcell hb))
      all_goals go_wp2
      all_goals go_ret2
      all_goals exact ⟨ret1b (M.smv_no HH.out).symm HH.out.symm, bb1 hb (by simp)⟩
end Go.Proofs.Ytbjbafhlmcnceaa
