/- Contract of the law's same, of two slices that hold the same numbers; the closure that plays. -/
import Derived.Test.YtlggclehakcdaaaPlayR
namespace Go.Proofs.Ytlggclehakcdaaa
open Go.ChangeShapes Go.WideShapes Go.ChangeAt Go.RowKit
set_option linter.unusedVariables false
set_option linter.unusedSimpArgs false

set_option maxHeartbeats 1000000 in
theorem same_any (A B : Option Addr) (c d : Nat) (L : List Int) (w : World) (hA : Reads w w.heap.size 1 A L.length (ints L)) (hB : Reads w w.heap.size 1 B L.length (ints L)) (hl : L.length ≤ 2000) :
    Calls Try.prog 11 #[.slice A L.length c, .slice B L.length d] w fun e w' => e = .returned (.bool true) ∧ Below w.heap.size w w' := by
  have b0 : (L.length : Int) ≤ 2000 := by omega
  go_enter Try.func11, Try.ntmps11
  go_wp2_with fail
  go_loopw [5] (fun t wr => ∃ i : Nat, t = .int .i64 i ∧ i ≤ L.length ∧ Below w.heap.size w wr) (fun t _ => L.length - (intOf t).toNat)
  case atStart => exact ⟨0, rfl, by omega, Below.refl _ _⟩
  case round =>
    obtain ⟨i, rfl, hi, hT⟩ := hrel
    have q0 : (0 : Int) ≤ (i : Int) := by omega
    by_cases hlt : i < L.length
    · obtain ⟨ad, x, rfl, _, hx, hcx⟩ := (hA.below hT).at_ hlt
      obtain ⟨bd, y, rfl, _, hy, hcy⟩ := (hB.below hT).at_ hlt
      rw [ints_at hlt] at hx hy
      cases hx
      cases hy
      have q : (i : Int) < (L.length : Int) := by omega
      generalize L.getD i 0 = z at *
      clear hA hB
      go_wp2_with fail
      go_quiet (fail)
      go_wp2_with fail
      exact ⟨⟨i + 1, rfl, by omega, bdrewN hT _⟩, by simp [intOf]; omega⟩
    · have q : ¬ (i : Int) < (L.length : Int) := by omega
      clear hA hB
      go_wp2_with fail
      go_ret
      exact ⟨rfl, hT⟩
theorem c8 (A : Option Addr) (len cap : Nat) (p1 p3 : Addr) (o : Option Int) (w : World) (R : World → Prop) (h1 : w.cell? p1 = some (.slice A len cap))
    (h : Calls Try.prog 9 #[.slice A len cap, .pointer (some p3)] w fun e w' => e = Ends o ∧ R w') :
    Calls Try.prog 8 #[.pointer (some p1), .pointer (some p3)] w fun e w' => e = Ends o ∧ R w' := by
  rcases o with _ | n
  · go_enter Try.func8, Try.ntmps8
    go_wp2_with fail
    refine h.mono ?_
    rintro e w1 ⟨he, hR⟩
    have he : e = .returned (.tuple #[]) := he
    subst he
    go_wp2_with fail
    first | go_end0 | refine bodyPost_ret (results_none rfl _ _ _) rfl ?_
    exact ⟨rfl, hR⟩
  · go_enter Try.func8, Try.ntmps8
    go_wp2_with fail
    refine h.mono ?_
    rintro e w1 ⟨he, hR⟩
    have he : e = .panicked [{ v := .iface 40 (.int .i64 n), recovered := false }] := he
    subst he
    go_wp2_with fail
    exact ⟨rfl, rfl, hR⟩
end Go.Proofs.Ytlggclehakcdaaa
