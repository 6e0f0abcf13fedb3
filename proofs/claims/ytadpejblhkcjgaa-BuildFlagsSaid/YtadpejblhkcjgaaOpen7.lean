/- Arguments that came in: flags. -/
import Derived.Test.YtadpejblhkcjgaaD7
import Derived.Deep.Grids
import Derived.Lib.SmallJoins
import Derived.OpenShut
namespace Go.Proofs.Ytadpejblhkcjgaa
open Go.ChangeShapes Go.WideShapes Go.ChangeAt Go.RowKit
set_option linter.unusedVariables false
set_option linter.unusedSimpArgs false

theorem o4 : Try.prog.cellsOf 4 = 1 := by kernel_rfl
section
variable {H : Type} {enc : TypeId × Value → H} {w : World}
theorem open_flags {fuel : Nat} {v : Value} {x : DataW H × List MemPlace} (hf : DataW.trod enc Try.prog w 0 (fun _ => true) true fuel 22 [v] = some x) (hlt : ∀ p ∈ x.2, p.block < w.heap.size) :
    ∃ (A : Option Addr) (c : Nat) (fl : List Bool), v = .slice A fl.length c ∧ Lies w free (bE 0 A c fl) := by
  rcases Go.Deep.open_bools Try.underlying22 Try.underlying4 o4 hf with ⟨hcs, hx⟩ | ⟨a, len, cap, B, hcs, _, hl, hm, hx, hi⟩
  · simp at hcs
    subst hcs
    exact ⟨none, 0, [], rfl, Lies.nil⟩
  · simp at hcs
    subst hcs
    subst hx
    refine ⟨some a, cap, (List.range len).map B, by simp, by simp [bE, bools], by simpa [bE] using hl, fun h0 => ⟨a, rfl, Nat.zero_le _, ?_, id, fun j u hu => ?_⟩⟩
    · have h0' : 0 < cap := by simp [bE] at h0; omega
      obtain ⟨b, off, spot⟩ := a
      exact hlt (.cell b off) (MemPlace.mem_row.2 ⟨0, h0', by simp⟩)
    · have hj : j < len := by
        have := (List.getElem?_eq_some_iff.1 hu).1
        simpa [bE, bools] using this
      rw [hi j (by omega), ← hu]
      simp [bE, bools, hj]
theorem openFlags {A : Option Addr} {n c : Nat} {d : DataW H} {ps : List MemPlace} (h : DataW.Trod enc Try.prog w 0 (fun _ => true) true 22 (.slice A n c) d ps) (hlt : ∀ p ∈ ps, p.block < w.heap.size) :
    ∃ (A' : Option Addr) (c' : Nat) (fl : List Bool), Value.slice A n c = .slice A' fl.length c' ∧ Lies w free (bE 0 A' c' fl) := by
  obtain ⟨fuel, hf⟩ := h
  exact open_flags (v := .slice A n c) (x := (d, ps)) hf hlt
end
end Go.Proofs.Ytadpejblhkcjgaa
