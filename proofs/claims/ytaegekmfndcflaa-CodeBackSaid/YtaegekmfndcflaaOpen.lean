/- Arguments that came in: numbers, a command, commands. -/
import Derived.Test.YtaegekmfndcflaaCut
import Derived.Deep.Slices
import Derived.Lib.SmallJoins
namespace Go.Proofs.Ytaegekmfndcflaa
open Go.ChangeShapes Go.WideShapes Go.ChangeAt Go.RowKit
set_option linter.unusedVariables false
set_option linter.unusedSimpArgs false

theorem cells3 : Try.prog.cellsOf 3 = 1 := by kernel_rfl
theorem cells28 : Try.prog.cellsOf 28 = 1 := by kernel_rfl
theorem cells30 : Try.prog.cellsOf 30 = 2 := by kernel_rfl
section
variable {H : Type} {enc : TypeId × Value → H} {w : World}
/-- A slice of numbers. -/
theorem open_nums {fuel : Nat} {v : Value} {x : DataW H × List MemPlace} (hf : DataW.trod enc Try.prog w 0 (fun _ => true) true fuel 28 [v] = some x) (hlt : ∀ p ∈ x.2, p.block < w.heap.size) :
    ∃ (A : Option Addr) (c : Nat) (l : List Int), v = .slice A l.length c ∧ l.length ≤ c ∧ c ≤ 9223372036854775807 ∧ Reads w w.heap.size 1 A l.length (ints l) := by
  rcases open_ints Try.underlying28 Try.underlying3 cells3 hf with ⟨hcs, hx⟩ | ⟨a, len, cap, zs, hcs, _, hl, hm, hz, hx, hcell, hwz⟩
  · simp at hcs
    subst hcs
    exact ⟨none, 0, [], rfl, Nat.le_refl _, by omega, Reads.none_⟩
  · simp at hcs
    subst hcs
    simp only [if_true] at hz
    subst hx
    refine ⟨some a, cap, zs.take len, by rw [List.length_take, hz, Nat.min_eq_left hl], by rw [List.length_take]; omega, by unfold maxLen at hm; omega, ⟨ints_len _, fun h0 => ⟨a, rfl, ?_, fun j u hu => ?_⟩⟩⟩
    · have hz0 : 0 < zs.length := by rw [List.length_take] at h0; omega
      obtain ⟨b, off, spot⟩ := a
      exact hlt (.cell b off) (MemPlace.mem_row.2 ⟨0, hz0, by simp⟩)
    · have hj : j < len ∧ j < zs.length := by
        have := (List.getElem?_eq_some_iff.1 hu).1
        simp [ints] at this
        omega
      rw [hcell j hj.2]
      rw [← hu]
      simp [ints, hj.1, hj.2, List.getD]
/-- Pairs of cells. -/
def two (l : List (Value × Value)) : List Value := l.flatMap fun p => [p.1, p.2]
theorem two_len : ∀ l : List (Value × Value), (two l).length = l.length * 2
  | [] => rfl
  | p :: l => by
    show (p.1 :: p.2 :: two l : List Value).length = _
    simp [two_len l]; omega
theorem two_at : ∀ {l : List (Value × Value)} {i : Nat} (h : i < l.length), (two l)[i * 2]? = some l[i].1 ∧ (two l)[i * 2 + 1]? = some l[i].2
  | p :: l, 0, _ => ⟨rfl, rfl⟩
  | p :: l, i + 1, h => by
    have := two_at (l := l) (i := i) (by simpa using h)
    have e : two (p :: l) = p.1 :: p.2 :: two l := rfl
    rw [e, show (i + 1) * 2 = i * 2 + 1 + 1 by omega]
    simpa using this
theorem two_all {l : List (Value × Value)} {j : Nat} {u : Value} (h : (two l)[j]? = some u) : ∃ i, ∃ hi : i < l.length, (j = i * 2 ∧ u = l[i].1) ∨ (j = i * 2 + 1 ∧ u = l[i].2) := by
  have hj := (List.getElem?_eq_some_iff.1 h).1
  rw [two_len] at hj
  have hi : j / 2 < l.length := by omega
  obtain ⟨h1, h2⟩ := two_at hi
  rcases Nat.mod_two_eq_zero_or_one j with q | q
  · have e : j = j / 2 * 2 := by omega
    rw [← e, h] at h1
    exact ⟨j / 2, hi, .inl ⟨e, Option.some.inj h1⟩⟩
  · have e : j = j / 2 * 2 + 1 := by omega
    rw [← e, h] at h2
    exact ⟨j / 2, hi, .inr ⟨e, Option.some.inj h2⟩⟩
/-- A command's fields. -/
theorem open_fields {fuel : Nat} {cs : List Value} {x : DataW H × List MemPlace} (hf : DataW.trod enc Try.prog w 0 (fun _ => true) true fuel 30 cs = some x) (hlt : ∀ p ∈ x.2, p.block < w.heap.size) :
    ∃ (op : Int) (A : Option Addr) (c : Nat) (l : List Int), cs = [.int .i64 op, .slice A l.length c] ∧ l.length ≤ c ∧ c ≤ 9223372036854775807 ∧ Reads w w.heap.size 1 A l.length (ints l) := by
  obtain ⟨xs, k, _, hx, hlen, hxl, hg⟩ := DataW.trod_struct Try.underlying30 hf
  rw [cells30] at hlen
  match cs, hlen with
  | [v0, v1], _ =>
    have g0 := hg 0 _ rfl
    have g1 := hg 1 _ rfl
    simp [cells3, cells28] at g0 g1
    match xs, hxl with
    | [y0, y1], _ =>
      obtain ⟨n0, e0, _, _⟩ := DataW.trod_int Try.underlying3 g0
      simp at e0
      subst e0
      simp at g1
      obtain ⟨A, c, l, rfl, h1, h2, h3⟩ := open_nums g1 (fun p hp => hlt p (by rw [hx]; simp; exact .inr hp))
      exact ⟨n0, A, c, l, rfl, h1, h2, h3⟩
/-- A slice of commands. -/
theorem open_recs {fuel : Nat} {v : Value} {x : DataW H × List MemPlace} (hf : DataW.trod enc Try.prog w 0 (fun _ => true) true fuel 34 [v] = some x) (hlt : ∀ p ∈ x.2, p.block < w.heap.size) :
    ∃ (A : Option Addr) (c : Nat) (out : List P.Rec), v = .slice A out.length c ∧ out.length ≤ c ∧ c ≤ 9223372036854775807 ∧ RecsAt w w.heap.size A out := by
  rcases Go.Deep.open_slice Try.underlying34 hf with ⟨hcs, hx⟩ | ⟨a, len, cap, m, n, D, Pl, hcs, _, hl, hm, hmm, hx, hi⟩
  · simp at hcs
    subst hcs
    exact ⟨none, 0, [], rfl, Nat.le_refl _, by omega, [], Reads.none_, RecCells.nil⟩
  · simp at hcs
    subst hcs
    simp only [if_true] at hmm
    subst hx
    have each : ∀ i, i < len → ∃ q : P.Rec × Value, w.cell? (a.add (i * 2)) = some (.int .i64 q.1.1) ∧ w.cell? (a.add (i * 2 + 1)) = some q.2 ∧ Sub w w.heap.size none q.2 q.1.2 := by
      intro i hil
      obtain ⟨cs, h1, h2⟩ := hi i (by omega)
      rw [cells30] at h1
      obtain ⟨_, hlen, hcell⟩ := World.cells?_some h1
      obtain ⟨op, A, c, l, rfl, _, _, h3⟩ := open_fields h2 (fun p hp => hlt p (List.mem_append_right _ (List.mem_flatMap.2 ⟨i, List.mem_range.2 (by omega), hp⟩)))
      have f0 := hcell 0 (by omega)
      have f1 := hcell 1 (by omega)
      rw [add_add'] at f0 f1
      exact ⟨((op, l), .slice A l.length c), by simpa using f0, by simpa using f1, A, c, rfl, h3, fun _ _ _ => by simp⟩
    obtain ⟨q, hq⟩ := Go.Deep.choose_lt each
    have cs : List Value := []
    let L : List (Value × Value) := (List.range len).map fun i => (.int .i64 (q i).1.1, (q i).2)
    have hL : L.length = len := by simp [L]
    refine ⟨some a, cap, (List.range len).map fun i => (q i).1, by simp, by simpa using hl, by unfold maxLen at hm; omega, two L, ⟨by rw [two_len, hL]; simp, fun h0 => ⟨a, rfl, ?_, fun j u hu => ?_⟩⟩, ⟨by rw [two_len, hL]; simp, fun i h => ?_⟩⟩
    · have h0' : 0 < len := by simpa using h0
      obtain ⟨b, off, spot⟩ := a
      refine hlt (.cell b off) (List.mem_append_left _ (MemPlace.mem_row.2 ⟨0, ?_, by simp⟩))
      rw [cells30]; omega
    · obtain ⟨i, hi', h | h⟩ := two_all hu
      · obtain ⟨rfl, rfl⟩ := h
        rw [(hq i (by omega)).1]
        simp [L]
      · obtain ⟨rfl, rfl⟩ := h
        rw [(hq i (by omega)).2.1]
        simp [L]
    · have hil : i < len := by simpa using h
      obtain ⟨t1, t2⟩ := two_at (l := L) (i := i) (by omega)
      rw [t1, t2]
      refine ⟨by simp [L], _, rfl, ?_⟩
      have := (hq i hil).2.2
      simpa [L] using this
end
end Go.Proofs.Ytaegekmfndcflaa
