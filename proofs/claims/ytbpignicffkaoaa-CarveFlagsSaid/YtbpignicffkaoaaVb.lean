/- Vertices and flags in memory; as arguments. -/
import Derived.Test.YtbpignicffkaoaaL7
import Derived.Deep.Grids
import Derived.Deep.Slices
import Derived.Lib.SmallJoins
import Derived.OpenShut
namespace Go.Proofs.Ytbpignicffkaoaa
open Go.ChangeShapes Go.WideShapes Go.ChangeAt Go.RowKit
set_option linter.unusedVariables false
set_option linter.unusedSimpArgs false

/-- Vertices in memory. -/
def vC (l : List (Nat → Int)) : List Value := l.flatMap (M.mat 8)
theorem vC_len (l : List (Nat → Int)) : (vC l).length = l.length * 8 := flat_len (M.mat 8) 8 (fun a => M.mat_len 8 a) l
theorem vC_at {l : List (Nat → Int)} {i : Nat} {x : Nat → Int} (h : l[i]? = some x) : ∀ j v, (M.mat 8 x)[j]? = some v → (vC l)[i * 8 + j]? = some v := flat_at (M.mat 8) 8 (fun a => M.mat_len 8 a) h
theorem vC_app (a b : List (Nat → Int)) : vC (a ++ b) = vC a ++ vC b := by simp [vC]
theorem vC_end (a : List (Nat → Int)) (x : Nat → Int) : vC a ++ M.mat 8 x = vC (a ++ [x]) := by simp [vC]
theorem vC_one (l : List (Nat → Int)) : ∀ v ∈ vC l, v.oneCell' = true := by
  intro v hv
  obtain ⟨a, _, ha⟩ := List.mem_flatMap.1 hv
  exact M.mat_one 8 a v ha
def vE (lo : Nat) (A : Option Addr) (c : Nat) (l : List (Nat → Int)) : Ent := ⟨lo, A, l.length, c, 8, vC l⟩
theorem vC_inv {l : List (Nat → Int)} {j : Nat} {u : Value} (h : (vC l)[j]? = some u) : ∃ (i : Nat) (x : Nat → Int) (r : Nat), l[i]? = some x ∧ r < 8 ∧ j = i * 8 + r ∧ u = .int .i64 (x r) := by
  have hj : j < l.length * 8 := by rw [← vC_len]; exact (List.getElem?_eq_some_iff.1 h).1
  have hi : j / 8 < l.length := by omega
  refine ⟨j / 8, l[j / 8], j % 8, List.getElem?_eq_getElem hi, by omega, by omega, ?_⟩
  have := vC_at (List.getElem?_eq_getElem hi) (j % 8) _ (M.mat_get (by omega))
  rw [show j / 8 * 8 + j % 8 = j by omega, h] at this
  exact Option.some.inj this
/-- Flags in memory. -/
def bC (l : List Bool) : List Value := l.map .bool
theorem bC_len (l : List Bool) : (bC l).length = l.length := by simp [bC]
theorem bC_at {l : List Bool} {i : Nat} {x : Bool} (h : l[i]? = some x) : (bC l)[i]? = some (.bool x) := by simp [bC, h]
theorem bC_app (a b : List Bool) : bC (a ++ b) = bC a ++ bC b := by simp [bC]
theorem bC_end (a : List Bool) (x : Bool) : bC a ++ [.bool x] = bC (a ++ [x]) := by simp [bC]
theorem bC_one (l : List Bool) : ∀ v ∈ bC l, v.oneCell' = true := by
  intro v hv
  obtain ⟨a, _, rfl⟩ := List.mem_map.1 hv
  rfl
def bE (lo : Nat) (A : Option Addr) (c : Nat) (l : List Bool) : Ent := ⟨lo, A, l.length, c, 1, bC l⟩
theorem o4 : Try.prog.cellsOf 4 = 1 := by kernel_rfl
section
variable {H : Type} {enc : TypeId × Value → H} {w : World} {t : TypeId}
theorem open_verts (ht : Try.prog.underlying t = some (.slice 39)) {fuel : Nat} {v : Value} {x : DataW H × List MemPlace} (hf : DataW.trod enc Try.prog w 0 (fun _ => true) true fuel t [v] = some x) (hlt : ∀ p ∈ x.2, p.block < w.heap.size) : ∃ (A : Option Addr) (c : Nat) (l : List (Nat → Int)), v = .slice A l.length c ∧ Lies w free (vE 0 A c l) := by
  rcases Go.Deep.open_slice ht hf with ⟨hcs, hx⟩ | ⟨a, len, cap, m, n, D, Pl, hcs, _, hl, hm, hmm, hx, hi⟩
  · simp at hcs
    subst hcs
    exact ⟨none, 0, [], rfl, Lies.nil⟩
  · simp at hcs
    subst hcs
    simp only [if_true] at hmm
    subst hx
    have each : ∀ i, i < len → ∃ q : Nat → Int, ∀ j, j < 8 → w.cell? (a.add (i * 8 + j)) = some (.int .i64 (q j)) := by
      intro i hil
      obtain ⟨cs, h1, h2⟩ := hi i (by omega)
      rw [o27] at h1
      obtain ⟨_, hlen, hcell⟩ := World.cells?_some h1
      obtain ⟨q, rfl⟩ := vert_of h2
      refine ⟨q, fun j hj => ?_⟩
      have := hcell j hj
      rw [add_add', M.mat_get hj] at this
      exact this
    obtain ⟨q, hq⟩ := Go.Deep.choose_lt each
    refine ⟨some a, cap, (List.range len).map q, by simp, ⟨by simp [vE, vC_len], by simpa [vE] using hl, fun h0 => ⟨a, rfl, Nat.zero_le _, ?_, id, fun j u hu => ?_⟩⟩⟩
    · have h0 : 0 < len := by simpa [vE] using h0
      obtain ⟨b, off, spot⟩ := a
      refine hlt (.cell b off) (List.mem_append_left _ (MemPlace.mem_row.2 ⟨0, ?_, by simp⟩))
      rw [o27]; omega
    · obtain ⟨i, y, r, h1, h2, rfl, rfl⟩ := vC_inv hu
      have hil : i < len := by
        have := (List.getElem?_eq_some_iff.1 h1).1
        simpa using this
      have : q i = y := by simpa [hil] using h1
      rw [hq i hil r h2, this]
theorem open_bools (ht : Try.prog.underlying t = some (.slice 4)) {fuel : Nat} {v : Value} {x : DataW H × List MemPlace} (hf : DataW.trod enc Try.prog w 0 (fun _ => true) true fuel t [v] = some x) (hlt : ∀ p ∈ x.2, p.block < w.heap.size) :
    ∃ (A : Option Addr) (c : Nat) (fl : List Bool), v = .slice A fl.length c ∧ Lies w free (bE 0 A c fl) := by
  rcases Go.Deep.open_bools ht Try.underlying4 o4 hf with ⟨hcs, hx⟩ | ⟨a, len, cap, B, hcs, _, hl, hm, hx, hi⟩
  · simp at hcs
    subst hcs
    exact ⟨none, 0, [], rfl, Lies.nil⟩
  · simp at hcs
    subst hcs
    subst hx
    refine ⟨some a, cap, (List.range len).map B, by simp, by simp [bE, bC], by simpa [bE] using hl, fun h0 => ⟨a, rfl, Nat.zero_le _, ?_, id, fun j u hu => ?_⟩⟩
    · have h0' : 0 < cap := by simp [bE] at h0; omega
      obtain ⟨b, off, spot⟩ := a
      exact hlt (.cell b off) (MemPlace.mem_row.2 ⟨0, h0', by simp⟩)
    · have hj : j < len := by
        have := (List.getElem?_eq_some_iff.1 hu).1
        simpa [bE, bC] using this
      rw [hi j (by omega), ← hu]
      simp [bE, bC, hj]
variable {d : DataW H} {p : List MemPlace}
theorem openVerts (ht : Try.prog.underlying t = some (.slice 39)) {A : Option Addr} {n c : Nat} (h : DataW.Trod enc Try.prog w 0 (fun _ => true) true t (.slice A n c) d p) (hlt : ∀ x ∈ p, x.block < w.heap.size) :
    ∃ (A' : Option Addr) (c' : Nat) (l : List (Nat → Int)), Value.slice A n c = .slice A' l.length c' ∧ Lies w free (vE 0 A' c' l) := by
  obtain ⟨fuel, hf⟩ := h
  exact open_verts ht (v := .slice A n c) (x := (d, p)) hf hlt
theorem openBools (ht : Try.prog.underlying t = some (.slice 4)) {A : Option Addr} {n c : Nat} (h : DataW.Trod enc Try.prog w 0 (fun _ => true) true t (.slice A n c) d p) (hlt : ∀ x ∈ p, x.block < w.heap.size) :
    ∃ (A' : Option Addr) (c' : Nat) (fl : List Bool), Value.slice A n c = .slice A' fl.length c' ∧ Lies w free (bE 0 A' c' fl) := by
  obtain ⟨fuel, hf⟩ := h
  exact open_bools ht (v := .slice A n c) (x := (d, p)) hf hlt
end
end Go.Proofs.Ytbpignicffkaoaa
