/- Arguments that came in: sides, vertices, two numbers, lists of sides. -/
import Derived.Test.YtbjbafhlmcnceaaW8
import Derived.Deep.Slices
import Derived.Lib.SmallJoins
import Derived.OpenShut
namespace Go.Proofs.Ytbjbafhlmcnceaa
open Go.ChangeShapes Go.WideShapes Go.ChangeAt Go.RowKit
set_option linter.unusedVariables false
set_option linter.unusedSimpArgs false

theorem o3 : Try.prog.cellsOf 3 = 1 := by kernel_rfl
theorem o22 : Try.prog.cellsOf 22 = 4 := by kernel_rfl
theorem o24 : Try.prog.cellsOf 24 = 5 := by kernel_rfl
theorem o25 : Try.prog.cellsOf 25 = 4 := by kernel_rfl
theorem o27 : Try.prog.cellsOf 27 = 8 := by kernel_rfl
theorem o38 : Try.prog.cellsOf 38 = 2 := by kernel_rfl
theorem ss_inv {l : List (Nat → Int)} {j : Nat} {u : Value} (h : (ss l)[j]? = some u) : ∃ (i : Nat) (x : Nat → Int) (r : Nat), l[i]? = some x ∧ r < 5 ∧ j = i * 5 + r ∧ u = .int .i64 (x r) := by
  have hj : j < l.length * 5 := by rw [← ss_len]; exact (List.getElem?_eq_some_iff.1 h).1
  have hi : j / 5 < l.length := by omega
  refine ⟨j / 5, l[j / 5], j % 5, List.getElem?_eq_getElem hi, by omega, by omega, ?_⟩
  have := ss_at (List.getElem?_eq_getElem hi) (j % 5) _ (M.mat_get (by omega))
  rw [show j / 5 * 5 + j % 5 = j by omega, h] at this
  exact Option.some.inj this
section
variable {H : Type} {enc : TypeId × Value → H} {w : World}
theorem four_of {t fuel : Nat} {cs : List Value} {x : DataW H × List MemPlace} (ht : Try.prog.underlying t = some (.array 4 3)) (ho : Try.prog.cellsOf t = 4) (hf : DataW.trod enc Try.prog w 0 (fun _ => true) true fuel t cs = some x) : ∃ a : Nat → Int, cs = M.mat 4 a := by
  obtain ⟨xs, m, _, _, hlen, hxs, hg⟩ := DataW.trod_array ht hf
  rw [ho] at hlen
  have each : ∀ i, i < 4 → ∃ z : Int, cs[i]? = some (.int .i64 z) := by
    intro i hi
    have g := hg i hi
    obtain ⟨y, hy⟩ : ∃ y, xs[i]? = some y := ⟨_, List.getElem?_eq_getElem (by omega)⟩
    have hil : i < cs.length := by omega
    rw [hy, o3, Nat.mul_one, List.drop_eq_getElem_cons hil, List.take_succ_cons, List.take_zero] at g
    obtain ⟨z, e2, _, _⟩ := DataW.trod_int Try.underlying3 g
    obtain ⟨e2, _⟩ := List.cons.inj e2
    exact ⟨z, by rw [List.getElem?_eq_getElem hil, e2]⟩
  obtain ⟨f, hf'⟩ := Go.Deep.choose_lt each
  refine ⟨f, List.ext_getElem? fun i => ?_⟩
  by_cases hi : i < 4
  · rw [hf' i hi, M.mat_get hi]
  · rw [List.getElem?_eq_none (by omega), List.getElem?_eq_none (by rw [M.mat_len]; omega)]
theorem mat4 (a : Nat → Int) : M.mat 4 a = [.int .i64 (a 0), .int .i64 (a 1), .int .i64 (a 2), .int .i64 (a 3)] := rfl
theorem side_of {fuel : Nat} {cs : List Value} {x : DataW H × List MemPlace} (hf : DataW.trod enc Try.prog w 0 (fun _ => true) true fuel 24 cs = some x) : ∃ a : Nat → Int, cs = M.mat 5 a := by
  obtain ⟨xs, k, _, hx, hlen, hxl, hg⟩ := DataW.trod_struct Try.underlying24 hf
  rw [o24] at hlen
  match cs, hlen with
  | [v0, v1, v2, v3, v4], _ =>
    have g0 := hg 0 _ rfl
    have g1 := hg 1 _ rfl
    simp [o3, o22] at g0 g1
    match xs, hxl with
    | [y0, y1], _ =>
      obtain ⟨m, e0, _, _⟩ := DataW.trod_int Try.underlying3 g0
      simp at e0
      subst e0
      obtain ⟨a, ha⟩ := four_of Try.underlying22 o22 g1
      rw [mat4] at ha
      simp at ha
      obtain ⟨rfl, rfl, rfl, rfl⟩ := ha
      exact ⟨fun i => if i = 0 then m else a (i - 1), rfl⟩
theorem vert_of {fuel : Nat} {cs : List Value} {x : DataW H × List MemPlace} (hf : DataW.trod enc Try.prog w 0 (fun _ => true) true fuel 27 cs = some x) : ∃ a : Nat → Int, cs = M.mat 8 a := by
  obtain ⟨xs, k, _, hx, hlen, hxl, hg⟩ := DataW.trod_struct Try.underlying27 hf
  rw [o27] at hlen
  match cs, hlen with
  | [v0, v1, v2, v3, v4, v5, v6, v7], _ =>
    have g0 := hg 0 _ rfl
    have g1 := hg 1 _ rfl
    have g2 := hg 2 _ rfl
    have g3 := hg 3 _ rfl
    have g4 := hg 4 _ rfl
    simp [o3, o25] at g0 g1 g2 g3 g4
    match xs, hxl with
    | [y0, y1, y2, y3, y4], _ =>
      obtain ⟨m0, e0, _, _⟩ := DataW.trod_int Try.underlying3 g0
      obtain ⟨m1, e1, _, _⟩ := DataW.trod_int Try.underlying3 g1
      obtain ⟨m2, e2, _, _⟩ := DataW.trod_int Try.underlying3 g2
      obtain ⟨m3, e3, _, _⟩ := DataW.trod_int Try.underlying3 g3
      simp at e0 e1 e2 e3
      subst e0 e1 e2 e3
      obtain ⟨a, ha⟩ := four_of Try.underlying25 o25 g4
      rw [mat4] at ha
      simp at ha
      obtain ⟨rfl, rfl, rfl, rfl⟩ := ha
      exact ⟨fun i => if i = 0 then m0 else if i = 1 then m1 else if i = 2 then m2 else if i = 3 then m3 else a (i - 4), rfl⟩
theorem open_sides {fuel : Nat} {v : Value} {x : DataW H × List MemPlace} (hf : DataW.trod enc Try.prog w 0 (fun _ => true) true fuel 33 [v] = some x) (hlt : ∀ p ∈ x.2, p.block < w.heap.size) : ∃ (A : Option Addr) (c : Nat) (l : List (Nat → Int)), v = .slice A l.length c ∧ Lies w free (sE 0 A c l) := by
  rcases Go.Deep.open_slice Try.underlying33 hf with ⟨hcs, hx⟩ | ⟨a, len, cap, m, n, D, Pl, hcs, _, hl, hm, hmm, hx, hi⟩
  · simp at hcs
    subst hcs
    exact ⟨none, 0, [], rfl, Lies.nil⟩
  · simp at hcs
    subst hcs
    simp only [if_true] at hmm
    subst hx
    have each : ∀ i, i < len → ∃ q : Nat → Int, ∀ j, j < 5 → w.cell? (a.add (i * 5 + j)) = some (.int .i64 (q j)) := by
      intro i hil
      obtain ⟨cs, h1, h2⟩ := hi i (by omega)
      rw [o24] at h1
      obtain ⟨_, hlen, hcell⟩ := World.cells?_some h1
      obtain ⟨q, rfl⟩ := side_of h2
      refine ⟨q, fun j hj => ?_⟩
      have := hcell j hj
      rw [add_add', M.mat_get hj] at this
      exact this
    obtain ⟨q, hq⟩ := Go.Deep.choose_lt each
    refine ⟨some a, cap, (List.range len).map q, by simp, ⟨by simp [sE, ss_len], by simpa [sE] using hl, fun h0 => ⟨a, rfl, Nat.zero_le _, ?_, id, fun j u hu => ?_⟩⟩⟩
    · have h0 : 0 < len := by simpa [sE] using h0
      obtain ⟨b, off, spot⟩ := a
      refine hlt (.cell b off) (List.mem_append_left _ (MemPlace.mem_row.2 ⟨0, ?_, by simp⟩))
      rw [o24]; omega
    · obtain ⟨i, y, r, h1, h2, rfl, rfl⟩ := ss_inv hu
      have hil : i < len := by
        have := (List.getElem?_eq_some_iff.1 h1).1
        simpa using this
      have : q i = y := by simpa [hil] using h1
      rw [hq i hil r h2, this]
variable {r : Reach} {b0 : Nat} {v : Value} {d : DataW H} {p : List MemPlace}
theorem openSide (hv : Value.okWide Try.prog w r b0 24 v) (h : DataW.Trod enc Try.prog w 0 (fun _ => true) true 24 v d p) : ∃ a : Nat → Int, v = arr 5 a := by
  obtain ⟨cs, rfl, hsz⟩ := okWide_struct Try.underlying24 hv
  obtain ⟨fuel, hf⟩ := h
  obtain ⟨a, ha⟩ := side_of hf
  refine ⟨a, ?_⟩
  obtain ⟨l⟩ := cs
  have : l = M.mat 5 a := ha
  rw [this]
theorem openVert (hv : Value.okWide Try.prog w r b0 27 v) (h : DataW.Trod enc Try.prog w 0 (fun _ => true) true 27 v d p) : ∃ a : Nat → Int, v = arr 8 a := by
  obtain ⟨cs, rfl, hsz⟩ := okWide_struct Try.underlying27 hv
  obtain ⟨fuel, hf⟩ := h
  obtain ⟨a, ha⟩ := vert_of hf
  refine ⟨a, ?_⟩
  obtain ⟨l⟩ := cs
  have : l = M.mat 8 a := ha
  rw [this]
theorem openTwo (hv : Value.okWide Try.prog w r b0 38 v) (h : DataW.Trod enc Try.prog w 0 (fun _ => true) true 38 v d p) : ∃ a : Nat → Int, v = arr 2 a ∧ ∀ i, i < 2 → -9223372036854775808 ≤ a i ∧ a i < 9223372036854775808 := by
  simp only [Value.okWide, Try.underlying38] at hv
  obtain ⟨cs, rfl, hsz, _⟩ := hv
  obtain ⟨l⟩ := cs
  obtain ⟨fuel, hf⟩ := h
  obtain ⟨xs, m, _, _, hlen, hxs, hg⟩ := DataW.trod_array Try.underlying38 hf
  have hl : l.length = 2 := by simpa [o38] using hsz
  have each : ∀ i, i < 2 → ∃ z : Int, l[i]? = some (.int .i64 z) ∧ (Lit.int .i64 z).wf = true := by
    intro i hi
    have g := hg i hi
    obtain ⟨x, hx⟩ : ∃ x, xs[i]? = some x := ⟨_, List.getElem?_eq_getElem (by omega)⟩
    rw [hx, o3, Nat.mul_one] at g
    have hil : i < l.length := by omega
    have e1 : (Value.cells (.agg l.toArray)).toList.drop i = l[i] :: l.drop (i + 1) := by
      show l.drop i = _
      exact List.drop_eq_getElem_cons hil
    rw [e1, List.take_succ_cons, List.take_zero] at g
    obtain ⟨z, e2, _, w2⟩ := DataW.trod_int Try.underlying3 g
    obtain ⟨e2, _⟩ := List.cons.inj e2
    exact ⟨z, by rw [List.getElem?_eq_getElem hil, e2], w2⟩
  obtain ⟨f, hf'⟩ := Go.Deep.choose_lt each
  refine ⟨f, ?_, fun i hi => wf_rng (hf' i hi).2⟩
  congr 2
  apply List.ext_getElem?
  intro i
  by_cases hi : i < 2
  · rw [(hf' i hi).1, M.mat_get hi]
  · rw [List.getElem?_eq_none (by omega), List.getElem?_eq_none (by rw [M.mat_len]; omega)]
theorem openSides {A : Option Addr} {n c : Nat} (h : DataW.Trod enc Try.prog w 0 (fun _ => true) true 33 (.slice A n c) d p) (hlt : ∀ x ∈ p, x.block < w.heap.size) :
    ∃ (A' : Option Addr) (c' : Nat) (l : List (Nat → Int)), Value.slice A n c = .slice A' l.length c' ∧ Lies w free (sE 0 A' c' l) := by
  obtain ⟨fuel, hf⟩ := h
  exact open_sides (v := .slice A n c) (x := (d, p)) hf hlt
end
end Go.Proofs.Ytbjbafhlmcnceaa
