/- Arguments that came in: matrices, lists of matrices, stacks, lists of calls. -/
import Derived.Test.YthcieapfpgejdaaW22
import Derived.Deep.Slices
import Derived.Lib.SmallJoins
import Derived.OpenShut
namespace Go.Proofs.Ythcieapfpgejdaa
open Go.ChangeShapes Go.WideShapes Go.ChangeAt Go.RowKit
set_option linter.unusedVariables false
set_option linter.unusedSimpArgs false

theorem o3 : Try.prog.cellsOf 3 = 1 := by kernel_rfl
theorem o22 : Try.prog.cellsOf 22 = 1 := by kernel_rfl
theorem o23 : Try.prog.cellsOf 23 = 2 := by kernel_rfl
theorem o25 : Try.prog.cellsOf 25 = 3 := by kernel_rfl
theorem o27 : Try.prog.cellsOf 27 = 16 := by kernel_rfl
theorem o43 : Try.prog.cellsOf 43 = 18 := by kernel_rfl
theorem M.cells_inv {l : List (Nat → Int)} {j : Nat} {u : Value} (h : (M.cells l)[j]? = some u) : ∃ (i : Nat) (x : Nat → Int) (r : Nat), l[i]? = some x ∧ r < 16 ∧ j = i * 16 + r ∧ u = .int .i64 (x r) := by
  have hj : j < l.length * 16 := by rw [← M.cells_len]; exact (List.getElem?_eq_some_iff.1 h).1
  have hi : j / 16 < l.length := by omega
  refine ⟨j / 16, l[j / 16], j % 16, List.getElem?_eq_getElem hi, by omega, by omega, ?_⟩
  have := M.cells_at (List.getElem?_eq_getElem hi) (j % 16) (by omega)
  rw [show j / 16 * 16 + j % 16 = j by omega, h] at this
  exact Option.some.inj this
/-- Calls that lie in memory. -/
def LiesD (w : World) (A : Option Addr) (l : List Deed) : Prop := l ≠ [] → ∃ ad, A = some ad ∧ ad.block < w.heap.size ∧ ∀ (i : Nat) (a : Deed), l[i]? = some a → ∀ (j : Nat) (u : Value), a.cells[j]? = some u → w.cell? (ad.add (i * 18 + j)) = some u
theorem add_add6 (a : Addr) (i j : Nat) : (a.add i).add j = a.add (i + j) := by
  by_cases h1 : i = 0
  · subst h1
    by_cases h2 : j = 0 <;> simp [Addr.add, h2]
  · by_cases h2 : j = 0
    · simp [Addr.add, h1, h2]
    · have h3 : ¬ i + j = 0 := by omega
      simp only [Addr.add, if_neg h1, if_neg h2, if_neg h3, Nat.add_assoc]
section
variable {H : Type} {enc : TypeId × Value → H} {w : World}
theorem mat_of {fuel : Nat} {cs : List Value} {x : DataW H × List MemPlace} (hf : DataW.trod enc Try.prog w 0 (fun _ => true) true fuel 27 cs = some x) : ∃ a : Nat → Int, cs = M.mat 16 a := by
  obtain ⟨xs, m, _, _, hlen, hxs, hg⟩ := DataW.trod_array Try.underlying27 hf
  rw [o27] at hlen
  have each : ∀ i, i < 16 → ∃ z : Int, cs[i]? = some (.int .i64 z) := by
    intro i hi
    have g := hg i hi
    obtain ⟨y, hy⟩ : ∃ y, xs[i]? = some y := ⟨_, List.getElem?_eq_getElem (by omega)⟩
    have hil : i < cs.length := by omega
    rw [hy, o3, Nat.mul_one, List.drop_eq_getElem_cons hil, List.take_succ_cons, List.take_zero] at g
    obtain ⟨z, e2, _, _⟩ := DataW.trod_int Try.underlying3 g
    obtain ⟨e2, _⟩ := List.cons.inj e2
    exact ⟨z, by rw [List.getElem?_eq_getElem hil, e2]⟩
  obtain ⟨f, hf'⟩ := Go.Deep.choose_lt each
  refine ⟨f, List.ext_getElem? fun i => ?_⟩
  by_cases hi : i < 16
  · rw [hf' i hi, M.mat_get hi]
  · rw [List.getElem?_eq_none (by omega), List.getElem?_eq_none (by rw [M.mat_len]; omega)]
theorem open_mats {fuel : Nat} {v : Value} {x : DataW H × List MemPlace} (hf : DataW.trod enc Try.prog w 0 (fun _ => true) true fuel 22 [v] = some x) (hlt : ∀ p ∈ x.2, p.block < w.heap.size) : ∃ L : Ent, v = L.val ∧ Lies w [] L := by
  rcases Go.Deep.open_slice Try.underlying22 hf with ⟨hcs, hx⟩ | ⟨a, len, cap, m, n, D, Pl, hcs, _, hl, hm, hmm, hx, hi⟩
  · simp at hcs
    subst hcs
    exact ⟨⟨0, none, 0, []⟩, rfl, Lies.nil⟩
  · simp at hcs
    subst hcs
    simp only [if_true] at hmm
    subst hx
    have each : ∀ i, i < len → ∃ q : Nat → Int, ∀ j, j < 16 → w.cell? (a.add (i * 16 + j)) = some (.int .i64 (q j)) := by
      intro i hil
      obtain ⟨cs, h1, h2⟩ := hi i (by omega)
      rw [o27] at h1
      obtain ⟨_, hlen, hcell⟩ := World.cells?_some h1
      obtain ⟨q, rfl⟩ := mat_of h2
      refine ⟨q, fun j hj => ?_⟩
      have := hcell j hj
      rw [add_add6, M.mat_get hj] at this
      exact this
    obtain ⟨q, hq⟩ := Go.Deep.choose_lt each
    refine ⟨⟨0, some a, cap, (List.range len).map q⟩, by simp [Ent.val], by simpa using hl, fun hne => ⟨a, rfl, Nat.zero_le _, ?_, List.not_mem_nil, fun j u hu => ?_⟩⟩
    · have h0 : 0 < len := by
        rcases Nat.eq_zero_or_pos len with h | h
        · exact absurd (by simp [h]) hne
        · exact h
      obtain ⟨b, off, spot⟩ := a
      refine hlt (.cell b off) (List.mem_append_left _ (MemPlace.mem_row.2 ⟨0, ?_, by simp⟩))
      rw [o27]; omega
    · obtain ⟨i, y, r, h1, h2, rfl, rfl⟩ := M.cells_inv hu
      have hil : i < len := by
        have := (List.getElem?_eq_some_iff.1 h1).1
        simpa using this
      have : q i = y := by simpa [hil] using h1
      rw [hq i hil r h2, this]
theorem stk_of {fuel : Nat} {cs : List Value} {x : DataW H × List MemPlace} (hf : DataW.trod enc Try.prog w 0 (fun _ => true) true fuel 25 cs = some x) (hlt : ∀ p ∈ x.2, p.block < w.heap.size) : ∃ (m : Int) (L : Nat → Ent), cs = sv m L ∧ ∀ i, i < 2 → Lies w [] (L i) := by
  obtain ⟨xs, k, _, hx, hlen, hxl, hg⟩ := DataW.trod_struct Try.underlying25 hf
  rw [o25] at hlen
  match cs, hlen with
  | [v0, v1, v2], _ =>
    have g0 := hg 0 _ rfl
    have g1 := hg 1 _ rfl
    simp [o3, o23] at g0 g1
    match xs, hxl with
    | [y0, y1], _ =>
      obtain ⟨m, e0, _, _⟩ := DataW.trod_int Try.underlying3 g0
      simp at e0
      subst e0
      simp at g1
      obtain ⟨zs, k2, _, hy, hzlen, hzl, hz⟩ := DataW.trod_array Try.underlying23 g1
      have z0 := hz 0 (by decide)
      have z1 := hz 1 (by decide)
      simp [o22] at z0 z1
      match zs, hzl with
      | [q0, q1], _ =>
        simp at z0 z1
        obtain ⟨L0, rfl, h0⟩ := open_mats z0 (fun p hp => hlt p (by rw [hx]; simp [hy]; exact .inr (.inl hp)))
        obtain ⟨L1, rfl, h1⟩ := open_mats z1 (fun p hp => hlt p (by rw [hx]; simp [hy]; exact .inr (.inr hp)))
        refine ⟨m, fun i => if i = 0 then L0 else L1, rfl, fun i hi => ?_⟩
        by_cases e : i = 0
        · simp only [if_pos e]; exact h0
        · simp only [if_neg e]; exact h1
theorem deed_of {fuel : Nat} {cs : List Value} {x : DataW H × List MemPlace} (hf : DataW.trod enc Try.prog w 0 (fun _ => true) true fuel 43 cs = some x) : ∃ a : Deed, cs = a.cells := by
  obtain ⟨xs, k, _, hx, hlen, hxl, hg⟩ := DataW.trod_struct Try.underlying43 hf
  rw [o43] at hlen
  match cs, hlen with
  | v0 :: v1 :: rest, hlen =>
    have hr : rest.length = 16 := by simpa using hlen
    have g0 := hg 0 _ rfl
    have g1 := hg 1 _ rfl
    have g2 := hg 2 _ rfl
    simp [o3, o27] at g0 g1 g2
    rw [List.take_of_length_le (by omega)] at g2
    match xs, hxl with
    | [y0, y1, y2], _ =>
      obtain ⟨k0, e0, _, _⟩ := DataW.trod_int Try.underlying3 g0
      obtain ⟨n0, e1, _, _⟩ := DataW.trod_int Try.underlying3 g1
      simp at e0 e1
      subst e0 e1
      simp at g2
      obtain ⟨q, rfl⟩ := mat_of g2
      exact ⟨⟨k0, n0, q⟩, rfl⟩
instance : Inhabited Deed := ⟨⟨0, 0, M.zero⟩⟩
theorem open_deeds {fuel : Nat} {v : Value} {x : DataW H × List MemPlace} (hf : DataW.trod enc Try.prog w 0 (fun _ => true) true fuel 40 [v] = some x) (hlt : ∀ p ∈ x.2, p.block < w.heap.size) : ∃ (A : Option Addr) (c : Nat) (l : List Deed), v = .slice A l.length c ∧ LiesD w A l := by
  rcases Go.Deep.open_slice Try.underlying40 hf with ⟨hcs, hx⟩ | ⟨a, len, cap, m, n, D, Pl, hcs, _, hl, hm, hmm, hx, hi⟩
  · simp at hcs
    subst hcs
    exact ⟨none, 0, [], rfl, fun h => absurd rfl h⟩
  · simp at hcs
    subst hcs
    simp only [if_true] at hmm
    subst hx
    have each : ∀ i, i < len → ∃ q : Deed, ∀ (j : Nat) (u : Value), q.cells[j]? = some u → w.cell? (a.add (i * 18 + j)) = some u := by
      intro i hil
      obtain ⟨cs, h1, h2⟩ := hi i (by omega)
      rw [o43] at h1
      obtain ⟨_, hlen, hcell⟩ := World.cells?_some h1
      obtain ⟨q, rfl⟩ := deed_of h2
      refine ⟨q, fun j u hu => ?_⟩
      have hj : j < 18 := by rw [← deed_len q]; exact (List.getElem?_eq_some_iff.1 hu).1
      have := hcell j hj
      rw [add_add6, hu] at this
      exact this
    obtain ⟨q, hq⟩ := Go.Deep.choose_lt each
    refine ⟨some a, cap, (List.range len).map q, by simp, fun hne => ⟨a, rfl, ?_, fun i y hy j u hu => ?_⟩⟩
    · have h0 : 0 < len := by
        rcases Nat.eq_zero_or_pos len with h | h
        · exact absurd (by simp [h]) hne
        · exact h
      obtain ⟨b, off, spot⟩ := a
      refine hlt (.cell b off) (List.mem_append_left _ (MemPlace.mem_row.2 ⟨0, ?_, by simp⟩))
      rw [o43]; omega
    · have hil : i < len := by
        have := (List.getElem?_eq_some_iff.1 hy).1
        simpa using this
      have : q i = y := by simpa [hil] using hy
      rw [← this] at hu
      exact hq i hil j u hu
theorem openMat {r : Reach} {b0 : Nat} {v : Value} {d : DataW H} {p : List MemPlace} (hv : Value.okWide Try.prog w r b0 27 v) (h : DataW.Trod enc Try.prog w 0 (fun _ => true) true 27 v d p) : ∃ a : Nat → Int, v = arr 16 a := by
  simp only [Value.okWide, Try.underlying27] at hv
  obtain ⟨cs, rfl, hsz, _⟩ := hv
  obtain ⟨fuel, hf⟩ := h
  obtain ⟨a, ha⟩ := mat_of hf
  exact ⟨a, by rw [arr, ← ha]; rfl⟩
theorem openStk {r : Reach} {b0 : Nat} {v : Value} {d : DataW H} {p : List MemPlace} (hv : Value.okWide Try.prog w r b0 25 v) (h : DataW.Trod enc Try.prog w 0 (fun _ => true) true 25 v d p) (hlt : ∀ q ∈ p, q.block < w.heap.size) : ∃ (m : Int) (L : Nat → Ent), v = .agg (sv m L).toArray ∧ ∀ i, i < 2 → Lies w [] (L i) := by
  simp only [Value.okWide, Try.underlying25] at hv
  obtain ⟨cs, rfl, hsz, _⟩ := hv
  obtain ⟨fuel, hf⟩ := h
  obtain ⟨m, L, ha, hL⟩ := stk_of hf hlt
  exact ⟨m, L, by rw [← ha]; rfl, hL⟩
theorem openMats {v : Value} {d : DataW H} {p : List MemPlace} (h1 : v.cells = #[v]) (h : DataW.Trod enc Try.prog w 0 (fun _ => true) true 22 v d p) (hlt : ∀ q ∈ p, q.block < w.heap.size) : ∃ L : Ent, v = L.val ∧ Lies w [] L := by
  obtain ⟨fuel, hf⟩ := h
  rw [h1] at hf
  exact open_mats hf hlt
theorem openDeeds {v : Value} {d : DataW H} {p : List MemPlace} (h1 : v.cells = #[v]) (h : DataW.Trod enc Try.prog w 0 (fun _ => true) true 40 v d p) (hlt : ∀ q ∈ p, q.block < w.heap.size) : ∃ (A : Option Addr) (c : Nat) (l : List Deed), v = .slice A l.length c ∧ LiesD w A l := by
  obtain ⟨fuel, hf⟩ := h
  rw [h1] at hf
  exact open_deeds hf hlt
end
end Go.Proofs.Ythcieapfpgejdaa
