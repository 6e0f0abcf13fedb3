/- Arguments that came in: rectangles, pairs, a spot. -/
import Derived.Test.YthioeohmnlppcaaTy
import Derived.Deep.Slices
import Derived.Lib.SmallJoins
import Derived.OpenShut
namespace Go.Proofs.Ythioeohmnlppcaa
open Go.ChangeShapes Go.WideShapes Go.ChangeAt Go.RowKit
set_option linter.unusedVariables false
set_option linter.unusedSimpArgs false

theorem o3 : Try.prog.cellsOf 3 = 1 := by kernel_rfl
theorem o23 : Try.prog.cellsOf 23 = 4 := by kernel_rfl
theorem o24 : Try.prog.cellsOf 24 = 2 := by kernel_rfl
theorem o39 : Try.prog.cellsOf 39 = 12 := by kernel_rfl
section
variable {H : Type} {enc : TypeId × Value → H} {w : World}
theorem some_of {n t fuel : Nat} {cs : List Value} {x : DataW H × List MemPlace} (ht : Try.prog.underlying t = some (.array n 3)) (ho : Try.prog.cellsOf t = n) (hf : DataW.trod enc Try.prog w 0 (fun _ => true) true fuel t cs = some x) : ∃ a : Nat → Int, cs = M.mat n a ∧ ∀ i, i < n → -9223372036854775808 ≤ a i ∧ a i < 9223372036854775808 := by
  obtain ⟨xs, m, _, _, hlen, hxs, hg⟩ := DataW.trod_array ht hf
  rw [ho] at hlen
  have each : ∀ i, i < n → ∃ z : Int, cs[i]? = some (.int .i64 z) ∧ (-9223372036854775808 ≤ z ∧ z < 9223372036854775808) := by
    intro i hi
    have g := hg i hi
    obtain ⟨y, hy⟩ : ∃ y, xs[i]? = some y := ⟨_, List.getElem?_eq_getElem (by omega)⟩
    have hil : i < cs.length := by omega
    rw [hy, o3, Nat.mul_one, List.drop_eq_getElem_cons hil, List.take_succ_cons, List.take_zero] at g
    obtain ⟨z, e2, _, r⟩ := DataW.trod_int Try.underlying3 g
    obtain ⟨e2, _⟩ := List.cons.inj e2
    have hb := bounds_i64 r
    exact ⟨z, by rw [List.getElem?_eq_getElem hil, e2], by omega⟩
  obtain ⟨f, hf'⟩ := Go.Deep.choose_lt each
  refine ⟨f, List.ext_getElem? fun i => ?_, fun i hi => (hf' i hi).2⟩
  by_cases hi : i < n
  · rw [(hf' i hi).1, M.mat_get hi]
  · rw [List.getElem?_eq_none (by omega), List.getElem?_eq_none (by rw [M.mat_len]; omega)]
theorem rect_of {fuel : Nat} {cs : List Value} {x : DataW H × List MemPlace} (hf : DataW.trod enc Try.prog w 0 (fun _ => true) true fuel 23 cs = some x) : ∃ a : Nat → Int, cs = M.mat 4 a := by
  obtain ⟨xs, k, _, hx, hlen, hxl, hg⟩ := DataW.trod_struct Try.underlying23 hf
  rw [o23] at hlen
  match cs, hlen with
  | [v0, v1, v2, v3], _ =>
    have g0 := hg 0 _ rfl
    have g1 := hg 1 _ rfl
    have g2 := hg 2 _ rfl
    have g3 := hg 3 _ rfl
    simp [o3] at g0 g1 g2 g3
    match xs, hxl with
    | [y0, y1, y2, y3], _ =>
      obtain ⟨m0, e0, _, _⟩ := DataW.trod_int Try.underlying3 g0
      obtain ⟨m1, e1, _, _⟩ := DataW.trod_int Try.underlying3 g1
      obtain ⟨m2, e2, _, _⟩ := DataW.trod_int Try.underlying3 g2
      obtain ⟨m3, e3, _, _⟩ := DataW.trod_int Try.underlying3 g3
      simp at e0 e1 e2 e3
      subst e0 e1 e2 e3
      exact ⟨RC.mk m0 m1 m2 m3, rfl⟩
/-- Two rectangles, a corner, a pixel. -/
def spot (a b at_ p : Nat → Int) : List Value := M.mat 4 a ++ (M.mat 4 b ++ (M.mat 2 at_ ++ M.mat 2 p))
theorem spot_of {fuel : Nat} {cs : List Value} {x : DataW H × List MemPlace} (hf : DataW.trod enc Try.prog w 0 (fun _ => true) true fuel 39 cs = some x) : ∃ a b at_ p : Nat → Int, cs = spot a b at_ p := by
  obtain ⟨xs, k, _, hx, hlen, hxl, hg⟩ := DataW.trod_struct Try.underlying39 hf
  rw [o39] at hlen
  match cs, hlen with
  | [v0, v1, v2, v3, v4, v5, v6, v7, v8, v9, v10, v11], _ =>
    have g0 := hg 0 _ rfl
    have g1 := hg 1 _ rfl
    have g2 := hg 2 _ rfl
    have g3 := hg 3 _ rfl
    simp [o23, o24] at g0 g1 g2 g3
    match xs, hxl with
    | [y0, y1, y2, y3], _ =>
      obtain ⟨a, ha⟩ := rect_of g0
      obtain ⟨b, hb⟩ := rect_of g1
      obtain ⟨c, hc, _⟩ := some_of Try.underlying24 o24 g2
      obtain ⟨d, hd, _⟩ := some_of Try.underlying24 o24 g3
      refine ⟨a, b, c, d, ?_⟩
      rw [spot, ← ha, ← hb, ← hc, ← hd]
      rfl
variable {r : Reach} {b0 : Nat} {v : Value} {d : DataW H} {p : List MemPlace}
theorem openRect (hv : Value.okWide Try.prog w r b0 23 v) (h : DataW.Trod enc Try.prog w 0 (fun _ => true) true 23 v d p) : ∃ a : Nat → Int, v = arr 4 a := by
  obtain ⟨cs, rfl, hsz⟩ := okWide_struct Try.underlying23 hv
  obtain ⟨fuel, hf⟩ := h
  obtain ⟨a, ha⟩ := rect_of hf
  refine ⟨a, ?_⟩
  obtain ⟨l⟩ := cs
  have : l = M.mat 4 a := ha
  rw [this]
theorem openPair (hv : Value.okWide Try.prog w r b0 24 v) (h : DataW.Trod enc Try.prog w 0 (fun _ => true) true 24 v d p) : ∃ a : Nat → Int, v = arr 2 a ∧ ∀ i, i < 2 → -9223372036854775808 ≤ a i ∧ a i < 9223372036854775808 := by
  simp only [Value.okWide, Try.underlying24] at hv
  obtain ⟨cs, rfl, hsz, _⟩ := hv
  obtain ⟨fuel, hf⟩ := h
  obtain ⟨a, ha, hr⟩ := some_of Try.underlying24 o24 hf
  refine ⟨a, ?_, hr⟩
  obtain ⟨l⟩ := cs
  have : l = M.mat 2 a := ha
  rw [this]
theorem openSpot (hv : Value.okWide Try.prog w r b0 39 v) (h : DataW.Trod enc Try.prog w 0 (fun _ => true) true 39 v d p) : ∃ a b at_ q : Nat → Int, v = .agg (spot a b at_ q).toArray := by
  obtain ⟨cs, rfl, hsz⟩ := okWide_struct Try.underlying39 hv
  obtain ⟨fuel, hf⟩ := h
  obtain ⟨a, b, c, e, ha⟩ := spot_of hf
  refine ⟨a, b, c, e, ?_⟩
  obtain ⟨l⟩ := cs
  have : l = spot a b c e := ha
  rw [this]
end
end Go.Proofs.Ythioeohmnlppcaa
