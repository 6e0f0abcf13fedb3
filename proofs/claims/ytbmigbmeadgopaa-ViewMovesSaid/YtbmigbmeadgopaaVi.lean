/- Arguments that came in: vertices, ports, a port that is moved. -/
import Derived.Test.YtbmigbmeadgopaaTy
import Derived.Deep.Slices
import Derived.Lib.SmallJoins
import Derived.OpenShut
namespace Go.Proofs.Ytbmigbmeadgopaa
open Go.ChangeShapes Go.WideShapes Go.ChangeAt Go.RowKit
set_option linter.unusedVariables false
set_option linter.unusedSimpArgs false

theorem o3 : Try.prog.cellsOf 3 = 1 := by kernel_rfl
theorem o39 : Try.prog.cellsOf 39 = 1 := by kernel_rfl
theorem o23 : Try.prog.cellsOf 23 = 4 := by kernel_rfl
theorem o25 : Try.prog.cellsOf 25 = 8 := by kernel_rfl
theorem o27 : Try.prog.cellsOf 27 = 4 := by kernel_rfl
theorem o41 : Try.prog.cellsOf 41 = 14 := by kernel_rfl
section
variable {H : Type} {enc : TypeId × Value → H} {w : World}
theorem four_of {t fuel : Nat} {cs : List Value} {x : DataW H × List MemPlace} (ht : Try.prog.underlying t = some (.array 4 3)) (ho : Try.prog.cellsOf t = 4) (hf : DataW.trod enc Try.prog w 0 (fun _ => true) true fuel t cs = some x) : ∃ a : Nat → Int, cs = M.mat 4 a := by
  obtain ⟨xs, m, _, _, hlen, hxs, hg⟩ := DataW.trod_array ht hf
  rw [ho] at hlen
  have each : ∀ i, i < 4 → ∃ z : Int, cs[i]? = some (.int .i64 z) := by
    intro i hi
    have g := hg i hi
    obtain ⟨y, hy⟩ : ∃ y, xs[i]? = some y := ⟨_, List.getElem?_eq_getElem (by omega)⟩
    have hil : i < cs.length := by omega
    rw [hy, o3, Nat.mul_one, List.drop_eq_getElem_cons hil, List.take_succ_cons, List.take_zero] at g
    obtain ⟨z, e2, _, _⟩ := DataW.trod_int Try.underlying3 g
    obtain ⟨e2, _⟩ := List.cons.inj e2
    exact ⟨z, by rw [List.getElem?_eq_getElem hil, e2]⟩
  obtain ⟨f, hf'⟩ := Go.Deep.choose_lt each
  refine ⟨f, List.ext_getElem? fun i => ?_⟩
  by_cases hi : i < 4
  · rw [hf' i hi, M.mat_get hi]
  · rw [List.getElem?_eq_none (by omega), List.getElem?_eq_none (by rw [M.mat_len]; omega)]
theorem mat4 (a : Nat → Int) : M.mat 4 a = [.int .i64 (a 0), .int .i64 (a 1), .int .i64 (a 2), .int .i64 (a 3)] := rfl
theorem mat8 (a : Nat → Int) : M.mat 8 a = [.int .i64 (a 0), .int .i64 (a 1), .int .i64 (a 2), .int .i64 (a 3), .int .i64 (a 4), .int .i64 (a 5), .int .i64 (a 6), .int .i64 (a 7)] := rfl
theorem vert_of {fuel : Nat} {cs : List Value} {x : DataW H × List MemPlace} (hf : DataW.trod enc Try.prog w 0 (fun _ => true) true fuel 25 cs = some x) : ∃ a : Nat → Int, cs = M.mat 8 a := by
  obtain ⟨xs, k, _, hx, hlen, hxl, hg⟩ := DataW.trod_struct Try.underlying25 hf
  rw [o25] at hlen
  match cs, hlen with
  | [v0, v1, v2, v3, v4, v5, v6, v7], _ =>
    have g0 := hg 0 _ rfl
    have g1 := hg 1 _ rfl
    have g2 := hg 2 _ rfl
    have g3 := hg 3 _ rfl
    have g4 := hg 4 _ rfl
    simp [o3, o23] at g0 g1 g2 g3 g4
    match xs, hxl with
    | [y0, y1, y2, y3, y4], _ =>
      obtain ⟨m0, e0, _, _⟩ := DataW.trod_int Try.underlying3 g0
      obtain ⟨m1, e1, _, _⟩ := DataW.trod_int Try.underlying3 g1
      obtain ⟨m2, e2, _, _⟩ := DataW.trod_int Try.underlying3 g2
      obtain ⟨m3, e3, _, _⟩ := DataW.trod_int Try.underlying3 g3
      simp at e0 e1 e2 e3
      subst e0 e1 e2 e3
      obtain ⟨a, ha⟩ := four_of Try.underlying23 o23 g4
      rw [mat4] at ha
      simp at ha
      obtain ⟨rfl, rfl, rfl, rfl⟩ := ha
      exact ⟨fun i => if i = 0 then m0 else if i = 1 then m1 else if i = 2 then m2 else if i = 3 then m3 else a (i - 4), rfl⟩
theorem port_of {fuel : Nat} {cs : List Value} {x : DataW H × List MemPlace} (hf : DataW.trod enc Try.prog w 0 (fun _ => true) true fuel 27 cs = some x) : ∃ a : Nat → Int, cs = M.mat 4 a := by
  obtain ⟨xs, k, _, hx, hlen, hxl, hg⟩ := DataW.trod_struct Try.underlying27 hf
  rw [o27] at hlen
  match cs, hlen with
  | [v0, v1, v2, v3], _ =>
    have g0 := hg 0 _ rfl
    have g1 := hg 1 _ rfl
    have g2 := hg 2 _ rfl
    have g3 := hg 3 _ rfl
    simp [o3] at g0 g1 g2 g3
    match xs, hxl with
    | [y0, y1, y2, y3], _ =>
      obtain ⟨m0, e0, _, _⟩ := DataW.trod_int Try.underlying3 g0
      obtain ⟨m1, e1, _, _⟩ := DataW.trod_int Try.underlying3 g1
      obtain ⟨m2, e2, _, _⟩ := DataW.trod_int Try.underlying3 g2
      obtain ⟨m3, e3, _, _⟩ := DataW.trod_int Try.underlying3 g3
      simp at e0 e1 e2 e3
      subst e0 e1 e2 e3
      exact ⟨fun i => if i = 0 then m0 else if i = 1 then m1 else if i = 2 then m2 else m3, rfl⟩
/-- A vertex, a port, two small numbers. -/
def V.mv (v p : Nat → Int) (x y : Int) : List Value := M.mat 8 v ++ (M.mat 4 p ++ [.int .i16 x, .int .i16 y])
theorem moved_of {fuel : Nat} {cs : List Value} {x : DataW H × List MemPlace} (hf : DataW.trod enc Try.prog w 0 (fun _ => true) true fuel 41 cs = some x) : ∃ (v p : Nat → Int) (i j : Int), cs = V.mv v p i j ∧ (-32768 ≤ i ∧ i ≤ 32767) ∧ (-32768 ≤ j ∧ j ≤ 32767) := by
  obtain ⟨xs, k, _, hx, hlen, hxl, hg⟩ := DataW.trod_struct Try.underlying41 hf
  rw [o41] at hlen
  match cs, hlen with
  | [v0, v1, v2, v3, v4, v5, v6, v7, v8, v9, v10, v11, v12, v13], _ =>
    have g0 := hg 0 _ rfl
    have g1 := hg 1 _ rfl
    have g2 := hg 2 _ rfl
    have g3 := hg 3 _ rfl
    simp [o25, o27, o39] at g0 g1 g2 g3
    match xs, hxl with
    | [y0, y1, y2, y3], _ =>
      obtain ⟨a, ha⟩ := vert_of g0
      obtain ⟨b, hb⟩ := port_of g1
      obtain ⟨m2, e2, _, r2⟩ := DataW.trod_int Try.underlying39 g2
      obtain ⟨m3, e3, _, r3⟩ := DataW.trod_int Try.underlying39 g3
      simp at e2 e3
      subst e2 e3
      refine ⟨a, b, m2, m3, ?_, bounds_i16 r2, bounds_i16 r3⟩
      rw [V.mv, ← ha, ← hb]
      rfl
variable {r : Reach} {b0 : Nat} {v : Value} {d : DataW H} {p : List MemPlace}
theorem openVert (hv : Value.okWide Try.prog w r b0 25 v) (h : DataW.Trod enc Try.prog w 0 (fun _ => true) true 25 v d p) : ∃ a : Nat → Int, v = arr 8 a := by
  obtain ⟨cs, rfl, hsz⟩ := okWide_struct Try.underlying25 hv
  obtain ⟨fuel, hf⟩ := h
  obtain ⟨a, ha⟩ := vert_of hf
  refine ⟨a, ?_⟩
  obtain ⟨l⟩ := cs
  have : l = M.mat 8 a := ha
  rw [this]
theorem openPort (hv : Value.okWide Try.prog w r b0 27 v) (h : DataW.Trod enc Try.prog w 0 (fun _ => true) true 27 v d p) : ∃ a : Nat → Int, v = arr 4 a := by
  obtain ⟨cs, rfl, hsz⟩ := okWide_struct Try.underlying27 hv
  obtain ⟨fuel, hf⟩ := h
  obtain ⟨a, ha⟩ := port_of hf
  refine ⟨a, ?_⟩
  obtain ⟨l⟩ := cs
  have : l = M.mat 4 a := ha
  rw [this]
theorem openMoved (hv : Value.okWide Try.prog w r b0 41 v) (h : DataW.Trod enc Try.prog w 0 (fun _ => true) true 41 v d p) : ∃ (a b : Nat → Int) (i j : Int), v = .agg (V.mv a b i j).toArray ∧ (-32768 ≤ i ∧ i ≤ 32767) ∧ (-32768 ≤ j ∧ j ≤ 32767) := by
  obtain ⟨cs, rfl, hsz⟩ := okWide_struct Try.underlying41 hv
  obtain ⟨fuel, hf⟩ := h
  obtain ⟨a, b, i, j, ha, h1, h2⟩ := moved_of hf
  refine ⟨a, b, i, j, ?_, h1, h2⟩
  obtain ⟨l⟩ := cs
  have : l = V.mv a b i j := ha
  rw [this]
end
end Go.Proofs.Ytbmigbmeadgopaa
