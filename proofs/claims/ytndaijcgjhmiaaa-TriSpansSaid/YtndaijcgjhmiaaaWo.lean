/- Arguments that came in. -/
import Derived.Test.YtndaijcgjhmiaaaTw
import Derived.Deep.Slices
import Derived.Lib.SmallJoins
import Derived.OpenShut
namespace Go.Proofs.Ytndaijcgjhmiaaa
open Go.ChangeShapes Go.WideShapes Go.ChangeAt Go.RowKit
set_option linter.unusedVariables false
set_option linter.unusedSimpArgs false

set_option maxRecDepth 100000
theorem o3 : Try.prog.cellsOf 3 = 1 := by kernel_rfl
theorem o4 : Try.prog.cellsOf 4 = 1 := by kernel_rfl
theorem oC : Try.prog.cellsOf 32 = 4 := by kernel_rfl
theorem oW : Try.prog.cellsOf 34 = 7 := by kernel_rfl
theorem oR : Try.prog.cellsOf 27 = 4 := by kernel_rfl
theorem mat4 (a : Nat → Int) : M.mat 4 a = [.int .i64 (a 0), .int .i64 (a 1), .int .i64 (a 2), .int .i64 (a 3)] := rfl
theorem mat7 (a : Nat → Int) : M.mat 7 a = [.int .i64 (a 0), .int .i64 (a 1), .int .i64 (a 2), .int .i64 (a 3), .int .i64 (a 4), .int .i64 (a 5), .int .i64 (a 6)] := rfl
theorem mat3 (a : Nat → Int) : M.mat 3 a = [.int .i64 (a 0), .int .i64 (a 1), .int .i64 (a 2)] := rfl
/-- A line, and a rectangle. -/
def lw (a b : Nat → Int) (n : Int) (s : Bool) (d r : Nat → Int) : List Value := M.mat 7 a ++ (M.mat 7 b ++ ([.int .i64 n, .bool s] ++ (M.mat 3 d ++ M.mat 4 r)))
section
variable (a b : Nat → Int) (n : Int) (s : Bool) (d r : Nat → Int)
theorem lw_is : lw a b n s d r = [.int .i64 (a 0), .int .i64 (a 1), .int .i64 (a 2), .int .i64 (a 3), .int .i64 (a 4), .int .i64 (a 5), .int .i64 (a 6), .int .i64 (b 0), .int .i64 (b 1), .int .i64 (b 2), .int .i64 (b 3), .int .i64 (b 4), .int .i64 (b 5), .int .i64 (b 6), .int .i64 n, .bool s, .int .i64 (d 0), .int .i64 (d 1), .int .i64 (d 2), .int .i64 (r 0), .int .i64 (r 1), .int .i64 (r 2), .int .i64 (r 3)] := rfl
theorem lw_len : (lw a b n s d r).length = 23 := rfl
theorem lw_a : ∀ k u, (M.mat 7 a)[k]? = some u → (lw a b n s d r)[0 + k]? = some u := fun k u h => by
  have hk : k < (M.mat 7 a).length := (List.getElem?_eq_some_iff.1 h).1
  rw [Nat.zero_add, lw, List.getElem?_append_left hk]
  exact h
theorem lw_b : ∀ k u, (M.mat 7 b)[k]? = some u → (lw a b n s d r)[7 + k]? = some u := fun k u h => by
  have hk : k < 7 := by
    have := (List.getElem?_eq_some_iff.1 h).1
    rwa [M.mat_len] at this
  rw [lw, List.getElem?_append_right (by rw [M.mat_len]; omega), M.mat_len, Nat.add_sub_cancel_left, List.getElem?_append_left (by rw [M.mat_len]; exact hk)]
  exact h
theorem lw_d : ∀ k u, (M.mat 3 d)[k]? = some u → (lw a b n s d r)[16 + k]? = some u := fun k u h => by
  have hk : k < 3 := by
    have := (List.getElem?_eq_some_iff.1 h).1
    rwa [M.mat_len] at this
  rcases (by omega : k = 0 ∨ k = 1 ∨ k = 2) with rfl | rfl | rfl <;> exact h
theorem lw_r : ∀ k u, (M.mat 4 r)[k]? = some u → (lw a b n s d r)[19 + k]? = some u := fun k u h => by
  have hk : k < 4 := by
    have := (List.getElem?_eq_some_iff.1 h).1
    rwa [M.mat_len] at this
  rcases (by omega : k = 0 ∨ k = 1 ∨ k = 2 ∨ k = 3) with rfl | rfl | rfl | rfl <;> exact h
theorem lw_n : (lw a b n s d r)[14]? = some (.int .i64 n) := rfl
theorem lw_s : (lw a b n s d r)[15]? = some (.bool s) := rfl
end
theorem lw_one (a b : Nat → Int) (n : Int) (s : Bool) (d r : Nat → Int) : ∀ v ∈ lw a b n s d r, v.oneCell' = true := by
  intro v hv
  rw [lw_is] at hv
  simp only [List.mem_cons, List.not_mem_nil, or_false] at hv
  rcases hv with rfl | rfl | rfl | rfl | rfl | rfl | rfl | rfl | rfl | rfl | rfl | rfl | rfl | rfl | rfl | rfl | rfl | rfl | rfl | rfl | rfl | rfl | rfl <;> rfl
theorem agg4' (w : World) : (isAgg 4).run Try.prog w = .ok false w := by kernel_rfl
theorem o5 : Try.prog.cellsOf 5 = 1 := by kernel_rfl
theorem oi8 : Try.prog.cellsOf 49 = 1 := by kernel_rfl
theorem o2i8 : Try.prog.cellsOf 50 = 2 := by kernel_rfl
theorem aggi8 (w : World) : (isAgg 49).run Try.prog w = .ok false w := by kernel_rfl
theorem agg5 (w : World) : (isAgg 5).run Try.prog w = .ok false w := by kernel_rfl
theorem sizeOfi8 (w : World) : (sizeOf 49).run Try.prog w = .ok 1 w := by kernel_rfl
theorem sizeOf5 (w : World) : (sizeOf 5).run Try.prog w = .ok 1 w := by kernel_rfl
/-- Two numbers of a kind. -/
def two (k : IntKind) (x y : Int) : List Value := [.int k x, .int k y]
theorem two_one17 (k : IntKind) (x y : Int) : ∀ v ∈ two k x y, v.oneCell' = true := by
  intro v hv
  simp only [two, List.mem_cons, List.not_mem_nil, or_false] at hv
  rcases hv with rfl | rfl <;> rfl
theorem s2i8 (x y : Int) : (Try.prog.info? 50).map (·.size) = some (two .i8 x y).length := by kernel_rfl
theorem built2i8 : Try.prog.built 50 [] = some (two .i8 0 0).toArray := by kernel_rfl
/-- A line in parts. -/
def pt (x y d0 d1 m k u : Int) (d : Nat → Int) (s : Bool) : List Value := two .i16 x y ++ (two .i8 d0 d1 ++ (two .u8 m k ++ ([.int .u8 u] ++ (M.mat 3 d ++ [.bool s]))))
theorem pt_dash (x y d0 d1 m k u : Int) (d : Nat → Int) (s : Bool) : ∀ j v, (M.mat 3 d)[j]? = some v → (pt x y d0 d1 m k u d s)[7 + j]? = some v := fun j v h => by
  have hk : j < 3 := by
    have := (List.getElem?_eq_some_iff.1 h).1
    rwa [M.mat_len] at this
  rcases (by omega : j = 0 ∨ j = 1 ∨ j = 2) with rfl | rfl | rfl <;> exact h
theorem pt_d (x y d0 d1 m k u : Int) (d : Nat → Int) (s : Bool) : ∀ j v, (two .i8 d0 d1)[j]? = some v → (pt x y d0 d1 m k u d s)[2 + j]? = some v := fun j v h => by
  have hk : j < 2 := (List.getElem?_eq_some_iff.1 h).1
  rcases (by omega : j = 0 ∨ j = 1) with rfl | rfl <;> exact h
section
variable {H : Type} {enc : TypeId × Value → H} {w : World}
theorem some_of {n t fuel : Nat} {cs : List Value} {x : DataW H × List MemPlace} (ht : Try.prog.underlying t = some (.array n 3)) (ho : Try.prog.cellsOf t = n) (hf : DataW.trod enc Try.prog w 0 (fun _ => true) true fuel t cs = some x) : ∃ a : Nat → Int, cs = M.mat n a ∧ ∀ i, i < n → -9223372036854775808 ≤ a i ∧ a i < 9223372036854775808 := by
  obtain ⟨xs, m, _, _, hlen, hxs, hg⟩ := DataW.trod_array ht hf
  rw [ho] at hlen
  have each : ∀ i, i < n → ∃ z : Int, cs[i]? = some (.int .i64 z) ∧ (-9223372036854775808 ≤ z ∧ z < 9223372036854775808) := by
    intro i hi
    have g := hg i hi
    obtain ⟨y, hy⟩ : ∃ y, xs[i]? = some y := ⟨_, List.getElem?_eq_getElem (by omega)⟩
    have hil : i < cs.length := by omega
    rw [hy, o3, Nat.mul_one, List.drop_eq_getElem_cons hil, List.take_succ_cons, List.take_zero] at g
    obtain ⟨z, e2, _, r⟩ := DataW.trod_int Try.underlying3 g
    obtain ⟨e2, _⟩ := List.cons.inj e2
    have hb := bounds_i64 r
    exact ⟨z, by rw [List.getElem?_eq_getElem hil, e2], by omega⟩
  obtain ⟨f, hf'⟩ := Go.Deep.choose_lt each
  refine ⟨f, List.ext_getElem? fun i => ?_, fun i hi => (hf' i hi).2⟩
  by_cases hi : i < n
  · rw [(hf' i hi).1, M.mat_get hi]
  · rw [List.getElem?_eq_none (by omega), List.getElem?_eq_none (by rw [M.mat_len]; omega)]
theorem win_of {fuel : Nat} {cs : List Value} {x : DataW H × List MemPlace} (hf : DataW.trod enc Try.prog w 0 (fun _ => true) true fuel 34 cs = some x) : ∃ a : Nat → Int, cs = M.mat 7 a := by
  obtain ⟨xs, k, _, hx, hlen, hxl, hg⟩ := DataW.trod_struct Try.underlying34 hf
  rw [oW] at hlen
  match cs, hlen with
  | [v0, v1, v2, v3, v4, v5, v6], _ =>
    have g0 := hg 0 _ rfl
    have g1 := hg 1 _ rfl
    have g2 := hg 2 _ rfl
    have g3 := hg 3 _ rfl
    simp [o3, oC] at g0 g1 g2 g3
    match xs, hxl with
    | [y0, y1, y2, y3], _ =>
      obtain ⟨m0, e0, _, _⟩ := DataW.trod_int Try.underlying3 g0
      obtain ⟨m1, e1, _, _⟩ := DataW.trod_int Try.underlying3 g1
      obtain ⟨m2, e2, _, _⟩ := DataW.trod_int Try.underlying3 g2
      simp at e0 e1 e2
      subst e0 e1 e2
      obtain ⟨a, ha, -⟩ := some_of Try.underlying32 oC g3
      rw [mat4] at ha
      simp at ha
      obtain ⟨rfl, rfl, rfl, rfl⟩ := ha
      exact ⟨fun i => if i = 0 then m0 else if i = 1 then m1 else if i = 2 then m2 else a (i - 3), rfl⟩
theorem rect_of {fuel : Nat} {cs : List Value} {x : DataW H × List MemPlace} (hf : DataW.trod enc Try.prog w 0 (fun _ => true) true fuel 27 cs = some x) : ∃ a : Nat → Int, cs = M.mat 4 a := by
  obtain ⟨xs, k, _, hx, hlen, hxl, hg⟩ := DataW.trod_struct Try.underlying27 hf
  rw [oR] at hlen
  match cs, hlen with
  | [v0, v1, v2, v3], _ =>
    have g0 := hg 0 _ rfl
    have g1 := hg 1 _ rfl
    have g2 := hg 2 _ rfl
    have g3 := hg 3 _ rfl
    simp [o3] at g0 g1 g2 g3
    match xs, hxl with
    | [y0, y1, y2, y3], _ =>
      obtain ⟨m0, e0, _, _⟩ := DataW.trod_int Try.underlying3 g0
      obtain ⟨m1, e1, _, _⟩ := DataW.trod_int Try.underlying3 g1
      obtain ⟨m2, e2, _, _⟩ := DataW.trod_int Try.underlying3 g2
      obtain ⟨m3, e3, _, _⟩ := DataW.trod_int Try.underlying3 g3
      simp at e0 e1 e2 e3
      subst e0 e1 e2 e3
      exact ⟨RC.mk m0 m1 m2 m3, rfl⟩
theorem two_of {t e fuel : Nat} {q : IntKind} {cs : List Value} {x : DataW H × List MemPlace} (ht : Try.prog.underlying t = some (.array 2 e)) (he : Try.prog.underlying e = some (.int q)) (ho : Try.prog.cellsOf t = 2) (hoe : Try.prog.cellsOf e = 1) (hf : DataW.trod enc Try.prog w 0 (fun _ => true) true fuel t cs = some x) :
    ∃ a b : Int, cs = two q a b ∧ (Lit.int q a).wf = true ∧ (Lit.int q b).wf = true := by
  obtain ⟨xs, m, _, _, hlen, hxs, hg⟩ := DataW.trod_array ht hf
  rw [ho] at hlen
  match cs, hlen with
  | [v0, v1], _ =>
    have g0 := hg 0 (by omega)
    have g1 := hg 1 (by omega)
    simp [hoe] at g0 g1
    match xs, hxs with
    | [y0, y1], _ =>
      obtain ⟨m0, e0, _, r0⟩ := DataW.trod_int he g0
      obtain ⟨m1, e1, _, r1⟩ := DataW.trod_int he g1
      simp at e0 e1
      subst e0 e1
      exact ⟨m0, m1, rfl, r0, r1⟩
variable {r : Reach} {b0 : Nat} {v : Value} {d : DataW H} {p : List MemPlace}
theorem openTwo8 (hv : Value.okWide Try.prog w r b0 50 v) (h : DataW.Trod enc Try.prog w 0 (fun _ => true) true 50 v d p) : ∃ x y : Int, v = .agg (two .i8 x y).toArray ∧ (-128 ≤ x ∧ x ≤ 127) ∧ (-128 ≤ y ∧ y ≤ 127) := by
  simp only [Value.okWide, Try.underlying50] at hv
  obtain ⟨cs, rfl, hsz, _⟩ := hv
  obtain ⟨fuel, hf⟩ := h
  obtain ⟨x, y, ha, r1, r2⟩ := two_of Try.underlying50 Try.underlying49 o2i8 oi8 hf
  refine ⟨x, y, ?_, bounds_i8 r1, bounds_i8 r2⟩
  obtain ⟨l⟩ := cs
  have : l = two .i8 x y := ha
  rw [this]
end
end Go.Proofs.Ytndaijcgjhmiaaa
