/- Arguments that came in: a line in parts, a wide line. -/
import Derived.Test.YtkhjjmjdicnpjaaWi
namespace Go.Proofs.Ytkhjjmjdicnpjaa
open Go.ChangeShapes Go.WideShapes Go.ChangeAt Go.RowKit
set_option linter.unusedVariables false
set_option linter.unusedSimpArgs false

theorem o4 : Try.prog.cellsOf 4 = 1 := by kernel_rfl
theorem o5 : Try.prog.cellsOf 5 = 1 := by kernel_rfl
theorem o32 : Try.prog.cellsOf 32 = 1 := by kernel_rfl
theorem o33 : Try.prog.cellsOf 33 = 2 := by kernel_rfl
theorem o34 : Try.prog.cellsOf 34 = 2 := by kernel_rfl
theorem o36 : Try.prog.cellsOf 36 = 8 := by kernel_rfl
theorem o38 : Try.prog.cellsOf 38 = 1 := by kernel_rfl
theorem o40 : Try.prog.cellsOf 40 = 5 := by kernel_rfl
theorem agg32 (w : World) : (isAgg 32).run Try.prog w = .ok false w := by kernel_rfl
theorem agg5 (w : World) : (isAgg 5).run Try.prog w = .ok false w := by kernel_rfl
theorem agg38 (w : World) : (isAgg 38).run Try.prog w = .ok false w := by kernel_rfl
theorem agg4 (w : World) : (isAgg 4).run Try.prog w = .ok false w := by kernel_rfl
theorem sizeOf32 (w : World) : (sizeOf 32).run Try.prog w = .ok 1 w := by kernel_rfl
theorem sizeOf5 (w : World) : (sizeOf 5).run Try.prog w = .ok 1 w := by kernel_rfl
/-- Two numbers of a kind. -/
def two (k : IntKind) (x y : Int) : List Value := [.int k x, .int k y]
theorem two_one (k : IntKind) (x y : Int) : ∀ v ∈ two k x y, v.oneCell' = true := by
  intro v hv
  simp only [two, List.mem_cons, List.not_mem_nil, or_false] at hv
  rcases hv with rfl | rfl <;> rfl
theorem s33 (x y : Int) : (Try.prog.info? 33).map (·.size) = some (two .i16 x y).length := by kernel_rfl
theorem s34 (x y : Int) : (Try.prog.info? 34).map (·.size) = some (two .u8 x y).length := by kernel_rfl
theorem zero33 : (Try.prog.info? 33).map (·.zero) = some (some (.agg (two .i16 0 0).toArray)) := by kernel_rfl
theorem zero34 : (Try.prog.info? 34).map (·.zero) = some (some (.agg (two .u8 0 0).toArray)) := by kernel_rfl
def cut (a : Nat → Int) (d0 d1 n0 n1 t0 t1 : Int) : List Value := M.mat 2 a ++ (two .i16 d0 d1 ++ (two .u8 n0 n1 ++ two .i16 t0 t1))
def wide (a : Nat → Int) (w h : Int) (b : Bool) : List Value := M.mat 2 a ++ [.int .u16 w, .int .i16 h, .bool b]
theorem mat2 (a : Nat → Int) : M.mat 2 a = [.int .i64 (a 0), .int .i64 (a 1)] := rfl
theorem cut_a (a : Nat → Int) (d0 d1 n0 n1 t0 t1 : Int) : ∀ k u, (M.mat 2 a)[k]? = some u → (cut a d0 d1 n0 n1 t0 t1)[0 + k]? = some u := fun k u h => by
  have hk : k < (M.mat 2 a).length := (List.getElem?_eq_some_iff.1 h).1
  rw [Nat.zero_add, cut, List.getElem?_append_left hk]
  exact h
theorem cut_d (a : Nat → Int) (d0 d1 n0 n1 t0 t1 : Int) : ∀ k u, (two .i16 d0 d1)[k]? = some u → (cut a d0 d1 n0 n1 t0 t1)[2 + k]? = some u := fun k u h => by
  have hk : k < 2 := (List.getElem?_eq_some_iff.1 h).1
  rcases (by omega : k = 0 ∨ k = 1) with rfl | rfl <;> exact h
theorem cut_n (a : Nat → Int) (d0 d1 n0 n1 t0 t1 : Int) : ∀ k u, (two .u8 n0 n1)[k]? = some u → (cut a d0 d1 n0 n1 t0 t1)[4 + k]? = some u := fun k u h => by
  have hk : k < 2 := (List.getElem?_eq_some_iff.1 h).1
  rcases (by omega : k = 0 ∨ k = 1) with rfl | rfl <;> exact h
theorem cut_t (a : Nat → Int) (d0 d1 n0 n1 t0 t1 : Int) : ∀ k u, (two .i16 t0 t1)[k]? = some u → (cut a d0 d1 n0 n1 t0 t1)[6 + k]? = some u := fun k u h => by
  have hk : k < 2 := (List.getElem?_eq_some_iff.1 h).1
  rcases (by omega : k = 0 ∨ k = 1) with rfl | rfl <;> exact h
section
variable {H : Type} {enc : TypeId × Value → H} {w : World}
theorem two_of {t e fuel : Nat} {q : IntKind} {cs : List Value} {x : DataW H × List MemPlace} (ht : Try.prog.underlying t = some (.array 2 e)) (he : Try.prog.underlying e = some (.int q)) (ho : Try.prog.cellsOf t = 2) (hoe : Try.prog.cellsOf e = 1) (hf : DataW.trod enc Try.prog w 0 (fun _ => true) true fuel t cs = some x) :
    ∃ a b : Int, cs = two q a b ∧ (Lit.int q a).wf = true ∧ (Lit.int q b).wf = true := by
  obtain ⟨xs, m, _, _, hlen, hxs, hg⟩ := DataW.trod_array ht hf
  rw [ho] at hlen
  match cs, hlen with
  | [v0, v1], _ =>
    have g0 := hg 0 (by omega)
    have g1 := hg 1 (by omega)
    simp [hoe] at g0 g1
    match xs, hxs with
    | [y0, y1], _ =>
      obtain ⟨m0, e0, _, r0⟩ := DataW.trod_int he g0
      obtain ⟨m1, e1, _, r1⟩ := DataW.trod_int he g1
      simp at e0 e1
      subst e0 e1
      exact ⟨m0, m1, rfl, r0, r1⟩
theorem cut_of {fuel : Nat} {cs : List Value} {x : DataW H × List MemPlace} (hf : DataW.trod enc Try.prog w 0 (fun _ => true) true fuel 36 cs = some x) : ∃ (a : Nat → Int) (d0 d1 n0 n1 t0 t1 : Int), cs = cut a d0 d1 n0 n1 t0 t1 ∧
    ((-32768 ≤ d0 ∧ d0 ≤ 32767) ∧ (-32768 ≤ d1 ∧ d1 ≤ 32767)) ∧ ((0 ≤ n0 ∧ n0 ≤ 255) ∧ (0 ≤ n1 ∧ n1 ≤ 255)) ∧ ((-32768 ≤ t0 ∧ t0 ≤ 32767) ∧ (-32768 ≤ t1 ∧ t1 ≤ 32767)) := by
  obtain ⟨xs, k, _, hx, hlen, hxl, hg⟩ := DataW.trod_struct Try.underlying36 hf
  rw [o36] at hlen
  match cs, hlen with
  | [v0, v1, v2, v3, v4, v5, v6, v7], _ =>
    have g0 := hg 0 _ rfl
    have g1 := hg 1 _ rfl
    have g2 := hg 2 _ rfl
    have g3 := hg 3 _ rfl
    simp [o23, o33, o34] at g0 g1 g2 g3
    match xs, hxl with
    | [y0, y1, y2, y3], _ =>
      obtain ⟨a, ha⟩ := point_of g0
      obtain ⟨d0, d1, hd, r1, r2⟩ := two_of Try.underlying33 Try.underlying32 o33 o32 g1
      obtain ⟨n0, n1, hn, r3, r4⟩ := two_of Try.underlying34 Try.underlying5 o34 o5 g2
      obtain ⟨t0, t1, ht, r5, r6⟩ := two_of Try.underlying33 Try.underlying32 o33 o32 g3
      refine ⟨a, d0, d1, n0, n1, t0, t1, ?_, ⟨bounds_i16 r1, bounds_i16 r2⟩, ⟨bounds_u8 r3, bounds_u8 r4⟩, ⟨bounds_i16 r5, bounds_i16 r6⟩⟩
      rw [cut, ← ha, ← hd, ← hn, ← ht]
      rfl
theorem wide_of {fuel : Nat} {cs : List Value} {x : DataW H × List MemPlace} (hf : DataW.trod enc Try.prog w 0 (fun _ => true) true fuel 40 cs = some x) : ∃ (a : Nat → Int) (u h : Int) (b : Bool), cs = wide a u h b ∧ (0 ≤ u ∧ u ≤ 65535) ∧ (-32768 ≤ h ∧ h ≤ 32767) := by
  obtain ⟨xs, k, _, hx, hlen, hxl, hg⟩ := DataW.trod_struct Try.underlying40 hf
  rw [o40] at hlen
  match cs, hlen with
  | [v0, v1, v2, v3, v4], _ =>
    have g0 := hg 0 _ rfl
    have g1 := hg 1 _ rfl
    have g2 := hg 2 _ rfl
    have g3 := hg 3 _ rfl
    simp [o23, o38, o32, o4] at g0 g1 g2 g3
    match xs, hxl with
    | [y0, y1, y2, y3], _ =>
      obtain ⟨a, ha⟩ := point_of g0
      obtain ⟨m1, e1, _, r1⟩ := DataW.trod_int Try.underlying38 g1
      obtain ⟨m2, e2, _, r2⟩ := DataW.trod_int Try.underlying32 g2
      obtain ⟨m3, e3, _⟩ := DataW.trod_bool Try.underlying4 g3
      simp at e1 e2 e3
      subst e1 e2 e3
      refine ⟨a, m1, m2, m3, ?_, bounds_u16 r1, bounds_i16 r2⟩
      rw [wide, ← ha]
      rfl
variable {r : Reach} {b0 : Nat} {v : Value} {d : DataW H} {p : List MemPlace}
theorem openCut (hv : Value.okWide Try.prog w r b0 36 v) (h : DataW.Trod enc Try.prog w 0 (fun _ => true) true 36 v d p) : ∃ (a : Nat → Int) (d0 d1 n0 n1 t0 t1 : Int), v = .agg (cut a d0 d1 n0 n1 t0 t1).toArray ∧
    ((-32768 ≤ d0 ∧ d0 ≤ 32767) ∧ (-32768 ≤ d1 ∧ d1 ≤ 32767)) ∧ ((0 ≤ n0 ∧ n0 ≤ 255) ∧ (0 ≤ n1 ∧ n1 ≤ 255)) ∧ ((-32768 ≤ t0 ∧ t0 ≤ 32767) ∧ (-32768 ≤ t1 ∧ t1 ≤ 32767)) := by
  obtain ⟨cs, rfl, hsz⟩ := okWide_struct Try.underlying36 hv
  obtain ⟨fuel, hf⟩ := h
  obtain ⟨a, d0, d1, n0, n1, t0, t1, ha, hr⟩ := cut_of hf
  refine ⟨a, d0, d1, n0, n1, t0, t1, ?_, hr⟩
  obtain ⟨l⟩ := cs
  have : l = cut a d0 d1 n0 n1 t0 t1 := ha
  rw [this]
theorem openWide (hv : Value.okWide Try.prog w r b0 40 v) (h : DataW.Trod enc Try.prog w 0 (fun _ => true) true 40 v d p) : ∃ (a : Nat → Int) (u h_ : Int) (b : Bool), v = .agg (wide a u h_ b).toArray ∧ (0 ≤ u ∧ u ≤ 65535) ∧ (-32768 ≤ h_ ∧ h_ ≤ 32767) := by
  obtain ⟨cs, rfl, hsz⟩ := okWide_struct Try.underlying40 hv
  obtain ⟨fuel, hf⟩ := h
  obtain ⟨a, u, h_, b, ha, hr⟩ := wide_of hf
  refine ⟨a, u, h_, b, ?_, hr⟩
  obtain ⟨l⟩ := cs
  have : l = wide a u h_ b := ha
  rw [this]
end
end Go.Proofs.Ytkhjjmjdicnpjaa
