/- Arguments that came in. -/
import Derived.Test.YtpfhaocmcfnhnaaGreatTw
import Derived.Deep.Slices
import Derived.Lib.SmallJoins
import Derived.OpenShut
namespace Go.Proofs.YtpfhaocmcfnhnaaGreat
open Go.ChangeShapes Go.WideShapes Go.ChangeAt Go.RowKit
set_option linter.unusedVariables false
set_option linter.unusedSimpArgs false

set_option maxRecDepth 100000
theorem o3 : Tryz.prog.cellsOf 3 = 1 := by kernel_rfl
theorem o4 : Tryz.prog.cellsOf 4 = 1 := by kernel_rfl
theorem oC : Tryz.prog.cellsOf 23 = 4 := by kernel_rfl
theorem oW : Tryz.prog.cellsOf 25 = 7 := by kernel_rfl
theorem oH : Tryz.prog.cellsOf 27 = 3 := by kernel_rfl
theorem oR : Tryz.prog.cellsOf 29 = 4 := by kernel_rfl
theorem oL : Tryz.prog.cellsOf 31 = 23 := by kernel_rfl
theorem mat4 (a : Nat → Int) : M.mat 4 a = [.int .i64 (a 0), .int .i64 (a 1), .int .i64 (a 2), .int .i64 (a 3)] := rfl
/-- A line, and a rectangle. -/
def lw (a b : Nat → Int) (n : Int) (s : Bool) (d r : Nat → Int) : List Value := M.mat 7 a ++ (M.mat 7 b ++ ([.int .i64 n, .bool s] ++ (M.mat 3 d ++ M.mat 4 r)))
section
variable (a b : Nat → Int) (n : Int) (s : Bool) (d r : Nat → Int)
theorem lw_a : ∀ k u, (M.mat 7 a)[k]? = some u → (lw a b n s d r)[0 + k]? = some u := fun k u h => by
 have hk : k < (M.mat 7 a).length := (List.getElem?_eq_some_iff.1 h).1
 rw [Nat.zero_add, lw, List.getElem?_append_left hk]
 exact h
theorem lw_b : ∀ k u, (M.mat 7 b)[k]? = some u → (lw a b n s d r)[7 + k]? = some u := fun k u h => by
 have hk : k < 7 := by
  have := (List.getElem?_eq_some_iff.1 h).1
  rwa [M.mat_len] at this
 rw [lw, List.getElem?_append_right (by rw [M.mat_len]; omega), M.mat_len, Nat.add_sub_cancel_left, List.getElem?_append_left (by rw [M.mat_len]; exact hk)]
 exact h
theorem lw_d : ∀ k u, (M.mat 3 d)[k]? = some u → (lw a b n s d r)[16 + k]? = some u := fun k u h => by
 have hk : k < 3 := by
  have := (List.getElem?_eq_some_iff.1 h).1
  rwa [M.mat_len] at this
 rcases (by omega : k = 0 ∨ k = 1 ∨ k = 2) with rfl | rfl | rfl <;> exact h
theorem lw_r : ∀ k u, (M.mat 4 r)[k]? = some u → (lw a b n s d r)[19 + k]? = some u := fun k u h => by
 have hk : k < 4 := by
  have := (List.getElem?_eq_some_iff.1 h).1
  rwa [M.mat_len] at this
 rcases (by omega : k = 0 ∨ k = 1 ∨ k = 2 ∨ k = 3) with rfl | rfl | rfl | rfl <;> exact h
theorem lw_n : (lw a b n s d r)[14]? = some (.int .i64 n) := rfl
theorem lw_s : (lw a b n s d r)[15]? = some (.bool s) := rfl
end
theorem agg4' (w : World) : (isAgg 4).run Tryz.prog w = .ok false w := by kernel_rfl
section
variable {H : Type} {enc : TypeId × Value → H} {w : World}
theorem some_of {n t fuel : Nat} {cs : List Value} {x : DataW H × List MemPlace} (ht : Tryz.prog.underlying t = some (.array n 3)) (ho : Tryz.prog.cellsOf t = n) (hf : DataW.trod enc Tryz.prog w 0 (fun _ => true) true fuel t cs = some x) : ∃ a : Nat → Int, cs = M.mat n a ∧ ∀ i, i < n → -9223372036854775808 ≤ a i ∧ a i < 9223372036854775808 := by
 obtain ⟨xs, m, _, _, hlen, hxs, hg⟩ := DataW.trod_array ht hf
 rw [ho] at hlen
 have each : ∀ i, i < n → ∃ z : Int, cs[i]? = some (.int .i64 z) ∧ (-9223372036854775808 ≤ z ∧ z < 9223372036854775808) := by
  intro i hi
  have g := hg i hi
  obtain ⟨y, hy⟩ : ∃ y, xs[i]? = some y := ⟨_, List.getElem?_eq_getElem (by omega)⟩
  have hil : i < cs.length := by omega
  rw [hy, o3, Nat.mul_one, List.drop_eq_getElem_cons hil, List.take_succ_cons, List.take_zero] at g
  obtain ⟨z, e2, _, r⟩ := DataW.trod_int Tryz.underlying3 g
  obtain ⟨e2, _⟩ := List.cons.inj e2
  have hb := bounds_i64 r
  exact ⟨z, by rw [List.getElem?_eq_getElem hil, e2], by omega⟩
 obtain ⟨f, hf'⟩ := Go.Deep.choose_lt each
 refine ⟨f, List.ext_getElem? fun i => ?_, fun i hi => (hf' i hi).2⟩
 by_cases hi : i < n
 · rw [(hf' i hi).1, M.mat_get hi]
 · rw [List.getElem?_eq_none (by omega), List.getElem?_eq_none (by rw [M.mat_len]; omega)]
theorem win_of {fuel : Nat} {cs : List Value} {x : DataW H × List MemPlace} (hf : DataW.trod enc Tryz.prog w 0 (fun _ => true) true fuel 25 cs = some x) : ∃ a : Nat → Int, cs = M.mat 7 a := by
 obtain ⟨xs, k, _, hx, hlen, hxl, hg⟩ := DataW.trod_struct Tryz.underlying25 hf
 rw [oW] at hlen
 match cs, hlen with
 | [v0, v1, v2, v3, v4, v5, v6], _ =>
  have g0 := hg 0 _ rfl
  have g1 := hg 1 _ rfl
  have g2 := hg 2 _ rfl
  have g3 := hg 3 _ rfl
  simp [o3, oC] at g0 g1 g2 g3
  match xs, hxl with
  | [y0, y1, y2, y3], _ =>
   obtain ⟨m0, e0, _, _⟩ := DataW.trod_int Tryz.underlying3 g0
   obtain ⟨m1, e1, _, _⟩ := DataW.trod_int Tryz.underlying3 g1
   obtain ⟨m2, e2, _, _⟩ := DataW.trod_int Tryz.underlying3 g2
   simp at e0 e1 e2
   subst e0 e1 e2
   obtain ⟨a, ha, -⟩ := some_of Tryz.underlying23 oC g3
   rw [mat4] at ha
   simp at ha
   obtain ⟨rfl, rfl, rfl, rfl⟩ := ha
   exact ⟨fun i => if i = 0 then m0 else if i = 1 then m1 else if i = 2 then m2 else a (i - 3), rfl⟩
theorem dash_of {fuel : Nat} {cs : List Value} {x : DataW H × List MemPlace} (hf : DataW.trod enc Tryz.prog w 0 (fun _ => true) true fuel 27 cs = some x) : ∃ a : Nat → Int, cs = M.mat 3 a := by
 obtain ⟨xs, k, _, hx, hlen, hxl, hg⟩ := DataW.trod_struct Tryz.underlying27 hf
 rw [oH] at hlen
 match cs, hlen with
 | [v0, v1, v2], _ =>
  have g0 := hg 0 _ rfl
  have g1 := hg 1 _ rfl
  have g2 := hg 2 _ rfl
  simp [o3] at g0 g1 g2
  match xs, hxl with
  | [y0, y1, y2], _ =>
   obtain ⟨m0, e0, _, _⟩ := DataW.trod_int Tryz.underlying3 g0
   obtain ⟨m1, e1, _, _⟩ := DataW.trod_int Tryz.underlying3 g1
   obtain ⟨m2, e2, _, _⟩ := DataW.trod_int Tryz.underlying3 g2
   simp at e0 e1 e2
   subst e0 e1 e2
   exact ⟨HM.t3 m0 m1 m2, rfl⟩
theorem rect_of {fuel : Nat} {cs : List Value} {x : DataW H × List MemPlace} (hf : DataW.trod enc Tryz.prog w 0 (fun _ => true) true fuel 29 cs = some x) : ∃ a : Nat → Int, cs = M.mat 4 a := by
 obtain ⟨xs, k, _, hx, hlen, hxl, hg⟩ := DataW.trod_struct Tryz.underlying29 hf
 rw [oR] at hlen
 match cs, hlen with
 | [v0, v1, v2, v3], _ =>
  have g0 := hg 0 _ rfl
  have g1 := hg 1 _ rfl
  have g2 := hg 2 _ rfl
  have g3 := hg 3 _ rfl
  simp [o3] at g0 g1 g2 g3
  match xs, hxl with
  | [y0, y1, y2, y3], _ =>
   obtain ⟨m0, e0, _, _⟩ := DataW.trod_int Tryz.underlying3 g0
   obtain ⟨m1, e1, _, _⟩ := DataW.trod_int Tryz.underlying3 g1
   obtain ⟨m2, e2, _, _⟩ := DataW.trod_int Tryz.underlying3 g2
   obtain ⟨m3, e3, _, _⟩ := DataW.trod_int Tryz.underlying3 g3
   simp at e0 e1 e2 e3
   subst e0 e1 e2 e3
   exact ⟨RC.mk m0 m1 m2 m3, rfl⟩
theorem line_of {fuel : Nat} {cs : List Value} {x : DataW H × List MemPlace} (hf : DataW.trod enc Tryz.prog w 0 (fun _ => true) true fuel 31 cs = some x) : ∃ (a b : Nat → Int) (n : Int) (s : Bool) (d r : Nat → Int), cs = lw a b n s d r := by
 obtain ⟨xs, k, _, hx, hlen, hxl, hg⟩ := DataW.trod_struct Tryz.underlying31 hf
 rw [oL] at hlen
 match cs, hlen with
 | [v0, v1, v2, v3, v4, v5, v6, v7, v8, v9, v10, v11, v12, v13, v14, v15, v16, v17, v18, v19, v20, v21, v22], _ =>
  have g0 := hg 0 _ rfl
  have g1 := hg 1 _ rfl
  have g2 := hg 2 _ rfl
  have g3 := hg 3 _ rfl
  have g4 := hg 4 _ rfl
  have g5 := hg 5 _ rfl
  simp [o3, o4, oW, oH, oR] at g0 g1 g2 g3 g4 g5
  match xs, hxl with
  | [y0, y1, y2, y3, y4, y5], _ =>
   obtain ⟨a, ha⟩ := win_of g0
   obtain ⟨b, hb⟩ := win_of g1
   obtain ⟨n, hn, _, _⟩ := DataW.trod_int Tryz.underlying3 g2
   obtain ⟨s, hs, _⟩ := DataW.trod_bool Tryz.underlying4 g3
   obtain ⟨d, hd⟩ := dash_of g4
   obtain ⟨r, hr⟩ := rect_of g5
   refine ⟨a, b, n, s, d, r, ?_⟩
   simp at hn hs
   subst hn hs
   rw [lw, ← ha, ← hb, ← hd, ← hr]
   rfl
variable {r : Reach} {b0 : Nat} {v : Value} {d : DataW H} {p : List MemPlace}
theorem openLine (hv : Value.okWide Tryz.prog w r b0 31 v) (h : DataW.Trod enc Tryz.prog w 0 (fun _ => true) true 31 v d p) : ∃ (a b : Nat → Int) (n : Int) (s : Bool) (d r : Nat → Int), v = .agg (lw a b n s d r).toArray := by
 obtain ⟨cs, rfl, hsz⟩ := okWide_struct Tryz.underlying31 hv
 obtain ⟨fuel, hf⟩ := h
 obtain ⟨a, b, n, s, d, r, ha⟩ := line_of hf
 refine ⟨a, b, n, s, d, r, ?_⟩
 obtain ⟨l⟩ := cs
 have : l = lw a b n s d r := ha
 rw [this]
end
end Go.Proofs.YtpfhaocmcfnhnaaGreat
