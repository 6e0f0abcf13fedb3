/- The document's example; arguments that came in. -/
import Derived.Test.YtjhefgfnecdcoaaVp
import Derived.Deep.Slices
import Derived.Lib.SmallJoins
import Derived.OpenShut
namespace Go.Proofs.Ytjhefgfnecdcoaa
open Go.ChangeShapes Go.WideShapes Go.ChangeAt Go.RowKit
set_option linter.unusedVariables false
set_option linter.unusedSimpArgs false

theorem VM.ex1 : VM.mid 0 10 1 4 = 2 := by decide
theorem VM.ex2 : VM.mid 10 0 9 4 = 0 := by decide
set_option maxHeartbeats 1000000 in
theorem awake_any (w : World) : Calls Try.prog 8 #[] w fun e w' => e = .returned (.bool true) ∧ Below w.heap.size w w' := by
  have O := Own.start w
  have C1 := fun w => pmid_any 0 10 1 4 (by decide) (by decide) (by decide) (by decide) w
  have C2 := fun w => pmid_any 10 0 9 4 (by decide) (by decide) (by decide) (by decide) w
  rw [VM.ex1] at C1
  rw [VM.ex2] at C2
  have tok0 : True := trivial
  go_enter Try.func8, Try.ntmps8
  go_wp2_with (first | (go_at_call 9; clear tok0; have tok1 : True := trivial; refine (C1 _).mono ?_; rintro e w1 ⟨rfl, hb⟩; replace O := O.call hb; clear hb) | (go_at_call 9; clear tok1; have tok2 : True := trivial; refine (C2 _).mono ?_; rintro e w2 ⟨rfl, hb⟩; replace O := O.call hb; clear hb))
  go_ret
  exact ⟨rfl, O.below⟩
theorem o3 : Try.prog.cellsOf 3 = 1 := by kernel_rfl
theorem o22 : Try.prog.cellsOf 22 = 2 := by kernel_rfl
theorem o28 : Try.prog.cellsOf 28 = 4 := by kernel_rfl
theorem o30 : Try.prog.cellsOf 30 = 7 := by kernel_rfl
theorem o36 : Try.prog.cellsOf 37 = 18 := by kernel_rfl
section
variable {H : Type} {enc : TypeId × Value → H} {w : World}
theorem some_of {n t fuel : Nat} {cs : List Value} {x : DataW H × List MemPlace} (ht : Try.prog.underlying t = some (.array n 3)) (ho : Try.prog.cellsOf t = n) (hf : DataW.trod enc Try.prog w 0 (fun _ => true) true fuel t cs = some x) : ∃ a : Nat → Int, cs = M.mat n a ∧ ∀ i, i < n → -9223372036854775808 ≤ a i ∧ a i < 9223372036854775808 := by
  obtain ⟨xs, m, _, _, hlen, hxs, hg⟩ := DataW.trod_array ht hf
  rw [ho] at hlen
  have each : ∀ i, i < n → ∃ z : Int, cs[i]? = some (.int .i64 z) ∧ (-9223372036854775808 ≤ z ∧ z < 9223372036854775808) := by
    intro i hi
    have g := hg i hi
    obtain ⟨y, hy⟩ : ∃ y, xs[i]? = some y := ⟨_, List.getElem?_eq_getElem (by omega)⟩
    have hil : i < cs.length := by omega
    rw [hy, o3, Nat.mul_one, List.drop_eq_getElem_cons hil, List.take_succ_cons, List.take_zero] at g
    obtain ⟨z, e2, _, r⟩ := DataW.trod_int Try.underlying3 g
    obtain ⟨e2, _⟩ := List.cons.inj e2
    have hb := bounds_i64 r
    exact ⟨z, by rw [List.getElem?_eq_getElem hil, e2], by omega⟩
  obtain ⟨f, hf'⟩ := Go.Deep.choose_lt each
  refine ⟨f, List.ext_getElem? fun i => ?_, fun i hi => (hf' i hi).2⟩
  by_cases hi : i < n
  · rw [(hf' i hi).1, M.mat_get hi]
  · rw [List.getElem?_eq_none (by omega), List.getElem?_eq_none (by rw [M.mat_len]; omega)]
theorem mat2 (a : Nat → Int) : M.mat 2 a = [.int .i64 (a 0), .int .i64 (a 1)] := rfl
theorem mat4 (a : Nat → Int) : M.mat 4 a = [.int .i64 (a 0), .int .i64 (a 1), .int .i64 (a 2), .int .i64 (a 3)] := rfl
theorem mat7 (a : Nat → Int) : M.mat 7 a = [.int .i64 (a 0), .int .i64 (a 1), .int .i64 (a 2), .int .i64 (a 3), .int .i64 (a 4), .int .i64 (a 5), .int .i64 (a 6)] := rfl
theorem win_of {fuel : Nat} {cs : List Value} {x : DataW H × List MemPlace} (hf : DataW.trod enc Try.prog w 0 (fun _ => true) true fuel 30 cs = some x) : ∃ a : Nat → Int, cs = M.mat 7 a := by
  obtain ⟨xs, k, _, hx, hlen, hxl, hg⟩ := DataW.trod_struct Try.underlying30 hf
  rw [o30] at hlen
  match cs, hlen with
  | [v0, v1, v2, v3, v4, v5, v6], _ =>
    have g0 := hg 0 _ rfl
    have g1 := hg 1 _ rfl
    have g2 := hg 2 _ rfl
    have g3 := hg 3 _ rfl
    simp [o3, o28] at g0 g1 g2 g3
    match xs, hxl with
    | [y0, y1, y2, y3], _ =>
      obtain ⟨m0, e0, _, _⟩ := DataW.trod_int Try.underlying3 g0
      obtain ⟨m1, e1, _, _⟩ := DataW.trod_int Try.underlying3 g1
      obtain ⟨m2, e2, _, _⟩ := DataW.trod_int Try.underlying3 g2
      simp at e0 e1 e2
      subst e0 e1 e2
      obtain ⟨a, ha, -⟩ := some_of Try.underlying28 o28 g3
      rw [mat4] at ha
      simp at ha
      obtain ⟨rfl, rfl, rfl, rfl⟩ := ha
      exact ⟨fun i => if i = 0 then m0 else if i = 1 then m1 else if i = 2 then m2 else a (i - 3), rfl⟩
/-- A line, a pixel, how much further. -/
def VM.fu (a b p q : Nat → Int) : List Value := M.mat 7 a ++ (M.mat 7 b ++ (M.mat 2 p ++ M.mat 2 q))
theorem fur_of {fuel : Nat} {cs : List Value} {x : DataW H × List MemPlace} (hf : DataW.trod enc Try.prog w 0 (fun _ => true) true fuel 37 cs = some x) : ∃ (a b p q : Nat → Int), cs = VM.fu a b p q := by
  obtain ⟨xs, k, _, hx, hlen, hxl, hg⟩ := DataW.trod_struct Try.underlying37 hf
  rw [o36] at hlen
  match cs, hlen with
  | [v0, v1, v2, v3, v4, v5, v6, v7, v8, v9, v10, v11, v12, v13, v14, v15, v16, v17], _ =>
    have g0 := hg 0 _ rfl
    have g1 := hg 1 _ rfl
    have g2 := hg 2 _ rfl
    have g3 := hg 3 _ rfl
    simp [o30, o22] at g0 g1 g2 g3
    match xs, hxl with
    | [y0, y1, y2, y3], _ =>
      obtain ⟨a, ha⟩ := win_of g0
      obtain ⟨b, hb⟩ := win_of g1
      obtain ⟨p, hp, -⟩ := some_of Try.underlying22 o22 g2
      obtain ⟨q, hq, -⟩ := some_of Try.underlying22 o22 g3
      refine ⟨a, b, p, q, ?_⟩
      rw [VM.fu, ← ha, ← hb, ← hp, ← hq]
      rfl
variable {r : Reach} {b0 : Nat} {v : Value} {d : DataW H} {p : List MemPlace}
theorem openWin (hv : Value.okWide Try.prog w r b0 30 v) (h : DataW.Trod enc Try.prog w 0 (fun _ => true) true 30 v d p) : ∃ a : Nat → Int, v = arr 7 a := by
  obtain ⟨cs, rfl, hsz⟩ := okWide_struct Try.underlying30 hv
  obtain ⟨fuel, hf⟩ := h
  obtain ⟨a, ha⟩ := win_of hf
  refine ⟨a, ?_⟩
  obtain ⟨l⟩ := cs
  have : l = M.mat 7 a := ha
  rw [this]
theorem openPair (hv : Value.okWide Try.prog w r b0 22 v) (h : DataW.Trod enc Try.prog w 0 (fun _ => true) true 22 v d p) : ∃ a : Nat → Int, v = arr 2 a ∧ ∀ i, i < 2 → -9223372036854775808 ≤ a i ∧ a i < 9223372036854775808 := by
  simp only [Value.okWide, Try.underlying22] at hv
  obtain ⟨cs, rfl, hsz, _⟩ := hv
  obtain ⟨fuel, hf⟩ := h
  obtain ⟨a, ha, hr⟩ := some_of Try.underlying22 o22 hf
  refine ⟨a, ?_, hr⟩
  obtain ⟨l⟩ := cs
  have : l = M.mat 2 a := ha
  rw [this]
theorem openFur (hv : Value.okWide Try.prog w r b0 37 v) (h : DataW.Trod enc Try.prog w 0 (fun _ => true) true 37 v d p) : ∃ (a b p q : Nat → Int), v = .agg (VM.fu a b p q).toArray := by
  obtain ⟨cs, rfl, hsz⟩ := okWide_struct Try.underlying37 hv
  obtain ⟨fuel, hf⟩ := h
  obtain ⟨a, b, p, q, ha⟩ := fur_of hf
  refine ⟨a, b, p, q, ?_⟩
  obtain ⟨l⟩ := cs
  have : l = VM.fu a b p q := ha
  rw [this]
end
end Go.Proofs.Ytjhefgfnecdcoaa
