/- Lists; facts of DotCounts. -/
import Derived.Test.YtlmgilcigbnbaaaDt
namespace Go.Proofs.Ytlmgilcigbnbaaa
open Go.ChangeShapes Go.WideShapes Go.ChangeAt Go.RowKit
set_option linter.unusedVariables false
set_option linter.unusedSimpArgs false

/-- Lists that calls in a region hand back at any time: of each its operation. -/
def HSn (w0 : World) (bs : List (Nat × TypeId × List Value)) (js : List (Nat × List (Nat → Int))) (st : Nat → Option Value) (w : World) : Prop :=
  Own w0 w bs ∧ ∀ j l, (j, l) ∈ js → ∀ v, st j = some v → ∃ A c, v = .slice A l.length c ∧ Held w0 w bs nilRow [gE w0.heap.size A c l]
section
variable {w0 w w' : World} {bs : List (Nat × TypeId × List Value)} {js : List (Nat × List (Nat → Int))} {st : Nat → Option Value} {j : Nat} {l : List (Nat → Int)}
theorem HSn.start (O : Own w0 w bs) : HSn w0 bs js (fun _ => none) w := ⟨O, fun j l hm v hv => (by cases hv)⟩
theorem HSn.call (h : HSn w0 bs js st w) (hb : Below w.heap.size w w') : HSn w0 bs js st w' := ⟨h.1.call hb, fun j l hm v hv => by
  obtain ⟨A, c, e, hH⟩ := h.2 j l hm v hv
  exact ⟨A, c, e, hH.call hb⟩⟩
theorem HSn.gain (h : HSn w0 bs js st w) (hu : ∀ l', (j, l') ∈ js → l' = l) {A : Option Addr} {c : Nat} (hL : Lies w' free (gE w.heap.size A c l)) (hb : Below w.heap.size w w') : HSn w0 bs js (upd st j (.slice A l.length c)) w' := by
  refine ⟨h.1.call hb, fun j' l' hm v hv => ?_⟩
  by_cases e : j' = j
  · subst e
    rw [upd_same] at hv
    obtain rfl := Option.some.inj hv
    obtain rfl := hu l' hm
    exact ⟨A, c, rfl, h.1.held.gain hb hL⟩
  · rw [upd_other _ _ e] at hv
    exact (h.call hb).2 j' l' hm v hv
theorem HSn.get (h : HSn w0 bs js st w) (hm : (j, l) ∈ js) (ha : (st j).isSome = true) : ∃ A c, st j = some (.slice A l.length c) ∧ Held w0 w bs nilRow [gE w0.heap.size A c l] := by
  obtain ⟨v, hv⟩ := Option.isSome_iff_exists.1 ha
  obtain ⟨A, c, rfl, hH⟩ := h.2 j l hm v hv
  exact ⟨A, c, hv, hH⟩
end
section
variable {ops : Array Oper} {Q : Exit → Act → World → Prop} {a : Act} {w : World} {rest : List Oper} {dst : Option Tmp} {ty : TypeId} {pos : String} {after : Array Edge} {K : Act → World → Prop}
theorem wp_neqC {t' : TypeId} {x y : Operand} {gd : Option (Nat × Bool)} (p q : Nat → Int) (hx : a.eval x = arr 4 p) (hy : a.eval y = arr 4 q)
    (h : K (a.put dst (.bool (!M.eqB 4 p q))) w) : Oper.wp Try.prog ⟨dst, .binOp .neq 23 x y t', ty, pos, after, gd⟩ a w K Q := by
  unfold Oper.wp execOp
  simp only [hx, hy, Sem.run_bind, run_eqGuard_agg _ _ _ _ _ _ _ Try.eqGuardType23, run_neq_struct, run_eqC, Result.andThen_ok]
  exact h
end
/-- A color in a list's fragment. -/
theorem gC_col {l : List (Nat → Int)} {i : Nat} {f : Nat → Int} (h : l[i]? = some f) : ∀ j u, (M.mat 4 (D.sub 3 f))[j]? = some u → (gC l)[i * 8 + 3 + j]? = some u := fun j u hu => by
  rw [Nat.add_assoc]
  exact gC_at h (3 + j) u (mat_sub f (by decide) j u hu)
namespace DT
theorem square_at {v : Nat → Int} {s : Int} (h : right v s 0 = true) {i : Nat} (hi : i < s.toNat * s.toNat) : ∃ f g, (pt v s 0 (whole v s))[i]? = some f ∧ (pt v s 2 (whole v s))[i]? = some g ∧ (g 0 = f 0 ∧ g 1 = f 1) ∧ (f 7 = 64 ∧ g 7 = 64) ∧ RC.has (box v s) (f 0) (f 1) = true := by
  obtain ⟨_, hs, _⟩ := right_iff.1 h
  have h2 : right v s 2 = true := by
    obtain ⟨a, b, _⟩ := right_iff.1 h
    exact right_iff.2 ⟨a, b, by decide, by decide⟩
  rw [pt_square h (by decide), pt_square h2 (by decide)]
  refine ⟨_, _, grid_at _ _ _ _ hi, grid_at _ _ _ _ hi, ⟨rfl, rfl⟩, ⟨rfl, rfl⟩, ?_⟩
  obtain ⟨S, hS⟩ : ∃ S, s.toNat = S := ⟨_, rfl⟩
  rw [hS] at hi ⊢
  have hS0 : 0 < S := by omega
  have l1 := Nat.mod_lt i hS0
  have l2 : i / S < S := (Nat.div_lt_iff_lt_mul hS0).2 hi
  refine has_iff.2 ⟨box_right h, ?_⟩
  rw [box_ok h]
  show first (v 0) s ≤ first (v 0) s + ((i % S : Nat) : Int) ∧ first (v 0) s + ((i % S : Nat) : Int) < first (v 0) s + s ∧ first (v 1) s ≤ first (v 1) s + ((i / S : Nat) : Int) ∧ first (v 1) s + ((i / S : Nat) : Int) < first (v 1) s + s
  generalize i % S = m at *
  generalize i / S = d at *
  omega
def grown (b : Nat → Int) : Nat → Int := RC.mk (b 0 - 2) (b 1 - 2) (b 2 + 2) (b 3 + 2)
theorem grown_has {v : Nat → Int} {s : Int} (h : right v s 0 = true) {f : Nat → Int} (hf : f ∈ pt v s 1 (whole v s)) : RC.has (grown (box v s)) (f 0) (f 1) = true := by
  obtain ⟨hfit, hs, _⟩ := right_iff.1 h
  obtain ⟨l0, l1, -⟩ := VM.fit_lim hfit
  have h1 : right v s 1 = true := right_iff.2 ⟨hfit, hs, by decide, by decide⟩
  obtain ⟨k0, k1, _⟩ := pt_round_mem h1 hf
  have f0 := first_lim l0 hs
  have f1 := first_lim l1 hs
  refine has_iff.2 ?_
  unfold grown
  rw [box_ok h]
  refine ⟨?_, ?_⟩
  · rw [RC.right_iff]
    show ((-4194304 ≤ first (v 0) s - 2 ∧ first (v 0) s - 2 ≤ 4194304) ∧ (-4194304 ≤ first (v 1) s - 2 ∧ first (v 1) s - 2 ≤ 4194304) ∧ (-4194304 ≤ first (v 0) s + s + 2 ∧ first (v 0) s + s + 2 ≤ 4194304) ∧ (-4194304 ≤ first (v 1) s + s + 2 ∧ first (v 1) s + s + 2 ≤ 4194304)) ∧ (first (v 0) s - 2 < first (v 0) s + s + 2) ∧ (first (v 1) s - 2 < first (v 1) s + s + 2)
    omega
  · show first (v 0) s - 2 ≤ f 0 ∧ f 0 < first (v 0) s + s + 2 ∧ first (v 1) s - 2 ≤ f 1 ∧ f 1 < first (v 1) s + s + 2
    omega
theorem box_lim {v : Nat → Int} {s : Int} (h : right v s 0 = true) : (-4194304 ≤ box v s 0 ∧ box v s 0 ≤ 4194304) ∧ (-4194304 ≤ box v s 1 ∧ box v s 1 ≤ 4194304) ∧ (-4194304 ≤ box v s 2 ∧ box v s 2 ≤ 4194304) ∧ (-4194304 ≤ box v s 3 ∧ box v s 3 ≤ 4194304) := (RC.right_iff.1 (box_right h)).1
end DT
end Go.Proofs.Ytlmgilcigbnbaaa
