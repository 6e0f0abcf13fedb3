/- Runs in memory. -/
import Derived.Test.YtpomdghalkphcaaHt
namespace Go.Proofs.Ytpomdghalkphcaa
open Go.ChangeShapes Go.WideShapes Go.ChangeAt Go.RowKit
set_option linter.unusedVariables false
set_option linter.unusedSimpArgs false

/-- A run as numbers. -/
def sF (s : Nat × Nat) : Nat → Int := HM.t2 s.1 s.2
theorem flat_len {α : Type} (f : α → List Value) (s : Nat) (hf : ∀ x, (f x).length = s) : ∀ l : List α, (l.flatMap f).length = l.length * s
  | [] => by simp
  | a :: l => by rw [List.flatMap_cons, List.length_append, hf, flat_len f s hf l, List.length_cons, Nat.add_mul, Nat.one_mul, Nat.add_comm]
theorem flat_at {α : Type} (f : α → List Value) (s : Nat) (hf : ∀ x, (f x).length = s) : ∀ {l : List α} {i : Nat} {x : α}, l[i]? = some x → ∀ j v, (f x)[j]? = some v → (l.flatMap f)[i * s + j]? = some v
  | a :: l, 0, x, h, j, v, hv => by
    obtain rfl : a = x := by simpa using h
    have := (List.getElem?_eq_some_iff.1 hv).1
    rw [List.flatMap_cons, List.getElem?_append_left (by omega), Nat.zero_mul, Nat.zero_add]
    exact hv
  | a :: l, i + 1, x, h, j, v, hv => by
    rw [List.flatMap_cons, List.getElem?_append_right (by rw [hf, Nat.add_mul, Nat.one_mul]; omega), hf, show (i + 1) * s + j - s = i * s + j by rw [Nat.add_mul, Nat.one_mul]; omega]
    exact flat_at f s hf (l := l) (by simpa using h) j v hv
/-- Runs in memory. -/
def tC (l : List (Nat × Nat)) : List Value := l.flatMap (fun s => M.mat 2 (sF s))
theorem tC_len (l : List (Nat × Nat)) : (tC l).length = l.length * 2 := flat_len _ 2 (fun s => M.mat_len 2 _) l
theorem tC_at {l : List (Nat × Nat)} {i : Nat} {x : Nat × Nat} (h : l[i]? = some x) : ∀ j v, (M.mat 2 (sF x))[j]? = some v → (tC l)[i * 2 + j]? = some v := flat_at _ 2 (fun s => M.mat_len 2 _) h
theorem tC_app (a b : List (Nat × Nat)) : tC (a ++ b) = tC a ++ tC b := by simp [tC]
theorem tC_part (l : List (Nat × Nat)) (i k : Nat) : ((tC l).drop (i * 2)).take (k * 2) = tC ((l.drop i).take k) := flat_part _ 2 (fun s => M.mat_len 2 _) l i k
theorem tC_one (l : List (Nat × Nat)) : ∀ v ∈ tC l, v.oneCell' = true := by
  intro v hv
  obtain ⟨a, _, ha⟩ := List.mem_flatMap.1 hv
  exact M.mat_one 2 _ v ha
def tE (lo : Nat) (A : Option Addr) (c : Nat) (l : List (Nat × Nat)) : Ent := ⟨lo, A, l.length, c, 2, tC l⟩
/-- A row of runs that grows. -/
def tR (A : Option Addr) (c : Nat) (l : List (Nat × Nat)) : RowD := ⟨.slice A l.length c, 33, 2, l.length, tC l⟩
section
variable {w0 w : World} {bs : List (Nat × TypeId × List Value)} {es : List Ent} {A : Option Addr} {n c : Nat}
theorem Held.row_val' {R : RowD} (h : Held w0 w bs R es) : ∃ A c, R.v = .slice A R.n c := by
  obtain ⟨A, c, hv, -⟩ := row_lies h.2.1
  exact ⟨A, c, hv⟩
theorem tR_of {l m : List (Nat × Nat)} {v : Value} {n : Nat} (hn : n = l.length + m.length) (O : Held w0 w bs ⟨v, 33, 2, n, tC l ++ tC m⟩ es) : ∃ A c, v = .slice A (l ++ m).length c ∧ Held w0 w bs (tR A c (l ++ m)) es := by
  subst hn
  obtain ⟨A, c, hv⟩ := O.row_val'
  dsimp only at hv
  subst hv
  refine ⟨A, c, by simp, ?_⟩
  unfold tR
  rw [tC_app, List.length_append]
  exact O
/-- The row is cut behind its first k. -/
theorem Held.cut {l : List (Nat × Nat)} (O : Held w0 w bs (tR A c l) es) {k : Nat} (hk : k ≤ l.length) : Held w0 w bs (tR A c (l.take k)) es := by
  obtain ⟨h1, h2, h3, h4⟩ := O
  have hl : (l.take k).length = k := by rw [List.length_take]; omega
  have hw : w.ownsRow w0.heap.size 33 2 (.slice A (l.take k).length c) (l.take k).length (tC (l.take k)) := by
    refine ⟨tC_len _, ?_⟩
    rcases h2.2 with ⟨hv, hn⟩ | ⟨g, cap, cur, hv, hb, hg, hnc, hm, hcs, ht⟩
    · refine .inl ?_
      dsimp only [tR] at hv hn
      rw [hl]
      injection hv with e1 e2 e3
      subst e1 e3
      refine ⟨?_, by omega⟩
      rw [show k = 0 by omega]
    · refine .inr ⟨g, cap, cur, ?_, hb, hg, by dsimp only [tR] at hnc; omega, hm, hcs, ?_⟩
      · dsimp only [tR] at hv
        injection hv with e1 e2 e3
        rw [e1, e3]
      · dsimp only [tR] at ht
        have h5 := tC_part l 0 k
        rw [Nat.zero_mul, List.drop_zero, List.drop_zero] at h5
        rw [hl, ← h5, ← ht, List.take_take, Nat.min_eq_left (Nat.mul_le_mul_right 2 hk)]
  refine ⟨h1, hw, ?_, ?_⟩
  · intro x hx e
    refine h3 x hx ?_
    rw [← e]
    cases A <;> rfl
  · intro x hx
    refine (h4 x hx).turn (Nat.le_refl _) (fun _ _ _ => rfl) (fun b _ hn hm => hn ?_)
    rcases hm with e | e
    · refine .inl ?_
      rw [← e]
      cases A <;> rfl
    · exact .inr e
end
/-- How runs are handed back. -/
def RetT (w : World) (l : List (Nat × Nat)) (e : Ending) (w' : World) : Prop := ∃ A c, e = .returned (.slice A l.length c) ∧ Lies w' free (tE w.heap.size A c l) ∧ Below w.heap.size w w'
theorem retT_nil {w w' : World} (hb : Below w.heap.size w w') : RetT w [] (.returned (.slice none 0 0)) w' := ⟨none, 0, rfl, Lies.nil, hb⟩
theorem retT_done {w w' : World} {bs : List (Nat × TypeId × List Value)} {es : List Ent} {A : Option Addr} {c : Nat} {l : List (Nat × Nat)} (O : Held w w' bs (tR A c l) es) : RetT w l (.returned (.slice A l.length c)) w' := by
  obtain ⟨A2, c2, hv, h⟩ := O.done
  dsimp only [tR] at hv h
  injection hv with e1 e2 e3
  subst e1 e3
  exact ⟨A, c, rfl, h.arg List.mem_cons_self, O.below⟩
theorem run_eqD (a b : Nat → Int) (w : World) : (Op.equalIn 10000 33 (arr 2 a) (arr 2 b)).run Try.prog w = .ok (M.eqB 2 a b) w := run_eq_arr 9998 Try.underlying33 a b w
section
variable {ops : Array Oper} {Q : Exit → Act → World → Prop} {a : Act} {w : World} {rest : List Oper} {dst : Option Tmp} {ty : TypeId} {pos : String} {after : Array Edge} {K : Act → World → Prop}
theorem wp_neqD {t' : TypeId} {x y : Operand} {gd : Option (Nat × Bool)} (p q : Nat → Int) (hx : a.eval x = arr 2 p) (hy : a.eval y = arr 2 q)
    (h : K (a.put dst (.bool (!M.eqB 2 p q))) w) : Oper.wp Try.prog ⟨dst, .binOp .neq 33 x y t', ty, pos, after, gd⟩ a w K Q := by
  unfold Oper.wp execOp
  simp only [hx, hy, Sem.run_bind, run_eqGuard_agg _ _ _ _ _ _ _ Try.eqGuardType33, run_neq_struct, run_eqD, Result.andThen_ok]
  exact h
end
end Go.Proofs.Ytpomdghalkphcaa
