/- A slice literal, appended to a row, in any order with what is read; long rows. -/
import Derived.Test.YtndaijcgjhmiaaaL2
namespace Go.Proofs.Ytndaijcgjhmiaaa
open Go.ChangeShapes Go.WideShapes Go.ChangeAt Go.RowKit
set_option linter.unusedVariables false
set_option linter.unusedSimpArgs false

section
variable {P : Program} {ops : Array Oper} {Q : Exit → Act → World → Prop} {a : Act} {w w0 : World} {rest : List Oper} {bs : List (Nat × TypeId × List Value)} {R : RowD} {es : List Ent} {dst : Option Tmp} {ty : TypeId} {pos : String} {after : Array Edge} {K : Act → World → Prop}
theorem wp_app_big {t : TypeId} {x y : Operand} {gd : Option (Nat × Bool)} (O : Held w0 w bs R es) (z : Value) (bytes : Nat) (hi : (P.info? R.e).map (fun i => (i.zero, i.size, i.bytes)) = some (some z, R.s, bytes)) (hzs : z.cells.size = R.s) (hsz : 0 < R.s) (hu : P.underlying t = some (.slice R.e))
    (hx : a.eval x = R.v) {no : Nat → Prop} (en : Ent) (L : Lies w no en) (hes : en.s = R.s) {c : Nat} (hy : a.eval y = .slice en.A en.n c) (h1 : ∀ v ∈ en.xs, v.oneCell' = true) (hb : (R.n + en.n) ≤ 1000000) (hbb : bytes ≤ 1000)
    (h : ∀ v w1, Held w0 w1 bs ⟨v, R.e, R.s, R.n + en.n, R.xs ++ en.xs⟩ es → K (a.put dst v) w1) : Oper.wp P ⟨dst, .call { callee := .builtin .append, args := #[x, y], argTypes := #[t, t] }, ty, pos, after, gd⟩ a w K Q := by
  cases hie : P.info? R.e with
  | none => simp [hie] at hi
  | some ie =>
    simp only [hie, Option.map_some, Option.some.injEq, Prod.mk.injEq] at hi
    obtain ⟨hz, hs, hby⟩ := hi
    have hR := L.reads
    rw [hes] at hR
    exact append_steps (P := P) rfl hu hie hz hs hby hzs hsz hx O.2.1 hy hR h1 (by unfold maxLen; omega) (by have := Nat.mul_le_mul hb hbb; omega) O.1.1.size fun v' w' a1 a2 a3 => h v' w' (O.grow a1 a2 a3)
theorem wpList_app_big {t : TypeId} {x y : Operand} {gd : Option (Nat × Bool)} (hw : Region.wanted ⟨dst, .call { callee := .builtin .append, args := #[x, y], argTypes := #[t, t] }, ty, pos, after, gd⟩ (yielded ops a.tmps) = true) (O : Held w0 w bs R es) (z : Value) (bytes : Nat) (hi : (P.info? R.e).map (fun i => (i.zero, i.size, i.bytes)) = some (some z, R.s, bytes)) (hzs : z.cells.size = R.s) (hsz : 0 < R.s) (hu : P.underlying t = some (.slice R.e))
    (hx : a.eval x = R.v) {no : Nat → Prop} (en : Ent) (L : Lies w no en) (hes : en.s = R.s) {c : Nat} (hy : a.eval y = .slice en.A en.n c) (h1 : ∀ v ∈ en.xs, v.oneCell' = true) (hb : (R.n + en.n) ≤ 1000000) (hbb : bytes ≤ 1000)
    (h : ∀ v w1, Held w0 w1 bs ⟨v, R.e, R.s, R.n + en.n, R.xs ++ en.xs⟩ es → wpList P ops Q rest (a.put dst v) w1) : wpList P ops Q (⟨dst, .call { callee := .builtin .append, args := #[x, y], argTypes := #[t, t] }, ty, pos, after, gd⟩ :: rest) a w :=
  wpList_step fun K hK => by rw [if_pos hw]; exact wp_app_big O z bytes hi hzs hsz hu hx en L hes hy h1 hb hbb fun v w1 O' => hK _ _ (h v w1 O')
end
/-- How far a region has come that makes a slice literal and appends it to a row. -/
def LaS (w0 : World) (bs : List (Nat × TypeId × List Value)) (R : RowD) (m : Nat) (cs : List Value) (es : List Ent) (a b : Option Value) (w : World) : Prop :=
  (a = none ∧ b = none ∧ Held w0 w bs R es) ∨
  (∃ g, a = some (.slice (some ⟨g, 0, none⟩) m m) ∧ b = none ∧ Held w0 w bs R (⟨w0.heap.size, some ⟨g, 0, none⟩, m, m, R.s, cs⟩ :: es)) ∨
  (∃ v A c, a = some v ∧ b = some (.slice A (R.n + m) c) ∧ Held w0 w bs ⟨.slice A (R.n + m) c, R.e, R.s, R.n + m, R.xs ++ cs⟩ es)
section
variable {P : Program} {w0 w w' : World} {bs : List (Nat × TypeId × List Value)} {R : RowD} {m : Nat} {cs : List Value} {es : List Ent} {a b : Option Value}
theorem LaS.start (O : Held w0 w bs R es) : LaS w0 bs R m cs es none none w := .inl ⟨rfl, rfl, O⟩
theorem LaS.held (h : LaS w0 bs R m cs es a b w) : ∃ R, Held w0 w bs R es := by
  rcases h with ⟨_, _, h⟩ | ⟨g, _, _, h⟩ | ⟨v, A, c, _, _, h⟩
  · exact ⟨_, h⟩
  · exact ⟨_, h.pick (fun x hx => List.mem_cons_of_mem _ hx)⟩
  · exact ⟨_, h⟩
theorem LaS.call (h : LaS w0 bs R m cs es a b w) (hb : Below w.heap.size w w') : LaS w0 bs R m cs es a b w' := by
  rcases h with ⟨h1, h2, h⟩ | ⟨g, h1, h2, h⟩ | ⟨v, A, c, h1, h2, h⟩
  · exact .inl ⟨h1, h2, h.call hb⟩
  · exact .inr (.inl ⟨g, h1, h2, h.call hb⟩)
  · exact .inr (.inr ⟨v, A, c, h1, h2, h.call hb⟩)
variable {dst : Option Tmp} {ty : TypeId} {pos : String} {after : Array Edge} {K : Act → World → Prop} {p q : Operand} {ac : Act} {Q : Exit → Act → World → Prop} {gd : Option (Nat × Bool)} {t : TypeId}
theorem LaS.lit {parts : Array (Nat × Operand)} (h : LaS w0 bs R m cs es none b w) (z : Value) (hi : (P.info? R.e).map (fun i => (i.zero, i.size)) = some (some z, R.s)) (hu : P.underlying t = some (.slice R.e)) (l : List (Nat × Value)) (hl : parts.toList.map (fun x => (x.1, ac.eval x.2)) = l) (hn : cs.length = m * R.s) (hp : 0 < m * R.s) (hm : m * R.s ≤ 1000)
    (hf : Instr.fill (fun i => some (i * R.s, R.s)) ((Array.range (m * R.s)).map (z.cells[· % z.cells.size]!)) l = some cs.toArray)
    (hK : ∀ v w1, LaS w0 bs R m cs es (some v) b w1 → K (ac.put dst v) w1) : Oper.wp P ⟨dst, .buildSlice t m parts, ty, pos, after, gd⟩ ac w K Q := by
  rcases h with ⟨_, h2, O⟩ | ⟨g, h1, _, _⟩ | ⟨v, A, c, h1, _, _⟩
  · exact wp_lit_h O R.s z hi hu l cs hl hn hp hm hf fun g w3 O3 => hK _ w3 (.inr (.inl ⟨g, rfl, h2, O3⟩))
  · cases h1
  · cases h1
theorem LaS.app (h : LaS w0 bs R m cs es a none w) (ha : a.isSome = true) (z : Value) (bytes : Nat) (hi : (P.info? R.e).map (fun i => (i.zero, i.size, i.bytes)) = some (some z, R.s, bytes)) (hzs : z.cells.size = R.s) (hsz : 0 < R.s) (hu : P.underlying t = some (.slice R.e))
    (hp : ac.eval p = R.v) (hq : ac.eval q = a.getD undef) (h1 : ∀ v ∈ cs, v.oneCell' = true) (hb : R.n + m ≤ 1000000) (hbb : bytes ≤ 1000) (hK : ∀ v w1, LaS w0 bs R m cs es a (some v) w1 → K (ac.put dst v) w1) :
    Oper.wp P ⟨dst, .call { callee := .builtin .append, args := #[p, q], argTypes := #[t, t] }, ty, pos, after, gd⟩ ac w K Q := by
  rcases h with ⟨h1, h2, O⟩ | ⟨g, rfl, _, O⟩ | ⟨v, A, c, _, h1, _⟩
  · subst h1; cases ha
  · refine wp_app_big O z bytes hi hzs hsz hu hp ⟨w0.heap.size, some ⟨g, 0, none⟩, m, m, R.s, cs⟩ (O.mem List.mem_cons_self) rfl (c := m) hq h1 hb hbb fun v w3 O3 => ?_
    obtain ⟨A, c, hv, -⟩ := row_lies O3.2.1
    dsimp only at hv
    subst hv
    exact hK _ w3 (.inr (.inr ⟨_, A, c, rfl, rfl, O3.pick (es' := es) (fun y hy => List.mem_cons_of_mem _ hy)⟩))
  · cases h1
theorem LaS.done (h : LaS w0 bs R m cs es a b w) (ha : a.isSome = true) (hb : b.isSome = true) : ∃ v A c, a = some v ∧ b = some (.slice A (R.n + m) c) ∧ Held w0 w bs ⟨.slice A (R.n + m) c, R.e, R.s, R.n + m, R.xs ++ cs⟩ es := by
  rcases h with ⟨h1, h2, O⟩ | ⟨g, _, h1, O⟩ | h
  · subst h1; cases ha
  · subst h1; cases hb
  · exact h
end
/-- A part of a list. -/
theorem Lies.part {w : World} {no : Nat → Prop} {lo n c s : Nat} {A : Option Addr} {xs : List Value} (h : Lies w no ⟨lo, A, n, c, s, xs⟩) (i j : Nat) (h1 : i ≤ j) (h2 : j ≤ n) :
    Lies w no ⟨lo, if c = i then A else A.map (·.add (i * s)), j - i, c - i, s, (xs.drop (i * s)).take ((j - i) * s)⟩ := by
  have hlen := h.1
  have hnc := h.2.1
  dsimp only at hlen hnc
  refine ⟨?_, by dsimp only; omega, fun h0 => ?_⟩
  · dsimp only
    rw [List.length_take, List.length_drop, hlen, ← Nat.sub_mul]
    exact Nat.min_eq_left (Nat.mul_le_mul_right s (by omega))
  · dsimp only at h0 ⊢
    obtain ⟨ad, hA, h3, h4, h5, h6⟩ := h.2.2 (by dsimp only; omega)
    dsimp only at hA h3 h6
    subst hA
    refine ⟨ad.add (i * s), by rw [if_neg (by omega)]; rfl, by rw [add_block]; exact h3, by rw [add_block]; exact h4, by rw [add_block]; exact h5, fun k u hu => ?_⟩
    rw [add_add']
    refine h6 _ u ?_
    rw [List.getElem?_take] at hu
    split at hu
    · rw [List.getElem?_drop] at hu
      exact hu
    · cases hu
theorem Held.part {w0 w : World} {bs : List (Nat × TypeId × List Value)} {R : RowD} {es : List Ent} {lo n c s : Nat} {A : Option Addr} {xs : List Value} (O : Held w0 w bs R es) (hm : (⟨lo, A, n, c, s, xs⟩ : Ent) ∈ es) (i j : Nat) (h1 : i ≤ j) (h2 : j ≤ n) :
    Held w0 w bs R (⟨lo, if c = i then A else A.map (·.add (i * s)), j - i, c - i, s, (xs.drop (i * s)).take ((j - i) * s)⟩ :: es) :=
  ⟨O.1, O.2.1, O.2.2.1, fun x hx => by
    rcases List.mem_cons.1 hx with rfl | hx
    · exact (O.mem hm).part i j h1 h2
    · exact O.2.2.2 x hx⟩
theorem flat_part {α : Type} (f : α → List Value) (s : Nat) (hf : ∀ x, (f x).length = s) : ∀ (l : List α) (i k : Nat), ((l.flatMap f).drop (i * s)).take (k * s) = ((l.drop i).take k).flatMap f
  | [], i, k => by simp
  | x :: l, 0, k => by
    rw [Nat.zero_mul, List.drop_zero, List.drop_zero]
    cases k with
    | zero => simp
    | succ k =>
      have ih := flat_part f s hf l 0 k
      rw [Nat.zero_mul, List.drop_zero, List.drop_zero] at ih
      rw [List.flatMap_cons, List.take_succ_cons, List.flatMap_cons, ← ih, List.take_append, hf, Nat.add_mul, Nat.one_mul, Nat.add_sub_cancel, List.take_of_length_le (by rw [hf]; omega)]
  | x :: l, i + 1, k => by
    have ih := flat_part f s hf l i k
    rw [List.flatMap_cons, List.drop_succ_cons, ← ih, List.drop_append, hf, Nat.add_mul, Nat.one_mul, Nat.add_sub_cancel, List.drop_eq_nil_of_le (by rw [hf]; omega), List.nil_append]
section
variable {P : Program} {ops : Array Oper} {Q : Exit → Act → World → Prop} {a : Act} {w w0 : World} {rest : List Oper} {bs : List (Nat × TypeId × List Value)} {R : RowD} {es : List Ent} {dst : Option Tmp} {ty : TypeId} {pos : String} {after : Array Edge} {K : Act → World → Prop}
/-- A slice literal of nothing, as the row. -/
theorem wp_none_h {t e : TypeId} {gd : Option (Nat × Bool)} (O : Held w0 w bs nilRow es) (s : Nat) (hi : (P.info? e).map (·.size) = some s) (hu : P.underlying t = some (.slice e))
    (h : ∀ v w1, Held w0 w1 bs ⟨v, e, s, 0, []⟩ es → K (a.put dst v) w1) : Oper.wp P ⟨dst, .buildSlice t 0 #[], ty, pos, after, gd⟩ a w K Q := by
  cases hie : P.info? e with
  | none => simp [hie] at hi
  | some ie =>
    have hs : ie.size = s := by simpa [hie] using hi
    have hr : (Instr.buildSlice t 0 #[]).run P w = .ok (.slice (some ⟨w.heap.size, 0, none⟩) 0 0) (w.alloc (.cells #[] e)) := by
      simp [Instr.buildSlice, run_underlying hu, sizeOf, typeInfo, hie, Instr.fill, newRow]
      kernel_rfl
    unfold Oper.wp execOp
    simp only [List.map_toArray, List.map_nil, Sem.run_bind, hr, Result.andThen_ok]
    have hb : Below w.heap.size w (w.alloc (.cells #[] e)) := (Below.refl _ w).alloc (Nat.le_refl _) _
    refine h _ _ ((O.fresh e s).grow ⟨by simp, .inr ⟨w.heap.size, 0, #[], rfl, O.1.1.size, heap_alloc_new w _, Nat.le_refl _, by unfold maxLen; omega, by simp, by simp⟩⟩ (below_grown hb) (.inr rfl))
theorem wpList_none_h {t e : TypeId} {gd : Option (Nat × Bool)} (hw : Region.wanted ⟨dst, .buildSlice t 0 #[], ty, pos, after, gd⟩ (yielded ops a.tmps) = true) (O : Held w0 w bs nilRow es) (s : Nat) (hi : (P.info? e).map (·.size) = some s) (hu : P.underlying t = some (.slice e))
    (h : ∀ v w1, Held w0 w1 bs ⟨v, e, s, 0, []⟩ es → wpList P ops Q rest (a.put dst v) w1) : wpList P ops Q (⟨dst, .buildSlice t 0 #[], ty, pos, after, gd⟩ :: rest) a w :=
  wpList_step fun K hK => by rw [if_pos hw]; exact wp_none_h O s hi hu fun v w1 O' => hK _ _ (h v w1 O')
end
/-- The row is done, and its value is known. -/
theorem Held.doneV {w0 w : World} {bs : List (Nat × TypeId × List Value)} {e : TypeId} {s n n' c : Nat} {A : Option Addr} {xs : List Value} {es : List Ent} (h : Held w0 w bs ⟨.slice A n' c, e, s, n, xs⟩ es) : n' = n ∧ Held w0 w bs nilRow (⟨w0.heap.size, A, n, c, s, xs⟩ :: es) := by
  obtain ⟨A2, c2, hv, O⟩ := h.done
  dsimp only at hv O
  injection hv with h1 h2 h3
  subst h1 h2 h3
  exact ⟨rfl, O⟩
end Go.Proofs.Ytndaijcgjhmiaaa
