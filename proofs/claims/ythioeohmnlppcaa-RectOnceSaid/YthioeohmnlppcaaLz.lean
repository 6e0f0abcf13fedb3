/- A literal, a list handed back, one appended to the other, in a region that draws its order; parts of a spot. -/
import Derived.Test.YthioeohmnlppcaaLy
import Derived.Test.YthioeohmnlppcaaWi
namespace Go.Proofs.Ythioeohmnlppcaa
open Go.ChangeShapes Go.WideShapes Go.ChangeAt Go.RowKit
set_option linter.unusedVariables false
set_option linter.unusedSimpArgs false

section
variable {P : Program} {ops : Array Oper} {Q : Exit → Act → World → Prop} {a : Act} {w w0 : World} {rest : List Oper} {bs : List (Nat × TypeId × List Value)} {es : List Ent} {dst : Option Tmp} {ty : TypeId} {pos : String} {after : Array Edge} {K : Act → World → Prop}
/-- A slice literal, as the row. -/
theorem wp_litrow_h {t e : TypeId} {len : Nat} {parts : Array (Nat × Operand)} {gd : Option (Nat × Bool)} (O : Held w0 w bs nilRow es) (s : Nat) (z : Value) (hi : (P.info? e).map (fun i => (i.zero, i.size)) = some (some z, s)) (hu : P.underlying t = some (.slice e))
    (l : List (Nat × Value)) (cs : List Value) (hl : parts.toList.map (fun x => (x.1, a.eval x.2)) = l) (hn : cs.length = len * s) (hp : 0 < len * s) (hm : len * s ≤ 1000) (hlen : len ≤ 1000)
    (hf : Instr.fill (fun i => some (i * s, s)) ((Array.range (len * s)).map (z.cells[· % z.cells.size]!)) l = some cs.toArray)
    (h : ∀ v w1, Held w0 w1 bs ⟨v, e, s, len, cs⟩ es → K (a.put dst v) w1) : Oper.wp P ⟨dst, .buildSlice t len parts, ty, pos, after, gd⟩ a w K Q := by
  cases hie : P.info? e with
  | none => simp [hie] at hi
  | some ie =>
    simp only [hie, Option.map_some, Option.some.injEq, Prod.mk.injEq] at hi
    obtain ⟨hz, hs⟩ := hi
    subst hs
    refine wp_buildSlice t e len parts rfl cs.toArray ie z hu hie hz (by omega) (by omega) (by rw [Array.toList_map, hl]; exact hf) ?_
    have hbw : Below w.heap.size w (w.alloc (.cells cs.toArray e)) := (Below.refl _ w).alloc (Nat.le_refl _) _
    refine h _ _ ((O.fresh e ie.size).grow ⟨hn, .inr ⟨w.heap.size, len, cs.toArray, rfl, O.1.1.size, heap_alloc_new w _, Nat.le_refl _, by unfold maxLen; omega, by simpa using hn, ?_⟩⟩ (below_grown hbw) (.inr rfl))
    rw [List.take_of_length_le (by simp [hn])]
theorem wpList_litrow_h {t e : TypeId} {len : Nat} {parts : Array (Nat × Operand)} {gd : Option (Nat × Bool)} (hw : Region.wanted ⟨dst, .buildSlice t len parts, ty, pos, after, gd⟩ (yielded ops a.tmps) = true) (O : Held w0 w bs nilRow es) (s : Nat) (z : Value) (hi : (P.info? e).map (fun i => (i.zero, i.size)) = some (some z, s)) (hu : P.underlying t = some (.slice e))
    (l : List (Nat × Value)) (cs : List Value) (hl : parts.toList.map (fun x => (x.1, a.eval x.2)) = l) (hn : cs.length = len * s) (hp : 0 < len * s) (hm : len * s ≤ 1000) (hlen : len ≤ 1000)
    (hf : Instr.fill (fun i => some (i * s, s)) ((Array.range (len * s)).map (z.cells[· % z.cells.size]!)) l = some cs.toArray)
    (h : ∀ v w1, Held w0 w1 bs ⟨v, e, s, len, cs⟩ es → wpList P ops Q rest (a.put dst v) w1) : wpList P ops Q (⟨dst, .buildSlice t len parts, ty, pos, after, gd⟩ :: rest) a w :=
  wpList_step fun K hK => by rw [if_pos hw]; exact wp_litrow_h O s z hi hu l cs hl hn hp hm hlen hf fun v w1 O' => hK _ _ (h v w1 O')
end
theorem sp_a (a b t p : Nat → Int) : ∀ k u, (M.mat 4 a)[k]? = some u → (spot a b t p)[0 + k]? = some u := fun k u h => by
  have hk : k < (M.mat 4 a).length := (List.getElem?_eq_some_iff.1 h).1
  rw [Nat.zero_add, spot, List.getElem?_append_left hk]
  exact h
theorem sp_b (a b t p : Nat → Int) : ∀ k u, (M.mat 4 b)[k]? = some u → (spot a b t p)[4 + k]? = some u := fun k u h => by
  have hk : k < (M.mat 4 b).length := (List.getElem?_eq_some_iff.1 h).1
  rw [spot, List.getElem?_append_right (by rw [M.mat_len]; omega), M.mat_len, show 4 + k - 4 = k by omega, List.getElem?_append_left hk]
  exact h
theorem sp_t (a b t p : Nat → Int) : ∀ k u, (M.mat 2 t)[k]? = some u → (spot a b t p)[8 + k]? = some u := fun k u h => by
  have hk : k < (M.mat 2 t).length := (List.getElem?_eq_some_iff.1 h).1
  rw [spot, List.getElem?_append_right (by rw [M.mat_len]; omega), M.mat_len, List.getElem?_append_right (by rw [M.mat_len]; omega), M.mat_len, show 8 + k - 4 - 4 = k by omega, List.getElem?_append_left hk]
  exact h
theorem sp_p (a b t p : Nat → Int) : ∀ k u, (M.mat 2 p)[k]? = some u → (spot a b t p)[10 + k]? = some u := fun k u h => by
  rw [spot, List.getElem?_append_right (by rw [M.mat_len]; omega), M.mat_len, List.getElem?_append_right (by rw [M.mat_len]; omega), M.mat_len, List.getElem?_append_right (by rw [M.mat_len]; omega), M.mat_len, show 10 + k - 4 - 4 - 2 = k by omega]
  exact h
/-- A literal of one rectangle, a list handed back, and the one appended to the other. -/
def RowOK (c : Nat → Int) (lm : List (Nat → Int)) (a d : Option Value) (R : RowD) : Prop :=
  (a = none ∧ d = none ∧ R = nilRow) ∨ (∃ A k, a = some (.slice A 1 k) ∧ d = none ∧ R = rR A k [c]) ∨ (∃ v A k, a = some v ∧ d = some (.slice A (c :: lm).length k) ∧ R = rR A k (c :: lm))
def LstOK (lm : List (Nat → Int)) (b : Option Value) (es : List Ent) : Prop := (b = none ∧ es = []) ∨ ∃ A k, b = some (.slice A lm.length k) ∧ es = [rE 0 A k lm]
def OnceS (w0 : World) (bs : List (Nat × TypeId × List Value)) (c : Nat → Int) (lm : List (Nat → Int)) (a b d : Option Value) (w : World) : Prop := ∃ R es, RowOK c lm a d R ∧ LstOK lm b es ∧ Held w0 w bs R es
section
variable {w0 w w' : World} {bs : List (Nat × TypeId × List Value)} {c : Nat → Int} {lm : List (Nat → Int)} {a b d : Option Value}
theorem OnceS.start (O : Held w0 w bs nilRow []) : OnceS w0 bs c lm none none none w := ⟨nilRow, [], .inl ⟨rfl, rfl, rfl⟩, .inl ⟨rfl, rfl⟩, O⟩
theorem OnceS.held (h : OnceS w0 bs c lm a b d w) : ∃ R es, Held w0 w bs R es := by
  obtain ⟨R, es, _, _, O⟩ := h
  exact ⟨R, es, O⟩
theorem OnceS.call (h : OnceS w0 bs c lm a b d w) (hb : Below w.heap.size w w') : OnceS w0 bs c lm a b d w' := by
  obtain ⟨R, es, h1, h2, O⟩ := h
  exact ⟨R, es, h1, h2, O.call hb⟩
theorem OnceS.gain (h : OnceS w0 bs c lm a none d w) (hb : Below w.heap.size w w') {A : Option Addr} {k : Nat} (hL : Lies w' free (rE w.heap.size A k lm)) : OnceS w0 bs c lm a (some (.slice A lm.length k)) d w' := by
  obtain ⟨R, es, h1, h2, O⟩ := h
  rcases h2 with ⟨_, rfl⟩ | ⟨_, _, h, _⟩
  · exact ⟨R, _, h1, .inr ⟨A, k, rfl, rfl⟩, O.gain0 hb hL⟩
  · cases h
variable {dst : Option Tmp} {ty : TypeId} {pos : String} {after : Array Edge} {K : Act → World → Prop} {p q : Operand} {ac : Act} {Q : Exit → Act → World → Prop} {gd : Option (Nat × Bool)}
theorem OnceS.lit {parts : Array (Nat × Operand)} (h : OnceS w0 bs c lm none b d w) (hl : parts.toList.map (fun x => (x.1, ac.eval x.2)) = [(0, arr 4 c)])
    (hK : ∀ v w1, OnceS w0 bs c lm (some v) b d w1 → K (ac.put dst v) w1) : Oper.wp Try.prog ⟨dst, .buildSlice 34 1 parts, ty, pos, after, gd⟩ ac w K Q := by
  obtain ⟨R, es, h1, h2, O⟩ := h
  rcases h1 with ⟨_, hd, rfl⟩ | ⟨_, _, h, _⟩ | ⟨_, _, _, h, _⟩
  · refine wp_litrow_h O 4 (.agg (M.mat 4 M.zero).toArray) infoR Try.underlying34 [(0, arr 4 c)] (rC [c]) hl (rC_len _) (by decide) (by decide) (by decide) (by kernel_rfl) fun v w1 O1 => ?_
    obtain ⟨A, k, hv⟩ := O1.row_val'
    dsimp only at hv
    subst hv
    exact hK _ _ ⟨_, es, .inr (.inl ⟨A, k, rfl, hd, rfl⟩), h2, O1⟩
  · cases h
  · cases h
theorem OnceS.app (h : OnceS w0 bs c lm a b none w) (ha : a.isSome = true) (hb : b.isSome = true) (hlm : lm.length ≤ 100) (hp : ac.eval p = a.getD undef) (hq : ac.eval q = b.getD undef)
    (hK : ∀ v w1, OnceS w0 bs c lm a b (some v) w1 → K (ac.put dst v) w1) : Oper.wp Try.prog ⟨dst, .call { callee := .builtin .append, args := #[p, q], argTypes := #[34, 34] }, ty, pos, after, gd⟩ ac w K Q := by
  obtain ⟨R, es, h1, h2, O⟩ := h
  rcases h1 with ⟨rfl, _⟩ | ⟨A, k, rfl, _, rfl⟩ | ⟨_, _, _, _, h, _⟩
  · cases ha
  · rcases h2 with ⟨rfl, _⟩ | ⟨B, j, rfl, rfl⟩
    · cases hb
    · refine wp_app_big O (.agg (M.mat 4 M.zero).toArray) 32 infoRb rfl (Nat.succ_pos _) Try.underlying34 hp (rE 0 B j lm) (O.mem List.mem_cons_self) rfl (c := j) hq (rC_one _) (by dsimp only [rR, rE, List.length_cons, List.length_nil]; omega) (by decide) fun v w1 O1 => ?_
      obtain ⟨A2, k2, hv⟩ := O1.row_val'
      dsimp only at hv
      subst hv
      have e : (⟨.slice A2 ((rR A k [c]).n + (rE 0 B j lm).n) k2, (rR A k [c]).e, (rR A k [c]).s, (rR A k [c]).n + (rE 0 B j lm).n, (rR A k [c]).xs ++ (rE 0 B j lm).xs⟩ : RowD) = rR A2 k2 (c :: lm) := by
        unfold rR rE
        dsimp only
        rw [show c :: lm = [c] ++ lm from rfl, rC_app, List.length_append]
      have e2 : (rR A k [c]).n + (rE 0 B j lm).n = (c :: lm).length := by
        show 1 + lm.length = lm.length + 1
        omega
      rw [e] at O1
      rw [e2]
      exact hK _ _ ⟨_, _, .inr (.inr ⟨_, A2, k2, rfl, rfl, rfl⟩), .inr ⟨B, j, rfl, rfl⟩, O1⟩
  · cases h
theorem OnceS.done (h : OnceS w0 bs c lm a b d w) (ha : a.isSome = true) (hd : d.isSome = true) : ∃ A k, d = some (.slice A (c :: lm).length k) ∧ Held w0 w bs nilRow [rE w0.heap.size A k (c :: lm)] := by
  obtain ⟨R, es, h1, h2, O⟩ := h
  rcases h1 with ⟨rfl, _⟩ | ⟨_, _, _, rfl, _⟩ | ⟨v, A, k, _, rfl, rfl⟩
  · cases ha
  · cases hd
  · obtain ⟨-, O2⟩ := Held.doneV O
    exact ⟨A, k, rfl, O2.pick (es' := [rE w0.heap.size A k (c :: lm)]) (fun x hx => by
      obtain rfl := List.mem_singleton.1 hx
      exact List.mem_cons_self)⟩
end
end Go.Proofs.Ythioeohmnlppcaa
