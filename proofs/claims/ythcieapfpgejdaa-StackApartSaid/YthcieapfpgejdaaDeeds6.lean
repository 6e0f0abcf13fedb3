/- Regions in which stacks are handed back, a block is made for them, and they are written into it; calls out of a list that came in. -/
import Derived.Test.YthcieapfpgejdaaTells6
namespace Go.Proofs.Ythcieapfpgejdaa
open Go.ChangeShapes Go.WideShapes Go.ChangeAt Go.RowKit
set_option linter.unusedVariables false
set_option linter.unusedSimpArgs false

/-- One of two that are handed back. -/
def ex (k : Nat) : Value → Value
  | .tuple a => a.getD k undef
  | _ => undef
theorem ex_0 (a b : Value) : ex 0 (.tuple #[a, b]) = a := rfl
theorem ex_1 (a b : Value) : ex 1 (.tuple #[a, b]) = b := rfl
/-- Stacks that have been handed back, with an error. -/
def Got (w : World) (o : Option Value) (p : Stk × Int) (ls : List Ent) : Prop :=
  ∀ v, o = some v → ∃ N : Nat → Ent, v = .tuple #[.agg (sv p.1.m N).toArray, .int .i64 p.2] ∧ ∀ i, i < 2 → N i ∈ ls ∧ (N i).lo = w.heap.size ∧ (N i).l = p.1.l i
theorem Got.more {w : World} {o : Option Value} {p : Stk × Int} {ls ls' : List Ent} (h : Got w o p ls) (hs : ∀ x ∈ ls, x ∈ ls') : Got w o p ls' := fun v hv => by
  obtain ⟨N, h1, h2⟩ := h v hv
  exact ⟨N, h1, fun i hi => ⟨hs _ (h2 i hi).1, (h2 i hi).2⟩⟩
/-- The block for them. -/
def BoxP (a s c : Option Value) (bs : List (Nat × TypeId × List Value)) : Prop :=
  (a = none ∧ s = none ∧ bs = []) ∨ (∃ g cs0, a = some (.pointer (some ⟨g, 0, none⟩)) ∧ s = none ∧ cs0.length = 3 ∧ bs = [(g, 25, cs0)]) ∨
  (∃ g u v cs, a = some (.pointer (some ⟨g, 0, none⟩)) ∧ s = some u ∧ c = some v ∧ ex 0 v = .agg cs ∧ bs = [(g, 25, cs.toList)])
theorem BoxP.tail {w w2 : World} {a s c : Option Value} {bs' bs : List (Nat × TypeId × List Value)} {ls : List Ent} (h : BoxP a s c bs') (O : OwnL w w2 (bs' ++ bs) ls) : OwnL w w2 bs ls := by
  rcases h with ⟨_, _, rfl⟩ | ⟨g, cs0, _, _, _, rfl⟩ | ⟨g, u, v, cs, _, _, _, _, rfl⟩
  · exact O
  · exact O.tail
  · exact O.tail
def DoSt (w : World) (bs : List (Nat × TypeId × List Value)) (ls : List Ent) (p : Stk × Int) (a s c : Option Value) (w2 : World) : Prop :=
  ∃ ls' bs', OwnL w w2 (bs' ++ bs) ls' ∧ (∀ x ∈ ls, x ∈ ls') ∧ Got w c p ls' ∧ BoxP a s c bs'
section
variable {w w2 w3 : World} {bs : List (Nat × TypeId × List Value)} {ls : List Ent} {p : Stk × Int} {a s c : Option Value}
theorem DoSt.start (O : OwnL w w2 bs ls) : DoSt w bs ls p none none none w2 := ⟨ls, [], O, fun _ h => h, fun _ h => (nomatch h), .inl ⟨rfl, rfl, rfl⟩⟩
theorem DoSt.start2 {g : Nat} {cs0 : List Value} (O : OwnL w w2 ((g, 25, cs0) :: bs) ls) (h : cs0.length = 3) : DoSt w bs ls p (some (.pointer (some ⟨g, 0, none⟩))) none none w2 := ⟨ls, [(g, 25, cs0)], O, fun _ h => h, fun _ h => (nomatch h), .inr (.inl ⟨g, cs0, rfl, rfl, h, rfl⟩)⟩
theorem DoSt.own (h : DoSt w bs ls p a s c w2) : OwnL w w2 bs ls := by
  obtain ⟨ls', bs', O, h1, _, h3⟩ := h
  exact (h3.tail O).pick h1
theorem DoSt.call (h : DoSt w bs ls p a s c w2) (hb : Below w2.heap.size w2 w3) : DoSt w bs ls p a s c w3 := by
  obtain ⟨ls', bs', O, h1, h2, h3⟩ := h
  exact ⟨ls', bs', O.call hb, h1, h2, h3⟩
/-- They are handed back. -/
theorem DoSt.got (h : DoSt w bs ls p a s none w2) {v : Value} (hv : NewS w2 p.1 w3 v) (hb : Below w2.heap.size w2 w3) : DoSt w bs ls p a s (some (.tuple #[v, .int .i64 p.2])) w3 := by
  obtain ⟨ls', bs', O, h1, h2, h3⟩ := h
  obtain ⟨N, rfl, hN, O2⟩ := O.gainS hv hb
  have hs : ∀ x ∈ ls', x ∈ N 0 :: N 1 :: ls' := fun x hx => List.mem_cons_of_mem _ (List.mem_cons_of_mem _ hx)
  refine ⟨_, bs', O2, fun x hx => hs x (h1 x hx), fun u hu => ?_, ?_⟩
  · obtain rfl := Option.some.inj hu
    refine ⟨N, rfl, fun i hi => ⟨?_, hN i hi⟩⟩
    rcases i with _ | _ | i
    · simp
    · simp
    · omega
  · rcases h3 with h3 | h3 | ⟨g, u, v, cs, _, _, h5, _⟩
    · exact .inl h3
    · exact .inr (.inl h3)
    · cases h5
theorem DoSt.tup (h : DoSt w bs ls p a s c w2) (hc : c.isSome = true) : ∃ N : Nat → Ent, c = some (.tuple #[.agg (sv p.1.m N).toArray, .int .i64 p.2]) := by
  obtain ⟨ls', bs', O, h1, h2, h3⟩ := h
  obtain ⟨v, rfl⟩ := Option.isSome_iff_exists.1 hc
  obtain ⟨N, rfl, hN⟩ := h2 v rfl
  exact ⟨N, rfl⟩
/-- In the end. -/
theorem DoSt.done (h : DoSt w bs ls p a s c w2) (ha : a.isSome = true) (hs : s.isSome = true) (hc : c.isSome = true) : ∃ (g : Nat) (N : Nat → Ent), a = some (.pointer (some ⟨g, 0, none⟩)) ∧ c = some (.tuple #[.agg (sv p.1.m N).toArray, .int .i64 p.2]) ∧
    OwnL w w2 ((g, 25, sv p.1.m N) :: bs) (N 0 :: N 1 :: ls) ∧ ∀ i, i < 2 → (N i).lo = w.heap.size ∧ (N i).l = p.1.l i := by
  obtain ⟨ls', bs', O, h1, h2, h3⟩ := h
  obtain ⟨v, rfl⟩ := Option.isSome_iff_exists.1 hc
  obtain ⟨N, rfl, hN⟩ := h2 v rfl
  rcases h3 with ⟨rfl, _⟩ | ⟨g, _, _, rfl, _⟩ | ⟨g, u, v2, cs, rfl, _, h4, h5, rfl⟩
  · cases ha
  · cases hs
  · obtain rfl := Option.some.inj h4
    have e : cs.toList = sv p.1.m N := by
      have : (Value.agg (sv p.1.m N).toArray) = .agg cs := h5
      rw [← Value.agg.inj this]
    rw [e] at O
    refine ⟨g, N, rfl, rfl, O.pick (fun x hx => ?_), fun i hi => (hN i hi).2⟩
    rcases List.mem_cons.1 hx with rfl | hx
    · exact (hN 0 (by decide)).1
    rcases List.mem_cons.1 hx with rfl | hx
    · exact (hN 1 (by decide)).1
    · exact h1 x hx
variable {Q : Exit → Act → World → Prop} {f : Act} {dst : Option Tmp} {ty : TypeId} {pos : String} {after : Array Edge} {K : Act → World → Prop}
theorem DoSt.alloc_ (h : DoSt w bs ls p none s c w2) (hK : ∀ v w', DoSt w bs ls p (some v) s c w' → K (f.put dst v) w') : Oper.wp Try.prog ⟨dst, .alloc 25, ty, pos, after, none⟩ f w2 K Q := by
  obtain ⟨ls', bs', O, h1, h2, h3⟩ := h
  rcases h3 with ⟨_, rfl, rfl⟩ | ⟨g, _, h, _⟩ | ⟨g, u, v, cs, h, _⟩
  · exact wp_alloc_ls O (sv 0 (noL 0)) zero25 fun g w' O' => hK _ w' ⟨ls', [_], O', h1, h2, .inr (.inl ⟨g, _, rfl, rfl, rfl, rfl⟩)⟩
  · cases h
  · cases h
theorem DoSt.store_ (h : DoSt w bs ls p a none c w2) (ha : a.isSome = true) (hc : c.isSome = true) {gd : Option (Nat × Bool)} {x y : Operand} (hx : f.eval x = a.getD undef) (hy : f.eval y = ex 0 (c.getD undef)) (hK : ∀ v w', DoSt w bs ls p a (some v) c w' → K (f.put dst undef) w') :
    Oper.wp Try.prog ⟨dst, .store 25 x y, ty, pos, after, gd⟩ f w2 K Q := by
  obtain ⟨ls', bs', O, h1, h2, h3⟩ := h
  obtain ⟨v, rfl⟩ := Option.isSome_iff_exists.1 hc
  obtain ⟨N, rfl, hN⟩ := h2 v rfl
  rcases h3 with ⟨rfl, _⟩ | ⟨g, cs0, rfl, _, h0, rfl⟩ | ⟨g, u, v2, cs, _, h, _⟩
  · cases ha
  · exact wp_put_ls O 0 (sv p.1.m N) rfl hx hy (s25 _ _) h0 (sv_one _ _) fun w' O' => hK undef w' ⟨ls', [(g, 25, sv p.1.m N)], O', h1, h2, .inr (.inr ⟨g, undef, _, (sv p.1.m N).toArray, rfl, rfl, rfl, rfl, rfl⟩)⟩
  · cases h
end
/-- The two lists, outright. -/
def two (a b : Ent) (i : Nat) : Ent := if i = 0 then a else b
theorem stk_two {m : Int} {a b a' b' : Ent} (h0 : a'.l = a.l) (h1 : b'.l = b.l) : stk m (two a' b') = stk m (two a b) := by
  unfold stk
  congr 1
  funext i
  by_cases h : i = 0
  · simp [two, h, h0]
  · simp [two, h, h1]
theorem two_lies {w0 w : World} {bs : List (Nat × TypeId × List Value)} {ls : List Ent} (O : OwnL w0 w bs ls) {a b : Ent} (ha : a ∈ ls) (hb : b ∈ ls) : ∀ i, i < 2 → Lies w [] (two a b i) := fun i _ => by
  by_cases h : i = 0
  · simp only [two, if_pos h]; exact mem_lies O ha
  · simp only [two, if_neg h]; exact mem_lies O hb
section
variable {P : Program} {ops : Array Oper} {Q : Exit → Act → World → Prop} {a : Act} {w w0 : World} {rest : List Oper} {bs : List (Nat × TypeId × List Value)} {ls : List Ent} {dst : Option Tmp} {ty : TypeId} {pos : String} {after : Array Edge} {K : Act → World → Prop}
theorem sizeOf43 (w : World) : (sizeOf 43).run Try.prog w = .ok 18 w := by kernel_rfl
theorem wp_atD {x y : Operand} {gd : Option (Nat × Bool)} {A : Option Addr} {l : List Deed} (hD : LiesD w0 A l) {n c : Nat} (hx : a.eval x = .slice A n c) {kd : IntKind} {z : Int} (i : Nat) (hy : a.eval y = .int kd z) (hz : z = (i : Int)) (hi : i < n) (hil : i < l.length)
    (h : K (a.put dst (.pointer (some ((adr A).add (i * 18))))) w) : Oper.wp Try.prog ⟨dst, .indexAddr 40 x y, ty, pos, after, gd⟩ a w K Q := by
  subst hz
  obtain ⟨ad, rfl, -⟩ := hD (fun e => by rw [e] at hil; simp at hil)
  have hr : (Instr.indexAt 40 (.slice (some ad) n c) (.int kd i)).run Try.prog w = .ok (.pointer (some (ad.add (i * 18)))) w := by
    have h1 : (0 : Int) ≤ i ∧ (i : Int) < n := by omega
    unfold Instr.indexAt
    simp [asIntOf, Sem.run_bind, run_underlying Try.underlying40, sizeOf43 w, hi]
  unfold Oper.wp execOp
  simp only [hx, hy, Sem.run_bind, hr, Result.andThen_ok]
  exact h
theorem deed_cell {A : Option Addr} {l : List Deed} (hD : LiesD w0 A l) (hb : Below w0.heap.size w0 w) {i : Nat} {d : Deed} (hd : l[i]? = some d) {j : Nat} {u : Value} (hu : d.cells[j]? = some u) : w.cell? (((adr A).add (i * 18)).add j) = some u := by
  obtain ⟨ad, rfl, h1, h2⟩ := hD (fun e => by rw [e] at hd; simp at hd)
  show w.cell? ((ad.add (i * 18)).add j) = some u
  rw [add_add6, ← h2 i d hd j u hu]
  exact World.cell?_of_block (by rw [add_block]; exact hb.block _ h1)
theorem wp_loadD {x : Operand} {gd : Option (Nat × Bool)} {A : Option Addr} {l : List Deed} (hD : LiesD w0 A l) (O : OwnL w0 w bs ls) (i : Nat) {d : Deed} (hd : l[i]? = some d) (hx : a.eval x = .pointer (some ((adr A).add (i * 18)))) (h : K (a.put dst (.agg d.cells.toArray)) w) :
    Oper.wp Try.prog ⟨dst, .load 43 x, ty, pos, after, gd⟩ a w K Q := by
  have hl := run_loadCells_list (P := Try.prog) w ((adr A).add (i * 18)) d.cells (fun j u hu => deed_cell hD O.below hd hu)
  rw [deed_len] at hl
  have hr : (loadVar 43 ((adr A).add (i * 18))).run Try.prog w = .ok (.agg d.cells.toArray) w := by
    have hagg : (isAgg 43).run Try.prog w = .ok true w := by kernel_rfl
    simp [loadVar, Sem.run_bind, hagg, sizeOf43 w, hl]
  unfold Oper.wp execOp
  simp only [hx, Instr.loadAt, Instr.sureAddr, Sem.run_bind, Sem.run_pure, Result.andThen_ok, hr]
  exact h
end
end Go.Proofs.Ythcieapfpgejdaa
