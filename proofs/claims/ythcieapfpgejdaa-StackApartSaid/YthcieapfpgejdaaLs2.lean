/- Parts of a block; slice literals and cuts; how stacks are handed back. -/
import Derived.Test.YthcieapfpgejdaaLs
import Derived.Test.YthcieapfpgejdaaS
import Derived.Test.YthcieapfpgejdaaMul4
import Derived.Great.BuildSlice
import Derived.Laws.CopyRow
namespace Go.Proofs.Ythcieapfpgejdaa
open Go.ChangeShapes Go.WideShapes Go.ChangeAt Go.RowKit
set_option linter.unusedVariables false
set_option linter.unusedSimpArgs false

section
variable {P : Program} {ops : Array Oper} {Q : Exit → Act → World → Prop} {a : Act} {w w0 : World} {rest : List Oper} {bs : List (Nat × TypeId × List Value)} {ls : List Ent} {dst : Option Tmp} {ty : TypeId} {pos : String} {after : Array Edge} {K : Act → World → Prop}
/-- An array or a struct that stands within a block. -/
theorem wp_mid_ls {t : TypeId} {x : Operand} {gd : Option (Nat × Bool)} (O : OwnL w0 w bs ls) (k : Nat) {g o : Nat} {t' : TypeId} {cs : List Value} (hk : bs[k]? = some (g, t', cs)) (ds : List Value) (hds : ∀ j v, ds[j]? = some v → cs[o + j]? = some v) (hx : a.eval x = .pointer (some ⟨g, o, none⟩))
    {d : TypeDesc} (hu : P.underlying t = some d) (hd : (match d with | .struct _ | .array _ _ => true | _ => false) = true) (hi : (P.info? t).map (·.size) = some ds.length) (h : K (a.put dst (.agg ds.toArray)) w) : Oper.wp P ⟨dst, .load t x, ty, pos, after, gd⟩ a w K Q := by
  have hcell : ∀ j u, ds[j]? = some u → w.cell? ((⟨g, o, none⟩ : Addr).add j) = some u := by
    intro j u hu
    have ha : (⟨g, o, none⟩ : Addr).add j = ⟨g, o + j, none⟩ := by unfold Addr.add; split <;> simp_all
    rw [ha]
    exact O.cell k hk (hds j u hu)
  have hl := run_loadCells_list (P := P) w ⟨g, o, none⟩ ds hcell
  have hr : (loadVar t ⟨g, o, none⟩).run P w = .ok (.agg ds.toArray) w := by
    cases hq : P.info? t with
    | none => simp [hq] at hi
    | some j =>
      have hs : j.size = ds.length := by simpa [hq] using hi
      have hagg : (isAgg t).run P w = .ok true w := by
        unfold isAgg
        rw [Sem.run_bind, run_underlying hu w]
        cases d <;> simp_all
      simp [loadVar, Sem.run_bind, hagg, sizeOf, typeInfo, hq, hs, hl]
  unfold Oper.wp execOp
  simp only [hx, Instr.loadAt, Instr.sureAddr, Sem.run_bind, Sem.run_pure, Result.andThen_ok, hr]
  exact h
theorem wpList_mid_ls {t : TypeId} {x : Operand} {gd : Option (Nat × Bool)} (hw : Region.wanted ⟨dst, .load t x, ty, pos, after, gd⟩ (yielded ops a.tmps) = true) (O : OwnL w0 w bs ls) (k : Nat) {g o : Nat} {t' : TypeId} {cs : List Value} (hk : bs[k]? = some (g, t', cs)) (ds : List Value) (hds : ∀ j v, ds[j]? = some v → cs[o + j]? = some v) (hx : a.eval x = .pointer (some ⟨g, o, none⟩))
    {d : TypeDesc} (hu : P.underlying t = some d) (hd : (match d with | .struct _ | .array _ _ => true | _ => false) = true) (hi : (P.info? t).map (·.size) = some ds.length) (h : wpList P ops Q rest (a.put dst (.agg ds.toArray)) w) : wpList P ops Q (⟨dst, .load t x, ty, pos, after, gd⟩ :: rest) a w :=
  wpList_step fun K hK => by rw [if_pos hw]; exact wp_mid_ls O k hk ds hds hx hu hd hi (hK _ _ h)
/-- An element of an array that is a value, elements of one cell each. -/
theorem wp_idx {t e : TypeId} {x y : Operand} {gd : Option (Nat × Bool)} {n : Nat} (hu : P.underlying t = some (.array n e)) (hs : ∀ w, (sizeOf e).run P w = .ok 1 w) (hg : ∀ w, (isAgg e).run P w = .ok false w) (ds : List Value) (hx : a.eval x = .agg ds.toArray) {kd : IntKind} {z : Int} (i : Nat) (hy : a.eval y = .int kd z) (hz : z = (i : Int)) (hi : i < n) {v : Value} (hv : ds[i]? = some v)
    (h : K (a.put dst v) w) : Oper.wp P ⟨dst, .index t x y, ty, pos, after, gd⟩ a w K Q := by
  subst hz
  have hp : (part e ds.toArray i).run P w = .ok v w := by
    have : ds.toArray[i]? = some v := by simpa using hv
    simp [part, Sem.run_bind, hg w, this]
  have hr : (Instr.index t (.agg ds.toArray) (.int kd i)).run P w = .ok v w := by
    unfold Instr.index
    have h1 : (0 : Int) ≤ i ∧ (i : Int) < n := by omega
    simp [asIntOf, Sem.run_bind, run_underlying hu, h1, hs, hp, show ¬ n ≤ i by omega]
  unfold Oper.wp execOp
  simp only [hx, hy, Sem.run_bind, hr, Result.andThen_ok]
  exact h
theorem wpList_idx {t e : TypeId} {x y : Operand} {gd : Option (Nat × Bool)} {n : Nat} (hw : Region.wanted ⟨dst, .index t x y, ty, pos, after, gd⟩ (yielded ops a.tmps) = true) (hu : P.underlying t = some (.array n e)) (hs : ∀ w, (sizeOf e).run P w = .ok 1 w) (hg : ∀ w, (isAgg e).run P w = .ok false w) (ds : List Value) (hx : a.eval x = .agg ds.toArray) {kd : IntKind} {z : Int} (i : Nat) (hy : a.eval y = .int kd z) (hz : z = (i : Int)) (hi : i < n) {v : Value} (hv : ds[i]? = some v)
    (h : wpList P ops Q rest (a.put dst v) w) : wpList P ops Q (⟨dst, .index t x y, ty, pos, after, gd⟩ :: rest) a w :=
  wpList_step fun K hK => by rw [if_pos hw]; exact wp_idx hu hs hg ds hx i hy hz hi hv (hK _ _ h)
/-- Cells into the middle of a block of the call's own. -/
theorem wp_into_ls {t : TypeId} {x y : Operand} {gd : Option (Nat × Bool)} (O : OwnL w0 w bs ls) (k : Nat) {g o : Nat} {t' : TypeId} {cs : List Value} (ds : List Value) (hk : bs[k]? = some (g, t', cs)) (hx : a.eval x = .pointer (some ⟨g, o, none⟩))
    (hy : a.eval y = .agg ds.toArray) (hi : (P.info? t).map (·.size) = some ds.length) (hl : o + ds.length ≤ cs.length) (h1 : ∀ v ∈ ds, v.oneCell' = true)
    (h : ∀ w1, OwnL w0 w1 (bs.set k (g, t', cs.take o ++ ds ++ cs.drop (o + ds.length))) ls → K (a.put dst undef) w1) : Oper.wp P ⟨dst, .store t x y, ty, pos, after, gd⟩ a w K Q := by
  have hst := run_storeCells_at P g o t' ds 0 cs.toArray w (O.blk k hk) (by simpa using hl) h1
  have hsv : (storeVar t ⟨g, o, none⟩ (.agg ds.toArray)).run P w = .ok () (w.setRow g (cs.take o ++ ds ++ cs.drop (o + ds.length)).toArray) := by
    cases hq : P.info? t with
    | none => simp [hq] at hi
    | some j =>
      have hj : j.size = ds.length := by simpa [hq] using hi
      have hc : (Value.agg ds.toArray).cells = ds.toArray := rfl
      simp only [Nat.add_zero] at hst
      simp [storeVar, sizeOf, typeInfo, hq, hj, hc, hst]
  unfold Oper.wp execOp
  simp only [hx, hy, Instr.storeAt, Instr.sureAddr, Sem.run_bind, Sem.run_pure, Result.andThen_ok, hsv]
  exact h _ (O.setRow k hk _)
end

theorem size22 : (Try.prog.info? 22).map (·.size) = some 1 := by kernel_rfl
theorem size25 : (Try.prog.info? 25).map (·.size) = some 3 := by kernel_rfl
theorem sizeOf22 (w : World) : (sizeOf 22).run Try.prog w = .ok 1 w := by kernel_rfl
theorem sizeOf27 (w : World) : (sizeOf 27).run Try.prog w = .ok 16 w := by kernel_rfl
theorem agg22 (w : World) : (isAgg 22).run Try.prog w = .ok false w := by kernel_rfl
theorem mat_info : (Try.prog.info? 27).map (fun i => (i.zero, i.size, i.bytes)) = some (some (arr 16 M.zero), 16, 128) := by kernel_rfl
/-! ### Stacks as cells -/
def sv (m : Int) (L : Nat → Ent) : List Value := [.int .i64 m, (L 0).val, (L 1).val]
theorem s25 (m : Int) (L : Nat → Ent) : (Try.prog.info? 25).map (·.size) = some (sv m L).length := size25
theorem sv_len (m m' : Int) (L L' : Nat → Ent) : (sv m L).length = (sv m' L').length := rfl
theorem sv_one (m : Int) (L : Nat → Ent) : ∀ v ∈ sv m L, v.oneCell' = true := by
  intro v hv
  simp only [sv, List.mem_cons, List.not_mem_nil, or_false] at hv
  rcases hv with rfl | rfl | rfl <;> rfl
theorem sv_at (m : Int) (L : Nat → Ent) {i : Nat} (h : i < 2) : (sv m L)[1 + i]? = some (L i).val := by
  rcases i with _ | _ | i
  · rfl
  · rfl
  · omega
theorem sv_at' (m : Int) (L : Nat → Ent) {i : Nat} (h : i < 2) : [(L 0).val, (L 1).val][i]? = some (L i).val := by
  rcases i with _ | _ | i
  · rfl
  · rfl
  · omega
def putL (L : Nat → Ent) (i : Nat) (x : Ent) (j : Nat) : Ent := if j = i then x else L j
theorem sv_set (m : Int) (L : Nat → Ent) {i : Nat} (h : i < 2) (x : Ent) : (sv m L).set (1 + i) x.val = sv m (putL L i x) := by
  rcases i with _ | _ | i
  · rfl
  · rfl
  · omega
theorem sv_mode (m m' : Int) (L : Nat → Ent) : (sv m L).set 0 (.int .i64 m') = sv m' L := rfl
theorem two_at (L : Nat → Ent) {i : Nat} (h : i < 2) : [L 0, L 1][i]? = some (L i) := by
  rcases i with _ | _ | i
  · rfl
  · rfl
  · omega
theorem two_all {p : Ent → Prop} {L : Nat → Ent} (h : ∀ i, i < 2 → p (L i)) : ∀ x ∈ [L 0, L 1], p x := by
  intro x hx
  simp only [List.mem_cons, List.not_mem_nil, or_false] at hx
  rcases hx with rfl | rfl
  · exact h 0 (by decide)
  · exact h 1 (by decide)
def noL (n : Nat) (_ : Nat) : Ent := ⟨n, none, 0, []⟩
theorem zero25 : (Try.prog.info? 25).map (·.zero) = some (some (.agg (sv 0 (noL 0)).toArray)) := by kernel_rfl
theorem built25z : Try.prog.built 25 [] = some (sv 0 (noL 0)).toArray := by kernel_rfl
theorem sv_noL (m : Int) (n n' : Nat) : sv m (noL n) = sv m (noL n') := rfl
def stk (m : Int) (L : Nat → Ent) : Stk := ⟨m, fun i => (L i).l⟩

/-- Stacks that a call hands back: their lists are new. -/
def NewS (w : World) (s : Stk) (w' : World) (v : Value) : Prop :=
  ∃ L : Nat → Ent, v = .agg (sv s.m L).toArray ∧ ∀ i, i < 2 → (L i).lo = w.heap.size ∧ (L i).l = s.l i ∧ Lies w' [] (L i)
def RetS (w : World) (s : Stk) (e : Ending) (w' : World) : Prop := ∃ v, e = .returned v ∧ NewS w s w' v ∧ Below w.heap.size w w'
def RetSE (w : World) (r : Stk × Int) (e : Ending) (w' : World) : Prop := ∃ v, e = .returned (.tuple #[v, .int .i64 r.2]) ∧ NewS w r.1 w' v ∧ Below w.heap.size w w'
theorem newS_none (w w' : World) : NewS w Stk.none_ w' (.agg (sv 0 (noL 0)).toArray) := ⟨noL w.heap.size, rfl, fun i hi => ⟨rfl, rfl, Lies.nil⟩⟩
theorem newS_of {w w' : World} {bs : List (Nat × TypeId × List Value)} {ls : List Ent} {s : Stk} (O : OwnL w w' bs ls) (L : Nat → Ent) (hm : ∀ i, i < 2 → L i ∈ ls) (hl : ∀ i, i < 2 → (L i).lo = w.heap.size ∧ (L i).l = s.l i) : NewS w s w' (.agg (sv s.m L).toArray) :=
  ⟨L, rfl, fun i hi => ⟨(hl i hi).1, (hl i hi).2, (O.2 _ (hm i hi)).turn (Nat.le_refl _) (fun _ _ _ => rfl) (fun _ _ _ => List.not_mem_nil)⟩⟩
/-- What a caller has of them. -/
theorem OwnL.gainS {w0 w w' : World} {bs : List (Nat × TypeId × List Value)} {ls : List Ent} {s : Stk} {v : Value} (O : OwnL w0 w bs ls) (h : NewS w s w' v) (hb : Below w.heap.size w w') :
    ∃ L : Nat → Ent, v = .agg (sv s.m L).toArray ∧ (∀ i, i < 2 → (L i).lo = w0.heap.size ∧ (L i).l = s.l i) ∧ OwnL w0 w' bs (L 0 :: L 1 :: ls) := by
  obtain ⟨L, rfl, hL⟩ := h
  refine ⟨fun i => ⟨w0.heap.size, (L i).A, (L i).c, (L i).l⟩, rfl, fun i hi => ⟨rfl, (hL i hi).2.1⟩, ?_⟩
  have h0 := hL 0 (by decide)
  have h1 := hL 1 (by decide)
  refine O.gain2 hb ?_ ?_
  · have := h0.2.2
    rw [← h0.1]
    exact this
  · have := h1.2.2
    rw [← h1.1]
    exact this
/-- Two results, the first one an array or a struct in a block of its own. -/
theorem res_ls3 {P : Program} {w0 w : World} {bs : List (Nat × TypeId × List Value)} {ls : List Ent} {fn : Func} {p u : Tmp} {t : TypeId} (h : fn.results = #[.cell p t, .tmp u]) {tmps : Array Value} (O : OwnL w0 w bs ls) (k : Nat) {g : Nat} {t' : TypeId} {cs : List Value} (hk : bs[k]? = some (g, t', cs))
    (hp : tmps.getD p undef = .pointer (some ⟨g, 0, none⟩)) {d : TypeDesc} (hu : P.underlying t = some d) (hd : (match d with | .struct _ | .array _ _ => true | _ => false) = true) (hi : (P.info? t).map (·.size) = some cs.length) {v : Value} (hv : tmps.getD u undef = v) :
    (results fn tmps).run P w = .ok (.tuple #[.agg cs.toArray, v]) w := by
  rw [results_cell_tmp h, hp]
  have := run_loadVar_row (P := P) w g t' t cs.toArray (0, 0) _ (O.blk k hk) hu hd (by simpa using hi)
  simp only [asAddr, Sem.run_pure, Result.andThen_ok, this, hv]

section
variable {ops : Array Oper} {Q : Exit → Act → World → Prop} {a : Act} {w w0 : World} {rest : List Oper} {bs : List (Nat × TypeId × List Value)} {ls : List Ent} {dst : Option Tmp} {ty : TypeId} {pos : String} {after : Array Edge} {K : Act → World → Prop}
/-- A slice literal of one matrix. -/
theorem wp_lit_ls {x : Operand} {gd : Option (Nat × Bool)} (O : OwnL w0 w bs ls) (v : Nat → Int) (hx : a.eval x = arr 16 v)
    (h : ∀ g w1, OwnL w0 w1 bs (⟨w0.heap.size, some ⟨g, 0, none⟩, 1, [v]⟩ :: ls) → K (a.put dst (.slice (some ⟨g, 0, none⟩) 1 1)) w1) : Oper.wp Try.prog ⟨dst, .buildSlice 22 1 #[(0, x)], ty, pos, after, gd⟩ a w K Q := by
  obtain ⟨ie, hie, hz, hs, hb⟩ : ∃ ie, Try.prog.info? 27 = some ie ∧ ie.zero = some (arr 16 M.zero) ∧ ie.size = 16 ∧ ie.bytes = 128 := by
    have := mat_info
    cases h : Try.prog.info? 27 with
    | none => simp [h] at this
    | some i => exact ⟨i, rfl, by simpa [h] using congrArg (fun o => o.map (·.1)) this, by simpa [h] using congrArg (fun o => o.map (·.2.1)) this, by simpa [h] using congrArg (fun o => o.map (·.2.2)) this⟩
  have hf : Instr.fill (fun i => some (i * 16, 16)) ((Array.range (1 * 16)).map ((arr 16 M.zero).cells[· % (arr 16 M.zero).cells.size]!)) [(0, arr 16 v)] = some (M.mat 16 v).toArray := by kernel_rfl
  refine wp_buildSlice 22 27 1 #[(0, x)] rfl (M.mat 16 v).toArray ie (arr 16 M.zero) Try.underlying22 hie hz (by rw [hs]; decide) (by rw [hs]; decide) ?_ ?_
  · rw [hs]
    have : (#[(0, x)].map fun (i, x) => (i, a.eval x)).toList = [(0, arr 16 v)] := by simp [hx]
    rw [this]
    exact hf
  · have hbw : Below w.heap.size w (w.alloc (.cells (M.mat 16 v).toArray 27)) := (Below.refl _ w).alloc (Nat.le_refl _) _
    refine h _ _ (O.gain hbw ⟨Nat.le_refl _, fun _ => ⟨_, rfl, Nat.le_refl _, by simp, List.not_mem_nil, fun j u hu => ?_⟩⟩)
    have ha : (⟨w.heap.size, 0, none⟩ : Addr).add j = ⟨w.heap.size, j, none⟩ := by unfold Addr.add; split <;> simp_all
    rw [ha, cell_of_row _ _ _ _ _ _ (heap_alloc_new w _)]
    simpa [M.cells] using hu
theorem wpList_lit_ls {x : Operand} {gd : Option (Nat × Bool)} (hw : Region.wanted ⟨dst, .buildSlice 22 1 #[(0, x)], ty, pos, after, gd⟩ (yielded ops a.tmps) = true) (O : OwnL w0 w bs ls) (v : Nat → Int) (hx : a.eval x = arr 16 v)
    (h : ∀ g w1, OwnL w0 w1 bs (⟨w0.heap.size, some ⟨g, 0, none⟩, 1, [v]⟩ :: ls) → wpList Try.prog ops Q rest (a.put dst (.slice (some ⟨g, 0, none⟩) 1 1)) w1) : wpList Try.prog ops Q (⟨dst, .buildSlice 22 1 #[(0, x)], ty, pos, after, gd⟩ :: rest) a w :=
  wpList_step fun K hK => by rw [if_pos hw]; exact wp_lit_ls O v hx fun g w1 O' => hK _ _ (h g w1 O')
/-- A list without what stands behind k. -/
theorem run_cut6 (A : Option Addr) {n c k : Nat} (hk : k ≤ c) (w : World) : (Instr.slice 22 (.slice A n c) none (some (.int .i64 (k : Int))) none).run Try.prog w = .ok (.slice A k c) w := by
  have h1 : (0 : Int) ≤ (k : Int) := by omega
  simp only [Instr.slice, run_underlying Try.underlying22, go_sem, Instr.sliceBounds, Instr.sliceBound, asIntOf]
  have ha : ∀ x : Addr, x.add 0 = x := fun x => Addr.add_zero' x
  cases A <;> simp [h1, hk, sizeOf27, ha]
theorem wp_neq_mat {t t' : TypeId} {x y : Operand} {gd : Option (Nat × Bool)} {n : Nat} (hu : Try.prog.underlying t = some (.array n 3)) (hg : Try.prog.eqGuardType Try.prog.depth t = false) (p q : Nat → Int) (hx : a.eval x = arr n p) (hy : a.eval y = arr n q)
    (h : K (a.put dst (.bool (!M.eqB n p q))) w) : Oper.wp Try.prog ⟨dst, .binOp .neq t x y t', ty, pos, after, gd⟩ a w K Q := by
  unfold Oper.wp execOp
  simp only [hx, hy, Sem.run_bind, run_eqGuard_agg _ _ _ _ _ _ _ hg, run_neq_struct, run_eq_mat hu, Result.andThen_ok]
  exact h
theorem wpList_neq_mat {t t' : TypeId} {x y : Operand} {gd : Option (Nat × Bool)} {n : Nat} (hw : Region.wanted ⟨dst, .binOp .neq t x y t', ty, pos, after, gd⟩ (yielded ops a.tmps) = true) (hu : Try.prog.underlying t = some (.array n 3)) (hg : Try.prog.eqGuardType Try.prog.depth t = false) (p q : Nat → Int) (hx : a.eval x = arr n p) (hy : a.eval y = arr n q)
    (h : wpList Try.prog ops Q rest (a.put dst (.bool (!M.eqB n p q))) w) : wpList Try.prog ops Q (⟨dst, .binOp .neq t x y t', ty, pos, after, gd⟩ :: rest) a w :=
  wpList_step fun K hK => by rw [if_pos hw]; exact wp_neq_mat hu hg p q hx hy (hK _ _ h)
end
end Go.Proofs.Ythcieapfpgejdaa
