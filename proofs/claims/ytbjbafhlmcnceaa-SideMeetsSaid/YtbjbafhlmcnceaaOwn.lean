/- Blocks of a call's own, each known whole: they stay so over calls, new blocks, stores into one of them. -/
import Derived.Test.YtbjbafhlmcnceaaAny
import Derived.Test.YtbjbafhlmcnceaaRow
import Derived.Below
import Derived.Laws.Rows
import Derived.Lib.Hide
import Derived.Laws.ResultCell
namespace Go.Proofs.Ytbjbafhlmcnceaa
open Go.ChangeShapes Go.WideShapes Go.ChangeAt Go.RowKit
set_option linter.unusedVariables false

/-- Since w0 nothing old has changed, and these blocks are the call's own. -/
def Own (w0 w : World) (bs : List (Nat × TypeId × List Value)) : Prop :=
  Below w0.heap.size w0 w ∧ (bs.map (·.1)).Nodup ∧ ∀ x ∈ bs, w0.heap.size ≤ x.1 ∧ w.heap[x.1]? = some (.cells x.2.2.toArray x.2.1 (0, 0))
section
variable {w0 w w' : World} {bs : List (Nat × TypeId × List Value)} {g k : Nat} {t : TypeId} {cs : List Value}
theorem Own.below (h : Own w0 w bs) : Below w0.heap.size w0 w := h.1
theorem Own.start (w : World) : Own w w [] := ⟨Below.refl _ _, by simp, by simp⟩
theorem Own.lt (h : Own w0 w bs) {x : Nat × TypeId × List Value} (hx : x ∈ bs) : x.1 < w.heap.size := (Array.getElem?_eq_some_iff.1 (h.2.2 x hx).2).1
theorem Own.alloc (h : Own w0 w bs) (t : TypeId) (cs : List Value) : Own w0 (w.alloc (.cells cs.toArray t)) ((w.heap.size, t, cs) :: bs) := by
  refine ⟨h.1.alloc h.1.size _, ?_, fun x hx => ?_⟩
  · simp only [List.map_cons, List.nodup_cons]
    refine ⟨fun hm => ?_, h.2.1⟩
    obtain ⟨x, hx, he⟩ := List.mem_map.1 hm
    have := h.lt hx
    omega
  · rcases List.mem_cons.1 hx with rfl | hx
    · exact ⟨h.1.size, heap_alloc_new w _⟩
    · exact ⟨(h.2.2 x hx).1, (Below.heap_alloc w _ _ (h.lt hx)).trans (h.2.2 x hx).2⟩
theorem Own.drew (h : Own w0 w bs) : Own w0 w.drew bs := ⟨h.1.drew, h.2.1, h.2.2⟩
theorem Own.call (h : Own w0 w bs) (hb : Below w.heap.size w w') : Own w0 w' bs :=
  ⟨h.1.trans (hb.mono h.1.size), h.2.1, fun x hx => ⟨(h.2.2 x hx).1, (hb.block _ (h.lt hx)).trans (h.2.2 x hx).2⟩⟩
theorem Own.mem (hk : bs[k]? = some (g, t, cs)) : (g, t, cs) ∈ bs := List.mem_of_getElem? hk
theorem Own.blk (h : Own w0 w bs) (k : Nat) (hk : bs[k]? = some (g, t, cs)) : w.heap[g]? = some (.cells cs.toArray t (0, 0)) := (h.2.2 _ (Own.mem hk)).2
theorem Own.ge (h : Own w0 w bs) (k : Nat) (hk : bs[k]? = some (g, t, cs)) : w0.heap.size ≤ g := (h.2.2 _ (Own.mem hk)).1
theorem Own.cell (h : Own w0 w bs) (k : Nat) (hk : bs[k]? = some (g, t, cs)) {i : Nat} {v : Value} (hv : cs[i]? = some v) : w.cell? ⟨g, i, none⟩ = some v := by
  rw [cell_of_row w g i _ t (0, 0) (h.blk k hk)]
  simpa using hv
theorem Own.set_mem (h : Own w0 w bs) (hk : bs[k]? = some (g, t, cs)) (ds : List Value) {w' : World} (hg : w'.heap[g]? = some (.cells ds.toArray t (0, 0))) (ho : ∀ b, b ≠ g → w'.heap[b]? = w.heap[b]?) (hb : Below w0.heap.size w0 w') :
    Own w0 w' (bs.set k (g, t, ds)) := by
  have hm : (bs.set k (g, t, ds)).map (·.1) = bs.map (·.1) := by
    rw [List.map_set]
    apply List.ext_getElem?
    intro i
    rw [List.getElem?_set]
    split
    · rename_i e
      subst e
      obtain ⟨hlt, he⟩ := List.getElem?_eq_some_iff.1 hk
      rw [if_pos (by simpa using hlt)]
      simp [hk]
    · rfl
  refine ⟨hb, by rw [hm]; exact h.2.1, fun x hx => ?_⟩
  obtain ⟨i, hi⟩ := List.mem_iff_getElem?.1 hx
  rw [List.getElem?_set] at hi
  by_cases e : k = i
  · subst e
    have hlt : k < bs.length := (List.getElem?_eq_some_iff.1 hk).1
    rw [if_pos rfl, if_pos hlt] at hi
    obtain rfl : (g, t, ds) = x := by simpa using hi
    exact ⟨h.ge k hk, hg⟩
  · rw [if_neg e] at hi
    have hx' := List.mem_of_getElem? hi
    have hne : x.1 ≠ g := by
      intro hxg
      have h1 : (bs.map (·.1))[k]? = some g := by simp [hk]
      have h2 : (bs.map (·.1))[i]? = some g := by simp [hi, hxg]
      obtain ⟨l1, e1⟩ := List.getElem?_eq_some_iff.1 h1
      obtain ⟨l2, e2⟩ := List.getElem?_eq_some_iff.1 h2
      exact e ((List.getElem_inj h.2.1).1 (e1.trans e2.symm))
    exact ⟨(h.2.2 x hx').1, (ho _ hne).trans (h.2.2 x hx').2⟩
theorem Own.setCell (h : Own w0 w bs) (k : Nat) (hk : bs[k]? = some (g, t, cs)) (i : Nat) (v : Value) : Own w0 (w.setCell ⟨g, i, none⟩ v) (bs.set k (g, t, cs.set i v)) := by
  refine h.set_mem hk _ ?_ (fun b hb => heap_setCell_other w _ b v hb) (h.1.setCell (h.ge k hk) v)
  rw [heap_setCell_same w g i _ t v (h.blk k hk)]
  simp
theorem Own.setRow (h : Own w0 w bs) (k : Nat) (hk : bs[k]? = some (g, t, cs)) (ds : List Value) : Own w0 (w.setRow g ds.toArray) (bs.set k (g, t, ds)) := by
  refine h.set_mem hk _ (setRow_heap w g _ _ t _ (h.blk k hk)) (fun b hb => setRow_other w g b _ hb) (h.1.trans ⟨rfl, rfl, rfl, by simp, fun j hj => setRow_other w g j _ (by have := h.ge k hk; omega)⟩)
theorem Own.frozen (h : Own w0 w bs) (k : Nat) (hk : bs[k]? = some (g, t, cs)) (i : Nat) : w.frozen? ⟨g, i, none⟩ = false := frozen_of_row w g i _ t (h.blk k hk)
end

section
variable {P : Program} {ops : Array Oper} {Q : Exit → Act → World → Prop} {a : Act} {w w0 : World} {rest : List Oper} {bs : List (Nat × TypeId × List Value)} {dst : Option Tmp} {ty : TypeId} {pos : String} {after : Array Edge} {K : Act → World → Prop}
theorem wp_box_own {t : TypeId} {x : Operand} (O : Own w0 w bs) (cs : List Value) (hx : a.eval x = .agg cs.toArray)
    (h : ∀ g w1, Own w0 w1 ((g, t, cs) :: bs) → K (a.put dst (.pointer (some ⟨g, 0, none⟩))) w1) : Oper.wp P ⟨dst, .box t x, ty, pos, after, none⟩ a w K Q := by
  have hr : (Instr.box t (.agg cs.toArray)).run P w = .ok (.pointer (some ⟨w.heap.size, 0, none⟩)) (w.alloc (.cells cs.toArray t)) := rfl
  unfold Oper.wp execOp
  simp only [hx, Sem.run_bind, hr, Result.andThen_ok]
  exact h _ _ (O.alloc t cs)
theorem wpList_box_own {t : TypeId} {x : Operand} (O : Own w0 w bs) (cs : List Value) (hx : a.eval x = .agg cs.toArray)
    (h : ∀ g w1, Own w0 w1 ((g, t, cs) :: bs) → wpList P ops Q rest (a.put dst (.pointer (some ⟨g, 0, none⟩))) w1) : wpList P ops Q (⟨dst, .box t x, ty, pos, after, none⟩ :: rest) a w :=
  wpList_plain rfl fun K hK => wp_box_own O cs hx fun g w1 O' => hK _ _ (h g w1 O')
theorem wp_alloc_own {t : TypeId} (O : Own w0 w bs) (cs : List Value) (hz : (P.info? t).map (·.zero) = some (some (.agg cs.toArray)))
    (h : ∀ g w1, Own w0 w1 ((g, t, cs) :: bs) → K (a.put dst (.pointer (some ⟨g, 0, none⟩))) w1) : Oper.wp P ⟨dst, .alloc t, ty, pos, after, none⟩ a w K Q := by
  have hzv : (zeroValue t).run P w = .ok (.agg cs.toArray) w := by
    cases hi : P.info? t with
    | none => simp [hi] at hz
    | some i =>
      have : i.zero = some (.agg cs.toArray) := by simpa [hi] using hz
      simp [zeroValue, typeInfo, hi, this]
  have hr : (Instr.alloc t true (.tuple #[])).run P w = .ok (.pointer (some ⟨w.heap.size, 0, none⟩)) (w.alloc (.cells cs.toArray t)) := by
    unfold Instr.alloc
    rw [Sem.run_bind, hzv, Result.andThen_ok]
    rfl
  unfold Oper.wp execOp
  simp only [Sem.run_bind, hr, Result.andThen_ok]
  exact h _ _ (O.alloc t cs)
theorem wpList_alloc_own {t : TypeId} (O : Own w0 w bs) (cs : List Value) (hz : (P.info? t).map (·.zero) = some (some (.agg cs.toArray)))
    (h : ∀ g w1, Own w0 w1 ((g, t, cs) :: bs) → wpList P ops Q rest (a.put dst (.pointer (some ⟨g, 0, none⟩))) w1) : wpList P ops Q (⟨dst, .alloc t, ty, pos, after, none⟩ :: rest) a w :=
  wpList_plain rfl fun K hK => wp_alloc_own O cs hz fun g w1 O' => hK _ _ (h g w1 O')
/-- A whole array out of its block. -/
theorem wp_row_own {t : TypeId} {x : Operand} {gd : Option (Nat × Bool)} (O : Own w0 w bs) (k : Nat) {g : Nat} {t' : TypeId} {cs : List Value} (hk : bs[k]? = some (g, t', cs)) (hx : a.eval x = .pointer (some ⟨g, 0, none⟩))
    {n : Nat} {e : TypeId} (hu : P.underlying t = some (.array n e)) (hi : (P.info? t).map (·.size) = some cs.length) (h : K (a.put dst (.agg cs.toArray)) w) : Oper.wp P ⟨dst, .load t x, ty, pos, after, gd⟩ a w K Q :=
  wp_load_row t x rfl g hx t' cs.toArray (0, 0) _ (O.blk k hk) hu rfl (by simpa using hi) h
theorem wpList_row_own {t : TypeId} {x : Operand} (O : Own w0 w bs) (k : Nat) {g : Nat} {t' : TypeId} {cs : List Value} (hk : bs[k]? = some (g, t', cs)) (hx : a.eval x = .pointer (some ⟨g, 0, none⟩))
    {n : Nat} {e : TypeId} (hu : P.underlying t = some (.array n e)) (hi : (P.info? t).map (·.size) = some cs.length) (h : wpList P ops Q rest (a.put dst (.agg cs.toArray)) w) :
    wpList P ops Q (⟨dst, .load t x, ty, pos, after, none⟩ :: rest) a w :=
  wpList_plain rfl fun K hK => wp_row_own O k hk hx hu hi (hK _ _ h)
/-- A whole array into its block. -/
theorem wp_put_own {t : TypeId} {x y : Operand} {gd : Option (Nat × Bool)} (O : Own w0 w bs) (k : Nat) {g : Nat} {t' : TypeId} {cs : List Value} (ds : List Value) (hk : bs[k]? = some (g, t', cs)) (hx : a.eval x = .pointer (some ⟨g, 0, none⟩))
    (hy : a.eval y = .agg ds.toArray) (hi : (P.info? t).map (·.size) = some ds.length) (hl : cs.length = ds.length) (h1 : ∀ v ∈ ds, v.oneCell' = true)
    (h : ∀ w1, Own w0 w1 (bs.set k (g, t', ds)) → K (a.put dst undef) w1) : Oper.wp P ⟨dst, .store t x y, ty, pos, after, gd⟩ a w K Q :=
  wp_store_row t x y rfl g ds.toArray hx hy t' cs.toArray (O.blk k hk) (by simpa using hi) (by simpa using hl) (by rw [Array.all_eq_true_iff_forall_mem]; intro v hv; exact h1 v (by simpa using hv)) (h _ (O.setRow k hk ds))
theorem wpList_put_own {t : TypeId} {x y : Operand} (O : Own w0 w bs) (k : Nat) {g : Nat} {t' : TypeId} {cs : List Value} (ds : List Value) (hk : bs[k]? = some (g, t', cs)) (hx : a.eval x = .pointer (some ⟨g, 0, none⟩))
    (hy : a.eval y = .agg ds.toArray) (hi : (P.info? t).map (·.size) = some ds.length) (hl : cs.length = ds.length) (h1 : ∀ v ∈ ds, v.oneCell' = true)
    (h : ∀ w1, Own w0 w1 (bs.set k (g, t', ds)) → wpList P ops Q rest (a.put dst undef) w1) : wpList P ops Q (⟨dst, .store t x y, ty, pos, after, none⟩ :: rest) a w :=
  wpList_plain rfl fun K hK => wp_put_own O k ds hk hx hy hi hl h1 fun w1 O' => hK _ _ (h w1 O')
/-- One cell. -/
theorem wp_cell_own {t : TypeId} {x : Operand} {gd : Option (Nat × Bool)} (O : Own w0 w bs) (k : Nat) {g i : Nat} {t' : TypeId} {cs : List Value} {v : Value} (hk : bs[k]? = some (g, t', cs)) (hv : cs[i]? = some v) (hx : a.eval x = .pointer (some ⟨g, i, none⟩))
    (hs : ∀ w, (isAgg t).run P w = .ok false w) (h1 : v.oneCell' = true) (h : K (a.put dst v) w) : Oper.wp P ⟨dst, .load t x, ty, pos, after, gd⟩ a w K Q := by
  have hc := O.cell k hk hv
  have hr : (loadVar t ⟨g, i, none⟩).run P w = .ok v w := by
    simp [loadVar, hs w, run_load, hc]
  unfold Oper.wp execOp
  simp only [hx, Instr.loadAt, Instr.sureAddr, Sem.run_bind, Sem.run_pure, Result.andThen_ok, hr]
  exact h
theorem wp_set_own {t : TypeId} {x y : Operand} {gd : Option (Nat × Bool)} (O : Own w0 w bs) (k : Nat) {g i : Nat} {t' : TypeId} {cs : List Value} (v : Value) (hk : bs[k]? = some (g, t', cs)) (hi : i < cs.length) (hx : a.eval x = .pointer (some ⟨g, i, none⟩))
    (hy : a.eval y = v) (hs : (P.info? t).map (·.size) = some 1) (h1 : v.oneCell' = true) (hcs : v.cells = #[v])
    (h : ∀ w1, Own w0 w1 (bs.set k (g, t', cs.set i v)) → K (a.put dst undef) w1) : Oper.wp P ⟨dst, .store t x y, ty, pos, after, gd⟩ a w K Q := by
  have hc := O.cell k hk (List.getElem?_eq_getElem hi)
  have hf := O.frozen k hk i
  have hst : (storeVar t ⟨g, i, none⟩ v).run P w = .ok () (w.setCell ⟨g, i, none⟩ v) := by
    cases hq : P.info? t with
    | none => simp [hq] at hs
    | some j =>
      have hj : j.size = 1 := by simpa [hq] using hs
      have ha : (⟨g, i, none⟩ : Addr).add 0 = ⟨g, i, none⟩ := Addr.add_zero' _
      have hst : (store ⟨g, i, none⟩ v).run P w = .ok () (w.setCell ⟨g, i, none⟩ v) := by
        rw [Go.run_store P w _ v _ h1, hc]
        simp [hf]
      simp [storeVar, sizeOf, typeInfo, hq, hj, hcs, storeCells, ha, hst]
  unfold Oper.wp execOp
  simp only [hx, hy, Instr.storeAt, Instr.sureAddr, Sem.run_bind, Sem.run_pure, Result.andThen_ok, hst]
  exact h _ (O.setCell k hk i v)
theorem wpList_set_own {t : TypeId} {x y : Operand} (O : Own w0 w bs) (k : Nat) {g i : Nat} {t' : TypeId} {cs : List Value} (v : Value) (hk : bs[k]? = some (g, t', cs)) (hi : i < cs.length) (hx : a.eval x = .pointer (some ⟨g, i, none⟩))
    (hy : a.eval y = v) (hs : (P.info? t).map (·.size) = some 1) (h1 : v.oneCell' = true) (hcs : v.cells = #[v])
    (h : ∀ w1, Own w0 w1 (bs.set k (g, t', cs.set i v)) → wpList P ops Q rest (a.put dst undef) w1) : wpList P ops Q (⟨dst, .store t x y, ty, pos, after, none⟩ :: rest) a w :=
  wpList_plain rfl fun K hK => wp_set_own O k v hk hi hx hy hs h1 hcs fun w1 O' => hK _ _ (h w1 O')
theorem at_box (d : Nat) {t : TypeId} {x : Operand} {gd : Option (Nat × Bool)} (h : wpList P ops Q (⟨some d, .box t x, ty, pos, after, gd⟩ :: rest) a w) : wpList P ops Q (⟨some d, .box t x, ty, pos, after, gd⟩ :: rest) a w := h
theorem at_alloc (d : Nat) {t : TypeId} {gd : Option (Nat × Bool)} (h : wpList P ops Q (⟨some d, .alloc t, ty, pos, after, gd⟩ :: rest) a w) : wpList P ops Q (⟨some d, .alloc t, ty, pos, after, gd⟩ :: rest) a w := h
theorem at_load (d : Nat) {t : TypeId} {x : Operand} {gd : Option (Nat × Bool)} (h : wpList P ops Q (⟨some d, .load t x, ty, pos, after, gd⟩ :: rest) a w) : wpList P ops Q (⟨some d, .load t x, ty, pos, after, gd⟩ :: rest) a w := h
theorem at_store (j : Nat) {t : TypeId} {y : Operand} {gd : Option (Nat × Bool)} (h : wpList P ops Q (⟨dst, .store t (.tmp j) y, ty, pos, after, gd⟩ :: rest) a w) : wpList P ops Q (⟨dst, .store t (.tmp j) y, ty, pos, after, gd⟩ :: rest) a w := h
theorem at_binOp (d : Nat) {op : BinOp} {t t' : TypeId} {x y : Operand} {gd : Option (Nat × Bool)} (h : wpList P ops Q (⟨some d, .binOp op t x y t', ty, pos, after, gd⟩ :: rest) a w) : wpList P ops Q (⟨some d, .binOp op t x y t', ty, pos, after, gd⟩ :: rest) a w := h
theorem at_build (d : Nat) {t : TypeId} {x : Array (Nat × Operand)} {gd : Option (Nat × Bool)} (h : wpList P ops Q (⟨some d, .build t x, ty, pos, after, gd⟩ :: rest) a w) : wpList P ops Q (⟨some d, .build t x, ty, pos, after, gd⟩ :: rest) a w := h
/-- A literal. -/
theorem wp_build_own {t : TypeId} {x : Array (Nat × Operand)} {gd : Option (Nat × Bool)} (l : List (Nat × Value)) (cs : Array Value) (hx : (x.map fun (i, y) => (i, a.eval y)).toList = l) (hb : P.built t l = some cs) (h : K (a.put dst (.agg cs)) w) :
    Oper.wp P ⟨dst, .build t x, ty, pos, after, gd⟩ a w K Q := by
  refine wp_build t x rfl ?_ ?_
  · rw [hx, hb]; rfl
  · rw [hx, hb]; exact h
theorem wpList_build_own {t : TypeId} {x : Array (Nat × Operand)} (l : List (Nat × Value)) (cs : Array Value) (hx : (x.map fun (i, y) => (i, a.eval y)).toList = l) (hb : P.built t l = some cs) (h : wpList P ops Q rest (a.put dst (.agg cs)) w) :
    wpList P ops Q (⟨dst, .build t x, ty, pos, after, none⟩ :: rest) a w :=
  wpList_plain rfl fun K hK => wp_build_own l cs hx hb (hK _ _ h)
/-- The address of an element, of one cell each. -/
theorem wp_index_own {t : TypeId} {x y : Operand} {gd : Option (Nat × Bool)} {n : Nat} {e : TypeId} (hu : P.underlying t = some (.array n e)) (hs : ∀ w, (sizeOf e).run P w = .ok 1 w) (hn : 1 < n) {g : Nat} {kd : IntKind} {z : Int} (i : Nat)
    (hx : a.eval x = .pointer (some ⟨g, 0, none⟩)) (hy : a.eval y = .int kd z) (hz : z = (i : Int)) (hi : i < n) (h : K (a.put dst (.pointer (some ⟨g, i, none⟩))) w) : Oper.wp P ⟨dst, .indexAddr t x y, ty, pos, after, gd⟩ a w K Q := by
  subst hz
  have hr : (Instr.indexAt t (.pointer (some ⟨g, 0, none⟩)) (.int kd i)).run P w = .ok (.pointer (some ⟨g, i, none⟩)) w := by
    have h1 : (0 : Int) ≤ i ∧ (i : Int) < n := by omega
    have ha : (⟨g, 0, none⟩ : Addr).add i = ⟨g, i, none⟩ := by unfold Addr.add; split <;> simp_all
    unfold Instr.indexAt
    simp [asIntOf, Sem.run_bind, run_underlying hu, Instr.sureAddr, hs w, ha, show ¬ n ≤ i by omega, show ¬ n ≤ 1 by omega]
  unfold Oper.wp execOp
  simp only [hx, hy, Sem.run_bind, hr, Result.andThen_ok]
  exact h
/-- A guarded load that is wanted. -/
theorem wpList_rowg_own {t : TypeId} {x : Operand} {gd : Option (Nat × Bool)} (hw : Region.wanted ⟨dst, .load t x, ty, pos, after, gd⟩ (yielded ops a.tmps) = true) (O : Own w0 w bs) (k : Nat) {g : Nat} {t' : TypeId} {cs : List Value} (hk : bs[k]? = some (g, t', cs)) (hx : a.eval x = .pointer (some ⟨g, 0, none⟩))
    {n : Nat} {e : TypeId} (hu : P.underlying t = some (.array n e)) (hi : (P.info? t).map (·.size) = some cs.length) (h : wpList P ops Q rest (a.put dst (.agg cs.toArray)) w) :
    wpList P ops Q (⟨dst, .load t x, ty, pos, after, gd⟩ :: rest) a w :=
  wpList_step fun K hK => by rw [if_pos hw]; exact wp_row_own O k hk hx hu hi (hK _ _ h)
/-- A function's one result, an array in a block of its own. -/
theorem res_cell {fn : Func} {p : Tmp} {t : TypeId} (h : fn.results = #[.cell p t]) {tmps : Array Value} (O : Own w0 w bs) (k : Nat) {g : Nat} {t' : TypeId} {cs : List Value} (hk : bs[k]? = some (g, t', cs))
    (hp : tmps.getD p undef = .pointer (some ⟨g, 0, none⟩)) {n : Nat} {e : TypeId} (hu : P.underlying t = some (.array n e)) (hi : (P.info? t).map (·.size) = some cs.length) :
    (results fn tmps).run P w = .ok (.agg cs.toArray) w :=
  results_cell_row h tmps w g t' cs.toArray (0, 0) _ hp (O.blk k hk) hu rfl (by simpa using hi)
/-- Two results, the first one an array in a block of its own. -/
theorem res_cell2 {fn : Func} {p u : Tmp} {t : TypeId} (h : fn.results = #[.cell p t, .tmp u]) {tmps : Array Value} (O : Own w0 w bs) (k : Nat) {g : Nat} {t' : TypeId} {cs : List Value} (hk : bs[k]? = some (g, t', cs))
    (hp : tmps.getD p undef = .pointer (some ⟨g, 0, none⟩)) {n : Nat} {e : TypeId} (hu : P.underlying t = some (.array n e)) (hi : (P.info? t).map (·.size) = some cs.length) {v : Value} (hv : tmps.getD u undef = v) :
    (results fn tmps).run P w = .ok (.tuple #[.agg cs.toArray, v]) w := by
  rw [results_cell_tmp h, hp]
  have := run_loadVar_row (P := P) w g t' t cs.toArray (0, 0) _ (O.blk k hk) hu rfl (by simpa using hi)
  simp only [asAddr, Sem.run_pure, Result.andThen_ok, this, hv]
end
end Go.Proofs.Ytbjbafhlmcnceaa
