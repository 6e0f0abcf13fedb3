/- What is done with one of two stacks, in plain words; fields of calls that lie in memory; New and Load within one region. -/
import Derived.Test.YthcieapfpgejdaaBack6
namespace Go.Proofs.Ythcieapfpgejdaa
open Go.ChangeShapes Go.WideShapes Go.ChangeAt Go.RowKit
set_option linter.unusedVariables false
set_option linter.unusedSimpArgs false

theorem okL_snoc' {l : List (Nat → Int)} {x : Nat → Int} (h : Stk.okL l = true) (h8 : l.length ≠ 8) (hx : M.right x = true) : Stk.okL (l ++ [x]) = true := by
  obtain ⟨o1, o2, o3⟩ := Stk.okL_iff.1 h
  refine Stk.okL_iff.2 ⟨by simp, by simp; omega, fun z hz => ?_⟩
  rcases List.mem_append.1 hz with hz | hz
  · exact o3 z hz
  · rw [List.mem_singleton.1 hz]; exact hx
theorem okL_top {l : List (Nat → Int)} {x : Nat → Int} (h : Stk.okL l = true) (hx : M.right x = true) : Stk.okL (l.dropLast ++ [x]) = true := by
  obtain ⟨o1, o2, o3⟩ := Stk.okL_iff.1 h
  refine Stk.okL_iff.2 ⟨by simp, by simp; omega, fun z hz => ?_⟩
  rcases List.mem_append.1 hz with hz | hz
  · exact o3 z (List.dropLast_subset _ hz)
  · rw [List.mem_singleton.1 hz]; exact hx
theorem okL_drop {l : List (Nat → Int)} (h : Stk.okL l = true) (h1 : l.length ≠ 1) : Stk.okL l.dropLast = true := by
  obtain ⟨o1, o2, o3⟩ := Stk.okL_iff.1 h
  exact Stk.okL_iff.2 ⟨by simp; omega, by simp; omega, fun z hz => o3 z (List.dropLast_subset _ hz)⟩
section
variable {s : Stk} {a : Deed}
theorem meant_one (hm : s.m = 1) : s.meant = s.l 1 := by
  show s.l s.m.toNat = _
  rw [hm]
  rfl
theorem put_one (hm : s.m = 1) (hr : Stk.right s = true) {l : List (Nat → Int)} (h : Stk.okL l = true) : (s.put l).m = 1 ∧ (s.put l).l 0 = s.l 0 ∧ Stk.right (s.put l) = true ∧ (s.put l).l 1 = l := by
  have e0 : (s.put l).l 0 = s.l 0 := by
    show (if 0 = s.m.toNat then l else s.l 0) = _
    rw [hm]
    rfl
  have e1 : (s.put l).l 1 = l := by
    show (if 1 = s.m.toNat then l else s.l 1) = _
    rw [hm]
    rfl
  refine ⟨hm, e0, Stk.right_iff.2 ⟨.inr hm, fun i hi => ?_⟩, e1⟩
  rcases i with _ | _ | i
  · rw [e0]; exact (Stk.right_iff.1 hr).2 0 (by decide)
  · rw [e1]; exact h
  · omega
theorem deed_keep (hr : Stk.right s = true) (hm : s.m = 1) (h1 : 1 ≤ a.k) (h4 : a.k ≤ 4) (h0 : (Stk.deed s a).2 = 0) :
    (Stk.deed s a).1.m = 1 ∧ (Stk.deed s a).1.l 0 = s.l 0 ∧ Stk.right (Stk.deed s a).1 = true ∧ (a.k = 2 → (M.mul (Stk.last (s.l 1)) a.x).2 = 0 ∧ Stk.last ((Stk.deed s a).1.l 1) = (M.mul (Stk.last (s.l 1)) a.x).1) := by
  have hok := (Stk.right_iff.1 hr).2 1 (by decide)
  have hne : s.l 1 ≠ [] := len_ne (Stk.okL_iff.1 hok).1
  have hmt := meant_one hm
  unfold Stk.deed at h0 ⊢
  rw [if_neg (by omega)] at h0 ⊢
  by_cases k1 : a.k = 1
  · rw [if_pos k1] at h0 ⊢
    unfold Stk.load at h0 ⊢
    rw [hmt] at h0 ⊢
    by_cases hx : M.right a.x = true
    · rw [hr, hx] at h0 ⊢
      obtain ⟨e1, e2, e3, e4⟩ := put_one hm hr (okL_top hok hx)
      exact ⟨e1, e2, e3, fun h => absurd h (by omega)⟩
    · have hx' : M.right a.x = false := by simpa using hx
      rw [hr, hx'] at h0
      simp at h0
  rw [if_neg k1] at h0 ⊢
  by_cases k2 : a.k = 2
  · rw [if_pos k2] at h0 ⊢
    unfold Stk.mult at h0 ⊢
    rw [if_pos hr, hmt] at h0 ⊢
    by_cases hp : (M.mul (Stk.last (s.l 1)) a.x).2 = 0
    · rw [if_pos hp] at h0 ⊢
      have hx : M.right a.x = true := by
        rw [← Bool.not_eq_false]
        intro hx
        unfold M.mul at hp
        simp [hx] at hp
      obtain ⟨e1, e2, e3, e4⟩ := put_one hm hr (okL_top hok (mul_ok (last_right hok hne) hx hp))
      exact ⟨e1, e2, e3, fun _ => ⟨hp, by rw [e4, Stk.last_app]⟩⟩
    · rw [if_neg hp] at h0
      exact absurd h0 hp
  rw [if_neg k2] at h0 ⊢
  by_cases k3 : a.k = 3
  · rw [if_pos k3] at h0 ⊢
    unfold Stk.push at h0 ⊢
    rw [if_pos hr, hmt] at h0 ⊢
    by_cases h8 : (s.l 1).length = 8
    · rw [if_pos h8] at h0
      exact absurd h0 (by decide)
    · rw [if_neg h8] at h0 ⊢
      obtain ⟨e1, e2, e3, e4⟩ := put_one hm hr (okL_snoc' hok h8 (last_right hok hne))
      exact ⟨e1, e2, e3, fun h => absurd h k2⟩
  rw [if_neg k3] at h0 ⊢
  unfold Stk.pop at h0 ⊢
  rw [if_pos hr, hmt] at h0 ⊢
  by_cases h8 : (s.l 1).length = 1
  · rw [if_pos h8] at h0
    exact absurd h0 (by decide)
  · rw [if_neg h8] at h0 ⊢
    obtain ⟨e1, e2, e3, e4⟩ := put_one hm hr (okL_drop hok h8)
    exact ⟨e1, e2, e3, fun h => absurd h k2⟩
end
theorem top_at {i : Nat} {d : Nat} {L : Nat → Ent} (hd : d < 2) (hr : Stk.right (stk i L) = true) : Stk.top (stk i L) d = (Stk.last (L d).l, 0) := by
  have hm : Stk.isMode (d : Int) = true := Stk.isMode_iff.2 (by omega)
  simp only [Stk.top, hr, hm, Bool.and_true, if_true]
  rw [show (d : Int).toNat = d by omega]
  rfl
/-- New stacks, outright. -/
def newE : Ent := ⟨0, none, 0, [M.unit]⟩
theorem new_two_right : Stk.right (stk 0 (two newE newE)) = true := by kernel_rfl
theorem new_load {y : Nat → Int} (hy : M.right y = true) : (Stk.load (stk 0 (two newE newE)) y).2 = 0 ∧ (Stk.load (stk 0 (two newE newE)) y).1.m = 0 ∧ (Stk.load (stk 0 (two newE newE)) y).1.l 0 = [y] ∧ (Stk.load (stk 0 (two newE newE)) y).1.l 1 = [M.unit] := by
  unfold Stk.load
  rw [new_two_right, hy]
  exact ⟨rfl, rfl, rfl, rfl⟩
theorem new_load_no {y : Nat → Int} (hy : M.right y = false) : (Stk.load (stk 0 (two newE newE)) y).2 = 1 := by
  unfold Stk.load
  rw [hy, Bool.and_false]
  rfl
theorem one_right {y : Nat → Int} (hy : M.right y = true) {m : Int} (hm : m = 0 ∨ m = 1) {L : Nat → Ent} (h0 : (L 0).l = [y]) (h1 : (L 1).l = [M.unit]) : Stk.right (stk m L) = true :=
  Stk.right_iff.2 ⟨hm, fun i hi => by
    rcases i with _ | _ | i
    · show Stk.okL (L 0).l = true
      rw [h0]
      exact Stk.okL_iff.2 ⟨Nat.le_refl 1, by simp, fun x hx => by rw [List.mem_singleton.1 hx]; exact hy⟩
    · show Stk.okL (L 1).l = true
      rw [h1]
      exact okL_unit
    · omega⟩

/-! ### New and Load in one region -/
theorem DoSt.more {w w2 w3 : World} {bs : List (Nat × TypeId × List Value)} {p : Stk × Int} {a s : Option Value} (h : DoSt w bs [] p a s none w2) {st : Stk} {v : Value} (hv : NewS w2 st w3 v) (hb : Below w2.heap.size w2 w3) :
    ∃ N : Nat → Ent, v = .agg (sv st.m N).toArray ∧ (∀ i, i < 2 → (N i).l = st.l i) ∧ DoSt w bs [N 0, N 1] p a s none w3 := by
  obtain ⟨ls', bs', O, h1, h2, h3⟩ := h
  obtain ⟨N, rfl, hN, O2⟩ := O.gainS hv hb
  have hs : ∀ x ∈ ls', x ∈ N 0 :: N 1 :: ls' := fun x hx => List.mem_cons_of_mem _ (List.mem_cons_of_mem _ hx)
  refine ⟨N, rfl, fun i hi => (hN i hi).2, _, bs', O2, fun x hx => ?_, h2.more hs, h3⟩
  rcases List.mem_cons.1 hx with rfl | hx
  · simp
  · rw [List.mem_singleton.1 hx]; simp
def ApSt (w : World) (bs : List (Nat × TypeId × List Value)) (p : Stk × Int) (n c a s : Option Value) (w2 : World) : Prop :=
  (n = none ∧ c = none ∧ DoSt w bs [] p a s none w2) ∨ (∃ x y : Ent, n = some (.agg (sv 0 (two x y)).toArray) ∧ x.l = [M.unit] ∧ y.l = [M.unit] ∧ DoSt w bs [x, y] p a s c w2)
section
variable {w w2 w3 : World} {bs : List (Nat × TypeId × List Value)} {p : Stk × Int} {n c a s : Option Value}
theorem ApSt.own (h : ApSt w bs p n c a s w2) : OwnL w w2 bs [] := by
  rcases h with ⟨_, _, h⟩ | ⟨x, y, _, _, _, h⟩
  · exact h.own
  · exact h.own.pick (fun x hx => absurd hx List.not_mem_nil)
theorem ApSt.tup (h : ApSt w bs p n c a s w2) (hc : c.isSome = true) : ∃ N : Nat → Ent, c = some (.tuple #[.agg (sv p.1.m N).toArray, .int .i64 p.2]) := by
  rcases h with ⟨_, rfl, h⟩ | ⟨x, y, _, _, _, h⟩
  · cases hc
  · exact h.tup hc
variable {Q : Exit → Act → World → Prop} {f : Act} {dst : Option Tmp} {ty : TypeId} {pos : String} {after : Array Edge} {K : Act → World → Prop}
theorem ApSt.alloc_ (h : ApSt w bs p n c none s w2) (hK : ∀ v w', ApSt w bs p n c (some v) s w' → K (f.put dst v) w') : Oper.wp Try.prog ⟨dst, .alloc 25, ty, pos, after, none⟩ f w2 K Q := by
  rcases h with ⟨h1, h2, h⟩ | ⟨x, y, h1, h2, h3, h⟩
  · exact h.alloc_ fun v w' h' => hK v w' (.inl ⟨h1, h2, h'⟩)
  · exact h.alloc_ fun v w' h' => hK v w' (.inr ⟨x, y, h1, h2, h3, h'⟩)
theorem ApSt.store_ (h : ApSt w bs p n c a none w2) (ha : a.isSome = true) (hc : c.isSome = true) {gd : Option (Nat × Bool)} {x y : Operand} (hx : f.eval x = a.getD undef) (hy : f.eval y = ex 0 (c.getD undef)) (hK : ∀ v w', ApSt w bs p n c a (some v) w' → K (f.put dst undef) w') :
    Oper.wp Try.prog ⟨dst, .store 25 x y, ty, pos, after, gd⟩ f w2 K Q := by
  rcases h with ⟨_, rfl, h⟩ | ⟨x, y, h1, h2, h3, h⟩
  · cases hc
  · exact h.store_ ha hc hx hy fun v w' h' => hK v w' (.inr ⟨x, y, h1, h2, h3, h'⟩)
end
/-! ### Fields of calls that lie in memory -/
section
variable {P : Program} {ops : Array Oper} {Q : Exit → Act → World → Prop} {a : Act} {w w0 : World} {rest : List Oper} {bs : List (Nat × TypeId × List Value)} {ls : List Ent} {dst : Option Tmp} {ty : TypeId} {pos : String} {after : Array Edge} {K : Act → World → Prop}
theorem at_field (d : Nat) {t : TypeId} {x : Operand} {j : Nat} {gd : Option (Nat × Bool)} (h : wpList P ops Q (⟨some d, .fieldAddr t x j, ty, pos, after, gd⟩ :: rest) a w) : wpList P ops Q (⟨some d, .fieldAddr t x j, ty, pos, after, gd⟩ :: rest) a w := h
theorem wpList_atD {x y : Operand} {gd : Option (Nat × Bool)} (hw : Region.wanted ⟨dst, .indexAddr 40 x y, ty, pos, after, gd⟩ (yielded ops a.tmps) = true) {A : Option Addr} {l : List Deed} (hD : LiesD w0 A l) {n c : Nat} (hx : a.eval x = .slice A n c) {kd : IntKind} {z : Int} (i : Nat) (hy : a.eval y = .int kd z) (hz : z = (i : Int)) (hi : i < n) (hil : i < l.length)
    (h : wpList Try.prog ops Q rest (a.put dst (.pointer (some ((adr A).add (i * 18))))) w) : wpList Try.prog ops Q (⟨dst, .indexAddr 40 x y, ty, pos, after, gd⟩ :: rest) a w :=
  wpList_step fun K hK => by rw [if_pos hw]; exact wp_atD hD hx i hy hz hi hil (hK _ _ h)
theorem run_field0 (p : Addr) (w : World) : (Instr.fieldAt 43 (.pointer (some p)) 0).run Try.prog w = .ok (.pointer (some (p.add 0))) w := by
  simp [Instr.fieldAt, Sem.run_bind, run_underlying Try.underlying43, Instr.sureAddr, fieldPlace]
theorem run_field2 (p : Addr) (w : World) : (Instr.fieldAt 43 (.pointer (some p)) 2).run Try.prog w = .ok (.pointer (some (p.add 2))) w := by
  simp [Instr.fieldAt, Sem.run_bind, run_underlying Try.underlying43, Instr.sureAddr, fieldPlace]
theorem wp_field0 {x : Operand} {gd : Option (Nat × Bool)} {p : Addr} (hx : a.eval x = .pointer (some p)) (h : K (a.put dst (.pointer (some (p.add 0)))) w) : Oper.wp Try.prog ⟨dst, .fieldAddr 43 x 0, ty, pos, after, gd⟩ a w K Q := by
  unfold Oper.wp execOp
  simp only [hx, Sem.run_bind, run_field0, Result.andThen_ok]
  exact h
theorem wp_field2 {x : Operand} {gd : Option (Nat × Bool)} {p : Addr} (hx : a.eval x = .pointer (some p)) (h : K (a.put dst (.pointer (some (p.add 2)))) w) : Oper.wp Try.prog ⟨dst, .fieldAddr 43 x 2, ty, pos, after, gd⟩ a w K Q := by
  unfold Oper.wp execOp
  simp only [hx, Sem.run_bind, run_field2, Result.andThen_ok]
  exact h
theorem wpList_field0 {x : Operand} {gd : Option (Nat × Bool)} (hw : Region.wanted ⟨dst, .fieldAddr 43 x 0, ty, pos, after, gd⟩ (yielded ops a.tmps) = true) {p : Addr} (hx : a.eval x = .pointer (some p)) (h : wpList Try.prog ops Q rest (a.put dst (.pointer (some (p.add 0)))) w) : wpList Try.prog ops Q (⟨dst, .fieldAddr 43 x 0, ty, pos, after, gd⟩ :: rest) a w :=
  wpList_step fun K hK => by rw [if_pos hw]; exact wp_field0 hx (hK _ _ h)
theorem wpList_kind {x : Operand} {gd : Option (Nat × Bool)} (hw : Region.wanted ⟨dst, .load 3 x, ty, pos, after, gd⟩ (yielded ops a.tmps) = true) {A : Option Addr} {l : List Deed} (hD : LiesD w0 A l) (O : OwnL w0 w bs ls) (i : Nat) {d : Deed} (hd : l[i]? = some d) (hx : a.eval x = .pointer (some (((adr A).add (i * 18)).add 0)))
    (h : wpList Try.prog ops Q rest (a.put dst (.int .i64 d.k)) w) : wpList Try.prog ops Q (⟨dst, .load 3 x, ty, pos, after, gd⟩ :: rest) a w :=
  wpList_step fun K hK => by
    rw [if_pos hw]
    have hc := deed_cell hD O.below hd (j := 0) (u := .int .i64 d.k) rfl
    have hr : (loadVar 3 (((adr A).add (i * 18)).add 0)).run Try.prog w = .ok (.int .i64 d.k) w := by
      simp [loadVar, agg3 w, run_load, hc]
    unfold Oper.wp execOp
    simp only [hx, Instr.loadAt, Instr.sureAddr, Sem.run_bind, Sem.run_pure, Result.andThen_ok, hr]
    exact hK _ _ h
theorem wp_matD {x : Operand} {gd : Option (Nat × Bool)} {A : Option Addr} {l : List Deed} (hD : LiesD w0 A l) (O : OwnL w0 w bs ls) (i : Nat) {d : Deed} (hd : l[i]? = some d) (hx : a.eval x = .pointer (some (((adr A).add (i * 18)).add 2)))
    (h : K (a.put dst (arr 16 d.x)) w) : Oper.wp Try.prog ⟨dst, .load 27 x, ty, pos, after, gd⟩ a w K Q := by
  have hl := run_loadCells_list (P := Try.prog) w (((adr A).add (i * 18)).add 2) (M.mat 16 d.x) (fun j u hu => by
    rw [add_add6]
    exact deed_cell hD O.below hd (deed_mat d hu))
  rw [M.mat_len] at hl
  have hr : (loadVar 27 (((adr A).add (i * 18)).add 2)).run Try.prog w = .ok (arr 16 d.x) w := by
    have hagg : (isAgg 27).run Try.prog w = .ok true w := by kernel_rfl
    simp [loadVar, Sem.run_bind, hagg, sizeOf27 w, hl]
  unfold Oper.wp execOp
  simp only [hx, Instr.loadAt, Instr.sureAddr, Sem.run_bind, Sem.run_pure, Result.andThen_ok, hr]
  exact h
end
end Go.Proofs.Ythcieapfpgejdaa
