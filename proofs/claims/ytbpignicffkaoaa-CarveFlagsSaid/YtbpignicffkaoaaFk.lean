/- Flags that are made, and written. -/
import Derived.Test.YtbpignicffkaoaaFj
namespace Go.Proofs.Ytbpignicffkaoaa
open Go.ChangeShapes Go.WideShapes Go.ChangeAt Go.RowKit
set_option linter.unusedVariables false
set_option linter.unusedSimpArgs false

section
variable {P : Program} {ops : Array Oper} {Q : Exit → Act → World → Prop} {a : Act} {w w0 : World} {rest : List Oper} {bs : List (Nat × TypeId × List Value)} {R : RowD} {es : List Ent} {dst : Option Tmp} {ty : TypeId} {pos : String} {after : Array Edge} {K : Act → World → Prop}
/-- A new list, of zero values of one cell, as the row. -/
theorem wp_makerow_h {t e : TypeId} {x y : Operand} {gd : Option (Nat × Bool)} (O : Held w0 w bs nilRow es) (z : Value) (bytes : Nat) (hi : (P.info? e).map (fun i => (i.zero, i.size, i.bytes)) = some (some z, 1, bytes)) (hzc : z.cells = #[z]) (hu : P.underlying t = some (.slice e))
    (n : Nat) {k1 k2 : IntKind} (hx : a.eval x = .int k1 (n : Int)) (hy : a.eval y = .int k2 (n : Int)) (hb : n ≤ 1000) (hbb : bytes ≤ 1000)
    (h : ∀ A c w1, Held w0 w1 bs ⟨.slice A n c, e, 1, n, List.replicate n z⟩ es → K (a.put dst (.slice A n c)) w1) : Oper.wp P ⟨dst, .makeSlice t x y, ty, pos, after, gd⟩ a w K Q := by
  cases hie : P.info? e with
  | none => simp [hie] at hi
  | some ie =>
    simp only [hie, Option.map_some, Option.some.injEq, Prod.mk.injEq] at hi
    obtain ⟨hz, hs, hby⟩ := hi
    obtain ⟨w', hr, ho, hg⟩ := run_makeSlice_full (P := P) w w0.heap.size t e ie z 1 hu hie hz hs k1 k2 n (by omega) (by rw [hby]; have := Nat.mul_le_mul hbb hb; omega) (by unfold maxLen; omega) O.1.1.size
    unfold Oper.wp execOp
    simp only [hx, hy, Sem.run_bind, hr, Result.andThen_ok]
    rw [Nat.mul_one, hzc, toList_madeCells_one] at ho
    have O2 := (O.fresh e 1).grow (n' := n) (xs' := List.replicate n z) ho hg (.inr rfl)
    exact h _ _ w' O2
theorem wpList_makerow_h {t e : TypeId} {x y : Operand} {gd : Option (Nat × Bool)} (hw : Region.wanted ⟨dst, .makeSlice t x y, ty, pos, after, gd⟩ (yielded ops a.tmps) = true) (O : Held w0 w bs nilRow es) (z : Value) (bytes : Nat) (hi : (P.info? e).map (fun i => (i.zero, i.size, i.bytes)) = some (some z, 1, bytes)) (hzc : z.cells = #[z]) (hu : P.underlying t = some (.slice e))
    (n : Nat) {k1 k2 : IntKind} (hx : a.eval x = .int k1 (n : Int)) (hy : a.eval y = .int k2 (n : Int)) (hb : n ≤ 1000) (hbb : bytes ≤ 1000)
    (h : ∀ A c w1, Held w0 w1 bs ⟨.slice A n c, e, 1, n, List.replicate n z⟩ es → wpList P ops Q rest (a.put dst (.slice A n c)) w1) : wpList P ops Q (⟨dst, .makeSlice t x y, ty, pos, after, gd⟩ :: rest) a w :=
  wpList_step fun K hK => by rw [if_pos hw]; exact wp_makerow_h O z bytes hi hzc hu n hx hy hb hbb fun A c w1 O' => hK _ _ (h A c w1 O')
/-- A cell of the row is written. -/
theorem wp_rowset_h {t e : TypeId} {x y : Operand} {gd : Option (Nat × Bool)} {A : Option Addr} {n c s : Nat} {xs : List Value} (O : Held w0 w bs ⟨.slice A n c, e, s, n, xs⟩ es) (j : Nat) (u : Value) (hj : j < xs.length) (hx : a.eval x = .pointer (some ((adr A).add j)))
    (hy : a.eval y = u) (hs : (P.info? t).map (·.size) = some 1) (h1 : u.oneCell' = true) (hcs : u.cells = #[u])
    (h : ∀ w1, Held w0 w1 bs ⟨.slice A n c, e, s, n, xs.set j u⟩ es → K (a.put dst undef) w1) : Oper.wp P ⟨dst, .store t x y, ty, pos, after, gd⟩ a w K Q := by
  have ho := O.2.1
  rcases ho.2 with ⟨hv, hn⟩ | ⟨g, cap, cur, hv, hb, hg, hnc, hm, hl, ht⟩
  · have := ho.1
    dsimp only at this hn
    rw [hn, Nat.zero_mul] at this
    omega
  · dsimp only at hv
    injection hv with e1 e2 e3
    subst e1 e3
    have hlen : xs.length = n * s := ho.1
    have hcl : cur.size = c * s := hl
    have hjc : j < cur.size := by
      have : n * s ≤ c * s := Nat.mul_le_mul_right s hnc
      omega
    have hadr : (adr (some (⟨g, 0, none⟩ : Addr))).add j = ⟨g, j, none⟩ := by
      simp [adr, Addr.add]
      exact fun h => h.symm
    rw [hadr] at hx
    have hc : w.cell? ⟨g, j, none⟩ = some cur[j] := by
      rw [cell_of_row w g j _ e (0, 0) hg]
      simp [hjc]
    have hf : w.frozen? ⟨g, j, none⟩ = false := frozen_of_row w g j _ e hg
    have hst : (storeVar t ⟨g, j, none⟩ u).run P w = .ok () (w.setCell ⟨g, j, none⟩ u) := by
      cases hq : P.info? t with
      | none => simp [hq] at hs
      | some i =>
        have hi : i.size = 1 := by simpa [hq] using hs
        have ha : (⟨g, j, none⟩ : Addr).add 0 = ⟨g, j, none⟩ := Addr.add_zero' _
        have hst : (store ⟨g, j, none⟩ u).run P w = .ok () (w.setCell ⟨g, j, none⟩ u) := by
          rw [Go.run_store P w _ u _ h1, hc]
          simp [hf]
        simp [storeVar, sizeOf, typeInfo, hq, hi, hcs, storeCells, ha, hst]
    unfold Oper.wp execOp
    simp only [hx, hy, Instr.storeAt, Instr.sureAddr, Sem.run_bind, Sem.run_pure, Result.andThen_ok, hst]
    exact h _ (O.store (g := g) (c := c) rfl j u)
theorem wpList_rowset_h {t e : TypeId} {x y : Operand} {gd : Option (Nat × Bool)} {A : Option Addr} {n c s : Nat} {xs : List Value} (hw : Region.wanted ⟨dst, .store t x y, ty, pos, after, gd⟩ (yielded ops a.tmps) = true) (O : Held w0 w bs ⟨.slice A n c, e, s, n, xs⟩ es) (j : Nat) (u : Value) (hj : j < xs.length) (hx : a.eval x = .pointer (some ((adr A).add j)))
    (hy : a.eval y = u) (hs : (P.info? t).map (·.size) = some 1) (h1 : u.oneCell' = true) (hcs : u.cells = #[u])
    (h : ∀ w1, Held w0 w1 bs ⟨.slice A n c, e, s, n, xs.set j u⟩ es → wpList P ops Q rest (a.put dst undef) w1) : wpList P ops Q (⟨dst, .store t x y, ty, pos, after, gd⟩ :: rest) a w :=
  wpList_step fun K hK => by rw [if_pos hw]; exact wp_rowset_h O j u hj hx hy hs h1 hcs fun w1 O' => hK _ _ (h w1 O')
theorem Held.rowLies {A : Option Addr} {e : TypeId} {s n c : Nat} {xs : List Value} (O : Held w0 w bs ⟨.slice A n c, e, s, n, xs⟩ es) : Lies w free ⟨w0.heap.size, A, n, c, s, xs⟩ := by
  obtain ⟨A2, c2, hv, hl⟩ := row_lies O.2.1
  dsimp only at hv hl
  injection hv with e1 e2 e3
  subst e1 e3
  exact hl free (fun _ _ h => h)
end
/-- Flags that are being written. -/
def fR (A : Option Addr) (c n : Nat) (F : List Bool) : RowD := ⟨.slice A n c, 4, 1, n, bC F⟩
theorem bC_rep (n : Nat) (b : Bool) : List.replicate n (Value.bool b) = bC (List.replicate n b) := by simp [bC]
theorem bC_set (F : List Bool) (j : Nat) (b : Bool) : (bC F).set j (.bool b) = bC (F.set j b) := by simp [bC, List.map_set]
theorem all_on {F : List Bool} {n : Nat} (hn : F.length = n) (h : ∀ i, i < n → F[i]? = some true) : F = List.replicate n true := by
  apply List.ext_getElem?
  intro i
  by_cases hi : i < n
  · rw [h i hi, List.getElem?_replicate, if_pos hi]
  · rw [List.getElem?_eq_none (by omega), List.getElem?_eq_none (by simp; omega)]
end Go.Proofs.Ytbpignicffkaoaa
