/- Rows of runs: what is read and written in them. -/
import Derived.Test.YtpomdghalkphcaaHl
namespace Go.Proofs.Ytpomdghalkphcaa
open Go.ChangeShapes Go.WideShapes Go.ChangeAt Go.RowKit
set_option linter.unusedVariables false
set_option linter.unusedSimpArgs false

section
variable {P : Program} {ops : Array Oper} {Q : Exit → Act → World → Prop} {a : Act} {w w0 : World} {rest : List Oper} {bs : List (Nat × TypeId × List Value)} {R : RowD} {es : List Ent} {dst : Option Tmp} {ty : TypeId} {pos : String} {after : Array Edge} {K : Act → World → Prop}
/-- An element of an array that stands anywhere. -/
theorem wp_ina {t e : TypeId} {x y : Operand} {gd : Option (Nat × Bool)} {n : Nat} (hu : P.underlying t = some (.array n e)) (hs : ∀ w, (sizeOf e).run P w = .ok 1 w) (hn : 1 < n) {ad : Addr} {kd : IntKind} {z : Int} (i : Nat)
    (hx : a.eval x = .pointer (some ad)) (hy : a.eval y = .int kd z) (hz : z = (i : Int)) (hi : i < n) (h : K (a.put dst (.pointer (some (ad.add i)))) w) : Oper.wp P ⟨dst, .indexAddr t x y, ty, pos, after, gd⟩ a w K Q := by
  subst hz
  have hr : (Instr.indexAt t (.pointer (some ad)) (.int kd i)).run P w = .ok (.pointer (some (ad.add i))) w := by
    have h1 : (0 : Int) ≤ i ∧ (i : Int) < n := by omega
    unfold Instr.indexAt
    simp [asIntOf, Sem.run_bind, run_underlying hu, Instr.sureAddr, hs w, show ¬ n ≤ i by omega, show ¬ n ≤ 1 by omega]
  unfold Oper.wp execOp
  simp only [hx, hy, Sem.run_bind, hr, Result.andThen_ok]
  exact h
theorem wpList_ina {t e : TypeId} {x y : Operand} {gd : Option (Nat × Bool)} {n : Nat} (hw : Region.wanted ⟨dst, .indexAddr t x y, ty, pos, after, gd⟩ (yielded ops a.tmps) = true) (hu : P.underlying t = some (.array n e)) (hs : ∀ w, (sizeOf e).run P w = .ok 1 w) (hn : 1 < n) {ad : Addr} {kd : IntKind} {z : Int} (i : Nat)
    (hx : a.eval x = .pointer (some ad)) (hy : a.eval y = .int kd z) (hz : z = (i : Int)) (hi : i < n) (h : wpList P ops Q rest (a.put dst (.pointer (some (ad.add i)))) w) : wpList P ops Q (⟨dst, .indexAddr t x y, ty, pos, after, gd⟩ :: rest) a w :=
  wpList_step fun K hK => by rw [if_pos hw]; exact wp_ina hu hs hn i hx hy hz hi (hK _ _ h)
theorem adr_two (A : Option Addr) (i j : Nat) : ((adr A).add i).add j = (adr A).add (i + j) := by
  by_cases hi : i = 0
  · subst hi
    rw [Addr.add_zero', Nat.zero_add]
  · by_cases hj : j = 0
    · subst hj
      rw [Addr.add_zero', Nat.add_zero]
    · unfold Addr.add
      simp [hi, hj, Nat.add_assoc]
/-- A cell of the row is written. -/
theorem wp_rowset_h {t e : TypeId} {x y : Operand} {gd : Option (Nat × Bool)} {A : Option Addr} {n c s : Nat} {xs : List Value} (O : Held w0 w bs ⟨.slice A n c, e, s, n, xs⟩ es) (j : Nat) (u : Value) (hj : j < xs.length) (hx : a.eval x = .pointer (some ((adr A).add j)))
    (hy : a.eval y = u) (hs : (P.info? t).map (·.size) = some 1) (h1 : u.oneCell' = true) (hcs : u.cells = #[u])
    (h : ∀ w1, Held w0 w1 bs ⟨.slice A n c, e, s, n, xs.set j u⟩ es → K (a.put dst undef) w1) : Oper.wp P ⟨dst, .store t x y, ty, pos, after, gd⟩ a w K Q := by
  have ho := O.2.1
  rcases ho.2 with ⟨hv, hn⟩ | ⟨g, cap, cur, hv, hb, hg, hnc, hm, hl, ht⟩
  · have := ho.1
    dsimp only at this hn
    rw [hn, Nat.zero_mul] at this
    omega
  · dsimp only at hv
    injection hv with e1 e2 e3
    subst e1 e3
    have hlen : xs.length = n * s := ho.1
    have hcl : cur.size = c * s := hl
    have hjc : j < cur.size := by
      have : n * s ≤ c * s := Nat.mul_le_mul_right s hnc
      omega
    have hadr : (adr (some (⟨g, 0, none⟩ : Addr))).add j = ⟨g, j, none⟩ := by
      simp [adr, Addr.add]
      exact fun h => h.symm
    rw [hadr] at hx
    have hc : w.cell? ⟨g, j, none⟩ = some cur[j] := by
      rw [cell_of_row w g j _ e (0, 0) hg]
      simp [hjc]
    have hf : w.frozen? ⟨g, j, none⟩ = false := frozen_of_row w g j _ e hg
    have hst : (storeVar t ⟨g, j, none⟩ u).run P w = .ok () (w.setCell ⟨g, j, none⟩ u) := by
      cases hq : P.info? t with
      | none => simp [hq] at hs
      | some i =>
        have hi : i.size = 1 := by simpa [hq] using hs
        have ha : (⟨g, j, none⟩ : Addr).add 0 = ⟨g, j, none⟩ := Addr.add_zero' _
        have hst : (store ⟨g, j, none⟩ u).run P w = .ok () (w.setCell ⟨g, j, none⟩ u) := by
          rw [Go.run_store P w _ u _ h1, hc]
          simp [hf]
        simp [storeVar, sizeOf, typeInfo, hq, hi, hcs, storeCells, ha, hst]
    unfold Oper.wp execOp
    simp only [hx, hy, Instr.storeAt, Instr.sureAddr, Sem.run_bind, Sem.run_pure, Result.andThen_ok, hst]
    exact h _ (O.store (g := g) (c := c) rfl j u)
theorem wpList_rowset_h {t e : TypeId} {x y : Operand} {gd : Option (Nat × Bool)} {A : Option Addr} {n c s : Nat} {xs : List Value} (hw : Region.wanted ⟨dst, .store t x y, ty, pos, after, gd⟩ (yielded ops a.tmps) = true) (O : Held w0 w bs ⟨.slice A n c, e, s, n, xs⟩ es) (j : Nat) (u : Value) (hj : j < xs.length) (hx : a.eval x = .pointer (some ((adr A).add j)))
    (hy : a.eval y = u) (hs : (P.info? t).map (·.size) = some 1) (h1 : u.oneCell' = true) (hcs : u.cells = #[u])
    (h : ∀ w1, Held w0 w1 bs ⟨.slice A n c, e, s, n, xs.set j u⟩ es → wpList P ops Q rest (a.put dst undef) w1) : wpList P ops Q (⟨dst, .store t x y, ty, pos, after, gd⟩ :: rest) a w :=
  wpList_step fun K hK => by rw [if_pos hw]; exact wp_rowset_h O j u hj hx hy hs h1 hcs fun w1 O' => hK _ _ (h w1 O')
theorem Held.rowLies {A : Option Addr} {e : TypeId} {s n c : Nat} {xs : List Value} (O : Held w0 w bs ⟨.slice A n c, e, s, n, xs⟩ es) : Lies w free ⟨w0.heap.size, A, n, c, s, xs⟩ := by
  obtain ⟨A2, c2, hv, hl⟩ := row_lies O.2.1
  dsimp only at hv hl
  injection hv with e1 e2 e3
  subst e1 e3
  exact hl free (fun _ _ h => h)
end
/-- The last run goes on. -/
theorem tC_on (l : List (Nat × Nat)) (z : Nat × Nat) (k : Nat) : (tC (l ++ [z])).set (l.length * 2 + 1) (.int .i64 (k : Int)) = tC (l ++ [(z.1, k)]) := by
  rw [tC_app, tC_app, List.set_append_right _ _ (by rw [tC_len]; omega)]
  rw [tC_len, show l.length * 2 + 1 - l.length * 2 = 1 by omega]
  rfl
theorem tC_end (l : List (Nat × Nat)) (z : Nat × Nat) : (tC (l ++ [z]))[l.length * 2 + 1]? = some (.int .i64 (z.2 : Int)) :=
  tC_at (l := l ++ [z]) (i := l.length) (x := z) (by simp) 1 _ rfl
end Go.Proofs.Ytpomdghalkphcaa
