/- Arrays that are counted in. -/
import Derived.Test.YtadpejblhkcjgaaF
namespace Go.Proofs.Ytadpejblhkcjgaa
open Go.ChangeShapes Go.WideShapes Go.ChangeAt Go.RowKit
set_option linter.unusedVariables false
set_option linter.unusedSimpArgs false

theorem zero32 : (Try.prog.info? 32).map (·.zero) = some (some (.agg (M.mat 256 fun _ => 0).toArray)) := by kernel_rfl
section
variable {P : Program} {ops : Array Oper} {Q : Exit → Act → World → Prop} {a : Act} {w w0 : World} {rest : List Oper} {dst : Option Tmp} {ty : TypeId} {pos : String} {after : Array Edge} {K : Act → World → Prop}
/-- The address of an element of an array that begins its block. -/
theorem wp_in_h {t e : TypeId} {x y : Operand} {gd : Option (Nat × Bool)} {n : Nat} (hu : P.underlying t = some (.array n e)) (hs : ∀ w, (sizeOf e).run P w = .ok 1 w) (hn : 1 < n) {g : Nat} {kd : IntKind} {z : Int} (i : Nat)
    (hx : a.eval x = .pointer (some ⟨g, 0, none⟩)) (hy : a.eval y = .int kd z) (hz : z = (i : Int)) (hi : i < n) (h : K (a.put dst (.pointer (some ⟨g, i, none⟩))) w) : Oper.wp P ⟨dst, .indexAddr t x y, ty, pos, after, gd⟩ a w K Q := by
  subst hz
  have hr : (Instr.indexAt t (.pointer (some ⟨g, 0, none⟩)) (.int kd i)).run P w = .ok (.pointer (some ⟨g, i, none⟩)) w := by
    have h1 : (0 : Int) ≤ i ∧ (i : Int) < n := by omega
    unfold Instr.indexAt
    simp [asIntOf, Sem.run_bind, run_underlying hu, Instr.sureAddr, hs w, add_zero_off, show ¬ n ≤ i by omega, show ¬ n ≤ 1 by omega]
  unfold Oper.wp execOp
  simp only [hx, hy, Sem.run_bind, hr, Result.andThen_ok]
  exact h
theorem wpList_in_h {t e : TypeId} {x y : Operand} {gd : Option (Nat × Bool)} {n : Nat} (hw : Region.wanted ⟨dst, .indexAddr t x y, ty, pos, after, gd⟩ (yielded ops a.tmps) = true) (hu : P.underlying t = some (.array n e)) (hs : ∀ w, (sizeOf e).run P w = .ok 1 w) (hn : 1 < n) {g : Nat} {kd : IntKind} {z : Int} (i : Nat)
    (hx : a.eval x = .pointer (some ⟨g, 0, none⟩)) (hy : a.eval y = .int kd z) (hz : z = (i : Int)) (hi : i < n) (h : wpList P ops Q rest (a.put dst (.pointer (some ⟨g, i, none⟩))) w) : wpList P ops Q (⟨dst, .indexAddr t x y, ty, pos, after, gd⟩ :: rest) a w :=
  wpList_step fun K hK => by rw [if_pos hw]; exact wp_in_h hu hs hn i hx hy hz hi (hK _ _ h)
end
/-- One more is provoked so. -/
theorem cP_set (f : Nat → Nat) {k p : Nat} (hp : p < 256) (hf : f k = p) : (M.mat 256 fun j => (cP f k j : Int)).set p (.int .i64 ((cP f k p : Int) + 1)) = M.mat 256 fun j => (cP f (k + 1) j : Int) :=
  M.mat_set_to hp (by rw [cP_step, if_pos hf]; omega) (fun j _ hj => by rw [cP_step, if_neg (fun e => hj (by rw [← e, hf]))]; omega)
/-- Is x among them? -/
def isin (x : Nat) (l : List Nat) : Bool := l.any (· == x)
theorem isin_snoc (x : Nat) (l : List Nat) {j v : Nat} (h : l[j]? = some v) : isin x (l.take (j + 1)) = (isin x (l.take j) || v == x) := by
  unfold isin
  rw [List.take_add_one, h, List.any_append]
  simp
theorem isin_of {x : Nat} {l : List Nat} (h : x ∈ l) : isin x l = true := by
  unfold isin
  rw [List.any_eq_true]
  exact ⟨x, h, by simp⟩
end Go.Proofs.Ytadpejblhkcjgaa
