/- Loads of one cell out of a block of the call's own. -/
import Derived.Test.YtidaffgfhmbomaaBase
namespace Go.Proofs.Ytidaffgfhmbomaa
open Go.RowKit
set_option linter.unusedVariables false

section
variable {P : Program} {ops : Array Oper} {Q : Exit → Act → World → Prop} {a : Act} {w w0 : World} {rest : List Oper} {bs : List (Nat × TypeId × List Value)} {dst : Option Tmp} {ty : TypeId} {pos : String} {after : Array Edge}
theorem wpList_cell_own {t : TypeId} {x : Operand} {gd : Option (Nat × Bool)} (hw : Region.wanted ⟨dst, .load t x, ty, pos, after, gd⟩ (yielded ops a.tmps) = true) (O : Own w0 w bs) (k : Nat) {g i : Nat} {t' : TypeId} {cs : List Value} {v : Value} (hk : bs[k]? = some (g, t', cs)) (hv : cs[i]? = some v)
    (hx : a.eval x = .pointer (some ⟨g, i, none⟩)) (hs : ∀ w, (isAgg t).run P w = .ok false w) (h1 : v.oneCell' = true) (h : wpList P ops Q rest (a.put dst v) w) : wpList P ops Q (⟨dst, .load t x, ty, pos, after, gd⟩ :: rest) a w :=
  wpList_step fun K hK => by rw [if_pos hw]; exact wp_cell_own O k hk hv hx hs h1 (hK _ _ h)
theorem at_buildg (d : Nat) {t : TypeId} {x : Array (Nat × Operand)} {gd : Option (Nat × Bool)} (h : wpList P ops Q (⟨some d, .build t x, ty, pos, after, gd⟩ :: rest) a w) : wpList P ops Q (⟨some d, .build t x, ty, pos, after, gd⟩ :: rest) a w := h
theorem wpList_buildg_own {t : TypeId} {x : Array (Nat × Operand)} {gd : Option (Nat × Bool)} (hw : Region.wanted ⟨dst, .build t x, ty, pos, after, gd⟩ (yielded ops a.tmps) = true) (l : List (Nat × Value)) (cs : Array Value) (hx : (x.map fun (i, y) => (i, a.eval y)).toList = l) (hb : P.built t l = some cs) (h : wpList P ops Q rest (a.put dst (.agg cs)) w) :
    wpList P ops Q (⟨dst, .build t x, ty, pos, after, gd⟩ :: rest) a w :=
  wpList_step fun K hK => by rw [if_pos hw]; exact wp_build_own l cs hx hb (hK _ _ h)
end
theorem agg42 (w : World) : (isAgg 42).run Try.prog w = .ok false w := by kernel_rfl
theorem agg44 (w : World) : (isAgg 44).run Try.prog w = .ok false w := by kernel_rfl
end Go.Proofs.Ytidaffgfhmbomaa
