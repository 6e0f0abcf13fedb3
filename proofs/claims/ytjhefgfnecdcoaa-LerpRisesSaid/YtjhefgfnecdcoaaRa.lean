/- LerpRises: words. -/
import Derived.Test.YtjhefgfnecdcoaaVi
import Derived.Test.YtjhefgfnecdcoaaNb
namespace Go.Proofs.Ytjhefgfnecdcoaa
open Go.ChangeShapes Go.WideShapes Go.ChangeAt Go.RowKit
set_option linter.unusedVariables false
set_option linter.unusedSimpArgs false

theorem VM.fu_a (a b t p : Nat → Int) : ∀ k u, (M.mat 7 a)[k]? = some u → (VM.fu a b t p)[0 + k]? = some u := fun k u h => by
  have hk : k < (M.mat 7 a).length := (List.getElem?_eq_some_iff.1 h).1
  rw [Nat.zero_add, VM.fu, List.getElem?_append_left hk]
  exact h
theorem VM.fu_b (a b t p : Nat → Int) : ∀ k u, (M.mat 7 b)[k]? = some u → (VM.fu a b t p)[7 + k]? = some u := fun k u h => by
  have hk : k < (M.mat 7 b).length := (List.getElem?_eq_some_iff.1 h).1
  rw [VM.fu, List.getElem?_append_right (by rw [M.mat_len]; omega), M.mat_len, show 7 + k - 7 = k by omega, List.getElem?_append_left hk]
  exact h
theorem VM.fu_t (a b t p : Nat → Int) : ∀ k u, (M.mat 2 t)[k]? = some u → (VM.fu a b t p)[14 + k]? = some u := fun k u h => by
  have hk : k < (M.mat 2 t).length := (List.getElem?_eq_some_iff.1 h).1
  rw [VM.fu, List.getElem?_append_right (by rw [M.mat_len]; omega), M.mat_len, List.getElem?_append_right (by rw [M.mat_len]; omega), M.mat_len, show 14 + k - 7 - 7 = k by omega, List.getElem?_append_left hk]
  exact h
theorem VM.fu_p (a b t p : Nat → Int) : ∀ k u, (M.mat 2 p)[k]? = some u → (VM.fu a b t p)[16 + k]? = some u := fun k u h => by
  rw [VM.fu, List.getElem?_append_right (by rw [M.mat_len]; omega), M.mat_len, List.getElem?_append_right (by rw [M.mat_len]; omega), M.mat_len, List.getElem?_append_right (by rw [M.mat_len]; omega), M.mat_len, show 16 + k - 7 - 7 - 2 = k by omega]
  exact h
def VM.t2 (x y : Int) (i : Nat) : Int := if i = 0 then x else y
end Go.Proofs.Ytjhefgfnecdcoaa
