/- An operation of a drawn region that isn't wanted. -/
import Derived.Test.YtaegekmfndcflaaLast
namespace Go.Proofs.Ytaegekmfndcflaa
set_option linter.unusedVariables false
section
variable {P : Program} {ops : Array Oper} {Q : Exit → Act → World → Prop} {md : Region.Mode} {S : World → Prop} {L : Nat}
theorem takeU {i : Nat} {oi : Oper} {n : Nat} {listed : Array Bool} {a : Act} {w : World} (hi : ops[i]? = some oi) (hs : Region.noSelect ops = true) (hL : waits md ops L i = true) (hf : Region.free md ops listed i = true)
    (hr : (Region.ready md ops listed).contains i = true) (hQ : ∀ c a w, Q (.panic c) (a.put oi.dst undef) w → Q (.panic c) a w) (hw : Region.wanted oi (yielded ops a.tmps) = false) (hS : S w)
    (h : anyL P md ops Q S L n (listed.setIfInBounds i true) (a.put oi.dst undef) w) : anyL P md ops Q S L (n + 1) listed a w :=
  takeL_all hi hs hQ hL n listed a w (fun j oj hj hne hun hno => Region.free_spec hi hf j oj hj hne hun hno) (by simpa using hr) (.inr ⟨hw, rfl⟩) hS h
end
end Go.Proofs.Ytaegekmfndcflaa
