/- Lists of commands behind one another. -/
import Derived.Test.YtaegekmfndcflaaCut
namespace Go.Proofs.Ytaegekmfndcflaa
open Go.ChangeShapes Go.WideShapes Go.ChangeAt Go.RowKit
set_option linter.unusedVariables false

theorem RecCells.one {w : World} {B : Nat} {g : Option Nat} {cs : List Value} {out : List P.Rec} (h : RecCells w B g cs out) : ∀ u ∈ cs, u.oneCell' = true := by
  intro u hu
  obtain ⟨j, hj, rfl⟩ := List.getElem_of_mem hu
  have hl := h.len
  have hi : j / 2 < out.length := by omega
  obtain ⟨h1, x, h2, A, c, rfl, _⟩ := h.at_ _ hi
  rcases Nat.mod_two_eq_zero_or_one j with q | q
  · have e : j / 2 * 2 = j := by omega
    rw [e, List.getElem?_eq_getElem hj] at h1
    rw [Option.some.inj h1]; rfl
  · have e : j / 2 * 2 + 1 = j := by omega
    rw [e, List.getElem?_eq_getElem hj] at h2
    rw [Option.some.inj h2]; rfl
theorem RecCells.append {w : World} {B : Nat} {g : Option Nat} {cs cs2 : List Value} {out out2 : List P.Rec} (h : RecCells w B g cs out) (h2 : RecCells w B g cs2 out2) : RecCells w B g (cs ++ cs2) (out ++ out2) where
  len := by rw [List.length_append, List.length_append, h.len, h2.len]; omega
  at_ := fun i hi => by
    have hl := h.len
    have hl2 := h2.len
    by_cases q : i < out.length
    · rw [List.getElem?_append_left (by omega), List.getElem?_append_left (by omega), List.getElem_append_left q]
      exact h.at_ i q
    · have hi2 : i - out.length < out2.length := by rw [List.length_append] at hi; omega
      rw [List.getElem?_append_right (by omega), List.getElem?_append_right (by omega), List.getElem_append_right (by omega), show i * 2 - cs.length = (i - out.length) * 2 by omega, show i * 2 + 1 - cs.length = (i - out.length) * 2 + 1 by omega]
      exact h2.at_ _ hi2
section
variable {P : Program} (w : World) {size bytes n m c B : Nat} {t e : TypeId} {i : TypeInfo} {z v : Value} {xs news : List Value} {A : Option Addr}
/-- An append that is guarded, and wanted. -/
theorem wpList_append_want {ops : Array Oper} {rest : List Oper} {o : Oper} {a : Act} {Q : Exit → Act → World → Prop} (hw : Region.wanted o (yielded ops a.tmps) = true) (s x : Operand) (t : TypeId)
    (ho : o.op = .call { callee := .builtin .append, args := #[s, x], argTypes := #[t, t] }) (base : Nat) (e : TypeId) (i : TypeInfo) (z : Value) (size bytes : Nat)
    (ht : P.underlying t = some (.slice e)) (hi : P.info? e = some i) (hz : i.zero = some z) (hsize : i.size = size) (hby : i.bytes = bytes) (hzs : z.cells.size = size) (hsz : 0 < size)
    (v : Value) (n : Nat) (xs : List Value) (hs : a.eval s = v) (own : w.ownsRow base e size v n xs) (B : Nat) (A : Option Addr) (m c : Nat) (news : List Value) (hx : a.eval x = .slice A m c) (src : Reads w B size A m news)
    (one : ∀ u ∈ news, u.oneCell' = true) (h63 : n + m ≤ maxLen) (hbytes : (n + m) * bytes ≤ 140737488355328) (hbase : base ≤ w.heap.size)
    (k : ∀ v' w', w'.ownsRow base e size v' (n + m) (xs ++ news) → w.grownBy w' v.ownBlock → (v'.ownBlock = v.ownBlock ∨ v'.ownBlock = some w.heap.size) → wpList P ops Q rest (a.put o.dst v') w') : wpList P ops Q (o :: rest) a w := by
  refine wpList_step fun K hK => ?_
  rw [if_pos hw]
  exact append_steps ho ht hi hz hsize hby hzs hsz hs own hx src one h63 hbytes hbase (fun v' w' a1 a2 a3 => hK _ _ (k v' w' a1 a2 a3))
end
end Go.Proofs.Ytaegekmfndcflaa
