/- Parts in memory; two new blocks of vertices. -/
import Derived.Test.YtimfdimpifpclaaE1
import Derived.Test.YtimfdimpifpclaaDu
import Derived.Test.YtimfdimpifpclaaL7
namespace Go.Proofs.Ytimfdimpifpclaa
open Go.ChangeShapes Go.WideShapes Go.ChangeAt Go.RowKit
set_option linter.unusedVariables false
set_option linter.unusedSimpArgs false

theorem info45 : (Try.prog.info? 45).map (fun i => (i.zero, i.size)) = some (some (.agg #[.int .i64 0, .int .i64 0]), 2) := by kernel_rfl
theorem info45b : (Try.prog.info? 45).map (fun i => (i.zero, i.size, i.bytes)) = some (some (.agg #[.int .i64 0, .int .i64 0]), 2, 16) := by kernel_rfl
theorem sizeOf45 (w : World) : (sizeOf 45).run Try.prog w = .ok 2 w := by kernel_rfl
theorem f45_0 (ad : Addr) (w : World) : (Instr.fieldAt 45 (.pointer (some ad)) 0).run Try.prog w = .ok (.pointer (some (ad.add 0))) w := by kernel_rfl
theorem f45_1 (ad : Addr) (w : World) : (Instr.fieldAt 45 (.pointer (some ad)) 1).run Try.prog w = .ok (.pointer (some (ad.add 1))) w := by kernel_rfl
/-- Parts in memory. -/
def cc (l : List D.Cut) : List Value := l.flatMap D.pr
theorem cc_len (l : List D.Cut) : (cc l).length = l.length * 2 := flat_len D.pr 2 (fun _ => rfl) l
theorem cc_at {l : List D.Cut} {i : Nat} {x : D.Cut} (h : l[i]? = some x) : ∀ j v, (D.pr x)[j]? = some v → (cc l)[i * 2 + j]? = some v := flat_at D.pr 2 (fun _ => rfl) h
theorem cc_end (l : List D.Cut) (x : D.Cut) : cc l ++ D.pr x = cc (l ++ [x]) := by simp [cc]
def cE (lo : Nat) (A : Option Addr) (c : Nat) (l : List D.Cut) : Ent := ⟨lo, A, l.length, c, 2, cc l⟩
/-- A row of parts. -/
def cR (A : Option Addr) (c : Nat) (l : List D.Cut) : RowD := ⟨.slice A l.length c, 45, 2, l.length, cc l⟩
/-- A new block of a vertex: laid, and written. -/
def wr8 (a b : Option Value) (q : List Value) : List (Nat × TypeId × List Value) :=
  match a with
  | some (.pointer (some ad)) => [(ad.block, 27, if b.isSome then q else M.mat 8 M.zero)]
  | _ => []
/-- Two new blocks, of which one is written. -/
def Nd (w0 : World) (bs : List (Nat × TypeId × List Value)) (x : List Value) (es : List Ent) (a b d : Option Value) (w : World) : Prop :=
  (a = none → d = none) ∧ isP a ∧ isP b ∧ Held w0 w (wr8 a d x ++ (wr8 b none [] ++ bs)) nilRow es
section
variable {w0 w : World} {bs : List (Nat × TypeId × List Value)} {x : List Value} {es : List Ent} {a b d : Option Value}
theorem Nd.start (O : Held w0 w bs nilRow es) : Nd w0 bs x es none none none w := ⟨fun _ => rfl, isP_none, isP_none, O⟩
theorem Nd.own (h : Nd w0 bs x es a b d w) : Held w0 w bs nilRow es := Held.drop (Held.drop h.2.2.2)
variable {dst : Option Tmp} {ty : TypeId} {pos : String} {after : Array Edge} {K : Act → World → Prop} {p q : Operand} {ac : Act} {Q : Exit → Act → World → Prop} {gd : Option (Nat × Bool)}
theorem Nd.alloc_a (h : Nd w0 bs x es none b d w) (hK : ∀ v w1, Nd w0 bs x es (some v) b d w1 → K (ac.put dst v) w1) : Oper.wp Try.prog ⟨dst, .alloc 27, ty, pos, after, none⟩ ac w K Q := by
  obtain ⟨h1, h2, h3, O⟩ := h
  obtain rfl := h1 rfl
  exact wp_alloc_h O (M.mat 8 M.zero) zero27 fun g w1 O1 => hK _ _ ⟨by simp, isP_some g, h3, O1⟩
theorem Nd.alloc_b (h : Nd w0 bs x es a none d w) (hK : ∀ v w1, Nd w0 bs x es a (some v) d w1 → K (ac.put dst v) w1) : Oper.wp Try.prog ⟨dst, .alloc 27, ty, pos, after, none⟩ ac w K Q := by
  obtain ⟨h1, h2, h3, O⟩ := h
  exact wp_alloc_h O (M.mat 8 M.zero) zero27 fun g w1 O1 => hK _ _ ⟨h1, h2, isP_some g, O1.perm List.perm_middle.symm⟩
theorem Nd.put_a (h : Nd w0 bs x es a b none w) (ha : a.isSome = true) (f : Nat → Int) (hx0 : x = M.mat 8 f) (hx : ac.eval p = a.getD undef) (hy : ac.eval q = arr 8 f) (hK : ∀ v w1, Nd w0 bs x es a b (some v) w1 → K (ac.put dst v) w1) : Oper.wp Try.prog ⟨dst, .store 27 p q, ty, pos, after, gd⟩ ac w K Q := by
  obtain ⟨h1, h2, h3, O⟩ := h
  obtain ⟨v, rfl⟩ := Option.isSome_iff_exists.1 ha
  obtain ⟨g, rfl⟩ := h2 v rfl
  subst hx0
  exact wp_put_h O 0 (M.mat 8 f) rfl hx hy (s27 _) (M.mat_len2 _ _ _) (M.mat_one _ _) fun w1 O1 => hK _ _ ⟨by simp, h2, h3, O1⟩
theorem Nd.done (h : Nd w0 bs x es a b d w) (ha : a.isSome = true) (hb : b.isSome = true) (hd : d.isSome = true) :
    ∃ g1 g2, a = some (.pointer (some ⟨g1, 0, none⟩)) ∧ b = some (.pointer (some ⟨g2, 0, none⟩)) ∧ Held w0 w ((g1, 27, x) :: (g2, 27, M.mat 8 M.zero) :: bs) nilRow es := by
  obtain ⟨h1, h2, h3, O⟩ := h
  obtain ⟨v, rfl⟩ := Option.isSome_iff_exists.1 ha
  obtain ⟨v', rfl⟩ := Option.isSome_iff_exists.1 hb
  obtain ⟨v2, rfl⟩ := Option.isSome_iff_exists.1 hd
  obtain ⟨g1, rfl⟩ := h2 v rfl
  obtain ⟨g2, rfl⟩ := h3 v' rfl
  exact ⟨g1, g2, rfl, rfl, O⟩
end
end Go.Proofs.Ytimfdimpifpclaa
