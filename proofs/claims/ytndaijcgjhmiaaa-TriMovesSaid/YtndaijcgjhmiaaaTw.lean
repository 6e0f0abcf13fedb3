/- Types: fragments, a line with its width; fragments in memory. -/
import Derived.Test.YtndaijcgjhmiaaaTz
import Derived.Test.YtndaijcgjhmiaaaHz
import Derived.Test.YtndaijcgjhmiaaaVe
import Derived.Test.YtndaijcgjhmiaaaXr
namespace Go.Proofs.Ytndaijcgjhmiaaa
open Go.ChangeShapes Go.WideShapes Go.ChangeAt Go.RowKit
set_option linter.unusedVariables false
set_option linter.unusedSimpArgs false

theorem sizeW17 : (Try.prog.info? 34).map (·.size) = some 7 := by kernel_rfl
theorem zeroW17 : (Try.prog.info? 34).map (·.zero) = some (some (.agg (M.mat 7 M.zero).toArray)) := by kernel_rfl
theorem builtRz : Try.prog.built 27 [] = some (M.mat 4 M.zero).toArray := by kernel_rfl
theorem builtR17 (a b c d : Int) : Try.prog.built 27 [(0, .int .i64 a), (1, .int .i64 b), (2, .int .i64 c), (3, .int .i64 d)] = some (M.mat 4 (RC.mk a b c d)).toArray := by kernel_rfl
namespace WD
/-- A line with its width. -/
def ln (a b : Nat → Int) (n : Int) (p : Nat → Int) (i : Nat) : Int := if i < 7 then a i else if i < 14 then b (i - 7) else if i = 14 then n else p (i - 15)
/-- A fragment. -/
def fr (x y z : Int) (c : Nat → Int) (i : Nat) : Int := if i = 0 then x else if i = 1 then y else if i = 2 then z else if i < 7 then c (i - 3) else 64
end WD
theorem ln_a (a b : Nat → Int) (n : Int) (p : Nat → Int) : ∀ j v, (M.mat 7 a)[j]? = some v → (M.mat 17 (WD.ln a b n p))[0 + j]? = some v := by
  intro j v hv
  have hj : j < 7 := by
    have := (List.getElem?_eq_some_iff.1 hv).1
    rwa [M.mat_len] at this
  rw [M.mat_get hj] at hv
  rw [Nat.zero_add, M.mat_get (by omega), WD.ln, if_pos hj]
  exact hv
theorem ln_b (a b : Nat → Int) (n : Int) (p : Nat → Int) : ∀ j v, (M.mat 7 b)[j]? = some v → (M.mat 17 (WD.ln a b n p))[7 + j]? = some v := by
  intro j v hv
  have hj : j < 7 := by
    have := (List.getElem?_eq_some_iff.1 hv).1
    rwa [M.mat_len] at this
  rw [M.mat_get hj] at hv
  rw [M.mat_get (by omega), WD.ln, if_neg (by omega), if_pos (by omega), Nat.add_sub_cancel_left]
  exact hv
theorem ln_n (a b : Nat → Int) (n : Int) (p : Nat → Int) : (M.mat 17 (WD.ln a b n p))[14]? = some (.int .i64 n) := by
  rw [M.mat_get (by omega)]
  rfl
theorem ln_p (a b : Nat → Int) (n x y : Int) : (M.mat 17 (WD.ln a b n (DM.t2 x y)))[15]? = some (.int .i64 x) ∧ (M.mat 17 (WD.ln a b n (DM.t2 x y)))[16]? = some (.int .i64 y) := by
  rw [M.mat_get (by omega), M.mat_get (by omega)]
  exact ⟨rfl, rfl⟩
section
variable {ops : Array Oper} {Q : Exit → Act → World → Prop} {a : Act} {w : World} {rest : List Oper} {dst : Option Tmp} {ty : TypeId} {pos : String} {after : Array Edge} {K : Act → World → Prop}
/-- An append onto the row that has no small bound. -/
theorem wp_app_huge {P : Program} {w0 : World} {bs : List (Nat × TypeId × List Value)} {R : RowD} {es : List Ent} {t : TypeId} {x y : Operand} {gd : Option (Nat × Bool)} (O : Held w0 w bs R es) (z : Value) (bytes : Nat) (hi : (P.info? R.e).map (fun i => (i.zero, i.size, i.bytes)) = some (some z, R.s, bytes)) (hzs : z.cells.size = R.s) (hsz : 0 < R.s) (hu : P.underlying t = some (.slice R.e))
    (hx : a.eval x = R.v) {no : Nat → Prop} (en : Ent) (L : Lies w no en) (hes : en.s = R.s) {c : Nat} (hy : a.eval y = .slice en.A en.n c) (h1 : ∀ v ∈ en.xs, v.oneCell' = true) (hb : (R.n + en.n) ≤ 1000000000) (hbb : bytes ≤ 1000)
    (h : ∀ v w1, Held w0 w1 bs ⟨v, R.e, R.s, R.n + en.n, R.xs ++ en.xs⟩ es → K (a.put dst v) w1) : Oper.wp P ⟨dst, .call { callee := .builtin .append, args := #[x, y], argTypes := #[t, t] }, ty, pos, after, gd⟩ a w K Q := by
  cases hie : P.info? R.e with
  | none => simp [hie] at hi
  | some ie =>
    simp only [hie, Option.map_some, Option.some.injEq, Prod.mk.injEq] at hi
    obtain ⟨hz, hs, hby⟩ := hi
    have hR := L.reads
    rw [hes] at hR
    exact append_steps (P := P) rfl hu hie hz hs hby hzs hsz hx O.2.1 hy hR h1 (by unfold maxLen; omega) (by have := Nat.mul_le_mul hb hbb; omega) O.1.1.size fun v' w' a1 a2 a3 => h v' w' (O.grow a1 a2 a3)
theorem wpList_app_huge {P : Program} {w0 : World} {bs : List (Nat × TypeId × List Value)} {R : RowD} {es : List Ent} {t : TypeId} {x y : Operand} {gd : Option (Nat × Bool)} (hw : Region.wanted ⟨dst, .call { callee := .builtin .append, args := #[x, y], argTypes := #[t, t] }, ty, pos, after, gd⟩ (yielded ops a.tmps) = true) (O : Held w0 w bs R es) (z : Value) (bytes : Nat) (hi : (P.info? R.e).map (fun i => (i.zero, i.size, i.bytes)) = some (some z, R.s, bytes)) (hzs : z.cells.size = R.s) (hsz : 0 < R.s) (hu : P.underlying t = some (.slice R.e))
    (hx : a.eval x = R.v) {no : Nat → Prop} (en : Ent) (L : Lies w no en) (hes : en.s = R.s) {c : Nat} (hy : a.eval y = .slice en.A en.n c) (h1 : ∀ v ∈ en.xs, v.oneCell' = true) (hb : (R.n + en.n) ≤ 1000000000) (hbb : bytes ≤ 1000)
    (h : ∀ v w1, Held w0 w1 bs ⟨v, R.e, R.s, R.n + en.n, R.xs ++ en.xs⟩ es → wpList P ops Q rest (a.put dst v) w1) : wpList P ops Q (⟨dst, .call { callee := .builtin .append, args := #[x, y], argTypes := #[t, t] }, ty, pos, after, gd⟩ :: rest) a w :=
  wpList_step fun K hK => by rw [if_pos hw]; exact wp_app_huge O z bytes hi hzs hsz hu hx en L hes hy h1 hb hbb fun v w1 O' => hK _ _ (h v w1 O')
end
/-- Fragments in memory. -/
def gC (l : List (Nat → Int)) : List Value := l.flatMap (fun f => M.mat 8 f)
theorem gC_len (l : List (Nat → Int)) : (gC l).length = l.length * 8 := flat_len _ 8 (fun f => M.mat_len 8 f) l
theorem gC_at {l : List (Nat → Int)} {i : Nat} {x : Nat → Int} (h : l[i]? = some x) : ∀ j v, (M.mat 8 x)[j]? = some v → (gC l)[i * 8 + j]? = some v := flat_at (fun f => M.mat 8 f) 8 (fun f => M.mat_len 8 f) h
theorem gC_app (a b : List (Nat → Int)) : gC (a ++ b) = gC a ++ gC b := by simp [gC]
theorem gC_one (l : List (Nat → Int)) : ∀ v ∈ gC l, v.oneCell' = true := by
  intro v hv
  obtain ⟨a, _, ha⟩ := List.mem_flatMap.1 hv
  exact M.mat_one 8 _ v ha
def gE (lo : Nat) (A : Option Addr) (c : Nat) (l : List (Nat → Int)) : Ent := ⟨lo, A, l.length, c, 8, gC l⟩
/-- A row of fragments that grows. -/
def gR (A : Option Addr) (c : Nat) (l : List (Nat → Int)) : RowD := ⟨.slice A l.length c, 40, 8, l.length, gC l⟩
section
variable {w0 w : World} {bs : List (Nat × TypeId × List Value)} {es : List Ent} {A : Option Addr} {n c : Nat}
end
end Go.Proofs.Ytndaijcgjhmiaaa
