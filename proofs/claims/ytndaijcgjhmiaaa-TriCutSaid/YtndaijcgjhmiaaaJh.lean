/- Two lists of spans; corners in six orders. -/
import Derived.Test.YtndaijcgjhmiaaaJe
import Derived.Test.YtndaijcgjhmiaaaNb
namespace Go.Proofs.Ytndaijcgjhmiaaa
open Go.ChangeShapes Go.WideShapes Go.ChangeAt Go.RowKit
set_option linter.unusedVariables false
set_option linter.unusedSimpArgs false

theorem Held.two {w0 w : World} {bs : List (Nat × TypeId × List Value)} {R : RowD} {es es' : List Ent} (h : Held w0 w bs R es) (h' : Held w0 w bs R es') : Held w0 w bs R (es ++ es') := ⟨h.1, h.2.1, h.2.2.1, fun x hx => by
  rcases List.mem_append.1 hx with e | e
  · exact h.2.2.2 x e
  · exact h'.2.2.2 x e⟩
/-- Blocks of the call's own, and two lists that calls in a region hand back at any time (operations i and j). -/
def HS2 (w0 : World) (bs : List (Nat × TypeId × List Value)) (i j : Nat) (l m : List (Nat → Int)) (st : Nat → Option Value) (w : World) : Prop :=
  Own w0 w bs ∧ (∀ v, st i = some v → ∃ A c, v = .slice A l.length c ∧ Held w0 w bs nilRow [sE_ w0.heap.size A c l]) ∧ (∀ v, st j = some v → ∃ A c, v = .slice A m.length c ∧ Held w0 w bs nilRow [sE_ w0.heap.size A c m])
section
variable {w0 w w' : World} {bs : List (Nat × TypeId × List Value)} {i j : Nat} {l m : List (Nat → Int)} {st : Nat → Option Value}
theorem HS2.start (O : Own w0 w bs) : HS2 w0 bs i j l m (fun _ => none) w := ⟨O, fun v hv => (by cases hv), fun v hv => (by cases hv)⟩
theorem HS2.call (h : HS2 w0 bs i j l m st w) (hb : Below w.heap.size w w') : HS2 w0 bs i j l m st w' := ⟨h.1.call hb, fun v hv => by
  obtain ⟨A, c, e, hH⟩ := h.2.1 v hv
  exact ⟨A, c, e, hH.call hb⟩, fun v hv => by
  obtain ⟨A, c, e, hH⟩ := h.2.2 v hv
  exact ⟨A, c, e, hH.call hb⟩⟩
theorem HS2.gain1 (h : HS2 w0 bs i j l m st w) (hij : j ≠ i) {A : Option Addr} {c : Nat} (hL : Lies w' free (sE_ w.heap.size A c l)) (hb : Below w.heap.size w w') : HS2 w0 bs i j l m (upd st i (.slice A l.length c)) w' := by
  refine ⟨h.1.call hb, fun v hv => ?_, fun v hv => ?_⟩
  · rw [upd_same] at hv
    obtain rfl := Option.some.inj hv
    exact ⟨A, c, rfl, h.1.held.gain hb hL⟩
  · rw [upd_other _ _ hij] at hv
    exact (h.call hb).2.2 v hv
theorem HS2.gain2 (h : HS2 w0 bs i j l m st w) (hij : i ≠ j) {A : Option Addr} {c : Nat} (hL : Lies w' free (sE_ w.heap.size A c m)) (hb : Below w.heap.size w w') : HS2 w0 bs i j l m (upd st j (.slice A m.length c)) w' := by
  refine ⟨h.1.call hb, fun v hv => ?_, fun v hv => ?_⟩
  · rw [upd_other _ _ hij] at hv
    exact (h.call hb).2.1 v hv
  · rw [upd_same] at hv
    obtain rfl := Option.some.inj hv
    exact ⟨A, c, rfl, h.1.held.gain hb hL⟩
theorem HS2.get1 (h : HS2 w0 bs i j l m st w) (ha : (st i).isSome = true) : ∃ A c, st i = some (.slice A l.length c) ∧ Held w0 w bs nilRow [sE_ w0.heap.size A c l] := by
  obtain ⟨v, hv⟩ := Option.isSome_iff_exists.1 ha
  obtain ⟨A, c, rfl, hH⟩ := h.2.1 v hv
  exact ⟨A, c, hv, hH⟩
theorem HS2.get2 (h : HS2 w0 bs i j l m st w) (ha : (st j).isSome = true) : ∃ A c, st j = some (.slice A m.length c) ∧ Held w0 w bs nilRow [sE_ w0.heap.size A c m] := by
  obtain ⟨v, hv⟩ := Option.isSome_iff_exists.1 ha
  obtain ⟨A, c, rfl, hH⟩ := h.2.2 v hv
  exact ⟨A, c, hv, hH⟩
end
theorem NB.call {w0 w w2 : World} {bs : List (Nat × TypeId × List Value)} {ss : List NbS} {st : Nat → Option Value} (h : NB w0 bs ss st w) (hb : Below w.heap.size w w2) : NB w0 bs ss st w2 := ⟨h.1, h.2.1, h.2.2.call hb⟩
section
variable {P : Program} {ops : Array Oper} {Q : Exit → Act → World → Prop} {a : Act} {w : World} {rest : List Oper} {dst : Option Tmp} {ty : TypeId} {pos : String} {after : Array Edge} {K : Act → World → Prop}
theorem wp_inoS {s : Nat} {t e : TypeId} {x y : Operand} {gd : Option (Nat × Bool)} {n : Nat} (hu : P.underlying t = some (.array n e)) (hs : ∀ w, (sizeOf e).run P w = .ok s w) (hn : 1 < n) {g o : Nat} {kd : IntKind} {z : Int} (i : Nat)
    (hx : a.eval x = .pointer (some ⟨g, o, none⟩)) (hy : a.eval y = .int kd z) (hz : z = (i : Int)) (hi : i < n) (h : K (a.put dst (.pointer (some ⟨g, o + i * s, none⟩))) w) : Oper.wp P ⟨dst, .indexAddr t x y, ty, pos, after, gd⟩ a w K Q := by
  subst hz
  have hr : (Instr.indexAt t (.pointer (some ⟨g, o, none⟩)) (.int kd i)).run P w = .ok (.pointer (some ⟨g, o + i * s, none⟩)) w := by
    have h1 : (0 : Int) ≤ i ∧ (i : Int) < n := by omega
    unfold Instr.indexAt
    simp [asIntOf, Sem.run_bind, run_underlying hu, Instr.sureAddr, hs w, add_zero_off, show ¬ n ≤ i by omega, show ¬ n ≤ 1 by omega]
  unfold Oper.wp execOp
  simp only [hx, hy, Sem.run_bind, hr, Result.andThen_ok]
  exact h
end
theorem sizeOfT3 (w : World) : (sizeOf 44).run Try.prog w = .ok 21 w := by kernel_rfl
theorem sizeOfW7 (w : World) : (sizeOf 34).run Try.prog w = .ok 7 w := by kernel_rfl
theorem size126 : (Try.prog.info? 45).map (·.size) = some 126 := by kernel_rfl
theorem zero126 : (Try.prog.info? 45).map (·.zero) = some (some (.agg (M.mat 126 M.zero).toArray)) := by kernel_rfl
theorem s126 (a : Nat → Int) : (Try.prog.info? 45).map (·.size) = some (M.mat 126 a).length := by rw [M.mat_len]; exact size126
namespace TR
/-- Three corners in a row. -/
def tri3 (p q r : Nat → Int) (n : Nat) : Int := if n < 7 then p n else if n < 14 then q (n - 7) else r (n - 14)
/-- The corner that stands at place k of the i-th order. -/
def pk (a b c : Nat → Int) (i k : Nat) : Nat → Int :=
  if i = 0 then (if k = 0 then a else if k = 1 then b else c)
  else if i = 1 then (if k = 0 then b else if k = 1 then c else a)
  else if i = 2 then (if k = 0 then c else if k = 1 then a else b)
  else if i = 3 then (if k = 0 then a else if k = 1 then c else b)
  else if i = 4 then (if k = 0 then c else if k = 1 then b else a)
  else (if k = 0 then b else if k = 1 then a else c)
def six (a b c : Nat → Int) (n : Nat) : Int := pk a b c (n / 21) (n % 21 / 7) (n % 7)
theorem six_at (a b c : Nat → Int) {i k o : Nat} (hi : i < 6) (hk : k < 3) (ho : o = i * 21 + k * 7) : ∀ j v, (M.mat 7 (pk a b c i k))[j]? = some v → (M.mat 126 (six a b c))[o + j]? = some v := by
  intro j v h
  subst ho
  have hj : j < 7 := by
    have := (List.getElem?_eq_some_iff.1 h).1
    rwa [M.mat_len] at this
  rw [M.mat_get hj] at h
  rw [M.mat_get (by omega)]
  unfold six
  rw [show (i * 21 + k * 7 + j) / 21 = i by omega, show (i * 21 + k * 7 + j) % 21 / 7 = k by omega, show (i * 21 + k * 7 + j) % 7 = j by omega]
  exact h
theorem pk_has (a b c : Nat → Int) {i : Nat} (hi : i < 6) (x y : Int) : has (pk a b c i 0) (pk a b c i 1) (pk a b c i 2) x y = has a b c x y := by
  obtain ⟨⟨h1, h2⟩, h3, h4, h5⟩ := has_six a b c x y
  rcases (by omega : i = 0 ∨ i = 1 ∨ i = 2 ∨ i = 3 ∨ i = 4 ∨ i = 5) with rfl | rfl | rfl | rfl | rfl | rfl
  · rfl
  · exact h1
  · exact h2
  · exact h3
  · exact h4
  · exact h5
theorem pk_may {a b c : Nat → Int} (ha : May a) (hb : May b) (hc : May c) (i k : Nat) : May (pk a b c i k) := by
  unfold pk
  repeat' split
  all_goals assumption
end TR
theorem built21 (p q r : Nat → Int) : Try.prog.built 44 [(0, arr 7 p), (1, arr 7 q), (2, arr 7 r)] = some (M.mat 21 (TR.tri3 p q r)).toArray := by kernel_rfl
theorem built126 (a b c : Nat → Int) : Try.prog.built 45 [(0, arr 21 (TR.tri3 a b c)), (1, arr 21 (TR.tri3 b c a)), (2, arr 21 (TR.tri3 c a b)), (3, arr 21 (TR.tri3 a c b)), (4, arr 21 (TR.tri3 c b a)), (5, arr 21 (TR.tri3 b a c))] = some (M.mat 126 (TR.six a b c)).toArray := by kernel_rfl
/-- Three corners in six orders, as values. -/
def TR.SixP (a b c : Nat → Int) (X0 X1 X2 X3 X4 X5 Y : Array Value) : Prop :=
  Try.prog.built 44 [(0, arr 7 a), (1, arr 7 b), (2, arr 7 c)] = some X0 ∧
  Try.prog.built 44 [(0, arr 7 b), (1, arr 7 c), (2, arr 7 a)] = some X1 ∧
  Try.prog.built 44 [(0, arr 7 c), (1, arr 7 a), (2, arr 7 b)] = some X2 ∧
  Try.prog.built 44 [(0, arr 7 a), (1, arr 7 c), (2, arr 7 b)] = some X3 ∧
  Try.prog.built 44 [(0, arr 7 c), (1, arr 7 b), (2, arr 7 a)] = some X4 ∧
  Try.prog.built 44 [(0, arr 7 b), (1, arr 7 a), (2, arr 7 c)] = some X5 ∧
  Try.prog.built 45 [(0, .agg X0), (1, .agg X1), (2, .agg X2), (3, .agg X3), (4, .agg X4), (5, .agg X5)] = some Y ∧ Value.agg Y = .agg (M.mat 126 (TR.six a b c)).toArray
theorem TR.six_ex (a b c : Nat → Int) : ∃ X0 X1 X2 X3 X4 X5 Y, TR.SixP a b c X0 X1 X2 X3 X4 X5 Y := ⟨_, _, _, _, _, _, _, built21 a b c, built21 b c a, built21 c a b, built21 a c b, built21 c b a, built21 b a c, built126 a b c, rfl⟩
end Go.Proofs.Ytndaijcgjhmiaaa
