/- Parts of lists; a row of two lists; a polygon turned by one vertex. -/
import Derived.Test.YtbpignicffkaoaaFj
namespace Go.Proofs.Ytbpignicffkaoaa
open Go.ChangeShapes Go.WideShapes Go.ChangeAt Go.RowKit
set_option linter.unusedVariables false
set_option linter.unusedSimpArgs false

section
variable {P : Program} {ops : Array Oper} {Q : Exit → Act → World → Prop} {a : Act} {w w0 : World} {bs : List (Nat × TypeId × List Value)} {R : RowD} {es : List Ent} {dst : Option Tmp} {ty : TypeId} {pos : String} {after : Array Edge} {K : Act → World → Prop}
/-- A slice literal of nothing, as an own block. -/
theorem wp_zero_h {t e : TypeId} {gd : Option (Nat × Bool)} (O : Held w0 w bs R es) (s : Nat) (hi : (P.info? e).map (·.size) = some s) (hu : P.underlying t = some (.slice e))
    (h : ∀ g w1, Held w0 w1 ((g, e, []) :: bs) R es → K (a.put dst (.slice (some ⟨g, 0, none⟩) 0 0)) w1) : Oper.wp P ⟨dst, .buildSlice t 0 #[], ty, pos, after, gd⟩ a w K Q := by
  cases hie : P.info? e with
  | none => simp [hie] at hi
  | some ie =>
    have hr : (Instr.buildSlice t 0 #[]).run P w = .ok (.slice (some ⟨w.heap.size, 0, none⟩) 0 0) (w.alloc (.cells #[] e)) := by
      simp [Instr.buildSlice, run_underlying hu, sizeOf, typeInfo, hie, Instr.fill, newRow]
      kernel_rfl
    unfold Oper.wp execOp
    simp only [List.map_toArray, List.map_nil, Sem.run_bind, hr, Result.andThen_ok]
    exact h _ _ (O.alloc e [])
theorem wp_move_ {x : Operand} {gd : Option (Nat × Bool)} (h : K (a.put dst (a.eval x)) w) : Oper.wp P ⟨dst, .move x, ty, pos, after, gd⟩ a w K Q := by
  unfold Oper.wp execOp
  exact h
/-- A part of a list, from an element on. -/
theorem wp_part_lo {t e : TypeId} {x y : Operand} {gd : Option (Nat × Bool)} {s n c : Nat} {A : Option Addr} (hu : P.underlying t = some (.slice e)) (hs : ∀ w, (sizeOf e).run P w = .ok s w) (hx : a.eval x = .slice A n c) {kd : IntKind} (i : Nat) (hy : a.eval y = .int kd (i : Int)) (hi : i ≤ n)
    (h : K (a.put dst (sliced A i n c s)) w) : Oper.wp P ⟨dst, .slice t x (some y) none none, ty, pos, after, gd⟩ a w K Q := by
  have he : P.elem t = e := by simp [Program.elem, hu]
  have ht : P.underlying t = some (.slice (P.elem t)) := by rw [he, hu]
  have hr : (Instr.sliceAt t (.slice A n c) (some (.int kd i)) none none).run P w = .ok (sliced A i n c s) w := by
    rw [run_sliceAt_slice w t _ _ _ _ ht, run_slice_l w t A n c ht kd i (by omega) (by omega), he, hs, Result.andThen_ok]
    rfl
  unfold Oper.wp execOp
  simp only [hx, hy, Option.map_some, Option.map_none, Sem.run_bind, hr, Result.andThen_ok]
  exact h
/-- A part of a list, up to an element. -/
theorem wp_part_hi {t e : TypeId} {x y : Operand} {gd : Option (Nat × Bool)} {s n c : Nat} {A : Option Addr} (hu : P.underlying t = some (.slice e)) (hs : ∀ w, (sizeOf e).run P w = .ok s w) (hx : a.eval x = .slice A n c) {kd : IntKind} (i : Nat) (hy : a.eval y = .int kd (i : Int)) (hi : i ≤ c)
    (h : K (a.put dst (sliced A 0 i c s)) w) : Oper.wp P ⟨dst, .slice t x none (some y) none, ty, pos, after, gd⟩ a w K Q := by
  have he : P.elem t = e := by simp [Program.elem, hu]
  have ht : P.underlying t = some (.slice (P.elem t)) := by rw [he, hu]
  have hr : (Instr.sliceAt t (.slice A n c) none (some (.int kd i)) none).run P w = .ok (sliced A 0 i c s) w := by
    rw [run_sliceAt_slice w t _ _ _ _ ht, run_slice_h w t A n c ht kd i (by omega) (by omega), he, hs, Result.andThen_ok]
    rfl
  unfold Oper.wp execOp
  simp only [hx, hy, Option.map_some, Option.map_none, Sem.run_bind, hr, Result.andThen_ok]
  exact h
end
/-- The entry of a part of a list. -/
def pE (s lo : Nat) (A : Option Addr) (c : Nat) (xs : List Value) (i j : Nat) : Ent := ⟨lo, if c = i then A else A.map (·.add (i * s)), j - i, c - i, s, (xs.drop (i * s)).take ((j - i) * s)⟩
theorem Held.pE {w0 w : World} {bs : List (Nat × TypeId × List Value)} {R : RowD} {es : List Ent} {lo n c s : Nat} {A : Option Addr} {xs : List Value} (O : Held w0 w bs R es) (hm : (⟨lo, A, n, c, s, xs⟩ : Ent) ∈ es) (i j : Nat) (h1 : i ≤ j) (h2 : j ≤ n) : ∃ no, Lies w no (pE s lo A c xs i j) :=
  ⟨_, (O.part hm i j h1 h2).mem List.mem_cons_self⟩
/-- How far a region has come that makes a row of two lists, one behind the other. -/
inductive Ro (e : TypeId) (s : Nat) (en1 en2 : Ent) : Option Value → Option Value → Option Value → RowD → Prop
  | p0 : Ro e s en1 en2 none none none nilRow
  | p1 (v : Value) : Ro e s en1 en2 (some v) none none ⟨v, e, s, 0, []⟩
  | p2 (v u : Value) : Ro e s en1 en2 (some v) (some u) none ⟨u, e, s, 0 + en1.n, [] ++ en1.xs⟩
  | p3 (v u x : Value) : Ro e s en1 en2 (some v) (some u) (some x) ⟨x, e, s, 0 + en1.n + en2.n, ([] ++ en1.xs) ++ en2.xs⟩
def RoS (w0 : World) (bs : List (Nat × TypeId × List Value)) (es : List Ent) (e : TypeId) (s : Nat) (en1 en2 : Ent) (a b c : Option Value) (w : World) : Prop := ∃ R, Held w0 w bs R es ∧ Ro e s en1 en2 a b c R
section
variable {P : Program} {w0 w : World} {bs : List (Nat × TypeId × List Value)} {es : List Ent} {e : TypeId} {s : Nat} {en1 en2 : Ent} {a b c : Option Value}
variable {dst : Option Tmp} {ty : TypeId} {pos : String} {after : Array Edge} {K : Act → World → Prop} {p q : Operand} {ac : Act} {Q : Exit → Act → World → Prop} {gd : Option (Nat × Bool)} {t : TypeId}
theorem RoS.start (O : Held w0 w bs nilRow es) : RoS w0 bs es e s en1 en2 none none none w := ⟨_, O, .p0⟩
theorem RoS.held (h : RoS w0 bs es e s en1 en2 a b c w) : ∃ R, Held w0 w bs R es := by
  obtain ⟨R, h, _⟩ := h
  exact ⟨R, h⟩
theorem RoS.lit (h : RoS w0 bs es e s en1 en2 none b c w) (hi : (P.info? e).map (·.size) = some s) (hu : P.underlying t = some (.slice e))
    (hK : ∀ v w1, RoS w0 bs es e s en1 en2 (some v) b c w1 → K (ac.put dst v) w1) : Oper.wp P ⟨dst, .buildSlice t 0 #[], ty, pos, after, gd⟩ ac w K Q := by
  obtain ⟨R, O, hr⟩ := h
  cases hr
  exact wp_none_h O s hi hu fun v w1 O1 => hK v w1 ⟨_, O1, .p1 v⟩
theorem RoS.app1 (h : RoS w0 bs es e s en1 en2 a none c w) (ha : a.isSome = true) (z : Value) (bytes : Nat) (hi : (P.info? e).map (fun i => (i.zero, i.size, i.bytes)) = some (some z, s, bytes)) (hzs : z.cells.size = s) (hsz : 0 < s) (hu : P.underlying t = some (.slice e))
    (hp : ac.eval p = a.getD undef) (hL : ∀ w R, Held w0 w bs R es → ∃ no, Lies w no en1) (hes : en1.s = s) {cc : Nat} (hq : ac.eval q = .slice en1.A en1.n cc) (h1 : ∀ v ∈ en1.xs, v.oneCell' = true) (hb : 0 + en1.n ≤ 1000000) (hbb : bytes ≤ 1000)
    (hK : ∀ v w1, RoS w0 bs es e s en1 en2 a (some v) c w1 → K (ac.put dst v) w1) : Oper.wp P ⟨dst, .call { callee := .builtin .append, args := #[p, q], argTypes := #[t, t] }, ty, pos, after, gd⟩ ac w K Q := by
  obtain ⟨R, O, hr⟩ := h
  cases hr with
  | p0 => cases ha
  | p1 v =>
    obtain ⟨no, L⟩ := hL _ _ O
    exact wp_app_big O z bytes hi hzs hsz hu hp en1 L hes hq h1 hb hbb fun u w1 O1 => hK u w1 ⟨_, O1, .p2 v u⟩
theorem RoS.app2 (h : RoS w0 bs es e s en1 en2 a b none w) (ha : b.isSome = true) (z : Value) (bytes : Nat) (hi : (P.info? e).map (fun i => (i.zero, i.size, i.bytes)) = some (some z, s, bytes)) (hzs : z.cells.size = s) (hsz : 0 < s) (hu : P.underlying t = some (.slice e))
    (hp : ac.eval p = b.getD undef) (hL : ∀ w R, Held w0 w bs R es → ∃ no, Lies w no en2) (hes : en2.s = s) {cc : Nat} (hq : ac.eval q = .slice en2.A en2.n cc) (h1 : ∀ v ∈ en2.xs, v.oneCell' = true) (hb : 0 + en1.n + en2.n ≤ 1000000) (hbb : bytes ≤ 1000)
    (hK : ∀ v w1, RoS w0 bs es e s en1 en2 a b (some v) w1 → K (ac.put dst v) w1) : Oper.wp P ⟨dst, .call { callee := .builtin .append, args := #[p, q], argTypes := #[t, t] }, ty, pos, after, gd⟩ ac w K Q := by
  obtain ⟨R, O, hr⟩ := h
  cases hr with
  | p0 => cases ha
  | p1 v => cases ha
  | p2 v u =>
    obtain ⟨no, L⟩ := hL _ _ O
    exact wp_app_big O z bytes hi hzs hsz hu hp en2 L hes hq h1 hb hbb fun x w1 O1 => hK x w1 ⟨_, O1, .p3 v u x⟩
theorem RoS.done (h : RoS w0 bs es e s en1 en2 a b c w) (hc : c.isSome = true) : ∃ v u A m, a = some v ∧ b = some u ∧ c = some (.slice A (0 + en1.n + en2.n) m) ∧ Held w0 w bs nilRow (⟨w0.heap.size, A, 0 + en1.n + en2.n, m, s, ([] ++ en1.xs) ++ en2.xs⟩ :: es) := by
  obtain ⟨R, O, hr⟩ := h
  cases hr with
  | p0 => cases hc
  | p1 v => cases hc
  | p2 v u => cases hc
  | p3 v u x =>
    obtain ⟨A, m, hv, O2⟩ := O.done
    dsimp only at hv O2
    subst hv
    exact ⟨v, u, A, m, rfl, rfl, rfl, O2⟩
end
theorem vC_part (l : List (Nat → Int)) (i k : Nat) : ((vC l).drop (i * 8)).take (k * 8) = vC ((l.drop i).take k) := flat_part (M.mat 8) 8 (fun a => M.mat_len 8 a) l i k
theorem bC_part (l : List Bool) (i k : Nat) : ((bC l).drop (i * 1)).take (k * 1) = bC ((l.drop i).take k) := by simp [bC, List.map_take, List.map_drop]
theorem pE_v {l : List (Nat → Int)} {i j lo c : Nat} {A : Option Addr} : (pE 8 lo A c (vC l) i j).xs = vC ((l.drop i).take (j - i)) := vC_part l i (j - i)
theorem pE_b {l : List Bool} {i j lo c : Nat} {A : Option Addr} : (pE 1 lo A c (bC l) i j).xs = bC ((l.drop i).take (j - i)) := bC_part l i (j - i)
/-- The literal of nothing that has come up, and hasn't been appended to. -/
def lb (a b : Option Value) (t : TypeId) : List (Nat × TypeId × List Value) :=
  match a, b with
  | some (.slice (some ad) _ _), none => [(ad.block, t, [])]
  | _, _ => []
def isZ (a : Option Value) : Prop := ∀ v, a = some v → ∃ g, v = .slice (some ⟨g, 0, none⟩) 0 0
def lit1 (a : Option Value) (s : Nat) (cs : List Value) (es : List Ent) : Prop := ∀ v, a = some v → ∃ lo A c, v = .slice A 1 c ∧ (⟨lo, A, 1, c, s, cs⟩ : Ent) ∈ es
inductive Ph (w0 : World) (l : List (Nat → Int)) (e : List Bool) (en1 en2 : Ent) (V : List (Nat → Int)) (F : List Bool) (z : Int) : Option Value → Option Value → Option Value → Option Value → Option Value → RowD → List Ent → Prop
  | p0 {es : List Ent} : Ph w0 l e en1 en2 V F z none none none none none nilRow es
  | p1 {es : List Ent} (v : Value) : Ph w0 l e en1 en2 V F z (some v) none none none none ⟨v, 39, 8, 0 + en1.n, [] ++ en1.xs⟩ es
  | p2 {es : List Ent} (v : Value) (A : Option Addr) (c : Nat) (h : vE w0.heap.size A c l ∈ es) : Ph w0 l e en1 en2 V F z (some v) (some (.slice A l.length c)) none none none nilRow es
  | p3 {es : List Ent} (v : Value) (A : Option Addr) (c : Nat) (u : Value) (h : vE w0.heap.size A c l ∈ es) : Ph w0 l e en1 en2 V F z (some v) (some (.slice A l.length c)) (some u) none none ⟨u, 4, 1, 0 + en2.n, [] ++ en2.xs⟩ es
  | p4 {es : List Ent} (v : Value) (A : Option Addr) (c : Nat) (u : Value) (B : Option Addr) (d : Nat) (h : vE w0.heap.size A c l ∈ es) (h2 : bE w0.heap.size B d e ∈ es) : Ph w0 l e en1 en2 V F z (some v) (some (.slice A l.length c)) (some u) (some (.slice B e.length d)) none nilRow es
  | p5 {es : List Ent} (v1 v2 v3 v4 : Value) (A : Option Addr) (c : Nat) (B : Option Addr) (d : Nat) (h : vE w0.heap.size A c V ∈ es) (h2 : bE w0.heap.size B d F ∈ es) : Ph w0 l e en1 en2 V F z (some v1) (some v2) (some v3) (some v4) (some (.tuple #[.slice A V.length c, .slice B F.length d, .int .i64 z])) nilRow es
theorem Ph.up {w0 : World} {l : List (Nat → Int)} {e : List Bool} {en1 en2 : Ent} {V : List (Nat → Int)} {F : List Bool} {z : Int} {b3 b8 b12 b17 c19 : Option Value} {R : RowD} {es es2 : List Ent} (h : Ph w0 l e en1 en2 V F z b3 b8 b12 b17 c19 R es) (hs : ∀ y ∈ es, y ∈ es2) : Ph w0 l e en1 en2 V F z b3 b8 b12 b17 c19 R es2 := by
  cases h with
  | p0 => exact .p0
  | p1 v => exact .p1 v
  | p2 v A c h => exact .p2 v A c (hs _ h)
  | p3 v A c u h => exact .p3 v A c u (hs _ h)
  | p4 v A c u B d h h2 => exact .p4 v A c u B d (hs _ h) (hs _ h2)
  | p5 v1 v2 v3 v4 A c B d h h2 => exact .p5 v1 v2 v3 v4 A c B d (hs _ h) (hs _ h2)
theorem lit1.up {a : Option Value} {s : Nat} {cs : List Value} {es es2 : List Ent} (h : lit1 a s cs es) (hs : ∀ y ∈ es, y ∈ es2) : lit1 a s cs es2 := fun v hv => by
  obtain ⟨lo, A, c, h1, h2⟩ := h v hv
  exact ⟨lo, A, c, h1, hs _ h2⟩
/-- How far the region has come that turns a polygon by one vertex and carves it. -/
def R4 (w0 : World) (bs : List (Nat × TypeId × List Value)) (es : List Ent) (l : List (Nat → Int)) (e : List Bool) (en1 en2 : Ent) (V : List (Nat → Int)) (F : List Bool) (z : Int) (x0 : Nat → Int) (y0 : Bool) (a0 b3 a7 b8 a9 b12 a16 b17 c19 : Option Value) (w : World) : Prop :=
  (a0 = none → b3 = none) ∧ (a9 = none → b12 = none) ∧ isZ a0 ∧ isZ a9 ∧ ∃ R es', (∀ y ∈ es, y ∈ es') ∧ lit1 a7 8 (vC [x0]) es' ∧ lit1 a16 1 (bC [y0]) es' ∧ Held w0 w (lb a0 b3 39 ++ (lb a9 b12 4 ++ bs)) R es' ∧ Ph w0 l e en1 en2 V F z b3 b8 b12 b17 c19 R es'
section
variable {w0 w w' : World} {bs : List (Nat × TypeId × List Value)} {es : List Ent} {l : List (Nat → Int)} {e : List Bool} {en1 en2 : Ent} {V : List (Nat → Int)} {F : List Bool} {z : Int} {x0 : Nat → Int} {y0 : Bool} {a0 b3 a7 b8 a9 b12 a16 b17 c19 : Option Value}
variable {dst : Option Tmp} {ty : TypeId} {pos : String} {after : Array Edge} {K : Act → World → Prop} {p q : Operand} {ac : Act} {Q : Exit → Act → World → Prop} {gd : Option (Nat × Bool)} {t : TypeId}
theorem R4.start (O : Held w0 w bs nilRow es) : R4 w0 bs es l e en1 en2 V F z x0 y0 none none none none none none none none none w :=
  ⟨fun _ => rfl, fun _ => rfl, (fun _ h => by cases h), (fun _ h => by cases h), nilRow, es, fun _ h => h, (fun _ h => by cases h), (fun _ h => by cases h), O, .p0⟩
theorem R4.held (h : R4 w0 bs es l e en1 en2 V F z x0 y0 a0 b3 a7 b8 a9 b12 a16 b17 c19 w) : ∃ R, Held w0 w bs R es := by
  obtain ⟨-, -, -, -, R, es', h1, -, -, O, -⟩ := h
  exact ⟨R, (Held.drop (Held.drop O)).pick h1⟩
theorem R4.lit0 (h : R4 w0 bs es l e en1 en2 V F z x0 y0 none b3 a7 b8 a9 b12 a16 b17 c19 w) (hK : ∀ v w1, R4 w0 bs es l e en1 en2 V F z x0 y0 (some v) b3 a7 b8 a9 b12 a16 b17 c19 w1 → K (ac.put dst v) w1) : Oper.wp Try.prog ⟨dst, .buildSlice 22 0 #[], ty, pos, after, gd⟩ ac w K Q := by
  obtain ⟨h1, h2, h3, h4, R, es', h5, h6, h7, O, h8⟩ := h
  obtain rfl := h1 rfl
  exact wp_zero_h O 8 size27 Try.underlying22 fun g w1 O1 => hK _ w1 ⟨(fun h => by cases h), h2, (fun v h => ⟨g, (Option.some.inj h).symm⟩), h4, R, es', h5, h6, h7, O1, h8⟩
theorem R4.lit9 (h : R4 w0 bs es l e en1 en2 V F z x0 y0 a0 b3 a7 b8 none b12 a16 b17 c19 w) (hK : ∀ v w1, R4 w0 bs es l e en1 en2 V F z x0 y0 a0 b3 a7 b8 (some v) b12 a16 b17 c19 w1 → K (ac.put dst v) w1) : Oper.wp Try.prog ⟨dst, .buildSlice 23 0 #[], ty, pos, after, gd⟩ ac w K Q := by
  obtain ⟨h1, h2, h3, h4, R, es', h5, h6, h7, O, h8⟩ := h
  obtain rfl := h2 rfl
  exact wp_zero_h O 1 size4_ Try.underlying23 fun g w1 O1 => hK _ w1 ⟨h1, (fun h => by cases h), h3, (fun v h => ⟨g, (Option.some.inj h).symm⟩), R, es', h5, h6, h7, O1.perm List.perm_middle.symm, h8⟩
theorem R4.lit7 (h : R4 w0 bs es l e en1 en2 V F z x0 y0 a0 b3 none b8 a9 b12 a16 b17 c19 w) (hp : ac.eval p = arr 8 x0) (hK : ∀ v w1, R4 w0 bs es l e en1 en2 V F z x0 y0 a0 b3 (some v) b8 a9 b12 a16 b17 c19 w1 → K (ac.put dst v) w1) : Oper.wp Try.prog ⟨dst, .buildSlice 22 1 #[(0, p)], ty, pos, after, gd⟩ ac w K Q := by
  obtain ⟨h1, h2, h3, h4, R, es', h5, h6, h7, O, h8⟩ := h
  refine wp_lit_h O 8 (.agg (M.mat 8 M.zero).toArray) info27 Try.underlying22 ([(0, .agg (M.mat 8 x0).toArray)]) (vC [x0]) (by simp only [List.map_cons, List.map_nil, hp]) (vC_len _) (by decide) (by decide) (by kernel_rfl) fun g w1 O1 => hK _ w1 ⟨h1, h2, h3, h4, R, _, fun y hy => List.mem_cons_of_mem _ (h5 y hy), fun v hv => ?_, h7.up (fun y hy => List.mem_cons_of_mem _ hy), O1, h8.up (fun y hy => List.mem_cons_of_mem _ hy)⟩
  obtain rfl := Option.some.inj hv
  exact ⟨_, _, _, rfl, List.mem_cons_self⟩
theorem R4.lit16 (h : R4 w0 bs es l e en1 en2 V F z x0 y0 a0 b3 a7 b8 a9 b12 none b17 c19 w) (hp : ac.eval p = .bool y0) (hK : ∀ v w1, R4 w0 bs es l e en1 en2 V F z x0 y0 a0 b3 a7 b8 a9 b12 (some v) b17 c19 w1 → K (ac.put dst v) w1) : Oper.wp Try.prog ⟨dst, .buildSlice 23 1 #[(0, p)], ty, pos, after, gd⟩ ac w K Q := by
  obtain ⟨h1, h2, h3, h4, R, es', h5, h6, h7, O, h8⟩ := h
  refine wp_lit_h O 1 (.bool false) info4 Try.underlying23 ([(0, .bool y0)]) (bC [y0]) (by simp only [List.map_cons, List.map_nil, hp]) (bC_len _) (by decide) (by decide) (by kernel_rfl) fun g w1 O1 => hK _ w1 ⟨h1, h2, h3, h4, R, _, fun y hy => List.mem_cons_of_mem _ (h5 y hy), h6.up (fun y hy => List.mem_cons_of_mem _ hy), fun v hv => ?_, O1, h8.up (fun y hy => List.mem_cons_of_mem _ hy)⟩
  obtain rfl := Option.some.inj hv
  exact ⟨_, _, _, rfl, List.mem_cons_self⟩
theorem R4.app3 (h : R4 w0 bs es l e en1 en2 V F z x0 y0 a0 none a7 b8 a9 b12 a16 b17 c19 w) (ha : a0.isSome = true) (hp : ac.eval p = a0.getD undef) (hL : ∀ w bs R es', (∀ y ∈ es, y ∈ es') → Held w0 w bs R es' → ∃ no, Lies w no en1) (hes : en1.s = 8) {cc : Nat} (hq : ac.eval q = .slice en1.A en1.n cc) (h1 : ∀ v ∈ en1.xs, v.oneCell' = true) (hb : 0 + en1.n ≤ 1000000)
    (hK : ∀ v w1, R4 w0 bs es l e en1 en2 V F z x0 y0 a0 (some v) a7 b8 a9 b12 a16 b17 c19 w1 → K (ac.put dst v) w1) : Oper.wp Try.prog ⟨dst, .call { callee := .builtin .append, args := #[p, q], argTypes := #[22, 22] }, ty, pos, after, gd⟩ ac w K Q := by
  obtain ⟨g1, g2, g3, g4, R, es', g5, g6, g7, O, g8⟩ := h
  obtain ⟨v, rfl⟩ := Option.isSome_iff_exists.1 ha
  obtain ⟨g, rfl⟩ := g3 v rfl
  cases g8
  have O2 : Held w0 w (lb a9 none 4 ++ bs) ⟨.slice (some ⟨g, 0, none⟩) 0 0, 39, 8, 0, []⟩ es' := Held.wake (X := [(g, 39, [])]) O (.inr ⟨g, 0, [], rfl, rfl, Nat.le_refl _, Nat.zero_le _, rfl, rfl, rfl⟩)
  obtain ⟨no, L⟩ := hL _ _ _ _ g5 O2
  exact wp_app_big O2 (.agg (M.mat 8 M.zero).toArray) 64 info27b rfl (Nat.succ_pos _) Try.underlying22 hp en1 L hes hq h1 hb (by decide) fun u w1 O1 => hK u w1 ⟨fun h => (by cases h), g2, g3, g4, _, es', g5, g6, g7, O1, .p1 u⟩
theorem R4.app8 (h : R4 w0 bs es l e en1 en2 V F z x0 y0 a0 b3 a7 none a9 b12 a16 b17 c19 w) (hb3 : b3.isSome = true) (ha : a7.isSome = true) (hp : ac.eval p = b3.getD undef) (hq : ac.eval q = a7.getD undef) (hn : 0 + en1.n + 1 = l.length) (hx : ([] ++ en1.xs) ++ vC [x0] = vC l) (hb : l.length ≤ 1000000)
    (hK : ∀ v w1, R4 w0 bs es l e en1 en2 V F z x0 y0 a0 b3 a7 (some v) a9 b12 a16 b17 c19 w1 → K (ac.put dst v) w1) : Oper.wp Try.prog ⟨dst, .call { callee := .builtin .append, args := #[p, q], argTypes := #[22, 22] }, ty, pos, after, gd⟩ ac w K Q := by
  obtain ⟨g1, g2, g3, g4, R, es', g5, g6, g7, O, g8⟩ := h
  obtain ⟨u, rfl⟩ := Option.isSome_iff_exists.1 ha
  obtain ⟨lo, A, c, rfl, hm⟩ := g6 u rfl
  cases g8 with
  | p0 => cases hb3
  | p1 v =>
    refine wp_app_big O (.agg (M.mat 8 M.zero).toArray) 64 info27b rfl (Nat.succ_pos _) Try.underlying22 hp _ (O.mem hm) rfl hq (vC_one _) (by dsimp only; omega) (by decide) fun u w1 O1 => ?_
    obtain ⟨A2, c2, hv, O2⟩ := O1.done
    dsimp only at hv O2
    subst hv
    rw [hn, hx] at O2
    rw [hn]
    have up : ∀ y ∈ es', y ∈ vE w0.heap.size A2 c2 l :: es' := fun y hy => List.mem_cons_of_mem _ hy
    exact hK _ w1 ⟨g1, g2, g3, g4, nilRow, _, fun y hy => up y (g5 y hy), g6.up up, g7.up up, O2, .p2 v A2 c2 List.mem_cons_self⟩
theorem R4.app12 (h : R4 w0 bs es l e en1 en2 V F z x0 y0 a0 b3 a7 b8 a9 none a16 b17 c19 w) (hb8 : b8.isSome = true) (ha : a9.isSome = true) (hp : ac.eval p = a9.getD undef) (hL : ∀ w bs R es', (∀ y ∈ es, y ∈ es') → Held w0 w bs R es' → ∃ no, Lies w no en2) (hes : en2.s = 1) {cc : Nat} (hq : ac.eval q = .slice en2.A en2.n cc) (h1 : ∀ v ∈ en2.xs, v.oneCell' = true) (hb : 0 + en2.n ≤ 1000000)
    (hK : ∀ v w1, R4 w0 bs es l e en1 en2 V F z x0 y0 a0 b3 a7 b8 a9 (some v) a16 b17 c19 w1 → K (ac.put dst v) w1) : Oper.wp Try.prog ⟨dst, .call { callee := .builtin .append, args := #[p, q], argTypes := #[23, 23] }, ty, pos, after, gd⟩ ac w K Q := by
  obtain ⟨g1, g2, g3, g4, R, es', g5, g6, g7, O, g8⟩ := h
  obtain ⟨v, rfl⟩ := Option.isSome_iff_exists.1 ha
  obtain ⟨g, rfl⟩ := g4 v rfl
  cases g8 with
  | p0 => cases hb8
  | p1 v => cases hb8
  | p2 v A c hm =>
    have hz : lb a0 (some v) 39 = [] := by unfold lb; cases a0 <;> simp
    rw [hz] at O
    have O2 : Held w0 w bs ⟨.slice (some ⟨g, 0, none⟩) 0 0, 4, 1, 0, []⟩ es' := Held.wake (X := [(g, 4, [])]) O (.inr ⟨g, 0, [], rfl, rfl, Nat.le_refl _, Nat.zero_le _, rfl, rfl, rfl⟩)
    obtain ⟨no, L⟩ := hL _ _ _ _ g5 O2
    exact wp_app_big O2 (.bool false) 1 info4b rfl (Nat.succ_pos _) Try.underlying23 hp en2 L hes hq h1 hb (by decide) fun u w1 O1 => hK u w1 ⟨g1, fun h => (by cases h), g3, g4, _, es', g5, g6, g7, (by rw [hz]; exact O1), .p3 v A c u hm⟩
theorem R4.app17 (h : R4 w0 bs es l e en1 en2 V F z x0 y0 a0 b3 a7 b8 a9 b12 a16 none c19 w) (hb12 : b12.isSome = true) (ha : a16.isSome = true) (hp : ac.eval p = b12.getD undef) (hq : ac.eval q = a16.getD undef) (hn : 0 + en2.n + 1 = e.length) (hx : ([] ++ en2.xs) ++ bC [y0] = bC e) (hb : e.length ≤ 1000000)
    (hK : ∀ v w1, R4 w0 bs es l e en1 en2 V F z x0 y0 a0 b3 a7 b8 a9 b12 a16 (some v) c19 w1 → K (ac.put dst v) w1) : Oper.wp Try.prog ⟨dst, .call { callee := .builtin .append, args := #[p, q], argTypes := #[23, 23] }, ty, pos, after, gd⟩ ac w K Q := by
  obtain ⟨g1, g2, g3, g4, R, es', g5, g6, g7, O, g8⟩ := h
  obtain ⟨u, rfl⟩ := Option.isSome_iff_exists.1 ha
  obtain ⟨lo, A, c, rfl, hm⟩ := g7 u rfl
  cases g8 with
  | p0 => cases hb12
  | p1 v => cases hb12
  | p2 v A c h => cases hb12
  | p3 v A1 c1 u h =>
    refine wp_app_big O (.bool false) 1 info4b rfl (Nat.succ_pos _) Try.underlying23 hp _ (O.mem hm) rfl hq (bC_one _) (by dsimp only; omega) (by decide) fun u w1 O1 => ?_
    obtain ⟨A2, c2, hv, O2⟩ := O1.done
    dsimp only at hv O2
    subst hv
    rw [hn, hx] at O2
    rw [hn]
    have up : ∀ y ∈ es', y ∈ bE w0.heap.size A2 c2 e :: es' := fun y hy => List.mem_cons_of_mem _ hy
    exact hK _ w1 ⟨g1, g2, g3, g4, nilRow, _, fun y hy => up y (g5 y hy), g6.up up, g7.up up, O2, .p4 v A1 c1 _ A2 c2 (up _ h) List.mem_cons_self⟩
theorem R4.args (h : R4 w0 bs es l e en1 en2 V F z x0 y0 a0 b3 a7 b8 a9 b12 a16 b17 none w) (hb : b17.isSome = true) : ∃ A c B d, b8 = some (.slice A l.length c) ∧ b17 = some (.slice B e.length d) ∧ Lies w free (vE w0.heap.size A c l) ∧ Lies w free (bE w0.heap.size B d e) ∧ (∀ y ∈ es, Lies w free y) ∧
    ∀ w', Below w.heap.size w w' → ∀ A c B d, Lies w' free (vE w.heap.size A c V) → Lies w' free (bE w.heap.size B d F) → R4 w0 bs es l e en1 en2 V F z x0 y0 a0 b3 a7 b8 a9 b12 a16 b17 (some (.tuple #[.slice A V.length c, .slice B F.length d, .int .i64 z])) w' := by
  obtain ⟨g1, g2, g3, g4, R, es', g5, g6, g7, O, g8⟩ := h
  cases g8 with
  | p0 => cases hb
  | p1 v => cases hb
  | p2 v A c h => cases hb
  | p3 v A1 c1 u h => cases hb
  | p4 v A c u B d h h2 =>
    refine ⟨A, c, B, d, rfl, rfl, O.arg h, O.arg h2, fun y hy => O.arg (g5 y hy), fun w' hbw A2 c2 B2 d2 k1 k2 => ?_⟩
    have O2 := O.gains hbw (ns := [vE _ A2 c2 V, bE _ B2 d2 F]) (two_lies k1 k2)
    have up : ∀ y ∈ es', y ∈ vE w0.heap.size A2 c2 V :: bE w0.heap.size B2 d2 F :: es' := fun y hy => List.mem_cons_of_mem _ (List.mem_cons_of_mem _ hy)
    exact ⟨g1, g2, g3, g4, nilRow, _, fun y hy => up y (g5 y hy), g6.up up, g7.up up, O2, .p5 _ _ _ _ A2 c2 B2 d2 List.mem_cons_self (List.mem_cons_of_mem _ List.mem_cons_self)⟩
theorem R4.tup (h : R4 w0 bs es l e en1 en2 V F z x0 y0 a0 b3 a7 b8 a9 b12 a16 b17 c19 w) (hc : c19.isSome = true) : ∃ A c B d, c19 = some (.tuple #[.slice A V.length c, .slice B F.length d, .int .i64 z]) ∧ Held w0 w bs nilRow (vE w0.heap.size A c V :: bE w0.heap.size B d F :: es) := by
  obtain ⟨g1, g2, g3, g4, R, es', g5, g6, g7, O, g8⟩ := h
  cases g8 with
  | p0 => cases hc
  | p1 v => cases hc
  | p2 v A c h => cases hc
  | p3 v A1 c1 u h => cases hc
  | p4 v A c u B d h h2 => cases hc
  | p5 v1 v2 v3 v4 A c B d h h2 =>
    exact ⟨A, c, B, d, rfl, (Held.drop (Held.drop O)).pick (fun y hy => by
      rcases List.mem_cons.1 hy with rfl | hy
      · exact h
      · rcases List.mem_cons.1 hy with rfl | hy
        · exact h2
        · exact g5 y hy)⟩
end
end Go.Proofs.Ytbpignicffkaoaa
