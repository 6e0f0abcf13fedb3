/- Contracts: List, twice. Contract: awake. Arguments that came in: sides, vertices, two numbers, lists of sides. -/
import Derived.Test.YtbpignicffkaoaaL5
import Derived.Great.BuildSlice
import Derived.Test.YtbpignicffkaoaaL6
import Derived.Deep.Slices
import Derived.Lib.SmallJoins
import Derived.OpenShut
namespace Go.Proofs.Ytbpignicffkaoaa
open Go.ChangeShapes Go.WideShapes Go.ChangeAt Go.RowKit
set_option linter.unusedVariables false
set_option linter.unusedSimpArgs false

theorem flat_len {α : Type} (f : α → List Value) (s : Nat) (hf : ∀ x, (f x).length = s) : ∀ l : List α, (l.flatMap f).length = l.length * s
  | [] => by simp
  | a :: l => by rw [List.flatMap_cons, List.length_append, hf, flat_len f s hf l, List.length_cons, Nat.add_mul, Nat.one_mul, Nat.add_comm]
theorem flat_at {α : Type} (f : α → List Value) (s : Nat) (hf : ∀ x, (f x).length = s) : ∀ {l : List α} {i : Nat} {x : α}, l[i]? = some x → ∀ j v, (f x)[j]? = some v → (l.flatMap f)[i * s + j]? = some v
  | a :: l, 0, x, h, j, v, hv => by
    obtain rfl : a = x := by simpa using h
    have := (List.getElem?_eq_some_iff.1 hv).1
    rw [List.flatMap_cons, List.getElem?_append_left (by omega), Nat.zero_mul, Nat.zero_add]
    exact hv
  | a :: l, i + 1, x, h, j, v, hv => by
    rw [List.flatMap_cons, List.getElem?_append_right (by rw [hf, Nat.add_mul, Nat.one_mul]; omega), hf, show (i + 1) * s + j - s = i * s + j by rw [Nat.add_mul, Nat.one_mul]; omega]
    exact flat_at f s hf (l := l) (by simpa using h) j v hv
/-- Sides in memory. -/
def ss (l : List (Nat → Int)) : List Value := l.flatMap (M.mat 5)
theorem ss_len (l : List (Nat → Int)) : (ss l).length = l.length * 5 := flat_len (M.mat 5) 5 (fun a => M.mat_len 5 a) l
theorem ss_at {l : List (Nat → Int)} {i : Nat} {x : Nat → Int} (h : l[i]? = some x) : ∀ j v, (M.mat 5 x)[j]? = some v → (ss l)[i * 5 + j]? = some v := flat_at (M.mat 5) 5 (fun a => M.mat_len 5 a) h
theorem ss_app (a b : List (Nat → Int)) : ss (a ++ b) = ss a ++ ss b := by simp [ss]
theorem ss_one (l : List (Nat → Int)) : ∀ v ∈ ss l, v.oneCell' = true := by
  intro v hv
  obtain ⟨a, _, ha⟩ := List.mem_flatMap.1 hv
  exact M.mat_one 5 a v ha
def sE (lo : Nat) (A : Option Addr) (c : Nat) (l : List (Nat → Int)) : Ent := ⟨lo, A, l.length, c, 5, ss l⟩
/-- The side of a kind, without coefficients. -/
def D.kd (k : Int) (i : Nat) : Int := if i = 0 then k else 0
def D.given : List (Nat → Int) := [D.kd 0, D.kd 1, D.kd 2]
def D.good (s : Nat → Int) : Bool := s 0 == 3 && D.right s
/-- What List answers. -/
def D.list (l : List (Nat → Int)) : List (Nat → Int) × Int := if decide (l.length ≤ 6) && l.all D.good then (D.given ++ l, 0) else ([], 1)
theorem D.list_long {l : List (Nat → Int)} (h : 6 < l.length) : D.list l = ([], 1) := by
  rw [D.list, if_neg]
  simp; omega
theorem D.list_bad {l : List (Nat → Int)} {i : Nat} {x : Nat → Int} (h : l[i]? = some x) (hx : D.good x = false) : D.list l = ([], 1) := by
  rw [D.list, if_neg]
  have : l.all D.good = false := by
    rw [← Bool.not_eq_true, List.all_eq_true]
    intro ha
    have := ha x (List.mem_of_getElem? h)
    rw [hx] at this
    cases this
  rw [this, Bool.and_false]
  decide
theorem D.list_good {l : List (Nat → Int)} (h : l.length ≤ 6) (ha : ∀ (i : Nat) (x : Nat → Int), l[i]? = some x → D.good x = true) : D.list l = (D.given ++ l, 0) := by
  rw [D.list, if_pos]
  rw [Bool.and_eq_true, decide_eq_true_eq, List.all_eq_true]
  refine ⟨h, fun x hx => ?_⟩
  obtain ⟨i, hi⟩ := List.mem_iff_getElem?.1 hx
  exact ha i x hi
def RetS (w : World) (r : List (Nat → Int) × Int) (e : Ending) (w' : World) : Prop := ∃ A c, e = .returned (.tuple #[.slice A r.1.length c, .int .i64 r.2]) ∧ Lies w' free (sE w.heap.size A c r.1) ∧ Below w.heap.size w w'
theorem retS_nil {w w' : World} (hb : Below w.heap.size w w') : RetS w ([], 1) (.returned (.tuple #[.slice none 0 0, .int .i64 1])) w' := ⟨none, 0, rfl, Lies.nil, hb⟩
theorem retS_done {w w' : World} {bs : List (Nat × TypeId × List Value)} {es : List Ent} {v : Value} {n : Nat} {l : List (Nat → Int)} (O : Held w w' bs ⟨v, 35, 5, n, ss l⟩ es) : RetS w (l, 0) (.returned (.tuple #[v, .int .i64 0])) w' := by
  obtain ⟨A, c, hv, h⟩ := O.done
  have hn : l.length = n := by
    have := (h.mem List.mem_cons_self).1
    simp only [ss_len] at this
    omega
  subst hn
  have hv2 : v = .slice A l.length c := hv
  exact ⟨A, c, by rw [hv2], h.arg List.mem_cons_self, O.below⟩
theorem info24 : (Try.prog.info? 35).map (fun i => (i.zero, i.size)) = some (some (.agg (M.mat 5 M.zero).toArray), 5) := by kernel_rfl
theorem info24b : (Try.prog.info? 35).map (fun i => (i.zero, i.size, i.bytes)) = some (some (.agg (M.mat 5 M.zero).toArray), 5, 40) := by kernel_rfl
theorem f24_0 (ad : Addr) (w : World) : (Instr.fieldAt 35 (.pointer (some ad)) 0).run Try.prog w = .ok (.pointer (some (ad.add 0))) w := by kernel_rfl
section
variable {P : Program} {ops : Array Oper} {Q : Exit → Act → World → Prop} {a : Act} {w w0 : World} {rest : List Oper} {bs : List (Nat × TypeId × List Value)} {es : List Ent} {dst : Option Tmp} {ty : TypeId} {pos : String} {after : Array Edge} {K : Act → World → Prop}
/-- A slice literal, as the row. -/
theorem wp_litrow_h {t e : TypeId} {len : Nat} {parts : Array (Nat × Operand)} {gd : Option (Nat × Bool)} (O : Held w0 w bs nilRow es) (s : Nat) (z : Value) (hi : (P.info? e).map (fun i => (i.zero, i.size)) = some (some z, s)) (hu : P.underlying t = some (.slice e))
    (l : List (Nat × Value)) (cs : List Value) (hl : parts.toList.map (fun x => (x.1, a.eval x.2)) = l) (hn : cs.length = len * s) (hp : 0 < len * s) (hm : len * s ≤ 1000) (hlen : len ≤ 1000)
    (hf : Instr.fill (fun i => some (i * s, s)) ((Array.range (len * s)).map (z.cells[· % z.cells.size]!)) l = some cs.toArray)
    (h : ∀ v w1, Held w0 w1 bs ⟨v, e, s, len, cs⟩ es → K (a.put dst v) w1) : Oper.wp P ⟨dst, .buildSlice t len parts, ty, pos, after, gd⟩ a w K Q := by
  cases hie : P.info? e with
  | none => simp [hie] at hi
  | some ie =>
    simp only [hie, Option.map_some, Option.some.injEq, Prod.mk.injEq] at hi
    obtain ⟨hz, hs⟩ := hi
    subst hs
    refine wp_buildSlice t e len parts rfl cs.toArray ie z hu hie hz (by omega) (by omega) (by rw [Array.toList_map, hl]; exact hf) ?_
    have hbw : Below w.heap.size w (w.alloc (.cells cs.toArray e)) := (Below.refl _ w).alloc (Nat.le_refl _) _
    refine h _ _ ((O.fresh e ie.size).grow ⟨hn, .inr ⟨w.heap.size, len, cs.toArray, rfl, O.1.1.size, heap_alloc_new w _, Nat.le_refl _, by unfold maxLen; omega, by simpa using hn, ?_⟩⟩ (below_grown hbw) (.inr rfl))
    rw [List.take_of_length_le (by simp [hn])]
theorem wpList_litrow_h {t e : TypeId} {len : Nat} {parts : Array (Nat × Operand)} {gd : Option (Nat × Bool)} (hw : Region.wanted ⟨dst, .buildSlice t len parts, ty, pos, after, gd⟩ (yielded ops a.tmps) = true) (O : Held w0 w bs nilRow es) (s : Nat) (z : Value) (hi : (P.info? e).map (fun i => (i.zero, i.size)) = some (some z, s)) (hu : P.underlying t = some (.slice e))
    (l : List (Nat × Value)) (cs : List Value) (hl : parts.toList.map (fun x => (x.1, a.eval x.2)) = l) (hn : cs.length = len * s) (hp : 0 < len * s) (hm : len * s ≤ 1000) (hlen : len ≤ 1000)
    (hf : Instr.fill (fun i => some (i * s, s)) ((Array.range (len * s)).map (z.cells[· % z.cells.size]!)) l = some cs.toArray)
    (h : ∀ v w1, Held w0 w1 bs ⟨v, e, s, len, cs⟩ es → wpList P ops Q rest (a.put dst v) w1) : wpList P ops Q (⟨dst, .buildSlice t len parts, ty, pos, after, gd⟩ :: rest) a w :=
  wpList_step fun K hK => by rw [if_pos hw]; exact wp_litrow_h O s z hi hu l cs hl hn hp hm hlen hf fun v w1 O' => hK _ _ (h v w1 O')
end
theorem Held.row_val {w0 w : World} {bs : List (Nat × TypeId × List Value)} {R : RowD} {es : List Ent} (h : Held w0 w bs R es) : ∃ A c, R.v = .slice A R.n c := by
  obtain ⟨A, c, hv, -⟩ := row_lies h.2.1
  exact ⟨A, c, hv⟩
end Go.Proofs.Ytbpignicffkaoaa
namespace Go.Proofs.Ytbpignicffkaoaa
open Go.ChangeShapes Go.WideShapes Go.ChangeAt Go.RowKit
set_option linter.unusedVariables false
set_option linter.unusedSimpArgs false

def D.vW (z : Int) (i : Nat) : Int := if i = 3 then z else 0
def D.v25 (i : Nat) : Int := if i = 2 then 2 else if i = 3 then 5 else 0
theorem at_awake (w : World) : Calls Try.prog 33 #[.agg #[.int .i64 0, .int .i64 0, .int .i64 0, .int .i64 5, .int .i64 0, .int .i64 0, .int .i64 0, .int .i64 0], .agg #[.int .i64 0, .int .i64 0, .int .i64 0, .int .i64 (-3), .int .i64 0, .int .i64 0, .int .i64 0, .int .i64 0], .int .i64 4, .int .i64 8] w fun e w' => e = .returned (.tuple #[arr 8 (D.vW 1), .int .i64 0]) ∧ Below w.heap.size w w' := by
  have E : M.mat 8 (D.way (D.vW 5) (D.vW (-3)) 4 8) = M.mat 8 (D.vW 1) := M.mat_ext fun i hi => by
    rcases (by omega : i = 0 ∨ i = 1 ∨ i = 2 ∨ i = 3 ∨ i = 4 ∨ i = 5 ∨ i = 6 ∨ i = 7) with rfl | rfl | rfl | rfl | rfl | rfl | rfl | rfl <;> decide
  refine (at_any (D.vW 5) (D.vW (-3)) 4 8 (by decide) w).mono ?_
  rintro e w' ⟨rfl, hb⟩
  rw [D.at_yes (by decide)]
  refine ⟨?_, hb⟩
  show Ending.returned (.tuple #[.agg (M.mat 8 (D.way (D.vW 5) (D.vW (-3)) 4 8)).toArray, .int .i64 0]) = _
  rw [E]
theorem dist_awake (w : World) : Calls Try.prog 32 #[.agg #[.int .i64 2, .int .i64 0, .int .i64 0, .int .i64 0, .int .i64 0], .agg #[.int .i64 0, .int .i64 0, .int .i64 2, .int .i64 5, .int .i64 0, .int .i64 0, .int .i64 0, .int .i64 0]] w fun e w' => e = .returned (.int .i64 3) ∧ Below w.heap.size w w' :=
  dist_any (D.kd 2) D.v25 (by decide) (by decide) w
end Go.Proofs.Ytbpignicffkaoaa
namespace Go.Proofs.Ytbpignicffkaoaa
open Go.ChangeShapes Go.WideShapes Go.ChangeAt Go.RowKit
set_option linter.unusedVariables false
set_option linter.unusedSimpArgs false

theorem o3 : Try.prog.cellsOf 3 = 1 := by kernel_rfl
theorem o22 : Try.prog.cellsOf 33 = 4 := by kernel_rfl
theorem o24 : Try.prog.cellsOf 35 = 5 := by kernel_rfl
theorem o25 : Try.prog.cellsOf 37 = 4 := by kernel_rfl
theorem o27 : Try.prog.cellsOf 39 = 8 := by kernel_rfl
theorem ss_inv {l : List (Nat → Int)} {j : Nat} {u : Value} (h : (ss l)[j]? = some u) : ∃ (i : Nat) (x : Nat → Int) (r : Nat), l[i]? = some x ∧ r < 5 ∧ j = i * 5 + r ∧ u = .int .i64 (x r) := by
  have hj : j < l.length * 5 := by rw [← ss_len]; exact (List.getElem?_eq_some_iff.1 h).1
  have hi : j / 5 < l.length := by omega
  refine ⟨j / 5, l[j / 5], j % 5, List.getElem?_eq_getElem hi, by omega, by omega, ?_⟩
  have := ss_at (List.getElem?_eq_getElem hi) (j % 5) _ (M.mat_get (by omega))
  rw [show j / 5 * 5 + j % 5 = j by omega, h] at this
  exact Option.some.inj this
section
variable {H : Type} {enc : TypeId × Value → H} {w : World}
theorem four_of {t fuel : Nat} {cs : List Value} {x : DataW H × List MemPlace} (ht : Try.prog.underlying t = some (.array 4 3)) (ho : Try.prog.cellsOf t = 4) (hf : DataW.trod enc Try.prog w 0 (fun _ => true) true fuel t cs = some x) : ∃ a : Nat → Int, cs = M.mat 4 a := by
  obtain ⟨xs, m, _, _, hlen, hxs, hg⟩ := DataW.trod_array ht hf
  rw [ho] at hlen
  have each : ∀ i, i < 4 → ∃ z : Int, cs[i]? = some (.int .i64 z) := by
    intro i hi
    have g := hg i hi
    obtain ⟨y, hy⟩ : ∃ y, xs[i]? = some y := ⟨_, List.getElem?_eq_getElem (by omega)⟩
    have hil : i < cs.length := by omega
    rw [hy, o3, Nat.mul_one, List.drop_eq_getElem_cons hil, List.take_succ_cons, List.take_zero] at g
    obtain ⟨z, e2, _, _⟩ := DataW.trod_int Try.underlying3 g
    obtain ⟨e2, _⟩ := List.cons.inj e2
    exact ⟨z, by rw [List.getElem?_eq_getElem hil, e2]⟩
  obtain ⟨f, hf'⟩ := Go.Deep.choose_lt each
  refine ⟨f, List.ext_getElem? fun i => ?_⟩
  by_cases hi : i < 4
  · rw [hf' i hi, M.mat_get hi]
  · rw [List.getElem?_eq_none (by omega), List.getElem?_eq_none (by rw [M.mat_len]; omega)]
theorem mat4 (a : Nat → Int) : M.mat 4 a = [.int .i64 (a 0), .int .i64 (a 1), .int .i64 (a 2), .int .i64 (a 3)] := rfl
theorem side_of {fuel : Nat} {cs : List Value} {x : DataW H × List MemPlace} (hf : DataW.trod enc Try.prog w 0 (fun _ => true) true fuel 35 cs = some x) : ∃ a : Nat → Int, cs = M.mat 5 a := by
  obtain ⟨xs, k, _, hx, hlen, hxl, hg⟩ := DataW.trod_struct Try.underlying35 hf
  rw [o24] at hlen
  match cs, hlen with
  | [v0, v1, v2, v3, v4], _ =>
    have g0 := hg 0 _ rfl
    have g1 := hg 1 _ rfl
    simp [o3, o22] at g0 g1
    match xs, hxl with
    | [y0, y1], _ =>
      obtain ⟨m, e0, _, _⟩ := DataW.trod_int Try.underlying3 g0
      simp at e0
      subst e0
      obtain ⟨a, ha⟩ := four_of Try.underlying33 o22 g1
      rw [mat4] at ha
      simp at ha
      obtain ⟨rfl, rfl, rfl, rfl⟩ := ha
      exact ⟨fun i => if i = 0 then m else a (i - 1), rfl⟩
theorem vert_of {fuel : Nat} {cs : List Value} {x : DataW H × List MemPlace} (hf : DataW.trod enc Try.prog w 0 (fun _ => true) true fuel 39 cs = some x) : ∃ a : Nat → Int, cs = M.mat 8 a := by
  obtain ⟨xs, k, _, hx, hlen, hxl, hg⟩ := DataW.trod_struct Try.underlying39 hf
  rw [o27] at hlen
  match cs, hlen with
  | [v0, v1, v2, v3, v4, v5, v6, v7], _ =>
    have g0 := hg 0 _ rfl
    have g1 := hg 1 _ rfl
    have g2 := hg 2 _ rfl
    have g3 := hg 3 _ rfl
    have g4 := hg 4 _ rfl
    simp [o3, o25] at g0 g1 g2 g3 g4
    match xs, hxl with
    | [y0, y1, y2, y3, y4], _ =>
      obtain ⟨m0, e0, _, _⟩ := DataW.trod_int Try.underlying3 g0
      obtain ⟨m1, e1, _, _⟩ := DataW.trod_int Try.underlying3 g1
      obtain ⟨m2, e2, _, _⟩ := DataW.trod_int Try.underlying3 g2
      obtain ⟨m3, e3, _, _⟩ := DataW.trod_int Try.underlying3 g3
      simp at e0 e1 e2 e3
      subst e0 e1 e2 e3
      obtain ⟨a, ha⟩ := four_of Try.underlying37 o25 g4
      rw [mat4] at ha
      simp at ha
      obtain ⟨rfl, rfl, rfl, rfl⟩ := ha
      exact ⟨fun i => if i = 0 then m0 else if i = 1 then m1 else if i = 2 then m2 else if i = 3 then m3 else a (i - 4), rfl⟩
theorem open_sides {fuel : Nat} {v : Value} {x : DataW H × List MemPlace} (hf : DataW.trod enc Try.prog w 0 (fun _ => true) true fuel 24 [v] = some x) (hlt : ∀ p ∈ x.2, p.block < w.heap.size) : ∃ (A : Option Addr) (c : Nat) (l : List (Nat → Int)), v = .slice A l.length c ∧ Lies w free (sE 0 A c l) := by
  rcases Go.Deep.open_slice Try.underlying24 hf with ⟨hcs, hx⟩ | ⟨a, len, cap, m, n, D, Pl, hcs, _, hl, hm, hmm, hx, hi⟩
  · simp at hcs
    subst hcs
    exact ⟨none, 0, [], rfl, Lies.nil⟩
  · simp at hcs
    subst hcs
    simp only [if_true] at hmm
    subst hx
    have each : ∀ i, i < len → ∃ q : Nat → Int, ∀ j, j < 5 → w.cell? (a.add (i * 5 + j)) = some (.int .i64 (q j)) := by
      intro i hil
      obtain ⟨cs, h1, h2⟩ := hi i (by omega)
      rw [o24] at h1
      obtain ⟨_, hlen, hcell⟩ := World.cells?_some h1
      obtain ⟨q, rfl⟩ := side_of h2
      refine ⟨q, fun j hj => ?_⟩
      have := hcell j hj
      rw [add_add', M.mat_get hj] at this
      exact this
    obtain ⟨q, hq⟩ := Go.Deep.choose_lt each
    refine ⟨some a, cap, (List.range len).map q, by simp, ⟨by simp [sE, ss_len], by simpa [sE] using hl, fun h0 => ⟨a, rfl, Nat.zero_le _, ?_, id, fun j u hu => ?_⟩⟩⟩
    · have h0 : 0 < len := by simpa [sE] using h0
      obtain ⟨b, off, spot⟩ := a
      refine hlt (.cell b off) (List.mem_append_left _ (MemPlace.mem_row.2 ⟨0, ?_, by simp⟩))
      rw [o24]; omega
    · obtain ⟨i, y, r, h1, h2, rfl, rfl⟩ := ss_inv hu
      have hil : i < len := by
        have := (List.getElem?_eq_some_iff.1 h1).1
        simpa using this
      have : q i = y := by simpa [hil] using h1
      rw [hq i hil r h2, this]
variable {r : Reach} {b0 : Nat} {v : Value} {d : DataW H} {p : List MemPlace}
theorem openSide (hv : Value.okWide Try.prog w r b0 35 v) (h : DataW.Trod enc Try.prog w 0 (fun _ => true) true 35 v d p) : ∃ a : Nat → Int, v = arr 5 a := by
  obtain ⟨cs, rfl, hsz⟩ := okWide_struct Try.underlying35 hv
  obtain ⟨fuel, hf⟩ := h
  obtain ⟨a, ha⟩ := side_of hf
  refine ⟨a, ?_⟩
  obtain ⟨l⟩ := cs
  have : l = M.mat 5 a := ha
  rw [this]
theorem openVert (hv : Value.okWide Try.prog w r b0 39 v) (h : DataW.Trod enc Try.prog w 0 (fun _ => true) true 39 v d p) : ∃ a : Nat → Int, v = arr 8 a := by
  obtain ⟨cs, rfl, hsz⟩ := okWide_struct Try.underlying39 hv
  obtain ⟨fuel, hf⟩ := h
  obtain ⟨a, ha⟩ := vert_of hf
  refine ⟨a, ?_⟩
  obtain ⟨l⟩ := cs
  have : l = M.mat 8 a := ha
  rw [this]
theorem openSides {A : Option Addr} {n c : Nat} (h : DataW.Trod enc Try.prog w 0 (fun _ => true) true 24 (.slice A n c) d p) (hlt : ∀ x ∈ p, x.block < w.heap.size) :
    ∃ (A' : Option Addr) (c' : Nat) (l : List (Nat → Int)), Value.slice A n c = .slice A' l.length c' ∧ Lies w free (sE 0 A' c' l) := by
  obtain ⟨fuel, hf⟩ := h
  exact open_sides (v := .slice A n c) (x := (d, p)) hf hlt
end
end Go.Proofs.Ytbpignicffkaoaa
