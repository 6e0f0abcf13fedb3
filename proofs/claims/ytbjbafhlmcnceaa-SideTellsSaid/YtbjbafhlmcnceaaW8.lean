/- Contracts: List, twice. -/
import Derived.Test.YtbjbafhlmcnceaaW2
import Derived.Great.BuildSlice
namespace Go.Proofs.Ytbjbafhlmcnceaa
open Go.ChangeShapes Go.WideShapes Go.ChangeAt Go.RowKit
set_option linter.unusedVariables false
set_option linter.unusedSimpArgs false

theorem flat_len {α : Type} (f : α → List Value) (s : Nat) (hf : ∀ x, (f x).length = s) : ∀ l : List α, (l.flatMap f).length = l.length * s
  | [] => by simp
  | a :: l => by rw [List.flatMap_cons, List.length_append, hf, flat_len f s hf l, List.length_cons, Nat.add_mul, Nat.one_mul, Nat.add_comm]
theorem flat_at {α : Type} (f : α → List Value) (s : Nat) (hf : ∀ x, (f x).length = s) : ∀ {l : List α} {i : Nat} {x : α}, l[i]? = some x → ∀ j v, (f x)[j]? = some v → (l.flatMap f)[i * s + j]? = some v
  | a :: l, 0, x, h, j, v, hv => by
    obtain rfl : a = x := by simpa using h
    have := (List.getElem?_eq_some_iff.1 hv).1
    rw [List.flatMap_cons, List.getElem?_append_left (by omega), Nat.zero_mul, Nat.zero_add]
    exact hv
  | a :: l, i + 1, x, h, j, v, hv => by
    rw [List.flatMap_cons, List.getElem?_append_right (by rw [hf, Nat.add_mul, Nat.one_mul]; omega), hf, show (i + 1) * s + j - s = i * s + j by rw [Nat.add_mul, Nat.one_mul]; omega]
    exact flat_at f s hf (l := l) (by simpa using h) j v hv
/-- Sides in memory. -/
def ss (l : List (Nat → Int)) : List Value := l.flatMap (M.mat 5)
theorem ss_len (l : List (Nat → Int)) : (ss l).length = l.length * 5 := flat_len (M.mat 5) 5 (fun a => M.mat_len 5 a) l
theorem ss_at {l : List (Nat → Int)} {i : Nat} {x : Nat → Int} (h : l[i]? = some x) : ∀ j v, (M.mat 5 x)[j]? = some v → (ss l)[i * 5 + j]? = some v := flat_at (M.mat 5) 5 (fun a => M.mat_len 5 a) h
theorem ss_app (a b : List (Nat → Int)) : ss (a ++ b) = ss a ++ ss b := by simp [ss]
theorem ss_one (l : List (Nat → Int)) : ∀ v ∈ ss l, v.oneCell' = true := by
  intro v hv
  obtain ⟨a, _, ha⟩ := List.mem_flatMap.1 hv
  exact M.mat_one 5 a v ha
def sE (lo : Nat) (A : Option Addr) (c : Nat) (l : List (Nat → Int)) : Ent := ⟨lo, A, l.length, c, 5, ss l⟩
/-- The side of a kind, without coefficients. -/
def D.kd (k : Int) (i : Nat) : Int := if i = 0 then k else 0
def D.given : List (Nat → Int) := [D.kd 0, D.kd 1, D.kd 2]
def D.good (s : Nat → Int) : Bool := s 0 == 3 && D.right s
/-- What List answers. -/
def D.list (l : List (Nat → Int)) : List (Nat → Int) × Int := if decide (l.length ≤ 6) && l.all D.good then (D.given ++ l, 0) else ([], 1)
theorem D.list_long {l : List (Nat → Int)} (h : 6 < l.length) : D.list l = ([], 1) := by
  rw [D.list, if_neg]
  simp; omega
theorem D.list_bad {l : List (Nat → Int)} {i : Nat} {x : Nat → Int} (h : l[i]? = some x) (hx : D.good x = false) : D.list l = ([], 1) := by
  rw [D.list, if_neg]
  have : l.all D.good = false := by
    rw [← Bool.not_eq_true, List.all_eq_true]
    intro ha
    have := ha x (List.mem_of_getElem? h)
    rw [hx] at this
    cases this
  rw [this, Bool.and_false]
  decide
theorem D.list_good {l : List (Nat → Int)} (h : l.length ≤ 6) (ha : ∀ (i : Nat) (x : Nat → Int), l[i]? = some x → D.good x = true) : D.list l = (D.given ++ l, 0) := by
  rw [D.list, if_pos]
  rw [Bool.and_eq_true, decide_eq_true_eq, List.all_eq_true]
  refine ⟨h, fun x hx => ?_⟩
  obtain ⟨i, hi⟩ := List.mem_iff_getElem?.1 hx
  exact ha i x hi
def RetS (w : World) (r : List (Nat → Int) × Int) (e : Ending) (w' : World) : Prop := ∃ A c, e = .returned (.tuple #[.slice A r.1.length c, .int .i64 r.2]) ∧ Lies w' free (sE w.heap.size A c r.1) ∧ Below w.heap.size w w'
theorem retS_nil {w w' : World} (hb : Below w.heap.size w w') : RetS w ([], 1) (.returned (.tuple #[.slice none 0 0, .int .i64 1])) w' := ⟨none, 0, rfl, Lies.nil, hb⟩
theorem retS_done {w w' : World} {bs : List (Nat × TypeId × List Value)} {es : List Ent} {v : Value} {n : Nat} {l : List (Nat → Int)} (O : Held w w' bs ⟨v, 24, 5, n, ss l⟩ es) : RetS w (l, 0) (.returned (.tuple #[v, .int .i64 0])) w' := by
  obtain ⟨A, c, hv, h⟩ := O.done
  have hn : l.length = n := by
    have := (h.mem List.mem_cons_self).1
    simp only [ss_len] at this
    omega
  subst hn
  have hv2 : v = .slice A l.length c := hv
  exact ⟨A, c, by rw [hv2], h.arg List.mem_cons_self, O.below⟩
theorem info24 : (Try.prog.info? 24).map (fun i => (i.zero, i.size)) = some (some (.agg (M.mat 5 M.zero).toArray), 5) := by kernel_rfl
theorem info24b : (Try.prog.info? 24).map (fun i => (i.zero, i.size, i.bytes)) = some (some (.agg (M.mat 5 M.zero).toArray), 5, 40) := by kernel_rfl
theorem f24_0 (ad : Addr) (w : World) : (Instr.fieldAt 24 (.pointer (some ad)) 0).run Try.prog w = .ok (.pointer (some (ad.add 0))) w := by kernel_rfl
section
variable {P : Program} {ops : Array Oper} {Q : Exit → Act → World → Prop} {a : Act} {w w0 : World} {rest : List Oper} {bs : List (Nat × TypeId × List Value)} {es : List Ent} {dst : Option Tmp} {ty : TypeId} {pos : String} {after : Array Edge} {K : Act → World → Prop}
/-- A slice literal, as the row. -/
theorem wp_litrow_h {t e : TypeId} {len : Nat} {parts : Array (Nat × Operand)} {gd : Option (Nat × Bool)} (O : Held w0 w bs nilRow es) (s : Nat) (z : Value) (hi : (P.info? e).map (fun i => (i.zero, i.size)) = some (some z, s)) (hu : P.underlying t = some (.slice e))
    (l : List (Nat × Value)) (cs : List Value) (hl : parts.toList.map (fun x => (x.1, a.eval x.2)) = l) (hn : cs.length = len * s) (hp : 0 < len * s) (hm : len * s ≤ 1000) (hlen : len ≤ 1000)
    (hf : Instr.fill (fun i => some (i * s, s)) ((Array.range (len * s)).map (z.cells[· % z.cells.size]!)) l = some cs.toArray)
    (h : ∀ v w1, Held w0 w1 bs ⟨v, e, s, len, cs⟩ es → K (a.put dst v) w1) : Oper.wp P ⟨dst, .buildSlice t len parts, ty, pos, after, gd⟩ a w K Q := by
  cases hie : P.info? e with
  | none => simp [hie] at hi
  | some ie =>
    simp only [hie, Option.map_some, Option.some.injEq, Prod.mk.injEq] at hi
    obtain ⟨hz, hs⟩ := hi
    subst hs
    refine wp_buildSlice t e len parts rfl cs.toArray ie z hu hie hz (by omega) (by omega) (by rw [Array.toList_map, hl]; exact hf) ?_
    have hbw : Below w.heap.size w (w.alloc (.cells cs.toArray e)) := (Below.refl _ w).alloc (Nat.le_refl _) _
    refine h _ _ ((O.fresh e ie.size).grow ⟨hn, .inr ⟨w.heap.size, len, cs.toArray, rfl, O.1.1.size, heap_alloc_new w _, Nat.le_refl _, by unfold maxLen; omega, by simpa using hn, ?_⟩⟩ (below_grown hbw) (.inr rfl))
    rw [List.take_of_length_le (by simp [hn])]
theorem wpList_litrow_h {t e : TypeId} {len : Nat} {parts : Array (Nat × Operand)} {gd : Option (Nat × Bool)} (hw : Region.wanted ⟨dst, .buildSlice t len parts, ty, pos, after, gd⟩ (yielded ops a.tmps) = true) (O : Held w0 w bs nilRow es) (s : Nat) (z : Value) (hi : (P.info? e).map (fun i => (i.zero, i.size)) = some (some z, s)) (hu : P.underlying t = some (.slice e))
    (l : List (Nat × Value)) (cs : List Value) (hl : parts.toList.map (fun x => (x.1, a.eval x.2)) = l) (hn : cs.length = len * s) (hp : 0 < len * s) (hm : len * s ≤ 1000) (hlen : len ≤ 1000)
    (hf : Instr.fill (fun i => some (i * s, s)) ((Array.range (len * s)).map (z.cells[· % z.cells.size]!)) l = some cs.toArray)
    (h : ∀ v w1, Held w0 w1 bs ⟨v, e, s, len, cs⟩ es → wpList P ops Q rest (a.put dst v) w1) : wpList P ops Q (⟨dst, .buildSlice t len parts, ty, pos, after, gd⟩ :: rest) a w :=
  wpList_step fun K hK => by rw [if_pos hw]; exact wp_litrow_h O s z hi hu l cs hl hn hp hm hlen hf fun v w1 O' => hK _ _ (h v w1 O')
end
theorem Held.row_val {w0 w : World} {bs : List (Nat × TypeId × List Value)} {R : RowD} {es : List Ent} (h : Held w0 w bs R es) : ∃ A c, R.v = .slice A R.n c := by
  obtain ⟨A, c, hv, -⟩ := row_lies h.2.1
  exact ⟨A, c, hv⟩
set_option maxHeartbeats 4000000 in
theorem list_long (l : List (Nat → Int)) {lo : Nat} {A : Option Addr} {c : Nat} (h6 : 6 < l.length) (w : World) : Calls Try.prog 15 #[.slice A l.length c] w (RetS w (D.list l)) := by
  have HE := Lib.hid (D.list_long h6)
  have q : (6 : Int) < l.length := by omega
  go_enter Try.func15, Try.ntmps15
  go_wp2_with fail
  go_ret2
  rw [HE.out]
  exact retS_nil (Below.refl _ _)
set_option maxHeartbeats 4000000 in
theorem rlist_long (l : List (Nat → Int)) {lo : Nat} {A : Option Addr} {c : Nat} (h6 : 6 < l.length) (w : World) : Calls Try.prog 16 #[.slice A l.length c] w (RetS w (D.list l)) := by
  have HE := Lib.hid (D.list_long h6)
  have q : (6 : Int) < l.length := by omega
  go_enter Try.func16, Try.ntmps16
  go_wp2_with fail
  go_ret2
  rw [HE.out]
  exact retS_nil (Below.refl _ _)
set_option maxRecDepth 100000 in
set_option maxHeartbeats 8000000 in
theorem list_short (l : List (Nat → Int)) {lo : Nat} {A : Option Addr} {c : Nat} (h6 : l.length ≤ 6) (w : World) (hl : Lies w free (sE lo A c l)) : Calls Try.prog 15 #[.slice A l.length c] w (RetS w (D.list l)) := by
  have O := Held.start w [sE lo A c l] (by simpa using hl)
  clear hl
  have q : ¬ (6 : Int) < l.length := by omega
  go_enter Try.func15, Try.ntmps15
  go_wp2_with ((with_reducible refine at_lit 13 ?_); refine wpList_litrow_h rfl O 5 (.agg (M.mat 5 M.zero).toArray) info24 Try.underlying33 ([(0, .agg (M.mat 5 (D.kd 0)).toArray), (1, .agg (M.mat 5 (D.kd 1)).toArray), (2, .agg (M.mat 5 (D.kd 2)).toArray)]) (ss D.given) rfl rfl (by decide) (by decide) (by decide) (by kernel_rfl) ?_; clear O; intro v0 w1 O; obtain ⟨RA, Rc, hv⟩ := O.row_val; dsimp only at hv; subst hv)
  have g0 : ss D.given = ss (D.given ++ l.take 0) := by simp
  rw [g0] at O
  clear g0
  go_loopw [4, 16] (fun u t wr => ∃ (k : Nat) (RA : Option Addr) (Rc : Nat), k ≤ l.length ∧ t = .int .i64 k ∧ u = .slice RA (3 + k) Rc ∧ (∀ (i : Nat) (x : Nat → Int), i < k → l[i]? = some x → D.good x = true) ∧ Held w wr [] ⟨.slice RA (3 + k) Rc, 24, 5, 3 + k, ss (D.given ++ l.take k)⟩ [sE lo A c l]) (fun _ t _ => l.length - (intOf t).toNat)
  case atStart => exact ⟨0, RA, Rc, Nat.zero_le _, rfl, rfl, fun i x hi => absurd hi (by omega), O⟩
  case round =>
    clear O
    obtain ⟨k, RA, Rc, hk, rfl, rfl, hall, O⟩ := hrel
    have HA := Lib.hid hall
    clear hall
    have q0 : (0 : Int) ≤ k := by omega
    by_cases hlt : k < l.length
    · have q1 : (k : Int) < l.length := by omega
      obtain ⟨x, hx⟩ : ∃ x, l[k]? = some x := ⟨_, List.getElem?_eq_getElem hlt⟩
      have HX := Lib.hid hx
      clear hx
      cases hg : D.good x
      · have HE := Lib.hid (D.list_bad HX.out hg)
        have hk3 : (x 0 == 3) = false ∨ ((x 0 == 3) = true ∧ D.right x = false) := by
          unfold D.good at hg
          cases h3 : x 0 == 3
          · exact .inl rfl
          · rw [h3, Bool.true_and] at hg
            exact .inr ⟨rfl, hg⟩
        clear hg
        rcases hk3 with q2 | ⟨q2, q3⟩
        all_goals
          have q4 : (x 0 != 3) = !(x 0 == 3) := rfl
          rw [q2] at q4
          go_wp2_with (first | ((with_reducible refine at_index_ 18 ?_); refine wpList_at_h rfl Try.underlying33 sizeOf24 _ (O.mem List.mem_cons_self) rfl (k) rfl (rfl) (by omega) (rfl) ?_) | ((with_reducible refine at_load 19 ?_); refine wpList_elem_h rfl _ (O.mem List.mem_cons_self) (k * 5) (M.mat 5 x) (ss_at HX.out) (by rw [M.mat_len]; decide) rfl Try.underlying24 rfl (s24 _) ?_) | ((with_reducible refine at_alloc 6 ?_); refine wpList_alloc_h O (M.mat 5 M.zero) zero24 ?_; clear O; intro g6 w2 O) | ((with_reducible refine at_store 6 ?_); refine wpList_put_h O 0 (M.mat 5 (x)) rfl rfl rfl (s24 _) (M.mat_len2 _ _ _) (M.mat_one _ _) ?_; clear O; intro w3 O) | ((with_reducible refine at_load 21 ?_); refine wpList_cell_h (v := .int .i64 ((x) (0))) rfl O 0 rfl (M.mat_get (by omega)) rfl agg3 rfl ?_) | ((with_reducible refine at_load 24 ?_); refine wpList_rowg_h rfl O 0 rfl rfl Try.underlying24 rfl (s24 _) ?_) | (go_at_call 8; refine (right_any x _).mono ?_; rintro e w4 ⟨rfl, hb⟩; replace O := O.call hb; clear hb))
          go_ret2
          rw [HE.out]
          exact retS_nil O.below
      · have hk3 : (x 0 == 3) = true ∧ D.right x = true := by
          unfold D.good at hg
          rwa [Bool.and_eq_true] at hg
        obtain ⟨q2, q3⟩ := hk3
        have q4 : (x 0 != 3) = !(x 0 == 3) := rfl
        rw [q2] at q4
        have HG := Lib.hid hg
        clear hg
        go_wp2_with (first | ((with_reducible refine at_index_ 18 ?_); refine wpList_at_h rfl Try.underlying33 sizeOf24 _ (O.mem List.mem_cons_self) rfl (k) rfl (rfl) (by omega) (rfl) ?_) | ((with_reducible refine at_load 19 ?_); refine wpList_elem_h rfl _ (O.mem List.mem_cons_self) (k * 5) (M.mat 5 x) (ss_at HX.out) (by rw [M.mat_len]; decide) rfl Try.underlying24 rfl (s24 _) ?_) | ((with_reducible refine at_alloc 6 ?_); refine wpList_alloc_h O (M.mat 5 M.zero) zero24 ?_; clear O; intro g6 w2 O) | ((with_reducible refine at_store 6 ?_); refine wpList_put_h O 0 (M.mat 5 (x)) rfl rfl rfl (s24 _) (M.mat_len2 _ _ _) (M.mat_one _ _) ?_; clear O; intro w3 O) | ((with_reducible refine at_load 21 ?_); refine wpList_cell_h (v := .int .i64 ((x) (0))) rfl O 0 rfl (M.mat_get (by omega)) rfl agg3 rfl ?_) | ((with_reducible refine at_load 24 ?_); refine wpList_rowg_h rfl O 0 rfl rfl Try.underlying24 rfl (s24 _) ?_) | (go_at_call 8; refine (right_any x _).mono ?_; rintro e w4 ⟨rfl, hb⟩; replace O := O.call hb; clear hb) | ((with_reducible refine at_load 29 ?_); refine wpList_rowg_h rfl O 0 rfl rfl Try.underlying24 rfl (s24 _) ?_) | ((with_reducible refine at_lit 30 ?_); refine wpList_lit_h rfl O 5 (.agg (M.mat 5 M.zero).toArray) info24 Try.underlying33 ([(0, .agg (M.mat 5 x).toArray)]) (M.mat 5 x) rfl (M.mat_len 5 x) (by decide) (by decide) (by kernel_rfl) ?_; clear O; intro g30 w5 O) | ((with_reducible refine at_app 31 ?_); refine wpList_app_h rfl O (.agg (M.mat 5 M.zero).toArray) 40 info24b rfl (Nat.succ_pos _) Try.underlying33 rfl _ (O.mem List.mem_cons_self) rfl rfl (M.mat_one 5 x) (by dsimp only; omega) (by decide) ?_; clear O; intro v31 w6 O; obtain ⟨RA2, Rc2, hv⟩ := O.row_val; dsimp only at hv; subst hv))
        have O2 := (O.pick (es' := [sE lo A c l]) (fun y hy => List.mem_cons_of_mem _ hy)).tail
        clear O
        have hs : ss (D.given ++ l.take k) ++ M.mat 5 x = ss (D.given ++ l.take (k + 1)) := by
          rw [List.take_add_one, HX.out, ss_app, ss_app, ss_app, List.append_assoc]
          simp [ss]
        dsimp only at O2
        rw [hs] at O2
        go_roundw
        case rel => exact ⟨k + 1, RA2, Rc2, by omega, by go_num, rfl, fun i y hi hy => by
          by_cases e : i = k
          · subst e
            have := HX.out.symm.trans hy
            obtain rfl := Option.some.inj this
            exact HG.out
          · exact HA.out i y (by omega) hy, O2⟩
        case measure => simp [intOf]; omega
    · have q1 : ¬ (k : Int) < l.length := by omega
      obtain rfl : k = l.length := by omega
      have HE := Lib.hid (D.list_good h6 (fun i x hx => HA.out i x (List.getElem?_eq_some_iff.1 hx).1 hx))
      rw [List.take_of_length_le (Nat.le_refl _)] at O
      go_wp2_with fail
      go_ret2
      rw [HE.out]
      exact retS_done O
theorem list_any (l : List (Nat → Int)) {lo : Nat} {A : Option Addr} {c : Nat} (w : World) (hl : Lies w free (sE lo A c l)) : Calls Try.prog 15 #[.slice A l.length c] w (RetS w (D.list l)) := by
  by_cases h6 : 6 < l.length
  · exact list_long (lo := lo) l h6 w
  · exact list_short l (by omega) w hl
set_option maxRecDepth 100000 in
set_option maxHeartbeats 8000000 in
theorem rlist_short (l : List (Nat → Int)) {lo : Nat} {A : Option Addr} {c : Nat} (h6 : l.length ≤ 6) (w : World) (hl : Lies w free (sE lo A c l)) : Calls Try.prog 16 #[.slice A l.length c] w (RetS w (D.list l)) := by
  have O := Held.start w [sE lo A c l] (by simpa using hl)
  clear hl
  have q : ¬ (6 : Int) < l.length := by omega
  go_enter Try.func16, Try.ntmps16
  go_wp2_with fail
  go_loopw [4] (fun t wr => ∃ k : Nat, k ≤ l.length ∧ t = .int .i64 k ∧ (∀ (i : Nat) (x : Nat → Int), i < k → l[i]? = some x → D.good x = true) ∧ Held w wr [] nilRow [sE lo A c l]) (fun t _ => l.length - (intOf t).toNat)
  case atStart => exact ⟨0, Nat.zero_le _, rfl, fun i x hi => absurd hi (by omega), O⟩
  case round =>
    clear O
    obtain ⟨k, hk, rfl, hall, O⟩ := hrel
    have HA := Lib.hid hall
    clear hall
    have q0 : (0 : Int) ≤ k := by omega
    by_cases hlt : k < l.length
    · have q1 : (k : Int) < l.length := by omega
      obtain ⟨x, hx⟩ : ∃ x, l[k]? = some x := ⟨_, List.getElem?_eq_getElem hlt⟩
      have HX := Lib.hid hx
      clear hx
      cases hg : D.good x
      · have HE := Lib.hid (D.list_bad HX.out hg)
        have hk3 : (x 0 == 3) = false ∨ ((x 0 == 3) = true ∧ D.right x = false) := by
          unfold D.good at hg
          cases h3 : x 0 == 3
          · exact .inl rfl
          · rw [h3, Bool.true_and] at hg
            exact .inr ⟨rfl, hg⟩
        clear hg
        rcases hk3 with q2 | ⟨q2, q3⟩
        all_goals
          have q4 : (x 0 != 3) = !(x 0 == 3) := rfl
          rw [q2] at q4
          go_wp2_with (first | ((with_reducible refine at_index_ 16 ?_); refine wpList_at_h rfl Try.underlying33 sizeOf24 _ (O.mem List.mem_cons_self) rfl (k) rfl (rfl) (by omega) (rfl) ?_) | ((with_reducible refine at_fld 17 ?_); refine wpList_fld_h rfl (f24_0 _) rfl ?_) | ((with_reducible refine at_load 18 ?_); refine wpList_ecell_h (v := .int .i64 (x 0)) rfl _ (O.mem List.mem_cons_self) (k * 5) (ss_at HX.out 0 _ (M.mat_get (by omega))) (rfl) agg3 rfl ?_) | ((with_reducible refine at_index_ 23 ?_); refine wpList_at_h rfl Try.underlying33 sizeOf24 _ (O.mem List.mem_cons_self) rfl (k) rfl (rfl) (by omega) (rfl) ?_) | ((with_reducible refine at_load 24 ?_); refine wpList_elem_h rfl _ (O.mem List.mem_cons_self) (k * 5) (M.mat 5 x) (ss_at HX.out) (by rw [M.mat_len]; decide) rfl Try.underlying24 rfl (s24 _) ?_) | (go_at_call 9; refine (rright_any x _).mono ?_; rintro e w4 ⟨rfl, hb⟩; replace O := O.call hb; clear hb))
          go_ret2
          rw [HE.out]
          exact retS_nil O.below
      · have hk3 : (x 0 == 3) = true ∧ D.right x = true := by
          unfold D.good at hg
          rwa [Bool.and_eq_true] at hg
        obtain ⟨q2, q3⟩ := hk3
        have q4 : (x 0 != 3) = !(x 0 == 3) := rfl
        rw [q2] at q4
        have HG := Lib.hid hg
        clear hg
        go_wp2_with (first | ((with_reducible refine at_index_ 16 ?_); refine wpList_at_h rfl Try.underlying33 sizeOf24 _ (O.mem List.mem_cons_self) rfl (k) rfl (rfl) (by omega) (rfl) ?_) | ((with_reducible refine at_fld 17 ?_); refine wpList_fld_h rfl (f24_0 _) rfl ?_) | ((with_reducible refine at_load 18 ?_); refine wpList_ecell_h (v := .int .i64 (x 0)) rfl _ (O.mem List.mem_cons_self) (k * 5) (ss_at HX.out 0 _ (M.mat_get (by omega))) (rfl) agg3 rfl ?_) | ((with_reducible refine at_index_ 23 ?_); refine wpList_at_h rfl Try.underlying33 sizeOf24 _ (O.mem List.mem_cons_self) rfl (k) rfl (rfl) (by omega) (rfl) ?_) | ((with_reducible refine at_load 24 ?_); refine wpList_elem_h rfl _ (O.mem List.mem_cons_self) (k * 5) (M.mat 5 x) (ss_at HX.out) (by rw [M.mat_len]; decide) rfl Try.underlying24 rfl (s24 _) ?_) | (go_at_call 9; refine (rright_any x _).mono ?_; rintro e w4 ⟨rfl, hb⟩; replace O := O.call hb; clear hb))
        go_roundw
        case rel => exact ⟨k + 1, by omega, by go_num, fun i y hi hy => by
          by_cases e : i = k
          · subst e
            have := HX.out.symm.trans hy
            obtain rfl := Option.some.inj this
            exact HG.out
          · exact HA.out i y (by omega) hy, O⟩
        case measure => simp [intOf]; omega
    · have q1 : ¬ (k : Int) < l.length := by omega
      obtain rfl : k = l.length := by omega
      have HE := Lib.hid (D.list_good h6 (fun i x hx => HA.out i x (List.getElem?_eq_some_iff.1 hx).1 hx))
      go_wp2_with (first | ((with_reducible refine at_lit 31 ?_); refine wpList_litrow_h rfl O 5 (.agg (M.mat 5 M.zero).toArray) info24 Try.underlying33 ([(0, .agg (M.mat 5 (D.kd 0)).toArray), (1, .agg (M.mat 5 (D.kd 1)).toArray), (2, .agg (M.mat 5 (D.kd 2)).toArray)]) (ss D.given) rfl rfl (by decide) (by decide) (by decide) (by kernel_rfl) ?_; clear O; intro v0 w1 O; obtain ⟨RA, Rc, hv⟩ := O.row_val; dsimp only at hv; subst hv) | ((with_reducible refine at_app 33 ?_); refine wpList_app_h rfl O (.agg (M.mat 5 M.zero).toArray) 40 info24b rfl (Nat.succ_pos _) Try.underlying33 rfl (sE lo A c l) (O.mem List.mem_cons_self) rfl rfl (ss_one l) (by dsimp only [sE]; omega) (by decide) ?_; clear O; intro v31 w6 O))
      go_ret2
      rw [HE.out]
      rw [show ss D.given ++ (sE lo A c l).xs = ss (D.given ++ l) from (ss_app _ _).symm] at O
      exact retS_done O
theorem rlist_any (l : List (Nat → Int)) {lo : Nat} {A : Option Addr} {c : Nat} (w : World) (hl : Lies w free (sE lo A c l)) : Calls Try.prog 16 #[.slice A l.length c] w (RetS w (D.list l)) := by
  by_cases h6 : 6 < l.length
  · exact rlist_long (lo := lo) l h6 w
  · exact rlist_short l (by omega) w hl
end Go.Proofs.Ytbjbafhlmcnceaa
